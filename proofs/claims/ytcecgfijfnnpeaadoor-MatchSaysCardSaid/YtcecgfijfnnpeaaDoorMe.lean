/- The document's numbers of words, prepositions; which texts and things are light. -/
import Derived.Test.YtcecgfijfnnpeaaDoorRefNum
import Derived.Test.YtcecgfijfnnpeaaDoorNumQ
import Derived.Test.YtcecgfijfnnpeaaDoorMu
import Derived.Test.YtcecgfijfnnpeaaDoorPr
import Derived.Test.YtcecgfijfnnpeaaDoorMq
import Derived.Test.YtcecgfijfnnpeaaDoorHd
import Derived.Test.YtcecgfijfnnpeaaDoorRise
namespace Go.Proofs.YtcecgfijfnnpeaaDoor.Mt
open Go.RowKit
set_option maxRecDepth 100000

set_option maxHeartbeats 1000000 in
theorem rnumber_any (s : ByteArray) (hs : s.size ≤ 101) (w : World) :
    Calls Tryd.prog 42 #[.string s] w fun e w' => e = .returned (numV (numO s.data.toList)) ∧ w' = w := by
  have he := empty_iff s
  by_cases h0 : s.size = 0
  · have HO : Hid (numO s.data.toList = none) := Lib.hid (by rw [List.eq_nil_of_length_eq_zero (by rw [len_data]; exact h0 : s.data.toList.length = 0)]; rfl)
    have hse : s.toList.isEmpty = true := by rw [he, decide_eq_true h0]
    clear he
    go_enter Tryd.func42, Tryd.ntmps42
    go_wp2
    go_ret2
    exact ⟨by rw [HO.out]; rfl, rfl⟩
  have hse : s.toList.isEmpty = false := by rw [he, decide_eq_false h0]
  have hpd : 0 < s.data.size := by have : s.data.size = s.size := rfl; omega
  have hp0 : 0 < s.size := by omega
  have hpos : (0 : Int) < (s.size : Int) := by omega
  have hg := get_data s 0 hp0
  have hcons : s.data.toList = s[0] :: s.data.toList.drop 1 := by
    rw [← hg, ← List.drop_eq_getElem_cons (by rw [len_data]; exact hp0)]; rfl
  by_cases hc : (s[0]).toNat = 35
  · have h35 : (((s[0]).toNat : Int) != 35) = false := by rw [hc]; rfl
    have h35b : (((s[0]).toNat : Int) == 35) = true := by rw [hc]; rfl
    have hO := num_ref s[0] (s.data.toList.drop 1) hc
    rw [← hcons] at hO
    obtain ⟨D, hD⟩ : ∃ D, s.extract 1 s.size = D := ⟨_, rfl⟩
    have hDd : D.data.toList = s.data.toList.drop 1 := by rw [← hD]; exact ext_list' s 1
    have hDz : D.size ≤ 100 := by rw [← len_data, hDd, List.length_drop, len_data]; omega
    rw [← hDd] at hO
    have hx : (1 : Int) ≤ (s.size : Int) := by omega
    obtain ⟨⟨n, is⟩, hq⟩ : ∃ q, refNum D.data.toList = q := ⟨_, rfl⟩
    rw [hq] at hO
    have HN := Lib.hid (fun (W : World) => refNumber_any D W hDz _ hq)
    clear he h0 hg hcons hc hDd hq
    cases is with
    | false =>
      have HO : Hid (numO s.data.toList = none) := Lib.hid (hO.trans (if_neg (by simp)))
      clear hO
      go_enter Tryd.func42, Tryd.ntmps42
      go_wp2_with (go_at_call 60; refine (HN.out _).mono ?_; rintro e w2 ⟨rfl, rfl⟩)
      go_ret2
      exact ⟨by rw [HO.out]; rfl, rfl⟩
    | true =>
      by_cases h1 : n < -2147483648
      · have HO : Hid (numO s.data.toList = none) := Lib.hid (hO.trans (if_neg (by simp only; omega)))
        have d1 : decide (n < -2147483648) = true := by simpa using h1
        clear hO
        go_enter Tryd.func42, Tryd.ntmps42
        go_wp2_with (go_at_call 60; refine (HN.out _).mono ?_; rintro e w2 ⟨rfl, rfl⟩)
        go_ret2
        exact ⟨by rw [HO.out]; rfl, rfl⟩
      · have d1 : decide (n < -2147483648) = false := by simpa using h1
        by_cases h2 : 2147483647 < n
        · have HO : Hid (numO s.data.toList = none) := Lib.hid (hO.trans (if_neg (by simp only; omega)))
          have d2 : decide (2147483647 < n) = true := by simpa using h2
          clear hO
          go_enter Tryd.func42, Tryd.ntmps42
          go_wp2_with (go_at_call 60; refine (HN.out _).mono ?_; rintro e w2 ⟨rfl, rfl⟩)
          go_ret2
          exact ⟨by rw [HO.out]; rfl, rfl⟩
        · have HO : Hid (numO s.data.toList = some n) := Lib.hid (hO.trans (if_pos ⟨rfl, by simp only; omega, by simp only; omega⟩))
          have d2 : decide (2147483647 < n) = false := by simpa using h2
          clear hO
          go_enter Tryd.func42, Tryd.ntmps42
          go_wp2_with (go_at_call 60; refine (HN.out _).mono ?_; rintro e w2 ⟨rfl, rfl⟩)
          go_ret2
          exact ⟨by rw [HO.out]; rfl, rfl⟩
  · have h35 : (((s[0]).toNat : Int) != 35) = true := by simp; omega
    have h35b : (((s[0]).toNat : Int) == 35) = false := by rw [beq_eq_false_iff_ne]; omega
    have HO : Hid (numO s.data.toList = none) := Lib.hid (num_none hcons hc)
    clear he h0 hg hcons hc
    go_enter Tryd.func42, Tryd.ntmps42
    go_wp2
    go_ret2
    exact ⟨by rw [HO.out]; rfl, rfl⟩

/-- The prepositions, as the document lists them. -/
def givenL : List ByteArray := [⟨#[119, 105, 116, 104]⟩, ⟨#[117, 115, 105, 110, 103]⟩, ⟨#[97, 116]⟩, ⟨#[116, 111]⟩, ⟨#[105, 110]⟩, ⟨#[105, 110, 116, 111]⟩, ⟨#[111, 110]⟩, ⟨#[111, 110, 116, 111]⟩, ⟨#[102, 114, 111, 109]⟩, ⟨#[111, 118, 101, 114]⟩, ⟨#[116, 104, 114, 111, 117, 103, 104]⟩, ⟨#[117, 110, 100, 101, 114]⟩, ⟨#[98, 101, 104, 105, 110, 100]⟩, ⟨#[98, 101, 115, 105, 100, 101]⟩, ⟨#[102, 111, 114]⟩, ⟨#[97, 98, 111, 117, 116]⟩, ⟨#[105, 115]⟩, ⟨#[97, 115]⟩, ⟨#[111, 102, 102]⟩]
theorem rise_given : riseR givenL = prepsL := by decide +kernel
set_option maxHeartbeats 1000000 in
theorem rPreps_any (w : World) : Calls Tryd.prog 22 #[] w fun e w' => ∃ q c, e = .returned (.slice q 19 c) ∧ TRow w' w'.heap.size q prepsL ∧ Below w.heap.size w w' := by
  have hrow : ∀ (W : World) (ty : TypeId), W.heap[w.heap.size]? = some (.cells (givenL.map Value.string).toArray ty (0, 0)) → TRow W W.heap.size (some ⟨w.heap.size, 0, none⟩) givenL := fun W ty h =>
    .inr ⟨w.heap.size, 0, rfl, heap_lt1 h, fun i hi => by
      rw [cell_of_row _ _ _ _ _ _ h, Nat.zero_add]
      simp [hi]⟩
  have HR := Lib.hid (rising_any givenL (some ⟨w.heap.size, 0, none⟩) 19 (w.alloc (.cells (givenL.map Value.string).toArray 9)) (hrow _ _ (heap_alloc_new w _)) (by decide) (by decide))
  have HB := Lib.hid ((Below.refl w.heap.size w).alloc (Nat.le_refl _) (.cells (givenL.map Value.string).toArray 9))
  rw [rise_given, show givenL.length = 19 from rfl, preps_len] at HR
  clear hrow
  go_enter Tryd.func22, Tryd.ntmps22
  go_wp2_with (go_at_call 44; refine HR.out.mono ?_; rintro e w2 ⟨q, c, rfl, h1, h2, h3⟩; have H2 := Lib.hid h2; have H3 := Lib.hid (HB.out.trans (h3.mono HB.out.size)); clear h2 h3)
  go_ret
  exact ⟨q, c, rfl, H2.out, H3.out⟩

theorem prepOf_low (w : Ls) : prepOf w = if holdsB prepsL ⟨(lowL w).toArray⟩ = true then some ⟨(lowL w).toArray⟩ else none := by
  have key : ∀ p ∈ prepsL, (alikeB w p.data.toList = true ↔ p = ⟨(lowL w).toArray⟩) := fun p hp => by
    have hl : lowL p.data.toList = p.data.toList := (show ∀ p ∈ prepsL, lowL p.data.toList = p.data.toList from by decide +kernel) p hp
    unfold alikeB
    rw [hl, beq_iff_eq]
    constructor
    · intro h; rw [h]
    · intro h; rw [h]
  unfold prepOf
  cases hq : prepsL.find? (fun p => alikeB w p.data.toList) with
  | none =>
    rw [List.find?_eq_none] at hq
    rw [if_neg]
    rw [holdsB_iff]
    intro hm
    exact hq _ hm ((key _ hm).2 rfl)
  | some p =>
    have hm := List.mem_of_find?_eq_some hq
    have hp := List.find?_some hq
    have e := (key p hm).1 hp
    rw [if_pos (by rw [holdsB_iff, ← e]; exact hm), e]
set_option maxHeartbeats 1000000 in
theorem rPrep_any (ss : List ByteArray) (q : Option Addr) (c : Nat) (w : World) (h : TRow w w.heap.size q ss) (hl : ss.length ≤ 9000000000000000000) (hz : ∀ x ∈ ss, x.size ≤ 140737488355328) :
    Calls Tryd.prog 12 #[.slice q ss.length c] w fun e w' => e = .returned (prepV (prepB ss 0)) ∧ Below w.heap.size w w' := by
  have H := Lib.hid h; clear h
  have HZ := Lib.hid hz; clear hz
  go_enter Tryd.func12, Tryd.ntmps12
  go_wp2_with (go_at_call 22; refine (rPreps_any _).mono ?_; rintro e w1 ⟨qp, cp, rfl, hr, hb1⟩; have HR := Lib.hid hr; have HB1 := Lib.hid hb1; clear hr hb1)
  go_loopw [6] (fun i wr => ∃ j : Nat, j ≤ ss.length ∧ i = .int .i64 j ∧ Hid (prepB ss 0 = prepB (ss.drop j) j) ∧ Hid (Below w1.heap.size w1 wr)) (fun i _ => ss.length - (intOf i).toNat)
  case atStart => exact ⟨0, Nat.zero_le _, rfl, Lib.hid rfl, Lib.hid (Below.refl _ _)⟩
  case round =>
    obtain ⟨j, hj, rfl, HA, HB⟩ := hrel
    have HB2 := Lib.hid (HB1.out.trans (HB.out.mono HB1.out.size))
    have hbz := HB.out.size
    by_cases hlt : j < ss.length
    · obtain ⟨b, off, hp, hb, h0⟩ := (H.out.below HB2.out).at_ j hlt
      subst hp
      have HA1 := HA.out.trans (prepB_step hlt)
      rw [prepOf_low] at HA1
      have hsz := HZ.out _ (List.getElem_mem hlt)
      obtain ⟨s, hs⟩ : ∃ s, ss[j] = s := ⟨_, rfl⟩
      rw [hs] at h0 HA1 hsz
      have HLW := Lib.hid (fun (W : World) => refLower_any s W (by omega))
      obtain ⟨X, hX⟩ : ∃ X : ByteArray, (⟨(lowL s.data.toList).toArray⟩ : ByteArray) = X := ⟨_, rfl⟩
      have HLW : Hid (∀ W : World, Calls Tryd.prog 27 #[.string s] W fun e w' => e = .returned (.string X) ∧ Below W.heap.size W w') := Lib.hid (fun W => by have := HLW.out W; rw [hX] at this; exact this)
      rw [hX] at HA1
      have HHD := Lib.hid (fun (W : World) (hb : Below w1.heap.size w1 W) => holds_any prepsL qp cp w1.heap.size X W (HR.out.below hb) (by rw [preps_len]; omega))
      clear HA hs hX
      cases hq : holdsB prepsL X with
      | true =>
        have HR2 : Hid (prepB ss 0 = ((j : Int), (j : Int) + 1, X)) := Lib.hid (by rw [HA1, hq]; rfl)
        have HHD : Hid (∀ (W : World), Below w1.heap.size w1 W → Calls Tryd.prog 26 #[.slice qp 19 cp, .string X] W fun e w' => e = .returned (.bool true) ∧ w' = W) := Lib.hid (fun W hb => by have := HHD.out W hb; rw [hq] at this; exact this)
        clear HA1 hq
        go_wp2_with (first
          | (go_at_call 27; refine (HLW.out _).mono ?_; rintro e w3 ⟨rfl, hb3⟩; have HB3 := Lib.hid (HB.out.trans (hb3.mono hbz)); clear hb3)
          | (go_at_call 26; refine (HHD.out _ HB3.out).mono ?_; rintro e w4 ⟨rfl, rfl⟩))
        go_ret3
        exact ⟨by rw [HR2.out]; rfl, HB1.out.trans (HB3.out.mono HB1.out.size)⟩
      | false =>
        have HA2 : Hid (prepB ss 0 = prepB (ss.drop (j + 1)) (j + 1)) := Lib.hid (by rw [HA1, hq]; rfl)
        have HHD : Hid (∀ (W : World), Below w1.heap.size w1 W → Calls Tryd.prog 26 #[.slice qp 19 cp, .string X] W fun e w' => e = .returned (.bool false) ∧ w' = W) := Lib.hid (fun W hb => by have := HHD.out W hb; rw [hq] at this; exact this)
        clear HA1 hq
        go_wp2_with (first
          | (go_at_call 27; refine (HLW.out _).mono ?_; rintro e w3 ⟨rfl, hb3⟩; have HB3 := Lib.hid (HB.out.trans (hb3.mono hbz)); clear hb3)
          | (go_at_call 26; refine (HHD.out _ HB3.out).mono ?_; rintro e w4 ⟨rfl, rfl⟩))
        go_roundw
        case rel => exact ⟨j + 1, by omega, by go_num, HA2, HB3⟩
        case measure => simp [intOf]; omega
    · have hje : j = ss.length := by omega
      have HR2 : Hid (prepB ss 0 = (-1, -1, ⟨#[]⟩)) := Lib.hid (by rw [HA.out, hje, List.drop_length]; rfl)
      clear HA
      go_wp2
      go_ret3
      exact ⟨by rw [HR2.out]; rfl, HB2.out⟩
end Go.Proofs.YtcecgfijfnnpeaaDoor.Mt
