/- Package match: the numbers that words say. -/
import Derived.Test.YtcecgfijfnnpeaaDoorMp2
import Derived.Test.YtcecgfijfnnpeaaDoorMl
import Derived.Test.YtcecgfijfnnpeaaDoorMs
import Derived.Lib.ParseIntBTie
import Derived.Lib.LaidTab
import Derived.Lib.AppendIntMem
namespace Go.Proofs.YtcecgfijfnnpeaaDoor.Mt
open Go.RowKit
set_option maxRecDepth 100000

/-- What the library's reader and writer of numbers ask of the variables. -/
structure NumV (w : World) : Prop where
  syn : ∃ te pe, w.cell? ⟨2, 0, none⟩ = some (.iface te pe)
  rng : ∃ te pe, w.cell? ⟨3, 0, none⟩ = some (.iface te pe)
  tab : Lib.TabIs Tryd.prog w "internal/strconv.uint64pow10" .u64 Lib.pow10Tab
theorem NumV.below {w w' : World} (h : NumV w) (hb : Below w.heap.size w w') : NumV w' := by
  obtain ⟨⟨t1, p1, h1⟩, ⟨t2, p2, h2⟩, h3⟩ := h
  exact ⟨⟨t1, p1, (hb.cell (p := ⟨2, 0, none⟩) (World.block_lt_of_cell? w _ h1)).trans h1⟩, ⟨t2, p2, (hb.cell (p := ⟨3, 0, none⟩) (World.block_lt_of_cell? w _ h2)).trans h2⟩, Lib.tabBelow_of_tabIs h3 w' hb⟩

theorem parse_ok (s : ByteArray) (v : Int) (h : Lib.parseIntB 32 s.data.toList = .ok v) (hs : s.size ≤ 1000000) (w : World) :
    Calls Tryd.prog 55 #[.string s, .int .i64 10, .int .i64 32] w fun e w' => e = .returned (.tuple #[.int .i64 v, .nilIface]) ∧ Below w.heap.size w w' := by
  refine (Tryd.strconv_ParseInt_10_at32_ok s (by omega) v h w).mono ?_
  rintro e w' ⟨rfl, rfl | ⟨t, rfl⟩⟩
  · exact ⟨rfl, Below.refl _ _⟩
  · exact ⟨rfl, below_bytes w t⟩
theorem parse_bad (s : ByteArray) (h : ∀ v, Lib.parseIntB 32 s.data.toList ≠ .ok v) (hs : s.size ≤ 1000000) (w : World) (hN : NumV w) :
    Calls Tryd.prog 55 #[.string s, .int .i64 10, .int .i64 32] w fun e w' => (∃ n te pe, e = .returned (.tuple #[.int .i64 n, .iface te pe])) ∧ Below w.heap.size w w' := by
  obtain ⟨⟨t1, p1, h1⟩, ⟨t2, p2, h2⟩, _⟩ := hN
  cases hq : Lib.parseIntB 32 s.data.toList with
  | ok v => exact absurd hq (h v)
  | _ =>
    first
    | (refine Calls.mono (Any.strconv_ParseInt_10_at32_syntax Tryd.laysC174 s (by omega) hq _ w h1 (.inr ⟨_, _, rfl⟩)) ?_; rintro e w' ⟨N, rfl, _, _, hb⟩; exact ⟨⟨_, _, _, rfl⟩, hb⟩)
    | (refine Calls.mono (Any.strconv_ParseInt_10_at32_range Tryd.laysC174 s (by omega) hq _ w h2 (.inr ⟨_, _, rfl⟩)) ?_; rintro e w' ⟨N, rfl, _, _, hb⟩; exact ⟨⟨_, _, _, rfl⟩, hb⟩)
theorem format_any (n : Int) (h0 : -9223372036854775808 ≤ n) (h1 : n ≤ 9223372036854775807) (w : World) (hN : NumV w) (P : ByteArray) (hP : (⟨(Lib.itoa n).toArray⟩ : ByteArray) = P) :
    Calls Tryd.prog 56 #[.int .i64 n, .int .i64 10] w fun e w' => e = .returned (.string P) ∧ Below w.heap.size w w' := by
  subst hP
  refine (Tryd.strconv_FormatInt_10 n h0 h1 w hN.tab).mono ?_
  rintro e w' ⟨rfl, k, os, rfl⟩
  exact ⟨rfl, Lib.below_grow _ _ (Nat.le_refl _) _ _⟩

theorem hasP_any (s p : ByteArray) (w : World) : Calls Tryd.prog 71 #[.string s, .string p] w fun e w' => e = .returned (.bool (Lib.hasPrefix s.data.toList p.data.toList)) ∧ w' = w :=
  Any.stringslite_HasPrefix { Tryd.lays99 with } s p w
set_option maxHeartbeats 1000000 in
theorem cutPre_any (s : ByteArray) (hs : s.size ≤ 1000000) (w : World) :
    Calls Tryd.prog 72 #[.string s, .string ⟨#[35]⟩] w fun e w' => e = .returned (.tuple #[.string (if Lib.hasPrefix s.data.toList [35] then s.extract 1 s.size else s), .bool (Lib.hasPrefix s.data.toList [35])]) ∧ w' = w := by
  have H := Lib.hid (fun w => hasP_any s ⟨#[35]⟩ w)
  have h1 : Lib.hasPrefix s.data.toList [35] = true → 1 ≤ s.size := fun h => by
    rw [pre_iff] at h; have := h.length_le; rw [len_data] at this; exact this
  cases hq : Lib.hasPrefix s.data.toList [35] with
  | false =>
    have H2 := Lib.hid (fun w => by have := H.out w; rw [show (⟨#[35]⟩ : ByteArray).data.toList = [35] from rfl, hq] at this; exact this)
    clear H hq h1
    go_enter Tryd.func72, Tryd.ntmps72
    go_wp2_with (go_at_call 71; refine (H2.out _).mono ?_; rintro e w2 ⟨rfl, rfl⟩)
    go_ret2
    exact ⟨rfl, rfl⟩
  | true =>
    have H2 := Lib.hid (fun w => by have := H.out w; rw [show (⟨#[35]⟩ : ByteArray).data.toList = [35] from rfl, hq] at this; exact this)
    have h2 := h1 hq
    have h3 : (1 : Int) ≤ (s.size : Int) := by omega
    clear H hq h1
    go_enter Tryd.func72, Tryd.ntmps72
    go_wp2_with (go_at_call 71; refine (H2.out _).mono ?_; rintro e w2 ⟨rfl, rfl⟩)
    go_ret2
    exact ⟨rfl, rfl⟩
set_option maxHeartbeats 1000000 in
theorem cutPrefix_any (s : ByteArray) (hs : s.size ≤ 1000000) (w : World) :
    Calls Tryd.prog 54 #[.string s, .string ⟨#[35]⟩] w fun e w' => e = .returned (.tuple #[.string (if Lib.hasPrefix s.data.toList [35] then s.extract 1 s.size else s), .bool (Lib.hasPrefix s.data.toList [35])]) ∧ w' = w := by
  have H := Lib.hid (fun w => cutPre_any s hs w)
  generalize (if Lib.hasPrefix s.data.toList [35] then s.extract 1 s.size else s) = X at *
  generalize Lib.hasPrefix s.data.toList [35] = b at *
  go_enter Tryd.func54, Tryd.ntmps54
  go_wp2_with (go_at_call 72; refine (H.out _).mono ?_; rintro e w2 ⟨rfl, rfl⟩)
  go_ret2
  exact ⟨rfl, rfl⟩

theorem bytes_beq' {x y : ByteArray} : (x.toList == y.toList) = (x.data.toList == y.data.toList) := by rw [Go.ByteArray.toList_eq, Go.ByteArray.toList_eq]
def numV (o : Option Int) : Value := match o with | none => .tuple #[.int .i64 0, .bool false] | some x => .tuple #[.int .i64 x, .bool true]
theorem num_no {l : Ls} (h : Lib.hasPrefix l [35] = false) : numO l = none := by
  cases l with
  | nil => rfl
  | cons c r =>
    have hc : ¬ c.toNat = 35 := fun e => by
      have : c = 35 := UInt8.toNat_inj.1 e
      subst this
      simp [Lib.hasPrefix] at h
    exact if_neg hc
theorem num_yes {s : ByteArray} (h : Lib.hasPrefix s.data.toList [35] = true) : numO s.data.toList = (match Lib.parseIntB 32 (s.extract 1 s.size).data.toList with | .ok v => if Lib.itoa v == (s.extract 1 s.size).data.toList then some v else none | _ => none) := by
  have e : (s.extract 1 s.size).data.toList = s.data.toList.drop 1 := by
    rw [Lib.extract_data, List.take_of_length_le (by rw [List.length_drop, len_data]; exact Nat.le_refl _)]
  rw [e]
  rw [pre_iff] at h
  obtain ⟨t, ht⟩ := h
  rw [← ht]; rfl

set_option maxHeartbeats 2000000 in
theorem number_any (s : ByteArray) (hs : s.size ≤ 1000000) (w : World) (hN : NumV w) :
    Calls Tryd.prog 37 #[.string s] w fun e w' => e = .returned (numV (numO s.data.toList)) ∧ Below w.heap.size w w' := by
  have HC := Lib.hid (fun w => cutPrefix_any s hs w)
  cases hp : Lib.hasPrefix s.data.toList [35] with
  | false =>
    have HO := Lib.hid (num_no hp)
    have HC2 := Lib.hid (fun w => by have := HC.out w; rw [hp] at this; exact this)
    clear HC hp
    by_cases hk : ∃ v, Lib.parseIntB 32 s.data.toList = .ok v
    · obtain ⟨v, hv⟩ := hk
      have HP := Lib.hid (parse_ok s v hv hs w)
      clear hv
      go_enter Tryd.func37, Tryd.ntmps37
      go_wp2_with (first
        | (go_at_call 54; refine (HC2.out _).mono ?_; rintro e w2 ⟨rfl, rfl⟩)
        | (go_at_call 55; refine HP.out.mono ?_; rintro e w3 ⟨rfl, hb3⟩; have HB3 := Lib.hid hb3; clear hb3))
      go_ret2
      exact ⟨by rw [HO.out]; rfl, HB3.out⟩
    · have HP := Lib.hid (parse_bad s (fun v h => hk ⟨v, h⟩) hs w hN)
      clear hk
      go_enter Tryd.func37, Tryd.ntmps37
      go_wp2_with (first
        | (go_at_call 54; refine (HC2.out _).mono ?_; rintro e w2 ⟨rfl, rfl⟩)
        | (go_at_call 55; refine HP.out.mono ?_; rintro e w3 ⟨⟨n, te, pe, rfl⟩, hb3⟩; have HB3 := Lib.hid hb3; clear hb3))
      go_ret2
      exact ⟨by rw [HO.out]; rfl, HB3.out⟩
  | true =>
    have hO := num_yes hp
    have HC2 := Lib.hid (fun w => by have := HC.out w; rw [hp, if_pos rfl] at this; exact this)
    have hD : (s.extract 1 s.size).size ≤ 1000000 := by rw [ByteArray.size_extract]; omega
    clear HC hp
    generalize s.extract 1 s.size = D at *
    have HN := Lib.hid hN
    by_cases hk : ∃ v, Lib.parseIntB 32 D.data.toList = .ok v
    · obtain ⟨v, hv⟩ := hk
      have HP := Lib.hid (parse_ok D v hv hD w)
      have hvb := Lib.parseIntB_bounds hv
      rw [hv] at hO
      have hO : numO s.data.toList = if Lib.itoa v == D.data.toList then some v else none := hO
      obtain ⟨P, hP⟩ : ∃ P, (⟨(Lib.itoa v).toArray⟩ : ByteArray) = P := ⟨_, rfl⟩
      have HF := Lib.hid (fun (W : World) (h : NumV W) => format_any v (by have := hvb.1; simp at this; omega) (by have := hvb.2; simp at this; omega) W h P hP)
      have he : (P.toList == D.toList) = (Lib.itoa v == D.data.toList) := by rw [bytes_beq', ← hP]
      clear hv hvb hP
      cases hq : (Lib.itoa v == D.data.toList) with
      | true =>
        rw [hq] at hO he
        have HO := Lib.hid hO
        have hne := he
        clear hO hq hne
        go_enter Tryd.func37, Tryd.ntmps37
        go_wp2_with (first
          | (go_at_call 54; refine (HC2.out _).mono ?_; rintro e w2 ⟨rfl, rfl⟩)
          | (go_at_call 55; refine HP.out.mono ?_; rintro e w3 ⟨rfl, hb3⟩; have HB3 := Lib.hid hb3; have HN3 := Lib.hid (HN.out.below hb3); clear hb3)
          | (go_at_call 56; refine (HF.out _ HN3.out).mono ?_; rintro e w4 ⟨rfl, hb4⟩; have HB4 := Lib.hid (HB3.out.trans (hb4.mono HB3.out.size)); clear hb4))
        go_ret2
        exact ⟨by rw [HO.out]; rfl, HB4.out⟩
      | false =>
        rw [hq] at hO he
        have HO := Lib.hid hO
        have hne := he
        clear hO hq hne
        go_enter Tryd.func37, Tryd.ntmps37
        go_wp2_with (first
          | (go_at_call 54; refine (HC2.out _).mono ?_; rintro e w2 ⟨rfl, rfl⟩)
          | (go_at_call 55; refine HP.out.mono ?_; rintro e w3 ⟨rfl, hb3⟩; have HB3 := Lib.hid hb3; have HN3 := Lib.hid (HN.out.below hb3); clear hb3)
          | (go_at_call 56; refine (HF.out _ HN3.out).mono ?_; rintro e w4 ⟨rfl, hb4⟩; have HB4 := Lib.hid (HB3.out.trans (hb4.mono HB3.out.size)); clear hb4))
        go_ret2
        exact ⟨by rw [HO.out]; rfl, HB4.out⟩
    · have HP := Lib.hid (parse_bad D (fun v h => hk ⟨v, h⟩) hD w hN)
      have HO : Hid (numO s.data.toList = none) := Lib.hid (by
        rw [hO]
        split
        · rename_i v hv; exact absurd ⟨v, hv⟩ hk
        · rfl)
      clear hO hk
      go_enter Tryd.func37, Tryd.ntmps37
      go_wp2_with (first
        | (go_at_call 54; refine (HC2.out _).mono ?_; rintro e w2 ⟨rfl, rfl⟩)
        | (go_at_call 55; refine HP.out.mono ?_; rintro e w3 ⟨⟨n, te, pe, rfl⟩, hb3⟩; have HB3 := Lib.hid hb3; clear hb3))
      go_ret2
      exact ⟨by rw [HO.out]; rfl, HB3.out⟩
end Go.Proofs.YtcecgfijfnnpeaaDoor.Mt
