/- The walk of the statement on prepositions. -/
import Derived.Test.YtcecgfijfnnpeaaDoorPr
import Derived.Test.YtcecgfijfnnpeaaDoorLawMatchStars
import Derived.Test.YtcecgfijfnnpeaaDoorGs
import Derived.Test.YtcecgfijfnnpeaaDoorHd
namespace Go.Proofs.YtcecgfijfnnpeaaDoor.Mt
open Go.RowKit
set_option maxRecDepth 100000

/-- Numbers in memory. -/
structure IntsAt (w : World) (p : Option Addr) (l : List Int) : Prop where
  bounds : ∀ z ∈ l, I64 z
  cells : l = [] ∨ ∃ b off, p = some ⟨b, off, none⟩ ∧ b < w.heap.size ∧ ∀ i (h : i < l.length), w.cell? ⟨b, off + i, none⟩ = some (.int .i64 l[i])
theorem IntsAt.at_ {w w' : World} {p : Option Addr} {l : List Int} (h : IntsAt w p l) (hb : Below w.heap.size w w') (i : Nat) (hi : i < l.length) : ∃ b off, p = some ⟨b, off, none⟩ ∧ b < w.heap.size ∧ w'.cell? ⟨b, off + i, none⟩ = some (.int .i64 l[i]) := by
  rcases h.cells with h | ⟨b, off, hp, hbl, hc⟩
  · subst h; simp at hi
  · exact ⟨b, off, hp, hbl, (hb.cell (p := ⟨b, off + i, none⟩) hbl).trans (hc i hi)⟩

/-- The number of a word, and the word. -/
def kOf (z : Int) : Nat := (z % 60).toNat
theorem kOf_eq (z : Int) : (z % 60 : Int) = (kOf z : Int) := by unfold kOf; have := Int.emod_nonneg z (show (60 : Int) ≠ 0 by omega); omega
def wOf (u : Bool) (z : Int) : ByteArray := if kOf z < 19 then (if u then ⟨(upL (prepS (kOf z)).data.toList).toArray⟩ else prepS (kOf z)) else ⟨#[119, 111, 114, 100]⟩
theorem wOf_none {u : Bool} {z : Int} (h : ¬ kOf z < 19) : wOf u z = ⟨#[119, 111, 114, 100]⟩ := if_neg h
theorem wOf_up {z : Int} (h : kOf z < 19) : wOf true z = ⟨(upL (prepS (kOf z)).data.toList).toArray⟩ := by unfold wOf; rw [if_pos h]; rfl
theorem wOf_low {z : Int} (h : kOf z < 19) : wOf false z = prepS (kOf z) := by unfold wOf; rw [if_pos h]; rfl
theorem prep_fin : ∀ k : Fin 19, prepOf (prepS k.val).data.toList = some (prepS k.val) ∧ prepOf (upL (prepS k.val).data.toList) = some (prepS k.val) ∧ lowL (prepS k.val).data.toList = (prepS k.val).data.toList ∧ lowL (upL (prepS k.val).data.toList) = (prepS k.val).data.toList ∧ (upL (prepS k.val).data.toList).length ≤ 10 := by decide +kernel
theorem prepOf_none {u : Bool} {z : Int} (h : ¬ kOf z < 19) : prepOf (wOf u z).data.toList = none := by rw [wOf_none h]; decide +kernel
theorem prepOf_some {u : Bool} {z : Int} (h : kOf z < 19) : prepOf (wOf u z).data.toList = some (prepS (kOf z)) := by
  have hf := prep_fin ⟨kOf z, h⟩
  cases u with
  | true => rw [wOf_up h]; exact hf.2.1
  | false => rw [wOf_low h]; exact hf.1
theorem low_wOf {u : Bool} {z : Int} (h : kOf z < 19) : (⟨(lowL (wOf u z).data.toList).toArray⟩ : ByteArray) = prepS (kOf z) := by
  have hf := prep_fin ⟨kOf z, h⟩
  have e : lowL (wOf u z).data.toList = (prepS (kOf z)).data.toList := by
    cases u with
    | true => rw [wOf_up h]; exact hf.2.2.2.1
    | false => rw [wOf_low h]; exact hf.2.2.1
  rw [e]
theorem mk_size (l : Ls) : (⟨l.toArray⟩ : ByteArray).size = l.length := by show l.toArray.size = _; simp
theorem wOf_small (u : Bool) (z : Int) : (wOf u z).size ≤ 10 := by
  by_cases h : kOf z < 19
  · have hf := prep_fin ⟨kOf z, h⟩
    cases u with
    | true => rw [wOf_up h]; rw [mk_size]; exact hf.2.2.2.2
    | false => rw [wOf_low h]; exact prepS_small _ h
  · rw [wOf_none h]; decide
/-- Where the first preposition is: none so far, or the place. -/
def AtIs (l : List Int) (j : Nat) (a : Int) : Prop := (a = -1 ∧ ∀ i (h : i < l.length), i < j → ¬ kOf l[i] < 19) ∨ ∃ (i : Nat) (h : i < l.length), a = (i : Int) ∧ i < j ∧ kOf l[i] < 19 ∧ ∀ k (h' : k < l.length), k < i → ¬ kOf l[k] < 19
theorem prepB_none (u : Bool) : ∀ (l : List Int) (n : Nat), (∀ z ∈ l, ¬ kOf z < 19) → prepB (l.map (wOf u)) n = (-1, -1, ⟨#[]⟩)
  | [], _, _ => rfl
  | z :: r, n, h => by
    rw [List.map_cons, prepB, prepOf_none (h z (by simp))]
    exact prepB_none u r (n + 1) (fun y hy => h y (by simp [hy]))
theorem prepB_some (u : Bool) : ∀ (l : List Int) (i n : Nat) (hi : i < l.length), kOf l[i] < 19 → (∀ k (h' : k < l.length), k < i → ¬ kOf l[k] < 19) → prepB (l.map (wOf u)) n = (((n + i : Nat) : Int), ((n + i : Nat) : Int) + 1, prepS (kOf l[i]))
  | z :: r, 0, n, _, h, _ => by
    rw [List.map_cons, prepB]
    simp only [List.getElem_cons_zero] at h ⊢
    rw [prepOf_some h]; rfl
  | z :: r, i + 1, n, hi, h, hb => by
    have hz : ¬ kOf z < 19 := hb 0 (by simp) (by omega)
    rw [List.map_cons, prepB, prepOf_none hz]
    have := prepB_some u r i (n + 1) (by simpa using hi) (by simpa using h) (fun k h' hk => by have := hb (k + 1) (by simpa using h') (by omega); simpa using this)
    simp only [List.getElem_cons_succ]
    rw [show n + (i + 1) = n + 1 + i by omega]
    exact this
-- WALK
theorem Gs.step {B : Nat} {w0 w w' : World} {L : List ByteArray} {v : Value} (h : Gs B w0 L v w) (hb : Below w.heap.size w w') (hB : B ≤ w.heap.size) : Gs B w0 L v w' := by
  obtain ⟨⟨hl, h1⟩, h2⟩ := h
  refine ⟨⟨hl, ?_⟩, h2.trans (hb.mono hB)⟩
  rcases h1 with h1 | ⟨g, cap, cur, g1, g2, g3, g4⟩
  · exact .inl h1
  · exact .inr ⟨g, cap, cur, g1, g2, (hb.block g (heap_lt1 g3)).trans g3, g4⟩
theorem one_text (W : World) (x : ByteArray) : TRow (W.alloc (.cells #[.string x] 9)) (W.heap.size + 1) (some ⟨W.heap.size, 0, none⟩) [x] := .inr ⟨W.heap.size, 0, rfl, Nat.lt_succ_self _, fun i hi => by
  have hi0 : i = 0 := by simpa using hi
  subst hi0
  rw [cell_of_row _ _ _ _ _ _ (heap_alloc_new W (.cells #[.string x] 9))]; rfl⟩
theorem AtIs.miss {l : List Int} {j : Nat} {a : Int} (h : AtIs l j a) (hj : j < l.length) (hk : ¬ kOf l[j] < 19) : AtIs l (j + 1) a := by
  rcases h with ⟨h1, h2⟩ | ⟨i, hi, h1, h2, h3, h4⟩
  · exact .inl ⟨h1, fun k hk2 hlt => by
      by_cases e : k = j
      · subst e; exact hk
      · exact h2 k hk2 (by omega)⟩
  · exact .inr ⟨i, hi, h1, by omega, h3, h4⟩
theorem AtIs.keep {l : List Int} {j : Nat} {a : Int} (h : AtIs l j a) (ha : 0 ≤ a) : AtIs l (j + 1) a := by
  rcases h with ⟨h1, h2⟩ | ⟨i, hi, h1, h2, h3, h4⟩
  · omega
  · exact .inr ⟨i, hi, h1, by omega, h3, h4⟩
theorem AtIs.hit {l : List Int} {j : Nat} {a : Int} (h : AtIs l j a) (ha : a < 0) (hj : j < l.length) (hk : kOf l[j] < 19) : AtIs l (j + 1) (j : Int) := by
  rcases h with ⟨h1, h2⟩ | ⟨i, hi, h1, h2, h3, h4⟩
  · exact .inr ⟨j, hj, rfl, by omega, hk, fun k h' hkj => h2 k h' hkj⟩
  · omega
theorem AtIs.bounds {l : List Int} {j : Nat} {a : Int} (h : AtIs l j a) : -1 ≤ a ∧ a < j := by
  rcases h with ⟨h1, h2⟩ | ⟨i, hi, h1, h2, h3, h4⟩ <;> omega

theorem preps19_any (w : World) (hT : PTab w) : Calls Tryd.prog 21 #[] w fun e w' => ∃ q, e = .returned (.slice q 19 19) ∧ TRow w' w'.heap.size q prepsL ∧ Below w.heap.size w w' := preps_any w hT
theorem preps_hold (k : Nat) (h : k < 19) : holdsB prepsL (prepS k) = true := by rw [holdsB_iff, ← preps_at k h]; exact List.getElem_mem _
theorem holds19_any (q : Option Addr) (B : Nat) (k : Nat) (w : World) (h : TRow w B q prepsL) (hk : k < 19) :
    Calls Tryd.prog 26 #[.slice q 19 19, .string (prepS k)] w fun e w' => e = .returned (.bool true) ∧ w' = w := by
  have := holds_any prepsL q 19 B (prepS k) w h (by rw [preps_len]; omega)
  rw [preps_hold k hk] at this; exact this

set_option maxHeartbeats 1000000 in
theorem preps_long (l : List Int) (p : Option Addr) (c : Nat) (u : Bool) (w : World) (hM : MaxL w) (h : 12 < l.length) :
    Calls Tryd.prog 6 #[.slice p l.length c, .bool u] w fun e w' => e = .returned (.bool true) ∧ Below w.heap.size w w' := by
  have F := Lib.hid (first10_any w hM)
  have d1 : decide ((12 : Int) < (l.length : Int)) = true := by simp; omega
  have d2 : decide (12 < l.length) = true := by simp; omega
  clear hM h
  go_enter Tryd.func6, Tryd.ntmps6
  go_wp2_with (go_at_call 8; refine F.out.mono ?_; rintro e w1 ⟨rfl, hb1⟩; have HB1 := Lib.hid hb1; clear hb1)
  go_ret; exact ⟨rfl, HB1.out⟩

set_option maxHeartbeats 600000 in
theorem preps_main (l : List Int) (p : Option Addr) (c : Nat) (u : Bool) (w : World) (hI : IntsAt w p l) (hM : MaxL w) (hT : PTab w) (h12 : l.length ≤ 12) :
    Calls Tryd.prog 6 #[.slice p l.length c, .bool u] w fun e w' => e = .returned (.bool true) ∧ Below w.heap.size w w' := by
  have F := Lib.hid (first10_any w hM)
  have d1 : decide ((12 : Int) < (l.length : Int)) = false := by simp; omega
  have d2 : decide (12 < l.length) = false := by simp; omega
  have HT := Lib.hid hT
  have HI := Lib.hid hI
  clear hM hT hI
  go_enter Tryd.func6, Tryd.ntmps6
  go_wp2_with (first
    | (go_at_call 8; refine F.out.mono ?_; rintro e w1 ⟨rfl, hb1⟩; have HB1 := Lib.hid hb1; have HT1 := Lib.hid (HT.out.below hb1); clear hb1)
    | (go_at_call 21; refine (preps19_any _ HT1.out).mono ?_; rintro e w2 ⟨q, rfl, hr, hb2⟩; have HR := Lib.hid hr; have HB2 := Lib.hid (HB1.out.trans (hb2.mono HB1.out.size)); have HT2 := Lib.hid (HT1.out.below hb2); clear hr hb2))
  clear d1 d2
  go_loopw [7, 8, 9] (fun v a i wr => ∃ (j : Nat) (x : Int), j ≤ l.length ∧ i = .int .i64 j ∧ a = .int .i64 x ∧ Hid (AtIs l j x) ∧ Hid (Gs w2.heap.size w2 ((l.take j).map (wOf u)) v wr)) (fun _ _ i _ => l.length - (intOf i).toNat)
  case atStart => exact ⟨0, -1, Nat.zero_le _, rfl, rfl, Lib.hid (.inl ⟨rfl, fun _ _ h => by omega⟩), Lib.hid (Gs.nil_ _ _ _ (Below.refl _ _))⟩
  case round =>
    obtain ⟨j, x, hj, rfl, rfl, HA, HG⟩ := hrel
    rename Value => v
    have hg := HG.out
    obtain ⟨L, hL⟩ : ∃ L, (l.take j).map (wOf u) = L := ⟨_, rfl⟩
    rw [hL] at hg
    have HLe := Lib.hid hL
    obtain ⟨pv, cv, hv, _, _⟩ := hg.fin
    subst hv
    clear HG hL
    have HG := Lib.hid hg
    clear hg
    have HBW := Lib.hid (HB2.out.trans (HG.out.bel.mono HB2.out.size))
    obtain ⟨hx1, hx2⟩ := HA.out.bounds
    by_cases hlt : j < l.length
    · obtain ⟨b, off, hp, hb, h0⟩ := HI.out.at_ HBW.out j hlt
      subst hp
      have hzi := HI.out.bounds _ (List.getElem_mem hlt)
      obtain ⟨M, hM⟩ : ∃ M, (l.take (j + 1)).map (wOf u) = M := ⟨_, rfl⟩
      have hls : M = L ++ [wOf u l[j]] := by rw [← hM, ← HLe.out, List.take_succ_eq_append_getElem hlt, List.map_append]; rfl
      have HM := Lib.hid hM
      clear hM
      have hk1 := fun h => HA.out.miss hlt h
      have hk3 := fun h h2 => HA.out.hit h hlt h2
      have HK2 := Lib.hid (fun h => HA.out.keep (j := j) h)
      obtain ⟨z, hz⟩ : ∃ z, l[j] = z := ⟨_, rfl⟩
      rw [hz] at h0 hzi hls hk1 hk3
      clear hz
      have hnum := fun (W : World) => number6_any z 60 W hzi (by omega) (by omega)
      rw [kOf_eq] at hnum
      have hw1 := fun (h : ¬ kOf z < 19) => wOf_none (u := u) h
      have hw2 := fun (h : kOf z < 19) => wOf_up h
      have hw3 := fun (h : kOf z < 19) => wOf_low h
      obtain ⟨k, hk⟩ : ∃ k, kOf z = k := ⟨_, rfl⟩
      rw [hk] at hnum hk1 hk3 hw1 hw2 hw3
      clear hk
      have HNUM := Lib.hid hnum
      have HK1 := Lib.hid hk1
      have HK3 := Lib.hid hk3
      have HW1 := Lib.hid hw1
      have HW2 := Lib.hid hw2
      have HW3 := Lib.hid hw3
      have HUP := Lib.hid (fun (W : World) (hk : k < 19) => refUpper_any (prepS k) W (by have := prepS_small k hk; omega))
      have hpc := fun (h : k < 19) => (by have := (HR.out.below HG.out.bel).at_ k (by rw [preps_len]; exact h); rw [preps_at k h] at this; exact this : ∃ b off, q = some ⟨b, off, none⟩ ∧ b < w2.heap.size ∧ wr.cell? ⟨b, off + k, none⟩ = some (.string (prepS k)))
      have hlen : L.length = j := by rw [← HLe.out, List.length_map, List.length_take]; omega
      have HLN := Lib.hid hlen
      clear hlen hzi hnum hk1 hk3 hw1 hw2 hw3
      by_cases hk : k < 19
      · obtain ⟨qb, qo, hq, _, hpk⟩ := hpc hk
        subst hq
        have dk1 : decide ((k : Int) < 19) = true := by simp; omega
        have dk2 : decide (k < 19) = true := by simp; omega
        have HUP1 := Lib.hid (fun W => HUP.out W hk)
        clear hpc HK1 HW1
        cases u with
        | true =>
          have hX := HW2.out hk
          rw [hX] at hls
          have HLS := Lib.hid hls
          clear HW2 HW3 hls hX HUP
          by_cases ha : x < 0
          · have HA5 := Lib.hid (HK3.out ha hk)
            have da : decide (x < 0) = true := by simp; omega
            clear HK2 HK3
            go_wp2_with (first
              | (go_at_call 24; refine (HNUM.out _).mono ?_; rintro e wn ⟨rfl, rfl⟩)
              | (go_at_call 25; refine (HUP1.out _).mono ?_; rintro e wu ⟨rfl, hbu⟩; have HGB := Lib.hid (Gs.step HG.out hbu HG.out.bel.size); clear hbu)
              | (at_builtin; obtain ⟨q5, c5, w5, hr5, hg5⟩ := (show Gs w2.heap.size w2 L _ (wu.alloc (.cells #[.string (⟨(upL (prepS k).data.toList).toArray⟩ : ByteArray)] 9)) from ⟨HGB.out.row.alloc (.cells #[.string (⟨(upL (prepS k).data.toList).toArray⟩ : ByteArray)] 9), HGB.out.bel.alloc HGB.out.bel.size _⟩).run (by have := HGB.out.bel.size; simp; omega) (one_text wu (⟨(upL (prepS k).data.toList).toArray⟩ : ByteArray)) (by have := HLN.out; simp only [List.length_cons, List.length_nil]; omega) M HLS.out (m := 1) (c := 1) rfl 23; refine Lib.wpList_append_run_sl _ rfl (.tmp 55) (.tmp 57) _ rfl _ _ rfl rfl hr5 ?_; have HG5 := Lib.hid hg5; clear hr5 hg5))
            go_roundw
            case rel => exact ⟨j + 1, (j : Int), by omega, by go_num, rfl, HA5, by rw [HM.out]; exact HG5⟩
            case measure => simp [intOf]; omega
          · have HA5 := Lib.hid (HK2.out (by omega))
            have da : decide (x < 0) = false := by simp; omega
            clear HK2 HK3
            go_wp2_with (first
              | (go_at_call 24; refine (HNUM.out _).mono ?_; rintro e wn ⟨rfl, rfl⟩)
              | (go_at_call 25; refine (HUP1.out _).mono ?_; rintro e wu ⟨rfl, hbu⟩; have HGB := Lib.hid (Gs.step HG.out hbu HG.out.bel.size); clear hbu)
              | (at_builtin; obtain ⟨q5, c5, w5, hr5, hg5⟩ := (show Gs w2.heap.size w2 L _ (wu.alloc (.cells #[.string (⟨(upL (prepS k).data.toList).toArray⟩ : ByteArray)] 9)) from ⟨HGB.out.row.alloc (.cells #[.string (⟨(upL (prepS k).data.toList).toArray⟩ : ByteArray)] 9), HGB.out.bel.alloc HGB.out.bel.size _⟩).run (by have := HGB.out.bel.size; simp; omega) (one_text wu (⟨(upL (prepS k).data.toList).toArray⟩ : ByteArray)) (by have := HLN.out; simp only [List.length_cons, List.length_nil]; omega) M HLS.out (m := 1) (c := 1) rfl 23; refine Lib.wpList_append_run_sl _ rfl (.tmp 55) (.tmp 57) _ rfl _ _ rfl rfl hr5 ?_; have HG5 := Lib.hid hg5; clear hr5 hg5))
            go_roundw
            case rel => exact ⟨j + 1, x, by omega, by go_num, rfl, HA5, by rw [HM.out]; exact HG5⟩
            case measure => simp [intOf]; omega
        | false =>
          have hX := HW3.out hk
          rw [hX] at hls
          have HLS := Lib.hid hls
          clear HW2 HW3 hls hX HUP HUP1
          by_cases ha : x < 0
          · have HA5 := Lib.hid (HK3.out ha hk)
            have da : decide (x < 0) = true := by simp; omega
            clear HK2 HK3
            go_wp2_with (first
              | (go_at_call 24; refine (HNUM.out _).mono ?_; rintro e wn ⟨rfl, rfl⟩)
              | (at_builtin; obtain ⟨q5, c5, w5, hr5, hg5⟩ := (show Gs w2.heap.size w2 L _ (wr.alloc (.cells #[.string (prepS k)] 9)) from ⟨HG.out.row.alloc (.cells #[.string (prepS k)] 9), HG.out.bel.alloc HG.out.bel.size _⟩).run (by have := HG.out.bel.size; simp; omega) (one_text wr (prepS k)) (by have := HLN.out; simp only [List.length_cons, List.length_nil]; omega) M HLS.out (m := 1) (c := 1) rfl 23; refine Lib.wpList_append_run_sl _ rfl (.tmp 55) (.tmp 57) _ rfl _ _ rfl rfl hr5 ?_; have HG5 := Lib.hid hg5; clear hr5 hg5))
            go_roundw
            case rel => exact ⟨j + 1, (j : Int), by omega, by go_num, rfl, HA5, by rw [HM.out]; exact HG5⟩
            case measure => simp [intOf]; omega
          · have HA5 := Lib.hid (HK2.out (by omega))
            have da : decide (x < 0) = false := by simp; omega
            clear HK2 HK3
            go_wp2_with (first
              | (go_at_call 24; refine (HNUM.out _).mono ?_; rintro e wn ⟨rfl, rfl⟩)
              | (at_builtin; obtain ⟨q5, c5, w5, hr5, hg5⟩ := (show Gs w2.heap.size w2 L _ (wr.alloc (.cells #[.string (prepS k)] 9)) from ⟨HG.out.row.alloc (.cells #[.string (prepS k)] 9), HG.out.bel.alloc HG.out.bel.size _⟩).run (by have := HG.out.bel.size; simp; omega) (one_text wr (prepS k)) (by have := HLN.out; simp only [List.length_cons, List.length_nil]; omega) M HLS.out (m := 1) (c := 1) rfl 23; refine Lib.wpList_append_run_sl _ rfl (.tmp 55) (.tmp 57) _ rfl _ _ rfl rfl hr5 ?_; have HG5 := Lib.hid hg5; clear hr5 hg5))
            go_roundw
            case rel => exact ⟨j + 1, x, by omega, by go_num, rfl, HA5, by rw [HM.out]; exact HG5⟩
            case measure => simp [intOf]; omega
      · have hX := HW1.out hk
        rw [hX] at hls
        have HLS := Lib.hid hls
        have dk1 : decide ((k : Int) < 19) = false := by simp; omega
        have dk2 : decide (k < 19) = false := by simp; omega
        have HA5 := Lib.hid (HK1.out hk)
        clear hpc HK1 HK2 HK3 HW1 HW2 HW3 HUP hls hX
        go_wp2_with (first
          | (go_at_call 24; refine (HNUM.out _).mono ?_; rintro e wn ⟨rfl, rfl⟩)
          | (at_builtin; obtain ⟨q5, c5, w5, hr5, hg5⟩ := (show Gs w2.heap.size w2 L _ (wr.alloc (.cells #[.string (⟨#[119, 111, 114, 100]⟩ : ByteArray)] 9)) from ⟨HG.out.row.alloc (.cells #[.string (⟨#[119, 111, 114, 100]⟩ : ByteArray)] 9), HG.out.bel.alloc HG.out.bel.size _⟩).run (by have := HG.out.bel.size; simp; omega) (one_text wr (⟨#[119, 111, 114, 100]⟩ : ByteArray)) (by have := HLN.out; simp only [List.length_cons, List.length_nil]; omega) M HLS.out (m := 1) (c := 1) rfl 23; refine Lib.wpList_append_run_sl _ rfl (.tmp 55) (.tmp 57) _ rfl _ _ rfl rfl hr5 ?_; have HG5 := Lib.hid hg5; clear hr5 hg5))
        go_roundw
        case rel => exact ⟨j + 1, x, by omega, by go_num, rfl, HA5, by rw [HM.out]; exact HG5⟩
        case measure => simp [intOf]; omega
    · have hje : j = l.length := by omega
      have hLw : L = l.map (wOf u) := by rw [← HLe.out, hje, List.take_length]
      have hLn : L.length ≤ 12 := by rw [hLw, List.length_map]; exact h12
      obtain ⟨pv2, cv2, hv2, _, htr⟩ := HG.out.fin
      injection hv2 with e1 _ e2
      subst e1 e2
      have htab := HT2.out.below HG.out.bel
      have hprep := prep_any L pv cv wr htab htr (by omega) (fun s hs => by
        rw [hLw, List.mem_map] at hs
        obtain ⟨z, _, rfl⟩ := hs
        have := wOf_small u z; omega)
      have HTR := Lib.hid htr
      clear htr htab
      rcases HA.out with ⟨hxa, hno⟩ | ⟨i0, hi0, hxa, _, hki, hno⟩
      · have hpb : prepB L 0 = (-1, -1, ⟨#[]⟩) := by
          rw [hLw]; exact prepB_none u l 0 (fun z hz => by
            obtain ⟨i, hi, rfl⟩ := List.getElem_of_mem hz
            exact hno i hi (by omega))
        rw [hpb] at hprep
        have HP : Hid (Calls Tryd.prog 11 #[.slice pv L.length cv] wr fun e w' => e = .returned (.tuple #[.int .i64 (-1), .int .i64 (-1), .string ⟨#[]⟩]) ∧ Dr wr w') := Lib.hid hprep
        subst hxa
        clear hprep hpb hLw hno HA HLe
        go_wp2_with (go_at_call 11; refine HP.out.mono ?_; rintro e w5 ⟨rfl, hd⟩; have HB5 := Lib.hid (HBW.out.trans (hd.below.mono HBW.out.size)); clear hd)
        go_ret; exact ⟨rfl, HB5.out⟩
      · obtain ⟨z, hz⟩ : ∃ z, l[i0] = z := ⟨_, rfl⟩
        have hpb : prepB L 0 = (((0 + i0 : Nat) : Int), ((0 + i0 : Nat) : Int) + 1, prepS (kOf l[i0])) := by
          rw [hLw]; exact prepB_some u l i0 0 hi0 hki hno
        have hLi : L[i0]'(by rw [hLw, List.length_map]; exact hi0) = wOf u l[i0] := by simp [hLw]
        obtain ⟨bL, oL, hpL, _, hcL⟩ := HTR.out.at_ i0 (by rw [hLw, List.length_map]; exact hi0)
        rw [hLi] at hcL
        rw [Nat.zero_add] at hpb
        rw [hz] at hpb hcL hki
        have hlow := low_wOf (u := u) hki
        have hsm := wOf_small u z
        obtain ⟨X, hX⟩ : ∃ X, wOf u z = X := ⟨_, rfl⟩
        rw [hX] at hcL hlow hsm
        obtain ⟨k, hk⟩ : ∃ k, kOf z = k := ⟨_, rfl⟩
        rw [hk] at hpb hlow hki
        rw [hpb] at hprep
        subst hpL
        have hxa2 : x = (i0 : Int) := hxa
        have HP : Hid (Calls Tryd.prog 11 #[.slice (some ⟨bL, oL, none⟩) L.length cv] wr fun e w' => e = .returned (.tuple #[.int .i64 (i0 : Int), .int .i64 ((i0 : Int) + 1), .string (prepS k)]) ∧ Dr wr w') := Lib.hid hprep
        have HLW := Lib.hid (fun (W : World) => by have := refLower_any X W (by omega); rw [hlow] at this; exact this)
        have HHD := Lib.hid (fun (W : World) (hb : Below w2.heap.size w2 W) => holds19_any q w2.heap.size k W (HR.out.below hb) hki)
        have HGB := Lib.hid HG.out.bel
        have hiL : i0 < L.length := by rw [hLw, List.length_map]; exact hi0
        have hi12 : i0 < 12 := by omega
        have hLL : L.length = l.length := by rw [hLw, List.length_map]
        subst hxa2
        have da : decide ((i0 : Int) < 0) = false := by simp
        clear hprep hpb hLw hno HA HLe hlow hsm hX hk hz hLi hki hi0 hxa hje hLL h12
        go_wp2_with (first
          | (go_at_call 11; refine HP.out.mono ?_; rintro e w5 ⟨rfl, hd⟩; have HB5 := Lib.hid (HBW.out.trans (hd.below.mono HBW.out.size)); have HC5 := Lib.hid (HGB.out.trans (hd.below.mono HGB.out.size)); have hc5 := (hd.cell ⟨bL, oL + i0, none⟩).trans hcL; clear hd)
          | (go_at_call 26; refine (HHD.out _ HC5.out).mono ?_; rintro e w6 ⟨rfl, rfl⟩)
          | (go_at_call 27; refine (HLW.out _).mono ?_; rintro e w7 ⟨rfl, hb7⟩; have HB7 := Lib.hid (HB5.out.trans (hb7.mono HB5.out.size)); clear hb7))
        go_ret; exact ⟨rfl, HB7.out⟩

theorem preps_all (l : List Int) (p : Option Addr) (c : Nat) (u : Bool) (w : World) (hI : IntsAt w p l) (hM : MaxL w) (hT : PTab w) :
    Calls Tryd.prog 6 #[.slice p l.length c, .bool u] w fun e w' => e = .returned (.bool true) ∧ Below w.heap.size w w' := by
  by_cases h : 12 < l.length
  · exact preps_long l p c u w hM h
  · exact preps_main l p c u w hI hM hT (by omega)
end Go.Proofs.YtcecgfijfnnpeaaDoor.Mt
