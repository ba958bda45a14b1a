/- The document's walk, further: texts, lists, and what is built on it. -/
import Derived.Test.YtemkikjcjhmlaaaGreatDoorM01
namespace Go.Proofs.YtemkikjcjhmlaaaGreatDoor
open Go.RowKit

set_option maxHeartbeats 1000000 in
theorem odd_2 (n : Int) (s : ByteArray) (l : List T) (w : World) (g : Nat) (d z : Int) (hd : d ≤ 40) (hd0 : 0 ≤ d) (hs : s.size ≤ 140737488355328) (hz0 : 0 ≤ z) (hz1 : z ≤ 4096) (p : Option Addr) (cap : Nat)
    (hw : Wk w g z) :
    Calls Tryz.prog 69 #[.pointer (some ⟨g, 0, none⟩), .agg #[.int .i64 2, .int .i64 n, .string s, .slice p l.length cap], .int .i64 d] w (OddSays (.mk 2 n s l) d z g w) := by
  obtain ⟨hg0, hg1, hg2⟩ := walk_new w g z _ hw
  have HW := Lib.hid hw; clear hw
  have hZ : zz 2 s z = z + 1 + s.size := by unfold zz; rw [if_pos rfl]
  have HZ := Lib.hid hZ; clear hZ
  by_cases hn0 : n = 0
  all_goals
    have hn0' : (n != 0) = decide (n ≠ 0) := by simp [bne, BEq.beq]
    cases l with
    | nil =>
      go_enter Tryz.func69, Tryz.ntmps69
      go_wp2
      go_region
      all_goals go_wp2_with (go_at_call 90; refine (printed_any _ _ hs).mono ?_; rintro e w2 ⟨rfl, rfl⟩)
      all_goals try go_rounds 1
      all_goals
        go_ret
        refine OddSays.mk (z' := z + 1 + s.size) ?_ (((HW.out.set_ _).set_ _).alloc _).drew (((((But.refl _ _).setCell _ _).setCell _ _).alloc _).drew)
        rw [← HZ.out]
        first
          | exact odd_104 (by omega) (by rw [HZ.out]; omega)
          | exact odd_103 (by omega) (by rw [HZ.out]; omega) (by simp [badRange]) (by simp [badShape, *])
          | exact (odd_fine (by omega) (by rw [HZ.out]; omega) (by simp [badRange]) (by simp_all [badShape])).trans (by rw [oddAll])
          | go_show
    | cons x xs =>
      simp only [List.length_cons]
      go_enter Tryz.func69, Tryz.ntmps69
      go_wp2
      go_region
      all_goals go_wp2_with (go_at_call 90; refine (printed_any _ _ hs).mono ?_; rintro e w2 ⟨rfl, rfl⟩)
      all_goals
        go_ret
        refine OddSays.mk (z' := z + 1 + s.size) ?_ (((HW.out.set_ _).set_ _).alloc _).drew (((((But.refl _ _).setCell _ _).setCell _ _).alloc _).drew)
        rw [← HZ.out]
        first
          | exact odd_104 (by omega) (by rw [HZ.out]; omega)
          | exact odd_103 (by omega) (by rw [HZ.out]; omega) (by simp [badRange]) (by simp [badShape])
          | go_show

theorem Rep.but {w w' : World} {lo hi g : Nat} {t : T} {v : Value} (h : Rep w lo hi t v) (hb : But g w w') (hhi : hi ≤ w.heap.size) (hg : g < lo ∨ hi ≤ g) : Rep w' lo hi t v :=
  h.keep (Nat.le_refl _) (Nat.le_refl _) (fun p hl hp => hb.cell (by omega) (by omega))
theorem RepAll.but {w w' : World} {lo hi g : Nat} {t : List T} {v : Option Addr} (h : RepAll w lo hi t v) (hb : But g w w') (hhi : hi ≤ w.heap.size) (hg : g < lo ∨ hi ≤ g) : RepAll w' lo hi t v :=
  h.keep (Nat.le_refl _) (Nat.le_refl _) (fun p hl hp => hb.cell (by omega) (by omega))

theorem zz_gt (k : Int) (s : ByteArray) (z : Int) : z < zz k s z := by unfold zz; split <;> omega
theorem odd_bound : ∀ (t : T) (d z : Int), (odd t d z).1 = 0 → z < (odd t d z).2 ∧ (odd t d z).2 ≤ 4096 := by
  refine T.ind_ (fun k n s l ih d z h => ?_)
  have hall : ∀ (l : List T), (∀ t ∈ l, ∀ (d z : Int), (odd t d z).1 = 0 → z < (odd t d z).2 ∧ (odd t d z).2 ≤ 4096) → ∀ (d z : Int), z ≤ 4096 → (oddAll l d z).1 = 0 → z ≤ (oddAll l d z).2 ∧ (oddAll l d z).2 ≤ 4096 := by
    intro l
    induction l with
    | nil => intro _ d z hz _; rw [oddAll]; exact ⟨Int.le_refl _, hz⟩
    | cons x r ihr =>
      intro hx d z hz h
      rw [oddAll] at h ⊢
      by_cases hc : (odd x d z).1 ≠ 0
      · rw [if_pos hc] at h; exact absurd h hc
      · rw [if_neg hc] at h ⊢
        have h1 := hx x (by simp) d z (by omega)
        have h2 := ihr (fun t ht => hx t (by simp [ht])) d _ h1.2 h
        omega
  have hz := zz_gt k s z
  by_cases hd : 40 < d
  · rw [odd] at h; simp [hd] at h
  by_cases h4 : 4096 < zz k s z
  · rw [odd_104 (by omega) h4] at h; simp at h
  cases hr : badRange k n with
  | true => rw [odd_105 (by omega) (by omega) hr] at h; simp at h
  | false =>
    cases hs : badShape k n s l.length with
    | true => rw [odd_103 (by omega) (by omega) hr hs] at h; simp at h
    | false =>
      rw [odd_fine (by omega) (by omega) hr hs] at h ⊢
      have := hall l ih (d + 1) _ (by omega) h
      omega

def OddAt (t : T) : Prop := ∀ (w : World) (lo hi : Nat) (v : Value) (g : Nat) (d z : Int), Rep w lo hi t v → hi ≤ w.heap.size → (g < lo ∨ hi ≤ g) → Wk w g z → 0 ≤ z → z ≤ 4096 → 0 ≤ d → d ≤ 1000 →
  Calls Tryz.prog 69 #[.pointer (some ⟨g, 0, none⟩), v, .int .i64 d] w (OddSays t d z g w)

set_option maxHeartbeats 1000000 in
theorem odd_4 (n : Int) (s : ByteArray) (l : List T) (ih : ∀ t ∈ l, OddAt t) (w : World) (lo hi : Nat) (g : Nat) (d z : Int) (hd : d ≤ 40) (hd0 : 0 ≤ d) (hs : s.size ≤ 140737488355328) (hz0 : 0 ≤ z) (hz1 : z ≤ 4096) (p : Option Addr) (cap : Nat)
    (hall : RepAll w lo hi l p) (hlen : l.length ≤ 140737488355328) (hhi : hi ≤ w.heap.size) (hglo : g < lo ∨ hi ≤ g) (hw : Wk w g z) :
    Calls Tryz.prog 69 #[.pointer (some ⟨g, 0, none⟩), .agg #[.int .i64 4, .int .i64 n, .string s, .slice p l.length cap], .int .i64 d] w (OddSays (.mk 4 n s l) d z g w) := by
  obtain ⟨hg0, hg1, hg2⟩ := walk_new w g z _ hw
  have HW := Lib.hid hw; clear hw
  have H := Lib.hid ih; clear ih
  have hZ : zz 4 s z = z + 1 := by unfold zz; rw [if_neg (by omega)]
  have HZ := Lib.hid hZ; clear hZ
  have hpe : printed ByteArray.empty = true := rfl
  by_cases hn0 : n = 0
  · subst hn0
    rcases str_cases s with rfl | ⟨hS, hT⟩
    · by_cases hz2 : z + 1 ≤ 4096
      · have hF := Lib.hid ((odd_fine (k := 4) (n := 0) (s := ByteArray.empty) (l := l) (d := d) (z := z) (by omega) (by rw [HZ.out]; omega) (by simp [badRange]) (by simp [badShape, hpe])).trans (by rw [HZ.out]) : odd (.mk 4 0 ByteArray.empty l) d z = oddAll l (d + 1) (z + 1))
        go_enter Tryz.func69, Tryz.ntmps69
        go_wp2_with (go_at_call 90; refine (printed_any _ _ hs).mono ?_; rintro e w2 ⟨rfl, rfl⟩)
        have hb4 := (box4 (w.setCell ⟨g, 0, none⟩ (.int .i64 (z + 1))) (.int .i64 4) (.int .i64 0) (.string ByteArray.empty) (.slice p l.length cap) 31).2.2.2
        have hWk : Wk ((w.setCell ⟨g, 0, none⟩ (.int .i64 (z + 1))).alloc (.cells #[.int .i64 4, .int .i64 0, .string ByteArray.empty, .slice p l.length cap] 31)) g (z + 1) := (HW.out.set_ _).alloc _
        have hWb : But g w ((w.setCell ⟨g, 0, none⟩ (.int .i64 (z + 1))).alloc (.cells #[.int .i64 4, .int .i64 0, .string ByteArray.empty, .slice p l.length cap] 31)) := ((But.refl _ _).setCell _ _).alloc _
        have hWs : ((w.setCell ⟨g, 0, none⟩ (.int .i64 (z + 1))).alloc (.cells #[.int .i64 4, .int .i64 0, .string ByteArray.empty, .slice p l.length cap] 31)).heap.size = w.heap.size + 1 := by simp
        rw [World.size_setCell] at hb4
        generalize (w.setCell ⟨g, 0, none⟩ (.int .i64 (z + 1))).alloc (.cells #[.int .i64 4, .int .i64 0, .string ByteArray.empty, .slice p l.length cap] 31) = W1 at hb4 hWk hWb hWs ⊢
        go_loopw [9] (fun i wr => ∃ (j : Nat) (y : Int), j ≤ l.length ∧ i = .int .i64 j ∧ z + 1 ≤ y ∧ y ≤ 4096 ∧ Hid (oddAll l (d + 1) (z + 1) = oddAll (l.drop j) (d + 1) y) ∧ Hid (Wk wr g y) ∧ But g W1 wr) (fun i _ => l.length - (intOf i).toNat)
        case atStart => exact ⟨0, z + 1, Nat.zero_le _, rfl, Int.le_refl _, hz2, rfl, hWk, But.refl _ _⟩
        case round =>
          obtain ⟨j, y, hj, rfl, hy0, hy1, HO, HY, hbr⟩ := hrel
          have hbox : wr.cell? ⟨w.heap.size, 3, none⟩ = some (.slice p l.length cap) := (hbr.cell (p := ⟨w.heap.size, 3, none⟩) (by rw [hWs]; exact Nat.lt_succ_self _) (by show w.heap.size ≠ g; omega)).trans hb4
          have hz := hbr.size
          by_cases hlt : j < l.length
          · obtain ⟨b, off, k1, n1, s1, l1, q1, cc1, rfl, _, hbhi, hli, h0, h1, h2, h3, hrep⟩ := (hall.but (hWb.trans hbr) hhi hglo).item j hlt
            have hA0 := oddAll_drop l j hlt (d + 1) y
            rw [hli] at hA0
            have hA := Lib.hid (HO.out.trans hA0); clear hA0
            have hlj : l[j] ∈ l := List.getElem_mem hlt
            rw [hli] at hlj hrep
            have hB0 := odd_bound (.mk k1 n1 s1 l1) (d + 1) y
            have hB := Lib.hid hB0; clear hB0
            clear hli HO
            go_wp2_with (go_at_call 69; refine (H.out _ hlj _ lo hi _ g (d + 1) y hrep (by omega) hglo HY.out (by omega) (by omega) (by omega) (by omega)).mono ?_; rintro e w2 ⟨rfl, hw2, hb2⟩; have HW2 := Lib.hid hw2; clear hw2)
            · have h : ((odd (T.mk k1 n1 s1 l1) (d + 1) y).fst != 0) = true := by assumption
              go_ret
              refine OddSays.mk ?_ HW2.out (hWb.trans (hbr.trans hb2))
              rw [hF.out, hA.out, if_pos (by simpa using h)]
            · have h : ((odd (T.mk k1 n1 s1 l1) (d + 1) y).fst != 0) = false := by assumption
              have h0 : (odd (T.mk k1 n1 s1 l1) (d + 1) y).1 = 0 := by simpa using h
              have hB1 := hB.out h0
              go_roundw
              case rel =>
                refine ⟨j + 1, _, by omega, by go_num, ?_, hB1.2, ?_, HW2, hbr.trans hb2⟩
                · omega
                · show _ = _
                  rw [hA.out, if_neg (by simpa using h)]
              case measure => simp [intOf]; omega
          · have hjl : j = l.length := by omega
            subst hjl
            go_wp2
            go_ret
            refine OddSays.mk (z' := y) ?_ HY.out (hWb.trans hbr)
            rw [hF.out, HO.out, List.drop_length, oddAll]
      · go_enter Tryz.func69, Tryz.ntmps69
        go_wp2
        go_ret
        refine OddSays.mk (z' := z + 1) ?_ ((HW.out.set_ _).alloc _) (((But.refl _ _).setCell _ _).alloc _)
        rw [← HZ.out]
        exact odd_104 (by omega) (by rw [HZ.out]; omega)
    · go_enter Tryz.func69, Tryz.ntmps69
      go_wp2_with (go_at_call 90; refine (printed_any _ _ hs).mono ?_; rintro e w2 ⟨rfl, rfl⟩)
      all_goals
        go_ret
        refine OddSays.mk (z' := z + 1) ?_ ((HW.out.set_ _).alloc _) (((But.refl _ _).setCell _ _).alloc _)
        rw [← HZ.out]
        first
          | exact odd_104 (by omega) (by rw [HZ.out]; omega)
          | exact odd_103 (by omega) (by rw [HZ.out]; omega) (by simp [badRange]) (by simp [badShape, hS])
  · have hn0' : (n != 0) = true := by simpa using hn0
    go_enter Tryz.func69, Tryz.ntmps69
    go_wp2_with (go_at_call 90; refine (printed_any _ _ hs).mono ?_; rintro e w2 ⟨rfl, rfl⟩)
    all_goals
      go_ret
      refine OddSays.mk (z' := z + 1) ?_ ((HW.out.set_ _).alloc _) (((But.refl _ _).setCell _ _).alloc _)
      rw [← HZ.out]
      first
        | exact odd_104 (by omega) (by rw [HZ.out]; omega)
        | exact odd_103 (by omega) (by rw [HZ.out]; omega) (by simp [badRange]) (by simp [badShape, hn0])

set_option maxHeartbeats 1000000 in
theorem odd_any : ∀ t, OddAt t := by
  refine T.ind_ (fun k n s l ih w lo hi v g d z hr hhi hg hw hz0 hz1 hd0 hd1 => ?_)
  unfold Rep at hr
  obtain ⟨p, cap, rfl, hk, hn, hs, hlc, hcap, hall⟩ := hr
  by_cases hd : 40 < d
  · refine (odd_deep k n s w _ g d hd _ rfl).mono ?_
    rintro e w' ⟨rfl, o, rfl⟩
    exact OddSays.mk (z' := z) (by rw [odd]; simp [hd]) (hw.alloc _) ((But.refl _ _).alloc _)
  · by_cases h0 : k < 0
    · exact odd_lo k n s l w g d z h0 (by omega) hd0 hz0 hz1 p cap hw
    by_cases h4 : 4 < k
    · exact odd_hi k n s l w g d z h4 (by omega) hd0 hz0 hz1 p cap hw
    have hc : k = 0 ∨ k = 1 ∨ k = 2 ∨ k = 3 ∨ k = 4 := by omega
    rcases hc with rfl | rfl | rfl | rfl | rfl
    · exact odd_0 n s l w g d z (by omega) hd0 hs hz0 hz1 p cap hw
    · exact odd_1 n s l w g d z (by omega) hd0 hs hz0 hz1 p cap hw
    · exact odd_2 n s l w g d z (by omega) hd0 hs hz0 hz1 p cap hw
    · exact odd_3 n s l w g d z (by omega) hd0 hs hz0 hz1 p cap hw
    · exact odd_4 n s l ih w lo hi g d z (by omega) hd0 hs hz0 hz1 p cap hall (by omega) hhi hg hw

/-- Right, in Bool's words; the code of what is amiss. -/
def oddCode (t : T) : Int := (odd t 1 0).1
def rightB (t : T) : Bool := oddCode t == 0
set_option maxHeartbeats 1000000 in
theorem rvalid_any (t : T) (w : World) (lo hi : Nat) (v : Value) (hr : Rep w lo hi t v) (hhi : hi ≤ w.heap.size) :
    Calls Tryz.prog 44 #[v] w fun e w' => e = .returned (.int .i64 (oddCode t)) ∧ Below w.heap.size w w' := by
  obtain ⟨k, n, s, p, len, cap, rfl⟩ := rep_form hr
  have hwk : ∀ o, Hid (Wk ((w.alloc o).alloc (.cells #[.int .i64 0] 99)) (w.heap.size + 1) 0) := fun o => by
    have h := heap_alloc_new (w.alloc o) (.cells #[.int .i64 0] 99)
    rw [World.size_alloc] at h
    exact h
  go_enter Tryz.func44, Tryz.ntmps44
  go_wp2_with (go_at_call 69; refine (odd_any t _ lo hi _ _ 1 0 ((hr.alloc hhi _).alloc (by simp; omega) _) (by simp; omega) (Or.inr (by omega)) (hwk _).out (by omega) (by omega) (by omega) (by omega)).mono ?_; rintro e w2 ⟨rfl, hw2, hb2⟩)
  go_ret
  exact ⟨rfl, (((Below.refl _ _).alloc (Nat.le_refl _) _).alloc (by simp) _).trans (hb2.below (by simp; omega) (by omega))⟩

end Go.Proofs.YtemkikjcjhmlaaaGreatDoor
