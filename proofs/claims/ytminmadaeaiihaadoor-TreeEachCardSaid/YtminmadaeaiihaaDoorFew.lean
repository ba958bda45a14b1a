/- What is light: inglenookworld.few and Small; a right value is light. -/
import Derived.Test.YtminmadaeaiihaaDoorOdd2
namespace Go.Proofs.YtminmadaeaiihaaDoor
open Go.RowKit

mutual
/-- How many are left of so many items; below 0: more. -/
def fewT : T → Int → Int → Int
  | .mk _ _ s l, left, deep => if left - 1 - (s.size : Int) / 16 < 0 ∨ 60 < deep then -1 else fewAll l (left - 1 - (s.size : Int) / 16) (deep + 1)
def fewAll : List T → Int → Int → Int
  | [], left, _ => left
  | t :: r, left, deep => if fewT t left deep < 0 then -1 else fewAll r (fewT t left deep) deep
end
theorem fewAll_drop (l : List T) (j : Nat) (h : j < l.length) (y d : Int) : fewAll (l.drop j) y d = if fewT l[j] y d < 0 then -1 else fewAll (l.drop (j + 1)) (fewT l[j] y d) d := by
  rw [List.drop_eq_getElem_cons h, fewAll]
theorem few_le : ∀ (t : T) (y d : Int), 0 ≤ y → fewT t y d ≤ y := by
  refine T.ind_ (fun k n s l ih y d hy => ?_)
  have hall : ∀ (l : List T), (∀ t ∈ l, ∀ (y d : Int), 0 ≤ y → fewT t y d ≤ y) → ∀ (y d : Int), 0 ≤ y → fewAll l y d ≤ y := by
    intro l
    induction l with
    | nil => intro _ y d _; rw [fewAll]; omega
    | cons x r ihr =>
      intro h y d hy
      rw [fewAll]
      have h1 := h x (by simp) y d hy
      split
      · omega
      · have h2 := ihr (fun t ht => h t (by simp [ht])) (fewT x y d) d (by omega)
        omega
  rw [fewT]
  split
  · omega
  · have := hall l ih (y - 1 - (s.size : Int) / 16) (d + 1) (by omega)
    omega

def FewAt (t : T) : Prop := ∀ (w : World) (lo hi : Nat) (v : Value) (y d : Int), Rep w lo hi t v → hi ≤ w.heap.size → 0 ≤ y → y ≤ 6000 → 0 ≤ d → d ≤ 61 →
  Calls Tryd.prog 76 #[v, .int .i64 y, .int .i64 d] w fun e w' => e = .returned (.int .i64 (fewT t y d)) ∧ Below w.heap.size w w'

set_option maxHeartbeats 1000000 in
theorem few_any : ∀ t, FewAt t := by
  refine T.ind_ (fun k n s l ih w lo hi v y d hr hhi hy0 hy1 hd0 hd1 => ?_)
  unfold Rep at hr
  obtain ⟨p, cap, rfl, hk, hn, hs, hlc, hcap, hall⟩ := hr
  have H := Lib.hid ih; clear ih
  have HALL := Lib.hid hall; clear hall
  by_cases hc : y - 1 - (s.size : Int) / 16 < 0
  · have hO := Lib.hid (show fewT (.mk k n s l) y d = -1 from by rw [fewT, if_pos (Or.inl hc)])
    go_enter Tryd.func76, Tryd.ntmps76
    go_wp2
    all_goals
      go_ret
      exact ⟨ret_int hO.out.symm, by go_grown⟩
  by_cases hd : 60 < d
  · have hO := Lib.hid (show fewT (.mk k n s l) y d = -1 from by rw [fewT, if_pos (Or.inr hd)])
    go_enter Tryd.func76, Tryd.ntmps76
    go_wp2
    all_goals
      go_ret
      exact ⟨ret_int hO.out.symm, by go_grown⟩
  have hO := Lib.hid (show fewT (.mk k n s l) y d = fewAll l (y - 1 - (s.size : Int) / 16) (d + 1) from by rw [fewT, if_neg (by omega)])
  have hq : y - 1 - (s.size : Int) / 16 ≤ 6000 := by omega
  go_enter Tryd.func76, Tryd.ntmps76
  go_wp2
  have hb4 := (box4 w (.int .i64 k) (.int .i64 n) (.string s) (.slice p l.length cap) 38).2.2.2
  generalize hW1 : w.alloc (.cells #[.int .i64 k, .int .i64 n, .string s, .slice p l.length cap] 38) = W1 at hb4
  have hWb : Below w.heap.size w W1 := by subst hW1; exact (Below.refl _ _).alloc (Nat.le_refl _) _
  have hWs : W1.heap.size = w.heap.size + 1 := by subst hW1; simp
  clear hW1
  go_loopw [1, 7] (fun o i wr => ∃ (j : Nat) (x : Int), j ≤ l.length ∧ i = .int .i64 j ∧ o = .int .i64 x ∧ 0 ≤ x ∧ x ≤ 6000 ∧ Hid (fewAll l (y - 1 - (s.size : Int) / 16) (d + 1) = fewAll (l.drop j) x (d + 1)) ∧ Below W1.heap.size W1 wr) (fun _ i _ => l.length - (intOf i).toNat)
  case atStart => exact ⟨0, _, Nat.zero_le _, rfl, rfl, by omega, hq, rfl, Below.refl _ _⟩
  case round =>
    obtain ⟨j, x, hj, rfl, rfl, hx0, hx1, HO, hbr⟩ := hrel
    have hbox : wr.cell? ⟨w.heap.size, 3, none⟩ = some (.slice p l.length cap) := (hbr.cell (p := ⟨w.heap.size, 3, none⟩) (by rw [hWs]; exact Nat.lt_succ_self _)).trans hb4
    have hz := hbr.size
    by_cases hlt : j < l.length
    · obtain ⟨b, off, k1, n1, s1, l1, q1, cc1, rfl, _, hbhi, hli, h0, h1, h2, h3, hrep⟩ := (HALL.out.below (hWb.trans (hbr.mono (by omega))) hhi).item j hlt
      have hA0 := fewAll_drop l j hlt x (d + 1)
      rw [hli] at hA0
      have hAA := Lib.hid (HO.out.trans hA0); clear hA0
      have hlj : l[j] ∈ l := List.getElem_mem hlt
      rw [hli] at hlj hrep
      have hle := few_le (.mk k1 n1 s1 l1) x (d + 1) hx0
      have hWb2 := Lib.hid hWb
      clear hli HO hWb
      go_wp2_with (go_at_call 76; refine (H.out _ hlj _ lo hi _ x (d + 1) hrep (by omega) hx0 hx1 (by omega) (by omega)).mono ?_; rintro e w2 ⟨rfl, hb2⟩; obtain ⟨hc2, hf2⟩ := below_bcell hb2)
      · have h : fewT (.mk k1 n1 s1 l1) x (d + 1) < 0 := by assumption
        go_ret
        refine ⟨ret_int ?_, ?_⟩
        · rw [hO.out, hAA.out, if_pos h]
        · exact hWb2.out.trans ((hbr.trans (hb2.mono hz)).mono (by omega))
      · have h : 0 ≤ fewT (.mk k1 n1 s1 l1) x (d + 1) := by omega
        go_roundw
        case rel =>
          refine ⟨j + 1, _, by omega, by go_num, rfl, h, by omega, ?_, hbr.trans (hb2.mono hz)⟩
          show _ = _
          rw [hAA.out, if_neg (by omega)]
        case measure => simp [intOf]; omega
    · have hjl : j = l.length := by omega
      subst hjl
      go_wp2
      go_ret
      refine ⟨ret_int ?_, hWb.trans (hbr.mono (by omega))⟩
      rw [hO.out, HO.out, List.drop_length, fewAll]

end Go.Proofs.YtminmadaeaiihaaDoor
