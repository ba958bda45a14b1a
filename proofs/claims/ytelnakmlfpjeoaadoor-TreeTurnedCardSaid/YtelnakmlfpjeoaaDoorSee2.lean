/- Errors as plain data, further: which of api's errors one is; Fault, Same, Is. -/
import Derived.Test.YtelnakmlfpjeoaaDoorSee
import Derived.Deep.RegionHeld3
namespace Go.Proofs.YtelnakmlfpjeoaaDoor
open Go.RowKit
set_option maxRecDepth 100000

def SentList (ad : Nat → Addr) (w : World) (e : Ending) (w' : World) : Prop :=
  e = .returned (.slice (some ⟨w.heap.size, 0, none⟩) 17 17) ∧ Below w.heap.size w w' ∧ ∀ i, i < 17 → w'.cell? ⟨w.heap.size, i, none⟩ = some (ev (ad i))

set_option maxHeartbeats 1000000 in
theorem sentinels_any (ad : Nat → Addr) (w : World) (hS : Sents w ad) : Calls Tryd.prog 124 #[] w (SentList ad w) := by
  have v0 := hS.var 0 (by omega)
  have v1 := hS.var 1 (by omega)
  have v2 := hS.var 2 (by omega)
  have v3 := hS.var 3 (by omega)
  have v4 := hS.var 4 (by omega)
  have v5 := hS.var 5 (by omega)
  have v6 := hS.var 6 (by omega)
  have v7 := hS.var 7 (by omega)
  have v8 := hS.var 8 (by omega)
  have v9 := hS.var 9 (by omega)
  have v10 := hS.var 10 (by omega)
  have v11 := hS.var 11 (by omega)
  have v12 := hS.var 12 (by omega)
  have v13 := hS.var 13 (by omega)
  have v14 := hS.var 14 (by omega)
  have v15 := hS.var 15 (by omega)
  have v16 := hS.var 16 (by omega)
  simp only [gOf, List.getD_cons_zero, List.getD_cons_succ, ev] at v0 v1 v2 v3 v4 v5 v6 v7 v8 v9 v10 v11 v12 v13 v14 v15 v16
  go_enter Tryd.func124, Tryd.ntmps124
  go_wp2
  go_ret
  refine ⟨rfl, (Below.refl _ _).alloc (Nat.le_refl _) _, fun i hi => ?_⟩
  refine (cell_of_row _ _ i _ _ _ (heap_alloc_new w _)).trans ?_
  have hc : i = 0 ∨ i = 1 ∨ i = 2 ∨ i = 3 ∨ i = 4 ∨ i = 5 ∨ i = 6 ∨ i = 7 ∨ i = 8 ∨ i = 9 ∨ i = 10 ∨ i = 11 ∨ i = 12 ∨ i = 13 ∨ i = 14 ∨ i = 15 ∨ i = 16 := by omega
  rcases hc with rfl | rfl | rfl | rfl | rfl | rfl | rfl | rfl | rfl | rfl | rfl | rfl | rfl | rfl | rfl | rfl | rfl <;> rfl

set_option maxHeartbeats 1000000 in
theorem sentinel_any (ad : Nat → Addr) (k : Nat) (hk : k < 17) (w : World) (hS : Sents w ad) : Calls Tryd.prog 92 #[ev (ad k)] w fun e w' => e = .returned (.int .i64 (101 + k)) ∧ Below w.heap.size w w' := by
  go_enter Tryd.func92, Tryd.ntmps92
  go_wp2_with (go_at_call 124; refine (sentinels_any ad _ hS).mono ?_; rintro e w2 ⟨rfl, hb2, hc2⟩; have HC := Lib.hid hc2; clear hc2; have HS2 := Lib.hid (hS.below hb2))
  go_loop [4] (fun i => ∃ j : Nat, j ≤ k ∧ i = .int .i64 j) (fun i => 17 - (intOf i).toNat)
  case atStart => exact ⟨0, Nat.zero_le _, rfl⟩
  case round =>
    obtain ⟨j, hj, rfl⟩ := hrel
    have hc := HC.out j (by omega)
    have hj17 : j < 17 := by omega
    by_cases hjk : j = k
    · subst hjk
      go_wp2_with (go_at_call 125; refine (seeAlike_any ad j j hk hk _ HS2.out).mono ?_; rintro e w3 ⟨rfl, rfl⟩; rw [show (j == j) = true from by simp])
      go_ret
      exact ⟨ret_int (by omega), hb2⟩
    · go_wp2_with (go_at_call 125; refine (seeAlike_any ad k j hk hj17 _ HS2.out).mono ?_; rintro e w3 ⟨rfl, rfl⟩; rw [show (k == j) = false from beq_eq_false_iff_ne.2 (by omega)])
      go_round
      case rel => exact ⟨j + 1, by omega, by go_num⟩
      case measure => simp [intOf]; omega

theorem below_set7 {B g : Nat} {a w : World} (h : Below B a w) (hg : B ≤ g) (c0 c1 c2 c3 c4 c5 c6 : Value) :
    Below B a (((((((w.setCell ⟨g, 0, none⟩ c0).setCell ⟨g, 1, none⟩ c1).setCell ⟨g, 2, none⟩ c2).setCell ⟨g, 3, none⟩ c3).setCell ⟨g, 4, none⟩ c4).setCell ⟨g, 5, none⟩ c5).setCell ⟨g, 6, none⟩ c6) :=
  ((((((h.setCell hg c0).setCell hg c1).setCell hg c2).setCell hg c3).setCell hg c4).setCell hg c5).setCell hg c6
theorem assert_raise (W : World) (a : Addr) : (Instr.typeAssert (.iface 194 (.pointer (some a))) 33 116 true).run Tryd.prog W = .ok (.tuple #[.pointer none, .bool false]) W := by kernel_rfl
theorem assert_at (W : World) (a : Addr) : (Instr.typeAssert (.iface 194 (.pointer (some a))) 33 88 true).run Tryd.prog W = .ok (.tuple #[.pointer none, .bool false]) W := by kernel_rfl

set_option maxHeartbeats 1000000 in
theorem inner_any (ad : Nat → Addr) (k : Nat) (hk : k < 17) (w : World) (hS : Sents w ad) : Calls Tryd.prog 61 #[ev (ad k)] w fun e w' => e = .returned (fv (101 + k)) ∧ Below w.heap.size w w' := by
  have HS := Lib.hid (hS.below (w' := w.alloc (.cells #[.int .i64 0, .bool false, .int .i64 0, .int .i64 0, .int .i64 0, .string ⟨#[]⟩, .slice none 0 0] 36)) ((Below.refl _ _).alloc (Nat.le_refl _) _))
  clear hS
  have sE := fun W h => Lib.hid (sentinel_any ad k hk W h)
  unfold ev at sE ⊢
  have hAs := fun W => assert_raise W (ad k)
  go_enter Tryd.func61, Tryd.ntmps61
  go_wp2_with (first
    | (go_at_call 92; refine (sE _ HS.out).out.mono ?_; rintro e w2 ⟨rfl, hb2⟩)
    | (go_at_call 43; refine (bare_any _ _).mono ?_; unfold fv; rintro e w3 ⟨rfl, hb3⟩; have hb4 := hb2.trans (hb3.mono hb2.size); obtain ⟨hx0, hx1, hx2, hx3, hx4, hx5, hx6, hxf⟩ := box7_in w3 w.heap.size _ _ _ _ _ _ _ _ (heap_old (heap_alloc_new w _) hb4); have hxf0 := hxf 0; have hxf1 := hxf 1; have hxf2 := hxf 2; have hxf3 := hxf 3; have hxf4 := hxf 4; have hxf5 := hxf 5; have hxf6 := hxf 6; clear hxf; have HB4 := Lib.hid hb4))
  refine bodyPost_ret (v := fv (101 + k)) (by unfold fv; simp [results, Tryd.results61, go_sem, hx0, hx1, hx2, hx3, hx4, hx5, hx6]) rfl ?_
  exact ⟨rfl, below_set7 (((Below.refl _ _).alloc (Nat.le_refl _) _).trans (HB4.out.mono (by simp))) (Nat.le_refl _) _ _ _ _ _ _ _⟩

set_option maxHeartbeats 1000000 in
theorem fault_any (ad : Nat → Addr) (k : Nat) (hk : k < 17) (w : World) (hS : Sents w ad) : Calls Tryd.prog 40 #[ev (ad k)] w fun e w' => e = .returned (fv (101 + k)) ∧ Below w.heap.size w w' := by
  have HS := Lib.hid (hS.below (w' := w.alloc (.cells #[.int .i64 0, .bool false, .int .i64 0, .int .i64 0, .int .i64 0, .string ⟨#[]⟩, .slice none 0 0] 36)) ((Below.refl _ _).alloc (Nat.le_refl _) _))
  clear hS
  have sE := fun W h => Lib.hid (inner_any ad k hk W h)
  unfold ev at sE ⊢
  have hAs := fun W => assert_at W (ad k)
  go_enter Tryd.func40, Tryd.ntmps40
  go_wp2_with (go_at_call 61; refine (sE _ HS.out).out.mono ?_; unfold fv; rintro e w3 ⟨rfl, hb4⟩; obtain ⟨hx0, hx1, hx2, hx3, hx4, hx5, hx6, hxf⟩ := box7_in w3 w.heap.size _ _ _ _ _ _ _ _ (heap_old (heap_alloc_new w _) hb4); have hxf0 := hxf 0; have hxf1 := hxf 1; have hxf2 := hxf 2; have hxf3 := hxf 3; have hxf4 := hxf 4; have hxf5 := hxf 5; have hxf6 := hxf 6; clear hxf; have HB4 := Lib.hid hb4)
  refine bodyPost_ret (v := fv (101 + k)) (by unfold fv; simp [results, Tryd.results40, go_sem, hx0, hx1, hx2, hx3, hx4, hx5, hx6]) rfl ?_
  exact ⟨rfl, below_set7 (((Below.refl _ _).alloc (Nat.le_refl _) _).trans (HB4.out.mono (by simp))) (Nat.le_refl _) _ _ _ _ _ _ _⟩

set_option maxHeartbeats 1000000 in
theorem fault_nil (w : World) : Calls Tryd.prog 40 #[.nilIface] w fun e w' => e = .returned (fv 0) ∧ Below w.heap.size w w' := by
  go_enter Tryd.func40, Tryd.ntmps40
  go_wp2_with (go_at_call 45; refine (none_any _).mono ?_; unfold fv; rintro e w3 ⟨rfl, hb4⟩; obtain ⟨hx0, hx1, hx2, hx3, hx4, hx5, hx6, hxf⟩ := box7_in w3 w.heap.size _ _ _ _ _ _ _ _ (heap_old (heap_alloc_new w _) hb4); have hxf0 := hxf 0; have hxf1 := hxf 1; have hxf2 := hxf 2; have hxf3 := hxf 3; have hxf4 := hxf 4; have hxf5 := hxf 5; have hxf6 := hxf 6; clear hxf; have HB4 := Lib.hid hb4)
  refine bodyPost_ret (v := fv 0) (by unfold fv; simp [results, Tryd.results40, go_sem, hx0, hx1, hx2, hx3, hx4, hx5, hx6]) rfl ?_
  exact ⟨rfl, below_set7 (((Below.refl _ _).alloc (Nat.le_refl _) _).trans (HB4.out.mono (by simp))) (Nat.le_refl _) _ _ _ _ _ _ _⟩

/-- An error as the statements see it: none, or the k-th of api's. -/
def errVal (ad : Nat → Addr) : Option Nat → Value
  | none => .nilIface
  | some k => ev (ad k)
def errCode : Option Nat → Int
  | none => 0
  | some k => 101 + k
theorem faultOf_any (ad : Nat → Addr) (o : Option Nat) (ho : ∀ k, o = some k → k < 17) (w : World) (hS : Sents w ad) : Calls Tryd.prog 40 #[errVal ad o] w fun e w' => e = .returned (fv (errCode o)) ∧ Below w.heap.size w w' := by
  cases o with
  | none => exact fault_nil w
  | some k => exact fault_any ad k (ho k rfl) w hS

set_option maxHeartbeats 1000000 in
theorem seeSame_any (ad : Nat → Addr) (o : Option Nat) (ho : ∀ k, o = some k → k < 17) (c : Int) (w : World) (hS : Sents w ad) : Calls Tryd.prog 11 #[errVal ad o, fv c] w fun e w' => e = .returned (.bool (errCode o == c)) ∧ Below w.heap.size w w' := by
  have HS : ∀ W', Below w.heap.size w W' → Hid (Sents W' ad) := fun W' hb => hS.below hb
  clear hS
  have sF := fun a b W => Lib.hid (sameFault_any a b W)
  have sE := fun W h => Lib.hid (faultOf_any ad o ho W h)
  unfold fv at sE sF ⊢
  go_enter Tryd.func11, Tryd.ntmps11
  go_wp2
  have hB := heap_alloc_new w (.cells #[.int .i64 c, .bool false, .int .i64 0, .int .i64 0, .int .i64 0, .string ByteArray.empty, .slice none 0 0] 36)
  obtain ⟨hx0, hx1, hx2, hx3, hx4, hx5, hx6, _⟩ := box7_in _ w.heap.size _ _ _ _ _ _ _ _ hB
  have HB := Lib.hid hB; clear hB
  go_region_held3 (fun w' => w'.cell? ⟨w.heap.size, 0, none⟩ = some (.int .i64 c) ∧ w'.cell? ⟨w.heap.size, 1, none⟩ = some (.bool false) ∧ w'.cell? ⟨w.heap.size, 2, none⟩ = some (.int .i64 0) ∧ w'.cell? ⟨w.heap.size, 3, none⟩ = some (.int .i64 0) ∧ w'.cell? ⟨w.heap.size, 4, none⟩ = some (.int .i64 0) ∧ w'.cell? ⟨w.heap.size, 5, none⟩ = some (.string ByteArray.empty) ∧ w'.cell? ⟨w.heap.size, 6, none⟩ = some (.slice none 0 0)) (first | exact ⟨hx0, hx1, hx2, hx3, hx4, hx5, hx6⟩ | exact ⟨hy0, hy1, hy2, hy3, hy4, hy5, hy6⟩ | exact ⟨hz0, hz1, hz2, hz3, hz4, hz5, hz6⟩ | (go_show; fail)) (first
    | (go_at_call 40; refine (sE _ (HS _ ((Below.refl _ _).alloc (Nat.le_refl _) _).drew).out).out.mono ?_; rintro e w2 ⟨rfl, hb2⟩; obtain ⟨hy0, hy1, hy2, hy3, hy4, hy5, hy6, _⟩ := box7_in w2 w.heap.size _ _ _ _ _ _ _ _ (heap_old (heap_drew HB.out) hb2); have HB2 := Lib.hid (heap_old (heap_drew HB.out) hb2); have HW2 := Lib.hid (((Below.refl w.heap.size w).alloc (Nat.le_refl _) _).drew.trans (hb2.mono (by simp))))
    | (go_at_call 39; refine (sF _ _ _).out.mono ?_; rintro e w3 ⟨rfl, hb3⟩; obtain ⟨hz0, hz1, hz2, hz3, hz4, hz5, hz6, _⟩ := box7_in w3 w.heap.size _ _ _ _ _ _ _ _ (heap_old HB2.out hb3))
    | (go_show; fail))
  go_wp2
  go_ret
  exact ⟨rfl, HW2.out.trans (hb3.mono HW2.out.size)⟩

end Go.Proofs.YtelnakmlfpjeoaaDoor
