/- The document's tree: the places of what a node has. -/
import Derived.Test.YtemkikjcjhmlaaaGreatDoorM13
namespace Go.Proofs.YtemkikjcjhmlaaaGreatDoor
open Go.RowKit
set_option maxRecDepth 100000

set_option maxHeartbeats 4000000 in
theorem rplace_at (o n : Int) (s : ByteArray) (k m : Int) (z : ByteArray) (q : Option Addr) (ql qc : Nat) (p : Option Addr) (len cap : Nat) (a r : Int) (i : Nat) (w : World) (hl : len ≤ 1000000000000) (hi : i < len)
    (hw : (a = 5 ∧ r = 6) ∨ (a = 8 ∧ r = 5) ∨ (a = 6 ∧ r = 3) ∨ (a ≠ 5 ∧ a ≠ 8 ∧ a ≠ 6 ∧ r ≠ 6 ∧ r ≠ 5 ∧ r ≠ 3)) :
    Calls Tryz.prog 29 #[.agg #[.int .i64 o, .int .i64 n, .string s, .int .i64 k, .int .i64 m, .string z, .slice q ql qc, .slice p len cap], .int .i64 r, .int .i64 (i : Int)] w fun e w' => e = .returned (.int .i64 (rp (placeInN o a i ((len : Int) - 1)))) ∧ Below w.heap.size w w' := by
  have HB := Lib.hid ((Below.refl w.heap.size w).alloc (Nat.le_refl _) (.cells #[.int .i64 o, .int .i64 n, .string s, .int .i64 k, .int .i64 m, .string z, .slice q ql qc, .slice p len cap] 33))
  have hl1 : (len : Int) ≤ 1000000000000 := by omega
  have hi1 : (i : Int) < (len : Int) := by omega
  rcases hw with ⟨rfl, rfl⟩ | ⟨rfl, rfl⟩ | ⟨rfl, rfl⟩ | ⟨h5, h8, h6, r6, r5, r3⟩
  · go_enter Tryz.func29, Tryz.ntmps29
    go_wp2
    all_goals go_ret
    all_goals refine ⟨?_, HB.out⟩
    all_goals refine congrArg Ending.returned (congrArg (Value.int .i64) ?_)
    all_goals simp_all [placeInN, rp]
    all_goals have htm : (i : Int).tmod 2 = (i : Int) % 2 := Int.tmod_eq_emod_of_nonneg (by omega)
    all_goals (first | omega | (simp_all; done) | (split <;> simp_all <;> omega))
  · go_enter Tryz.func29, Tryz.ntmps29
    go_wp2
    all_goals go_ret
    all_goals refine ⟨?_, HB.out⟩
    all_goals refine congrArg Ending.returned (congrArg (Value.int .i64) ?_)
    all_goals simp_all [placeInN, rp]
    all_goals have htm : (i : Int).tmod 2 = (i : Int) % 2 := Int.tmod_eq_emod_of_nonneg (by omega)
    all_goals (first | omega | (simp_all; done) | (split <;> simp_all <;> omega))
  · go_enter Tryz.func29, Tryz.ntmps29
    go_wp2
    all_goals go_ret
    all_goals refine ⟨?_, HB.out⟩
    all_goals refine congrArg Ending.returned (congrArg (Value.int .i64) ?_)
    all_goals simp_all [placeInN, rp]
    all_goals have htm : (i : Int).tmod 2 = (i : Int) % 2 := Int.tmod_eq_emod_of_nonneg (by omega)
    all_goals (first | omega | (simp_all; done) | (split <;> simp_all <;> omega))
  · have b6 : (r == 6) = false := by simpa using r6
    have b5 : (r == 5) = false := by simpa using r5
    have b3 : (r == 3) = false := by simpa using r3
    go_enter Tryz.func29, Tryz.ntmps29
    go_wp2
    all_goals go_ret
    all_goals refine ⟨?_, HB.out⟩
    all_goals refine congrArg Ending.returned (congrArg (Value.int .i64) ?_)
    all_goals simp_all [placeInN, rp]
    all_goals have htm : (i : Int).tmod 2 = (i : Int) % 2 := Int.tmod_eq_emod_of_nonneg (by omega)
    all_goals (first | omega | (simp_all; done) | (split <;> simp_all <;> omega))
end Go.Proofs.YtemkikjcjhmlaaaGreatDoor
