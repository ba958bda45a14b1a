/- Package tree: what may stand where: the small functions. -/
import Derived.Test.YtminmadaeaiihaaDoorTp
import Derived.Test.YtminmadaeaiihaaDoorProg
import Derived.WalkKit
import Derived.ProofKit
import Derived.WalkSpells
namespace Go.Proofs.YtminmadaeaiihaaDoor
open Go.RowKit
set_option maxRecDepth 100000

set_option maxHeartbeats 400000 in
theorem isStmt_any (o : Int) (w : World) : Calls Tryd.prog 135 #[.int .i64 o] w fun e w' => e = .returned (.bool (isStmtB o)) ∧ w' = w := by
  go_enter Tryd.func135, Tryd.ntmps135
  by_cases h1 : (40 : Int) ≤ o
  · by_cases h2 : o ≤ 51
    · have h3 : isStmtB o = (o != 50) := by simp [isStmtB, h1, h2]
      go_wp2
      go_ret
      exact ⟨by first | rfl | (rw [h3]; rfl), rfl⟩
    · have h3 : isStmtB o = false := by simp [isStmtB, h2]
      go_wp2
      go_ret
      exact ⟨by first | rfl | (rw [h3]; rfl), rfl⟩
  · have h3 : isStmtB o = false := by simp [isStmtB, h1]
    go_wp2
    go_ret
    exact ⟨by first | rfl | (rw [h3]; rfl), rfl⟩
set_option maxHeartbeats 400000 in
theorem isExpr_any (o : Int) (w : World) : Calls Tryd.prog 136 #[.int .i64 o] w fun e w' => e = .returned (.bool (isExprB o)) ∧ w' = w := by
  go_enter Tryd.func136, Tryd.ntmps136
  by_cases h1 : (1 : Int) ≤ o
  · by_cases h2 : o ≤ 29
    · have h3 : isExprB o = (o != 26) := by simp [isExprB, h1, h2]
      go_wp2
      go_ret
      exact ⟨by first | rfl | (rw [h3]; rfl), rfl⟩
    · have h3 : isExprB o = false := by simp [isExprB, h2]
      go_wp2
      go_ret
      exact ⟨by first | rfl | (rw [h3]; rfl), rfl⟩
  · have h3 : isExprB o = false := by simp [isExprB, h1]
    go_wp2
    go_ret
    exact ⟨by first | rfl | (rw [h3]; rfl), rfl⟩
set_option maxHeartbeats 400000 in
theorem isNamed_any (o : Int) (w : World) : Calls Tryd.prog 107 #[.int .i64 o] w fun e w' => e = .returned (.bool (isNamedB o)) ∧ w' = w := by
  go_enter Tryd.func107, Tryd.ntmps107
  go_wp2
  all_goals (go_ret; exact ⟨by simp_all [isNamedB], rfl⟩)
set_option maxHeartbeats 400000 in
theorem either_any (b : Bool) (x y : Int) (w : World) : Calls Tryd.prog 140 #[.bool b, .int .i64 x, .int .i64 y] w fun e w' => e = .returned (.int .i64 (if b then x else y)) ∧ w' = w := by
  go_enter Tryd.func140, Tryd.ntmps140
  cases b
  · go_wp2; go_ret; exact ⟨rfl, rfl⟩
  · go_wp2; go_ret; exact ⟨rfl, rfl⟩
set_option maxHeartbeats 400000 in
theorem bounds_any (o : Int) (w : World) : Calls Tryd.prog 137 #[.int .i64 o] w fun e w' => e = .returned (.tuple #[.int .i64 (boundsN o).1, .int .i64 (boundsN o).2]) ∧ w' = w := by
  go_enter Tryd.func137, Tryd.ntmps137
  go_wp2
  all_goals (go_ret2; exact ⟨by simp_all [boundsN], rfl⟩)
set_option maxHeartbeats 1000000 in
theorem mayStand_any (o at_ : Int) (lp : Bool) (w : World) : Calls Tryd.prog 104 #[.int .i64 o, .int .i64 at_, .bool lp] w fun e w' => e = .returned (.bool (mayStandB o at_ lp)) ∧ w' = w := by
  go_enter Tryd.func104, Tryd.ntmps104
  by_cases h0 : at_ = 0
  · subst h0
    have hm : mayStandB o 0 lp = (isStmtB o && (lp || ((o != 45) && (o != 46)))) := by simp [mayStandB]
    have HM := Lib.hid hm
    clear hm
    obtain ⟨st, hst⟩ : ∃ st, st = isStmtB o := ⟨_, rfl⟩
    have HS := Lib.hid (show ∀ w, Calls Tryd.prog 135 #[.int .i64 o] w fun e w' => e = .returned (.bool st) ∧ w' = w from fun w => hst ▸ isStmt_any o w)
    rw [← hst] at HM
    clear hst
    cases st
    · go_wp2_with (go_at_call 135; refine (HS.out _).mono ?_; rintro e w2 ⟨rfl, rfl⟩)
      go_ret
      exact ⟨by rw [HM.out]; rfl, rfl⟩
    · cases lp
      · by_cases h45 : o = 45
        · subst h45
          go_wp2_with (go_at_call 135; refine (HS.out _).mono ?_; rintro e w2 ⟨rfl, rfl⟩)
          go_ret
          exact ⟨by rw [HM.out]; rfl, rfl⟩
        · have h45b : (o != 45) = true := by simpa using h45
          go_wp2_with (go_at_call 135; refine (HS.out _).mono ?_; rintro e w2 ⟨rfl, rfl⟩)
          go_ret
          exact ⟨by rw [HM.out]; simp [h45], rfl⟩
      · go_wp2_with (go_at_call 135; refine (HS.out _).mono ?_; rintro e w2 ⟨rfl, rfl⟩)
        go_ret
        exact ⟨by rw [HM.out]; rfl, rfl⟩
  have b0 : (at_ == 0) = false := by simpa using h0
  by_cases h1 : at_ = 1
  · subst h1
    go_wp2; go_ret; exact ⟨rfl, rfl⟩
  have b1 : (at_ == 1) = false := by simpa using h1
  by_cases h2 : at_ = 2
  · subst h2
    go_wp2; go_ret; exact ⟨rfl, rfl⟩
  have b2 : (at_ == 2) = false := by simpa using h2
  by_cases h4 : at_ = 4
  · subst h4
    have HM := Lib.hid (show mayStandB o 4 lp = ((o == 26) || isExprB o) from by simp [mayStandB])
    by_cases h26 : o = 26
    · subst h26
      go_wp2; go_ret; exact ⟨rfl, rfl⟩
    · have h26b : (o == 26) = false := by simpa using h26
      go_wp2_with (go_at_call 136; refine (isExpr_any o _).mono ?_; rintro e w2 ⟨rfl, rfl⟩)
      go_ret
      exact ⟨by rw [HM.out, h26b]; rfl, rfl⟩
  have b4 : (at_ == 4) = false := by simpa using h4
  by_cases h5 : at_ = 5
  · subst h5
    go_wp2; go_ret; exact ⟨rfl, rfl⟩
  have b5 : (at_ == 5) = false := by simpa using h5
  by_cases h6 : at_ = 6
  · subst h6
    have HM := Lib.hid (show mayStandB o 6 lp = (((o == 2) || (o == 22)) || (o == 20)) from by simp [mayStandB])
    by_cases k2 : o = 2
    · subst k2; go_wp2; go_ret; exact ⟨rfl, rfl⟩
    have k2b : (o == 2) = false := by simpa using k2
    by_cases k22 : o = 22
    · subst k22; go_wp2; go_ret; exact ⟨rfl, rfl⟩
    have k22b : (o == 22) = false := by simpa using k22
    go_wp2; go_ret; exact ⟨by rw [HM.out, k2b, k22b]; rfl, rfl⟩
  have b6 : (at_ == 6) = false := by simpa using h6
  by_cases h7 : at_ = 7
  · subst h7
    go_wp2; go_ret; exact ⟨rfl, rfl⟩
  have b7 : (at_ == 7) = false := by simpa using h7
  by_cases h8 : at_ = 8
  · subst h8
    have HM := Lib.hid (show mayStandB o 8 lp = ((o == 2) || (o == 26)) from by simp [mayStandB])
    by_cases k2 : o = 2
    · subst k2; go_wp2; go_ret; exact ⟨rfl, rfl⟩
    have k2b : (o == 2) = false := by simpa using k2
    go_wp2; go_ret; exact ⟨by rw [HM.out, k2b]; rfl, rfl⟩
  have b8 : (at_ == 8) = false := by simpa using h8
  have HM := Lib.hid (show mayStandB o at_ lp = isExprB o from by simp [mayStandB, h0, h1, h2, h4, h5, h6, h7, h8])
  go_wp2_with (go_at_call 136; refine (isExpr_any o _).mono ?_; rintro e w2 ⟨rfl, rfl⟩)
  go_ret
  exact ⟨by rw [HM.out]; rfl, rfl⟩
end Go.Proofs.YtminmadaeaiihaaDoor
