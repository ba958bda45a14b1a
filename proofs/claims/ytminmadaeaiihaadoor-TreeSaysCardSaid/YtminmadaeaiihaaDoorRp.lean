/- The document's tree: what may stand where. -/
import Derived.Test.YtminmadaeaiihaaDoorTh2
namespace Go.Proofs.YtminmadaeaiihaaDoor
open Go.RowKit
set_option maxRecDepth 100000

/-- The document's number of a place. -/
def rp (a : Int) : Int := if a = 0 then 9 else if a = 1 then 7 else if a = 2 then 8 else if a = 3 then 1 else if a = 4 then 2 else if a = 5 then 6 else if a = 6 then 3 else if a = 7 then 4 else 5

set_option maxHeartbeats 400000 in
theorem rexpr_any (o : Int) (w : World) : Calls Tryd.prog 114 #[.int .i64 o] w fun e w' => e = .returned (.bool (isExprB o)) ∧ w' = w := by
  go_enter Tryd.func114, Tryd.ntmps114
  by_cases h1 : (1 : Int) ≤ o
  · by_cases h2 : o ≤ 29
    · have h3 : isExprB o = (o != 26) := by simp [isExprB, h1, h2]
      go_wp2
      go_ret
      exact ⟨by first | rfl | (rw [h3]; rfl), rfl⟩
    · have h3 : isExprB o = false := by simp [isExprB, h2]
      go_wp2
      go_ret
      exact ⟨by first | rfl | (rw [h3]; rfl), rfl⟩
  · have h3 : isExprB o = false := by simp [isExprB, h1]
    go_wp2
    go_ret
    exact ⟨by first | rfl | (rw [h3]; rfl), rfl⟩
set_option maxHeartbeats 400000 in
theorem rstmt_any (o : Int) (w : World) : Calls Tryd.prog 115 #[.int .i64 o] w fun e w' => e = .returned (.bool (isStmtB o)) ∧ w' = w := by
  go_enter Tryd.func115, Tryd.ntmps115
  by_cases h1 : (40 : Int) ≤ o
  · by_cases h2 : o ≤ 51
    · have h3 : isStmtB o = (o != 50) := by simp [isStmtB, h1, h2]
      go_wp2
      go_ret
      exact ⟨by first | rfl | (rw [h3]; rfl), rfl⟩
    · have h3 : isStmtB o = false := by simp [isStmtB, h2]
      go_wp2
      go_ret
      exact ⟨by first | rfl | (rw [h3]; rfl), rfl⟩
  · have h3 : isStmtB o = false := by simp [isStmtB, h1]
    go_wp2
    go_ret
    exact ⟨by first | rfl | (rw [h3]; rfl), rfl⟩

set_option maxHeartbeats 1000000 in
theorem stands_any (o a : Int) (ha : 0 ≤ a ∧ a ≤ 8) (w : World) : Calls Tryd.prog 80 #[.int .i64 o, .int .i64 (rp a)] w fun e w' => e = .returned (.bool (mayStandB o a true)) ∧ w' = w := by
  have hc : a = 0 ∨ a = 1 ∨ a = 2 ∨ a = 3 ∨ a = 4 ∨ a = 5 ∨ a = 6 ∨ a = 7 ∨ a = 8 := by omega
  clear ha
  have HX := Lib.hid (fun w => rexpr_any o w)
  have HT := Lib.hid (fun w => rstmt_any o w)
  rcases hc with rfl | rfl | rfl | rfl | rfl | rfl | rfl | rfl | rfl
  · rw [show rp 0 = 9 from rfl]
    have HM := Lib.hid (show mayStandB o 0 true = isStmtB o from by simp [mayStandB])
    go_enter Tryd.func80, Tryd.ntmps80
    go_wp2_with (go_at_call 115; refine (HT.out _).mono ?_; rintro e w2 ⟨rfl, rfl⟩)
    go_ret; exact ⟨by rw [HM.out]; rfl, rfl⟩
  · rw [show rp 1 = 7 from rfl]
    have HM := Lib.hid (show mayStandB o 1 true = (o == 52) from by simp [mayStandB])
    go_enter Tryd.func80, Tryd.ntmps80
    go_wp2
    go_ret; exact ⟨by rw [HM.out]; rfl, rfl⟩
  · rw [show rp 2 = 8 from rfl]
    have HM := Lib.hid (show mayStandB o 2 true = (o == 50) from by simp [mayStandB])
    go_enter Tryd.func80, Tryd.ntmps80
    go_wp2
    go_ret; exact ⟨by rw [HM.out]; rfl, rfl⟩
  · rw [show rp 3 = 1 from rfl]
    have HM := Lib.hid (show mayStandB o 3 true = isExprB o from by simp [mayStandB])
    go_enter Tryd.func80, Tryd.ntmps80
    go_wp2_with (go_at_call 114; refine (HX.out _).mono ?_; rintro e w2 ⟨rfl, rfl⟩)
    go_ret; exact ⟨by rw [HM.out]; rfl, rfl⟩
  · rw [show rp 4 = 2 from rfl]
    obtain ⟨b, hb⟩ : ∃ b, b = isExprB o := ⟨_, rfl⟩
    have HM := Lib.hid (show mayStandB o 4 true = (b || (o == 26)) from by rw [hb]; simp [mayStandB, Bool.or_comm])
    rw [← hb] at HX
    clear hb
    go_enter Tryd.func80, Tryd.ntmps80
    cases b
    · go_wp2_with (go_at_call 114; refine (HX.out _).mono ?_; rintro e w2 ⟨rfl, rfl⟩)
      go_ret; exact ⟨by rw [HM.out]; rfl, rfl⟩
    · go_wp2_with (go_at_call 114; refine (HX.out _).mono ?_; rintro e w2 ⟨rfl, rfl⟩)
      go_ret; exact ⟨by rw [HM.out]; rfl, rfl⟩
  · rw [show rp 5 = 6 from rfl]
    have HM := Lib.hid (show mayStandB o 5 true = (o == 25) from by simp [mayStandB])
    go_enter Tryd.func80, Tryd.ntmps80
    go_wp2
    go_ret; exact ⟨by rw [HM.out]; rfl, rfl⟩
  · rw [show rp 6 = 3 from rfl]
    have HM := Lib.hid (show mayStandB o 6 true = (((o == 2) || (o == 22)) || (o == 20)) from by simp [mayStandB])
    go_enter Tryd.func80, Tryd.ntmps80
    by_cases k2 : o = 2
    · subst k2; go_wp2; go_ret; exact ⟨by rw [HM.out]; rfl, rfl⟩
    have k2b : (o == 2) = false := by simpa using k2
    by_cases k22 : o = 22
    · subst k22; go_wp2; go_ret; exact ⟨by rw [HM.out]; rfl, rfl⟩
    have k22b : (o == 22) = false := by simpa using k22
    go_wp2; go_ret; exact ⟨by rw [HM.out, k2b, k22b]; rfl, rfl⟩
  · rw [show rp 7 = 4 from rfl]
    have HM := Lib.hid (show mayStandB o 7 true = (o == 2) from by simp [mayStandB])
    go_enter Tryd.func80, Tryd.ntmps80
    go_wp2
    go_ret; exact ⟨by rw [HM.out]; rfl, rfl⟩
  · rw [show rp 8 = 5 from rfl]
    have HM := Lib.hid (show mayStandB o 8 true = ((o == 2) || (o == 26)) from by simp [mayStandB])
    go_enter Tryd.func80, Tryd.ntmps80
    by_cases k2 : o = 2
    · subst k2; go_wp2; go_ret; exact ⟨by rw [HM.out]; rfl, rfl⟩
    have k2b : (o == 2) = false := by simpa using k2
    go_wp2; go_ret; exact ⟨by rw [HM.out, k2b]; rfl, rfl⟩

set_option maxHeartbeats 1000000 in
theorem counts_any (o : Int) (k : Nat) (hk : k ≤ 9223372036854775807) (w : World) : Calls Tryd.prog 81 #[.int .i64 o, .int .i64 (k : Int)] w fun e w' => e = .returned (.bool (enoughB o k)) ∧ w' = w := by
  go_enter Tryd.func81, Tryd.ntmps81
  go_wp2
  all_goals go_ret
  all_goals refine ⟨?_, rfl⟩
  all_goals refine congrArg Ending.returned (congrArg Value.bool ?_)
  all_goals rw [Bool.eq_iff_iff]
  all_goals simp_all [enoughB, boundsN]
  all_goals omega
end Go.Proofs.YtminmadaeaiihaaDoor
