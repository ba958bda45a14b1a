/- Contracts of small functions: of the library, and of the statements' helpers. -/
import Derived.Test.YtjipchloebbldaaVal
import Derived.Lib.Bytealg
namespace Go.Proofs.Ytjipchloebbldaa
open Go.RowKit

set_option maxHeartbeats 400000 in
theorem isNaNInt_any (a : Int) (w : World) :
    Calls Try.prog 85 #[.int .i64 a] w fun e w' => e = .returned (.bool false) ∧ w' = w := by
  go_enter Try.func85, Try.ntmps85
  go_wp2
  go_ret
  exact ⟨rfl, rfl⟩
set_option maxHeartbeats 400000 in
theorem isNaNInt64_any (a : Int) (w : World) :
    Calls Try.prog 87 #[.int .i64 a] w fun e w' => e = .returned (.bool false) ∧ w' = w := by
  go_enter Try.func87, Try.ntmps87
  go_wp2
  go_ret
  exact ⟨rfl, rfl⟩
set_option maxHeartbeats 400000 in
theorem cmpInt_any (a b : Int) (w : World) :
    Calls Try.prog 68 #[.int .i64 a, .int .i64 b] w fun e w' => e = .returned (.int .i64 (cmpI a b)) ∧ w' = w := by
  go_enter Try.func68, Try.ntmps68
  go_wp2_with (go_at_call 85; refine (isNaNInt_any _ _).mono ?_; rintro e w1 ⟨rfl, rfl⟩)
  all_goals
    go_ret
    exact ⟨ret_int (by unfold cmpI; split <;> (try split) <;> omega), rfl⟩
set_option maxHeartbeats 400000 in
theorem cmpInt64_any (a b : Int) (w : World) :
    Calls Try.prog 71 #[.int .i64 a, .int .i64 b] w fun e w' => e = .returned (.int .i64 (cmpI a b)) ∧ w' = w := by
  go_enter Try.func71, Try.ntmps71
  go_wp2_with (go_at_call 87; refine (isNaNInt64_any _ _).mono ?_; rintro e w1 ⟨rfl, rfl⟩)
  all_goals
    go_ret
    exact ⟨ret_int (by unfold cmpI; split <;> (try split) <;> omega), rfl⟩

set_option maxRecDepth 100000 in
set_option maxHeartbeats 400000 in
theorem bytealgCompare_any (a b : ByteArray) (w : World) :
    Calls Try.prog 86 #[.string a, .string b] w fun e w' => e = .returned (.int .i64 (Lib.compareBytes a.data.toList b.data.toList)) ∧ w' = w := by
  go_enter Try.func86, Try.ntmps86
  go_wp2
  rw [run_callFunc_extern Try.func89 (by kernel_rfl) (by kernel_rfl) (by kernel_rfl) (e := Extern.BytealgCompare.compare) (by kernel_rfl), Lib.run_compareString]
  simp only [Result.andThen]
  rw [Oper.upon_value]
  go_wp2
  go_ret
  exact ⟨rfl, rfl⟩
set_option maxHeartbeats 400000 in
theorem strCompare_any (a b : ByteArray) (w : World) :
    Calls Try.prog 69 #[.string a, .string b] w fun e w' => e = .returned (.int .i64 (Lib.compareBytes a.data.toList b.data.toList)) ∧ w' = w := by
  go_enter Try.func69, Try.ntmps69
  go_wp2_with (go_at_call 86; refine (bytealgCompare_any _ _ _).mono ?_; rintro e w1 ⟨rfl, rfl⟩)
  go_ret
  exact ⟨rfl, rfl⟩

/-- Number: the rest, from 0 on. -/
def numB (n b : Int) : Int := n % b
set_option maxHeartbeats 400000 in
theorem number_any (n b : Int) (w : World) (hn : I64 n) (hb : 1 ≤ b) (hb2 : b ≤ 1000000) :
    Calls Try.prog 29 #[.int .i64 n, .int .i64 b] w fun e w' => e = .returned (.int .i64 (numB n b)) ∧ w' = w := by
  obtain ⟨hn1, hn2⟩ := hn
  have ht := tmod_bounds n b hb
  have he := Lib.hid (emod_of_tmod n b hb)
  go_enter Try.func29, Try.ntmps29
  go_wp2
  · have h : n.tmod b < 0 := by assumption
    go_ret
    refine ⟨ret_int ?_, rfl⟩
    unfold numB; rw [he.out, if_pos h]
  · have h : 0 ≤ n.tmod b := by assumption
    go_ret
    refine ⟨ret_int ?_, rfl⟩
    unfold numB; rw [he.out, if_neg (by omega)]

end Go.Proofs.Ytjipchloebbldaa
