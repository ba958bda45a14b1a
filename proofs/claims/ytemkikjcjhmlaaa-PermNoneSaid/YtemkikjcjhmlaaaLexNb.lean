/- The world's Number. -/
import Derived.Test.YtemkikjcjhmlaaaRows
import Derived.Test.YtemkikjcjhmlaaaBase
import Derived.Handy
import Derived.WalkSpells
namespace Go.Proofs.Ytemkikjcjhmlaaa
open Go.RowKit
set_option maxRecDepth 100000

set_option maxHeartbeats 400000 in
theorem number6_any (n b : Int) (w : World) (hn : I64 n) (hb : 1 ≤ b) (hb2 : b ≤ 1000000) :
    Calls Try.prog 20 #[.int .i64 n, .int .i64 b] w fun e w' => e = .returned (.int .i64 (n % b)) ∧ w = w' := by
  obtain ⟨hn1, hn2⟩ := hn
  have ht := tmod_bounds n b hb
  have he := Lib.hid (emod_of_tmod n b hb)
  go_enter Try.func20, Try.ntmps20
  go_wp2
  · have h : n.tmod b < 0 := by assumption
    go_ret
    refine ⟨ret_int ?_, rfl⟩
    rw [he.out, if_pos h]
  · have h : 0 ≤ n.tmod b := by assumption
    go_ret
    refine ⟨ret_int ?_, rfl⟩
    rw [he.out, if_neg (by omega)]

end Go.Proofs.Ytemkikjcjhmlaaa
