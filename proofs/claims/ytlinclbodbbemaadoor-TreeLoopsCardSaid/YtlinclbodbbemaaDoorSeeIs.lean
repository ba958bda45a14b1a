/- The contract of the helper that asks whether an error is this one, with nothing around it. -/
import Derived.Test.YtlinclbodbbemaaDoorSee2
namespace Go.Proofs.YtlinclbodbbemaaDoor
open Go.RowKit

set_option maxHeartbeats 1000000 in
theorem is_any (ad : Nat → Addr) (o : Option Nat) (ho : ∀ k, o = some k → k < 17) (c : Int) (w : World) (hS : Sents w ad) : Calls Tryd.prog 38 #[errVal ad o, .int .i64 c] w fun e w' => e = .returned (.bool (errCode o == c)) ∧ Below w.heap.size w w' := by
  have HS : ∀ W', Below w.heap.size w W' → Hid (Sents W' ad) := fun W' hb => hS.below hb
  clear hS
  go_enter Tryd.func38, Tryd.ntmps38
  go_wp2_with (first
    | (go_at_call 53; refine (bare_any _ _).mono ?_; rintro e w3 ⟨rfl, hb3⟩)
    | (go_at_call 18; refine (seeSame_any ad o ho c _ (HS _ hb3).out).mono ?_; rintro e w4 ⟨rfl, hb4⟩))
  go_ret
  exact ⟨rfl, hb3.trans (hb4.mono hb3.size)⟩

end Go.Proofs.YtlinclbodbbemaaDoor
