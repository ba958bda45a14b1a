/- str.Index and str.Last, and the world's Number. -/
import Derived.Test.YtnlbibfjhobmjaaDoorBytes
import Derived.Test.YtnlbibfjhobmjaaDoorCut
import Derived.Test.YtnlbibfjhobmjaaDoorShelf
import Derived.Test.YtnlbibfjhobmjaaDoorFindM
namespace Go.Proofs.YtnlbibfjhobmjaaDoor
open Go.RowKit
set_option maxRecDepth 100000

/-- What internal/bytealg.MaxLen holds is some int. -/
def MaxL (w : World) : Prop := ∃ m : Int, w.cell? ⟨0, 0, none⟩ = some (.int .i64 m)
theorem MaxL.below {B : Nat} {w w' : World} (h : MaxL w) (hb : Below B w w') (hB : 0 < B) : MaxL w' := by
  obtain ⟨m, hm⟩ := h
  exact ⟨m, by rw [hb.cell (p := ⟨0, 0, none⟩) hB]; exact hm⟩

set_option maxHeartbeats 1000000 in
theorem strIndex_any (s t : ByteArray) (n : Int) (w : World) (hs : s.size < 4294967281) (hm : MaxL w) (hn : Lib.index s.data.toList t.data.toList = n) (h0 : -1 ≤ n) (h1 : n ≤ 4294967281) :
    Calls Tryd.prog 8 #[.string s, .string t] w fun e w' => e = .returned (.int .i64 (n + 1)) ∧ w = w' := by
  obtain ⟨m, hm⟩ := hm
  have HM := Lib.hid hm
  have HN := Lib.hid hn
  clear hm hn
  go_enter Tryd.func8, Tryd.ntmps8
  go_wp2_with (go_at_call 23; refine (Tryd.strings_Index s t m _ hs HM.out).mono ?_; rintro e w1 ⟨rfl, rfl⟩; rw [HN.out])
  go_ret
  exact ⟨rfl, rfl⟩
set_option maxHeartbeats 1000000 in
theorem strLast_any (s t : ByteArray) (n : Int) (w : World) (hs : s.size < 4294967281) (hn : Lib.lastIndex s.data.toList t.data.toList = n) (h0 : -1 ≤ n) (h1 : n ≤ 4294967281) :
    Calls Tryd.prog 10 #[.string s, .string t] w fun e w' => e = .returned (.int .i64 (n + 1)) ∧ w = w' := by
  have HN := Lib.hid hn
  clear hn
  go_enter Tryd.func10, Tryd.ntmps10
  go_wp2_with (go_at_call 24; refine (Tryd.strings_LastIndex s t (by omega) _).mono ?_; rintro e w1 ⟨rfl, rfl⟩; rw [HN.out])
  go_ret
  exact ⟨rfl, rfl⟩
end Go.Proofs.YtnlbibfjhobmjaaDoor
