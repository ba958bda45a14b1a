/- The walk of the statement on what is made of each kind. -/
import Derived.Test.YtcinhndidkllbaaDoorValidE
import Derived.Test.YtcinhndidkllbaaDoorRight
import Derived.Test.YtcinhndidkllbaaDoorFirst
import Derived.Test.YtcinhndidkllbaaDoorMore
import Derived.Deep.RegionHeld3
import Derived.Deep.DeepCutAuto
namespace Go.Proofs.YtcinhndidkllbaaDoor
open Go.RowKit
set_option maxRecDepth 100000

set_option maxHeartbeats 400000 in
theorem vO_any (n : Int) (w : World) :
    Calls Tryd.prog 13 #[.int .i64 n] w fun e w' => e = .returned (.agg #[.int .i64 1, .int .i64 n, .string ByteArray.empty, .slice none 0 0]) ∧ Below w.heap.size w w' := by
  go_enter Tryd.func13, Tryd.ntmps13
  go_wp2
  go_returns
  exact ⟨rfl, by go_grown⟩
set_option maxHeartbeats 400000 in
theorem vE_any (n : Int) (w : World) :
    Calls Tryd.prog 15 #[.int .i64 n] w fun e w' => e = .returned (.agg #[.int .i64 3, .int .i64 n, .string ByteArray.empty, .slice none 0 0]) ∧ Below w.heap.size w w' := by
  go_enter Tryd.func15, Tryd.ntmps15
  go_wp2
  go_returns
  exact ⟨rfl, by go_grown⟩

/-- The early ends: a Str that is too long; a list that is too great or not right. -/
theorem makes_long (n o code : Int) (s : ByteArray) (l : List T) (w : World) (p : Option Addr) (cap : Nat) (hs : 200 < s.size) (hsm : s.size ≤ 140737488355328) :
    Calls Tryd.prog 3 #[.int .i64 n, .int .i64 o, .string s, .int .i64 code, .slice p l.length cap] w fun e w' => e = .returned (.bool true) ∧ Below w.heap.size w w' := by
  go_enter Tryd.func3, Tryd.ntmps3
  go_wp2_with (go_at_call 8; refine (first_any _).mono ?_; rintro e w1 ⟨rfl, hb1⟩)
  go_ret
  exact ⟨rfl, hb1⟩
theorem makes_few (n o code : Int) (s : ByteArray) (l : List T) (w : World) (lo hi : Nat) (p : Option Addr) (cap : Nat) (hall : RepAll w lo hi l p) (hcap : l.length * 56 ≤ 140737488355328) (hhi : hi ≤ w.heap.size) (h : fewRight l 20 = false) (hs : s.size ≤ 200) :
    Calls Tryd.prog 3 #[.int .i64 n, .int .i64 o, .string s, .int .i64 code, .slice p l.length cap] w fun e w' => e = .returned (.bool true) ∧ Below w.heap.size w w' := by
  have H := Lib.hid h; clear h
  go_enter Tryd.func3, Tryd.ntmps3
  go_wp2_with (first
    | (go_at_call 8; refine (first_any _).mono ?_; rintro e w1 ⟨rfl, hb1⟩)
    | (go_at_call 9; refine (wvalues_any l _ lo hi p cap 20 (hall.below hb1 hhi) (by have := hb1.size; omega) (by omega)).mono ?_; rintro e w2 ⟨rfl, hb2⟩; rw [H.out]))
  go_ret
  exact ⟨rfl, hb1.trans (hb2.mono hb1.size)⟩

end Go.Proofs.YtcinhndidkllbaaDoor
