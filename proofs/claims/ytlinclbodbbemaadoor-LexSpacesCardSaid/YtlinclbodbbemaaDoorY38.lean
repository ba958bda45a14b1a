/- The statement on spaces, at every text. -/
import Derived.Test.YtlinclbodbbemaaDoorY37
namespace Go.Proofs.YtlinclbodbbemaaDoor
open Go.RowKit
set_option maxRecDepth 100000

set_option maxHeartbeats 1000000 in
theorem spaces_all (eD eM eR eS : Value) (aY : Addr) (hP : Ptrs eD eM eR eS) (s : ByteArray) (x y : Int) (hsm : s.size ≤ 9223372036854775807) (hx : I64 x) (hy : I64 y) (w : World) (hEn : Env w eD eM eR eS aY) (hTb : LexT w) :
    Calls Tryd.prog 3 #[.string s, .int .i64 x, .int .i64 y] w fun e w' => e = .returned (.bool true) ∧ Below w.heap.size w w' := by
  have he : LEnv w eD eM eR eS aY := ⟨⟨hEn.errs, hEn.names, hEn.syn⟩, hTb⟩
  by_cases hs : s.size ≤ 500
  · obtain ⟨_, _, _, h, _⟩ := lexAll_any eD eM eR eS aY hP s w (by omega) he []
    obtain ⟨_, ⟨h1, _⟩ | ⟨_, R, h1, _⟩⟩ := h
    · omega
    · have HF1 := Lib.hid (first6_any _ _ _ _ _ hP _ he)
      have hss : ¬ (500 : Int) < (s.size : Int) := by omega
      cases R with
      | ok l =>
        cases l with
        | nil =>
          have HA := Lib.hid (fun W (hb : Below w.heap.size w W) => all_none eD eM eR eS aY hP s W (he.below hb) (by omega) h1)
          clear he hEn hTb hx hy h1
          go_enter Tryd.func3, Tryd.ntmps3
          go_wp2_with (first
            | (go_at_call 10; refine HF1.out.mono ?_; rintro e w1 ⟨rfl, hb1⟩; have HB1 := Lib.hid hb1; clear hb1)
            | (go_at_call 11; (with_reducible refine (HA.out _ HB1.out).mono ?_); rintro e w2 ⟨⟨p, cap, rfl⟩, hb2⟩; have HB2 := Lib.hid (HB1.out.trans (hb2.mono HB1.out.size)); clear hb2))
          go_ret
          exact ⟨rfl, HB2.out⟩
        | cons t r => exact spaces_main eD eM eR eS aY hP x y s hx hy w hEn hTb hs (t :: r) (by simp) h1
      | bad n b =>
        have HA := Lib.hid (fun W (hb : Below w.heap.size w W) => all_bad eD eM eR eS aY hP s W (he.below hb) (by omega) h1)
        clear he hEn hTb hx hy h1
        go_enter Tryd.func3, Tryd.ntmps3
        go_wp2_with (first
          | (go_at_call 10; refine HF1.out.mono ?_; rintro e w1 ⟨rfl, hb1⟩; have HB1 := Lib.hid hb1; clear hb1)
          | (go_at_call 11; (with_reducible refine (HA.out _ HB1.out).mono ?_); rintro e w2 ⟨⟨bk, rfl, _, _⟩, hb2⟩; have HB2 := Lib.hid (HB1.out.trans (hb2.mono HB1.out.size)); clear hb2))
        go_ret
        exact ⟨rfl, HB2.out⟩
  · have HF1 := Lib.hid (first6_any _ _ _ _ _ hP _ he)
    have hss : (500 : Int) < (s.size : Int) := by omega
    clear he hEn hTb hx hy hs
    go_enter Tryd.func3, Tryd.ntmps3
    go_wp2_with (go_at_call 10; refine HF1.out.mono ?_; rintro e w1 ⟨rfl, hb1⟩; have HB1 := Lib.hid hb1; clear hb1)
    go_ret
    exact ⟨rfl, HB1.out⟩
end Go.Proofs.YtlinclbodbbemaaDoor
