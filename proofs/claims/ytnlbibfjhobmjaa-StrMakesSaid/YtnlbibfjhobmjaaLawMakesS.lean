/- The walk of the statement on what is made of texts. -/
import Derived.Test.YtnlbibfjhobmjaaRefRep
namespace Go.Proofs.Ytnlbibfjhobmjaa
open Go.RowKit
set_option maxRecDepth 100000

theorem topS_eq (s : ByteArray) : (s.toList == s.toList) = true := by simp
set_option maxHeartbeats 4000000 in
theorem makes_main (s wh wi sep : ByteArray) (ss : List ByteArray) (p : Option Addr) (cap : Nat) (w : World) (hs : s.size ≤ 300) (hh : wh.size ≤ 20) (hi : wi.size ≤ 100) (hsep : sep.size ≤ 50) (hl : ss.length ≤ 9223372036854775807) (ht : textsB ss 40 200 = true) (hm : MaxL w) (hr : SRow w w.heap.size p ss) :
    Calls Try.prog 3 #[.string s, .string wh, .string wi, .string sep, .slice p ss.length cap] w fun e w' => e = .returned (.bool true) ∧ Below w.heap.size w w' := by
  have HM := Lib.hid hm
  have HR := Lib.hid hr
  have HT := Lib.hid ht
  have hl40 : ss.length ≤ 40 := by
    unfold textsB at ht
    simp only [Bool.and_eq_true, decide_eq_true_eq] at ht
    omega
  have HSZ : Hid (∀ x ∈ ss, x.size ≤ 1000000) := by
    intro x hx
    unfold textsB at ht
    simp only [Bool.and_eq_true, decide_eq_true_eq, List.all_eq_true] at ht
    have := ht.2 x hx
    omega
  clear hm hr ht
  have HMG := Lib.hid (show 0 < w.heap.size from by obtain ⟨m, h⟩ := HM.out; exact World.block_lt_of_cell? w (a := ⟨0, 0, none⟩) h)
  obtain ⟨X, hX⟩ : ∃ X, repS s wh wi = X := ⟨_, rfl⟩
  obtain ⟨C, hC⟩ : ∃ C, repC s wh wi = C := ⟨_, rfl⟩
  obtain ⟨Y, hY⟩ : ∃ Y, topS (joinL sep ss) = Y := ⟨_, rfl⟩
  obtain ⟨D, hD⟩ : ∃ D, topC (joinL sep ss) = D := ⟨_, rfl⟩
  have HX := Lib.hid hX; have HC := Lib.hid hC; have HY := Lib.hid hY; have HD := Lib.hid hD
  clear hX hC hY hD
  have d1 : decide ((300 : Int) < (s.size : Int)) = false := by simp; omega
  have d2 : decide ((20 : Int) < (wh.size : Int)) = false := by simp; omega
  have d3 : decide ((100 : Int) < (wi.size : Int)) = false := by simp; omega
  have d4 : decide ((50 : Int) < (sep.size : Int)) = false := by simp; omega
  go_enter Try.func3, Try.ntmps3
  go_wp2_with (first
    | (go_at_call 7; refine (first3_any _).mono ?_; rintro e w1 ⟨rfl, rfl⟩)
    | (go_at_call 8; refine (texts_any ss p cap _ 40 200 _ HR.out hl).mono ?_; rintro e w1 ⟨rfl, rfl⟩; rw [HT.out])
    | (go_at_call 9; refine (replace_any s wh wi _ (by omega) (by omega) (by omega) HM.out).mono ?_; rintro e w2 ⟨rfl, hb2⟩; rw [HX.out, HC.out]; have HB2 := Lib.hid hb2; clear hb2)
    | (go_at_call 10; refine (refReplace_any s wh wi _ (by omega) (by omega) (by omega)).mono ?_; rintro e w3 ⟨rfl, hb3⟩; rw [HX.out, HC.out]; have HB3 := Lib.hid (HB2.out.trans (hb3.mono HB2.out.size)); clear hb3)
    | (go_at_call 11; refine (strJoin_any sep ss p cap _ ((HR.out.below HB3.out).grow HB3.out.size) (by omega) (by omega) HSZ.out).mono ?_; rintro e w4 ⟨rfl, hb4⟩; rw [HY.out, HD.out]; have HB4 := Lib.hid (HB3.out.trans (hb4.mono HB3.out.size)); clear hb4)
    | (go_at_call 12; refine (refJoin_any sep ss p cap _ ((HR.out.below HB4.out).grow HB4.out.size) (by omega) (by omega) HSZ.out).mono ?_; rintro e w5 ⟨rfl, hb5⟩; rw [HY.out, HD.out]; have HB5 := Lib.hid (HB4.out.trans (hb5.mono HB4.out.size)); clear hb5))
  go_ret
  exact ⟨rfl, HB5.out⟩

set_option maxHeartbeats 4000000 in
theorem makes_early (s wh wi sep : ByteArray) (ss : List ByteArray) (p : Option Addr) (cap : Nat) (w : World) (hs : s.size ≤ 9223372036854775807) (hh : wh.size ≤ 9223372036854775807) (hi : wi.size ≤ 9223372036854775807) (hsep : sep.size ≤ 9223372036854775807) (hl : ss.length ≤ 9223372036854775807) (hr : SRow w w.heap.size p ss) (h : 300 < s.size ∨ 20 < wh.size ∨ 100 < wi.size ∨ 50 < sep.size ∨ textsB ss 40 200 = false) :
    Calls Try.prog 3 #[.string s, .string wh, .string wi, .string sep, .slice p ss.length cap] w fun e w' => e = .returned (.bool true) ∧ Below w.heap.size w w' := by
  have HR := Lib.hid hr; clear hr
  by_cases h1 : 300 < s.size
  · have d1 : decide ((300 : Int) < (s.size : Int)) = true := by simp; omega
    clear h h1
    go_enter Try.func3, Try.ntmps3
    go_wp2_with (go_at_call 7; refine (first3_any _).mono ?_; rintro e w1 ⟨rfl, rfl⟩)
    go_ret
    exact ⟨rfl, Below.refl _ _⟩
  have d1 : decide ((300 : Int) < (s.size : Int)) = false := by simp; omega
  by_cases h2 : 20 < wh.size
  · have d2 : decide ((20 : Int) < (wh.size : Int)) = true := by simp; omega
    clear h h1 h2
    go_enter Try.func3, Try.ntmps3
    go_wp2_with (go_at_call 7; refine (first3_any _).mono ?_; rintro e w1 ⟨rfl, rfl⟩)
    go_ret
    exact ⟨rfl, Below.refl _ _⟩
  have d2 : decide ((20 : Int) < (wh.size : Int)) = false := by simp; omega
  by_cases h3 : 100 < wi.size
  · have d3 : decide ((100 : Int) < (wi.size : Int)) = true := by simp; omega
    clear h h1 h2 h3
    go_enter Try.func3, Try.ntmps3
    go_wp2_with (go_at_call 7; refine (first3_any _).mono ?_; rintro e w1 ⟨rfl, rfl⟩)
    go_ret
    exact ⟨rfl, Below.refl _ _⟩
  have d3 : decide ((100 : Int) < (wi.size : Int)) = false := by simp; omega
  by_cases h4 : 50 < sep.size
  · have d4 : decide ((50 : Int) < (sep.size : Int)) = true := by simp; omega
    clear h h1 h2 h3 h4
    go_enter Try.func3, Try.ntmps3
    go_wp2_with (go_at_call 7; refine (first3_any _).mono ?_; rintro e w1 ⟨rfl, rfl⟩)
    go_ret
    exact ⟨rfl, Below.refl _ _⟩
  have d4 : decide ((50 : Int) < (sep.size : Int)) = false := by simp; omega
  have HT : Hid (textsB ss 40 200 = false) := by
    rcases h with h | h | h | h | h
    · exact absurd h h1
    · exact absurd h h2
    · exact absurd h h3
    · exact absurd h h4
    · exact h
  clear h h1 h2 h3 h4
  go_enter Try.func3, Try.ntmps3
  go_wp2_with (first
    | (go_at_call 7; refine (first3_any _).mono ?_; rintro e w1 ⟨rfl, rfl⟩)
    | (go_at_call 8; refine (texts_any ss p cap _ 40 200 _ HR.out hl).mono ?_; rintro e w1 ⟨rfl, rfl⟩; rw [HT.out]))
  go_ret
  exact ⟨rfl, Below.refl _ _⟩

theorem makes_all (s wh wi sep : ByteArray) (ss : List ByteArray) (p : Option Addr) (cap : Nat) (w : World) (hs : s.size ≤ 9223372036854775807) (hh : wh.size ≤ 9223372036854775807) (hi : wi.size ≤ 9223372036854775807) (hsep : sep.size ≤ 9223372036854775807) (hl : ss.length ≤ 9223372036854775807) (hm : MaxL w) (hr : SRow w w.heap.size p ss) :
    Calls Try.prog 3 #[.string s, .string wh, .string wi, .string sep, .slice p ss.length cap] w fun e w' => e = .returned (.bool true) ∧ Below w.heap.size w w' := by
  by_cases h : 300 < s.size ∨ 20 < wh.size ∨ 100 < wi.size ∨ 50 < sep.size ∨ textsB ss 40 200 = false
  · exact makes_early s wh wi sep ss p cap w hs hh hi hsep hl hr h
  · have ht : textsB ss 40 200 = true := by
      cases e : textsB ss 40 200 with
      | true => rfl
      | false => exact absurd (.inr (.inr (.inr (.inr e)))) h
    exact makes_main s wh wi sep ss p cap w (by omega) (by omega) (by omega) (by omega) hl ht hm hr
end Go.Proofs.Ytnlbibfjhobmjaa
