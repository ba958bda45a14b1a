/- str.Cut, and the chapter's example. -/
import Derived.Test.YtnlbibfjhobmjaaDoorBytes
namespace Go.Proofs.YtnlbibfjhobmjaaDoor
open Go.RowKit
set_option maxRecDepth 100000

/-- The places from..to. -/
def cutS (s : ByteArray) (a b : Int) : ByteArray := if a ≤ b ∧ 1 ≤ a ∧ b ≤ s.size then s.extract (a - 1).toNat b.toNat else ByteArray.empty
def cutC (s : ByteArray) (a b : Int) : Int := if a ≤ b ∧ (a < 1 ∨ (s.size : Int) < b) then 10 else 0

set_option maxHeartbeats 2000000 in
theorem cut_in (s : ByteArray) (A B : Nat) (w : World) (hs : s.size ≤ 9223372036854775807) (hAB : A ≤ B) (hBS : B ≤ s.size) :
    Calls Tryd.prog 6 #[.string s, .int .i64 ((A : Int) + 1), .int .i64 B] w fun e w' => e = .returned (.tuple #[.string (s.extract A B), .int .i64 0]) ∧ w = w' := by
  by_cases h0 : A = B
  · subst h0
    have hd : decide ((A : Int) < (A : Int) + 1) = true := by simp; omega
    have e : s.extract A A = ByteArray.empty := by
      apply ByteArray.ext; simp
    rw [e]; clear e
    go_enter Tryd.func6, Tryd.ntmps6
    go_wp2
    go_ret2
    exact ⟨rfl, rfl⟩
  · have hd : decide ((B : Int) < (A : Int) + 1) = false := by simp; omega
    have hd2 : decide ((A : Int) + 1 < 1) = false := by simp; omega
    have hd3 : decide (s.size < B) = false := by simp; omega
    clear h0
    go_enter Tryd.func6, Tryd.ntmps6
    go_wp2
    go_ret2
    exact ⟨rfl, rfl⟩
def I64 (x : Int) : Prop := -9223372036854775808 ≤ x ∧ x ≤ 9223372036854775807
set_option maxHeartbeats 2000000 in
theorem cut_empty (s : ByteArray) (a b : Int) (w : World) (h : b < a) :
    Calls Tryd.prog 6 #[.string s, .int .i64 a, .int .i64 b] w fun e w' => e = .returned (.tuple #[.string ByteArray.empty, .int .i64 0]) ∧ w = w' := by
  have hd : decide (b < a) = true := by simpa using h
  clear h
  go_enter Tryd.func6, Tryd.ntmps6
  go_wp2
  go_ret2
  exact ⟨rfl, rfl⟩
set_option maxHeartbeats 2000000 in
theorem cut_out (s : ByteArray) (a b : Int) (w : World) (_hs : s.size ≤ 9223372036854775807) (h : a ≤ b) (h2 : a < 1 ∨ (s.size : Int) < b) :
    Calls Tryd.prog 6 #[.string s, .int .i64 a, .int .i64 b] w fun e w' => e = .returned (.tuple #[.string ByteArray.empty, .int .i64 10]) ∧ w = w' := by
  have hd : decide (b < a) = false := by simpa using h
  clear h
  by_cases h1 : a < 1
  · have hd1 : decide (a < 1) = true := by simpa using h1
    clear h1 h2
    go_enter Tryd.func6, Tryd.ntmps6
    go_wp2
    go_ret2
    exact ⟨rfl, rfl⟩
  · have hd1 : decide (a < 1) = false := by simpa using h1
    have hd2 : decide ((s.size : Int) < b) = true := by simp; omega
    clear h1 h2
    go_enter Tryd.func6, Tryd.ntmps6
    go_wp2
    go_ret2
    exact ⟨rfl, rfl⟩
theorem cut_any (s : ByteArray) (a b : Int) (w : World) (hs : s.size ≤ 9223372036854775807) :
    Calls Tryd.prog 6 #[.string s, .int .i64 a, .int .i64 b] w fun e w' => e = .returned (.tuple #[.string (cutS s a b), .int .i64 (cutC s a b)]) ∧ w = w' := by
  by_cases h1 : a ≤ b
  · by_cases h2 : 1 ≤ a ∧ b ≤ s.size
    · have e1 : cutS s a b = s.extract (a - 1).toNat b.toNat := by unfold cutS; rw [if_pos ⟨h1, h2.1, h2.2⟩]
      have e2 : cutC s a b = 0 := by unfold cutC; rw [if_neg (by omega)]
      rw [e1, e2]
      have h := cut_in s (a - 1).toNat b.toNat w hs (by omega) (by omega)
      rwa [show (((a - 1).toNat : Nat) : Int) + 1 = a by omega, show ((b.toNat : Nat) : Int) = b by omega] at h
    · have e1 : cutS s a b = ByteArray.empty := by unfold cutS; rw [if_neg (by omega)]
      have e2 : cutC s a b = 10 := by unfold cutC; rw [if_pos (by omega)]
      rw [e1, e2]
      exact cut_out s a b w hs h1 (by omega)
  · have e1 : cutS s a b = ByteArray.empty := by unfold cutS; rw [if_neg (by omega)]
    have e2 : cutC s a b = 0 := by unfold cutC; rw [if_neg (by omega)]
    rw [e1, e2]
    exact cut_empty s a b w (by omega)
set_option maxHeartbeats 2000000 in
theorem first3_any (w : World) : Calls Tryd.prog 5 #[] w fun e w' => e = .returned (.bool true) ∧ w = w' := by
  go_enter Tryd.func5, Tryd.ntmps5
  go_wp2_with (go_at_call 6; refine (cut_any _ 2 3 _ (by decide)).mono ?_; rintro e w1 ⟨rfl, rfl⟩; rw [show cutS _ 2 3 = ⟨#[98, 99]⟩ from by decide +kernel, show cutC _ 2 3 = 0 from by decide +kernel])
  go_ret
  exact ⟨rfl, rfl⟩
end Go.Proofs.YtnlbibfjhobmjaaDoor
