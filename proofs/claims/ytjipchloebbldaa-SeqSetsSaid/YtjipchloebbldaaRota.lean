/- sort.rotate_func over a machine. -/
import Derived.Test.YtjipchloebbldaaMach
namespace Go.Proofs.Ytjipchloebbldaa
open Go.RowKit Go.Sort
set_option maxRecDepth 100000
variable {bo n : Nat} {lt : Nat → Nat → Bool} {g : Nat} {lb : Array Value} {sf : Nat} {sb : Array Value} {S : Array Nat → World → Prop}

set_option maxHeartbeats 2000000 in
theorem rotate_any (M : Mach bo n lt g lb sf sb S) (d : Array Nat) (W : World) (hS : S d W) (a m b : Nat) (ham : a < m) (hmb : m < b) (hb : b ≤ n) :
    Calls Try.prog 88 #[.agg #[.func (.func g) #[] lb, .func (.func sf) #[] sb], .int .i64 a, .int .i64 m, .int .i64 b] W fun e w' =>
      e = .returned (.tuple #[]) ∧ ∃ d', S d' w' ∧ Keeps bo W w' ∧ RotAt a m b d d' ∧ PermIn a b d d' := by
  have hbig := M.big
  have hlt := M.blk _ _ hS
  have H0 := Lib.hid (M.step _ _ _ hS ((Below.refl W.heap.size W).alloc (Nat.le_refl _) (.cells #[.func (.func g) #[] lb, .func (.func sf) #[] sb] 81)))
  have K0 := Lib.hid (Keeps.of_below (bo := bo) ((Below.refl W.heap.size W).alloc (Nat.le_refl _) (.cells #[.func (.func g) #[] lb, .func (.func sf) #[] sb] 81)))
  have HM := Lib.hid M; clear M hS
  go_enter Try.func88, Try.ntmps88
  go_wp2
  go_loopw [8, 9] (fun vi vj wr => ∃ (i j : Nat) (di : Array Nat), vi = .int .i64 i ∧ vj = .int .i64 j ∧ 1 ≤ i ∧ 1 ≤ j ∧ i ≤ m - a ∧ j ≤ b - m ∧ Hid (S di wr) ∧ Keeps bo (W.alloc (.cells #[.func (.func g) #[] lb, .func (.func sf) #[] sb] 81)) wr ∧ Hid (∀ d', RotAt (m - i) m (m + j) di d' → RotAt a m b d d') ∧ Hid (PermIn a b d di)) (fun vi vj _ => (intOf vi).toNat + (intOf vj).toNat)
  case atStart => exact ⟨m - a, b - m, d, by go_num, by go_num, by omega, by omega, Nat.le_refl _, Nat.le_refl _, H0, Keeps.refl _ _, (by show ∀ _, _; rw [show m - (m - a) = a by omega, show m + (b - m) = b by omega]; exact fun _ h => h), permIn_refl _ _ _⟩
  case round =>
    obtain ⟨i, j, di, rfl, rfl, hi1, hj1, hia, hjb, HS, hK, HA, HP⟩ := hrel
    have hz := hK.size
    rw [World.size_alloc] at hz
    have cc : ∀ kk v, (W.alloc (.cells #[.func (.func g) #[] lb, .func (.func sf) #[] sb] 81)).cell? ⟨W.heap.size, kk, none⟩ = some v → wr.cell? ⟨W.heap.size, kk, none⟩ = some v := fun kk v h => (hK.cell (p := ⟨W.heap.size, kk, none⟩) (by rw [World.size_alloc]; exact Nat.lt_succ_self _) (by show W.heap.size ≠ bo; omega)).trans h
    have c0 := cc 0 (.func (.func g) #[] lb) (by simp)
    have c1 := cc 1 (.func (.func sf) #[] sb) (by simp)
    have HK := Lib.hid hK; clear cc hK
    by_cases hij : i = j
    · subst hij
      have hc := swapRange_any HM.out di wr HS.out (m - i) m i (by omega) (by omega)
      rw [show (((m - i : Nat)) : Int) = (m : Int) - i by omega] at hc
      have HC := Lib.hid hc; clear hc
      go_wp2_with (go_at_call 90; (with_reducible refine HC.out.mono ?_); rintro e w2 ⟨rfl, d2, hs2, hk2, ha2, hp2⟩)
      go_end0
      exact ⟨rfl, d2, hs2, K0.out.trans (HK.out.trans hk2), HA.out _ (RotAt.both (by omega) ha2), permIn_trans _ _ _ _ _ HP.out (hp2 a b (by omega) (by omega) hb)⟩
    · by_cases hgt : j < i
      · have hc := swapRange_any HM.out di wr HS.out (m - i) m j (by omega) (by omega)
        rw [show (((m - i : Nat)) : Int) = (m : Int) - i by omega] at hc
        have HC := Lib.hid hc; clear hc
        go_wp2_with (go_at_call 90; (with_reducible refine HC.out.mono ?_); rintro e w2 ⟨rfl, d2, hs2, hk2, ha2, hp2⟩; have HS2 := Lib.hid hs2; have HK2 := Lib.hid hk2; have HA2 := Lib.hid ha2; have HP2 := Lib.hid hp2; clear hs2 hk2 ha2 hp2)
        go_roundw
        case rel => exact ⟨i - j, j, d2, by go_num, rfl, by omega, hj1, by omega, hjb, HS2, HK.out.trans HK2.out, fun d' h => HA.out _ (RotAt.left (by omega) hgt HA2.out h), permIn_trans _ _ _ _ _ HP.out (HP2.out a b (by omega) (by omega) hb)⟩
        case measure => simp [intOf]; omega
      · have hc := swapRange_any HM.out di wr HS.out (m - i) (m + j - i) i (by omega) (by omega)
        rw [show (((m - i : Nat)) : Int) = (m : Int) - i by omega, show (((m + j - i : Nat)) : Int) = (m : Int) + j - i by omega] at hc
        have HC := Lib.hid hc; clear hc
        go_wp2_with (go_at_call 90; (with_reducible refine HC.out.mono ?_); rintro e w2 ⟨rfl, d2, hs2, hk2, ha2, hp2⟩; have HS2 := Lib.hid hs2; have HK2 := Lib.hid hk2; have HA2 := Lib.hid ha2; have HP2 := Lib.hid hp2; clear hs2 hk2 ha2 hp2)
        go_roundw
        case rel => exact ⟨i, j - i, d2, rfl, by go_num, hi1, by omega, hia, by omega, HS2, HK.out.trans HK2.out, fun d' h => HA.out _ (RotAt.right (by omega) (by omega) HA2.out h), permIn_trans _ _ _ _ _ HP.out (HP2.out a b (by omega) (by omega) hb)⟩
        case measure => simp [intOf]; omega
end Go.Proofs.Ytjipchloebbldaa
