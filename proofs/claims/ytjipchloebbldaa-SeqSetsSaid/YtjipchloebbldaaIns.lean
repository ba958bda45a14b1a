/- sort.insertionSort_func over a machine. -/
import Derived.Test.YtjipchloebbldaaMach
import Derived.Sort.WalkA
namespace Go.Proofs.Ytjipchloebbldaa
open Go.RowKit Go.Sort
set_option maxRecDepth 100000
variable {bo n : Nat} {lt : Nat → Nat → Bool} {g : Nat} {lb : Array Value} {sf : Nat} {sb : Array Value} {S : Array Nat → World → Prop}

set_option maxHeartbeats 2000000 in
theorem insSort_any (M : Mach bo n lt g lb sf sb S) (d : Array Nat) (W : World) (hS : S d W) (a b : Nat) (hab : a ≤ b) (hb : b ≤ n) :
    Calls Try.prog 83 #[.agg #[.func (.func g) #[] lb, .func (.func sf) #[] sb], .int .i64 a, .int .i64 b] W fun e w' =>
      e = .returned (.tuple #[]) ∧ S (Sort.insertionSort lt d a b) w' ∧ Keeps bo W w' := by
  have hbig := M.big
  have hlt := M.blk _ _ hS
  have H0 := Lib.hid (M.step _ _ _ hS ((Below.refl W.heap.size W).alloc (Nat.le_refl _) (.cells #[.func (.func g) #[] lb, .func (.func sf) #[] sb] 81)))
  have K0 := Lib.hid (Keeps.of_below (bo := bo) ((Below.refl W.heap.size W).alloc (Nat.le_refl _) (.cells #[.func (.func g) #[] lb, .func (.func sf) #[] sb] 81)))
  have heg := M.eg
  have HM := Lib.hid M; clear M hS
  go_enter Try.func83, Try.ntmps83
  go_wp2
  go_loopw [6] (fun vi wr => ∃ (i : Nat) (dk : Array Nat), vi = .int .i64 i ∧ a < i ∧ i ≤ b + 1 ∧ Hid (S dk wr) ∧ Keeps bo (W.alloc (.cells #[.func (.func g) #[] lb, .func (.func sf) #[] sb] 81)) wr ∧ Hid (insOuter lt a b i dk = insOuter lt a b (a + 1) d)) (fun vi _ => b + 1 - (intOf vi).toNat)
  case atStart => exact ⟨a + 1, d, by go_num, by omega, by omega, H0, Keeps.refl _ _, rfl⟩
  case round =>
    obtain ⟨i, dk, rfl, hai, hib, HSk, hK, HO⟩ := hrel
    have HK := Lib.hid hK; clear hK
    go_wp2
    · -- i < b: the inner loop
      have hltb : i < b := by assumption
      go_loopw [7] (fun vj wr2 => ∃ (j : Nat) (dj : Array Nat), vj = .int .i64 j ∧ a ≤ j ∧ j ≤ i ∧ Hid (S dj wr2) ∧ Keeps bo (W.alloc (.cells #[.func (.func g) #[] lb, .func (.func sf) #[] sb] 81)) wr2 ∧ Hid (insInner lt a j dj = insInner lt a i dk)) (fun vj _ => (intOf vj).toNat)
      case atStart => exact ⟨i, dk, rfl, by omega, Nat.le_refl _, HSk, HK.out, rfl⟩
      case round =>
        obtain ⟨j, dj, rfl, haj, hji, HS, hK, HI⟩ := hrel
        have hz := hK.size
        rw [World.size_alloc] at hz
        have cc : ∀ kk v, (W.alloc (.cells #[.func (.func g) #[] lb, .func (.func sf) #[] sb] 81)).cell? ⟨W.heap.size, kk, none⟩ = some v → ∀ w', Below wr.heap.size wr w' → w'.cell? ⟨W.heap.size, kk, none⟩ = some v := fun kk v h w' hb' => (hb'.cell (p := ⟨W.heap.size, kk, none⟩) (by show W.heap.size < _; omega)).trans ((hK.cell (p := ⟨W.heap.size, kk, none⟩) (by rw [World.size_alloc]; exact Nat.lt_succ_self _) (by show W.heap.size ≠ bo; omega)).trans h)
        have C0 := Lib.hid (cc 0 (.func (.func g) #[] lb) (by simp))
        have C1 := Lib.hid (cc 1 (.func (.func sf) #[] sb) (by simp))
        have c0 := C0.out _ (Below.refl _ _)
        have HK2 := Lib.hid hK; clear cc hK
        by_cases hja : a < j
        · have hl := HM.out.less dj wr j (j - 1) HS.out (by omega) (by omega)
          rw [show (((j - 1 : Nat) : Int)) = (j : Int) - 1 by omega] at hl
          cases hlv : lt dj[j]! dj[j - 1]! with
          | true =>
            rw [hlv] at hl
            have HL := Lib.hid hl; clear hl
            go_wp2_with (go_at_fn g; refine HL.out.mono ?_; rintro e w' ⟨rfl, hb'⟩; have c1' := C1.out _ hb'; have HB' := Lib.hid hb'; clear hb'; obtain ⟨W', hs, hS', hK'⟩ := HM.out.swap _ w' j (j - 1) (HM.out.step _ _ _ HS.out HB'.out) (by omega) (by omega); rw [show (((j - 1 : Nat) : Int)) = (j : Int) - 1 by omega] at hs; have HS' := Lib.hid hS'; have HK' := Lib.hid hK'; clear hS' hK')
            go_roundw
            case rel =>
              (repeat apply Exists.intro)
              exact ⟨⟨j - 1, _, by congr 1 <;> omega, by omega, by omega, HS', HK2.out.trans ((Keeps.of_below HB'.out).trans HK'.out), by rw [← HI.out, insInner_go lt a j dj hja hlv]; exact rfl⟩, by rw [decide_eq_true hltb, show ((j - 1 : Nat) : Int) = (j : Int) - 1 by omega]⟩
            case measure => simp [intOf]; omega
          | false =>
            rw [hlv] at hl
            have HL := Lib.hid hl; clear hl
            go_wp2_with (go_at_fn g; refine HL.out.mono ?_; rintro e w' ⟨rfl, hb'⟩; have HB' := Lib.hid hb'; clear hb')
            go_roundw
            case rel => exact ⟨i + 1, dj, by go_num, by omega, by omega, HM.out.step _ _ _ HS.out HB'.out, HK2.out.trans (Keeps.of_below HB'.out), by show _ = _; rw [← HO.out, insOuter_go _ _ _ _ _ hltb, ← HI.out, insInner_stop _ _ _ _ (Or.inr hlv)]⟩
            case measure => simp [intOf]; omega
        · go_wp2
          go_roundw
          case rel => exact ⟨i + 1, dj, by go_num, by omega, by omega, HS, HK2.out, by show _ = _; rw [← HO.out, insOuter_go _ _ _ _ _ hltb, ← HI.out, insInner_stop _ _ _ _ (Or.inl (by omega))]⟩
          case measure => simp [intOf]; omega
    · have hge : ¬ i < b := by assumption
      go_end0
      exact ⟨rfl, by unfold Sort.insertionSort; rw [← HO.out, insOuter_stop _ _ _ _ _ hge]; exact HSk.out, K0.out.trans HK.out⟩
end Go.Proofs.Ytjipchloebbldaa
