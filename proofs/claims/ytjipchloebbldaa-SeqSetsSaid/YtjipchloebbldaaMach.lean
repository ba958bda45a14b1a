/- Sorting's inner functions over a machine: a row told by places, a 'less' that lays boxes, a 'swap' that exchanges. -/
import Derived.Test.YtjipchloebbldaaRow
import Derived.Test.YtjipchloebbldaaSym
import Derived.Lib.Hide
namespace Go.Proofs.Ytjipchloebbldaa
open Go.RowKit Go.Sort
set_option maxRecDepth 100000

/-- All but one block is as it was; new ones may stand behind. -/
structure Keeps (bo : Nat) (W W' : World) : Prop where
  os : W'.os = W.os
  tape : W'.tape = W.tape
  output : W'.output = W.output
  size : W.heap.size ≤ W'.heap.size
  block : ∀ k, k < W.heap.size → k ≠ bo → W'.heap[k]? = W.heap[k]?
theorem Keeps.refl (bo : Nat) (W : World) : Keeps bo W W := ⟨rfl, rfl, rfl, Nat.le_refl _, fun _ _ _ => rfl⟩
theorem Keeps.trans {bo : Nat} {W W1 W2 : World} (h : Keeps bo W W1) (k : Keeps bo W1 W2) : Keeps bo W W2 :=
  ⟨k.os.trans h.os, k.tape.trans h.tape, k.output.trans h.output, Nat.le_trans h.size k.size, fun x hx hb => (k.block x (Nat.lt_of_lt_of_le hx h.size) hb).trans (h.block x hx hb)⟩
theorem Keeps.of_below {bo : Nat} {W W' : World} (h : Below W.heap.size W W') : Keeps bo W W' := ⟨h.os, h.tape, h.output, h.size, fun k hk _ => h.block k hk⟩
theorem Keeps.below {bo B : Nat} {W W' : World} (h : Keeps bo W W') (hB : B ≤ bo) (hs : B ≤ W.heap.size) : Below B W W' := ⟨h.os, h.tape, h.output, h.size, fun k hk => h.block k (by omega) (by omega)⟩
theorem Keeps.cell {bo : Nat} {W W' : World} (h : Keeps bo W W') {p : Addr} (hp : p.block < W.heap.size) (hb : p.block ≠ bo) : W'.cell? p = W.cell? p := by simp only [World.cell?]; rw [h.block _ hp hb]

/-- What the sorting functions ask of 'less' and 'swap'; S d W: in W the row stands as d says. -/
structure Mach (bo n : Nat) (lt : Nat → Nat → Bool) (g : Nat) (lb : Array Value) (sf : Nat) (sb : Array Value) (S : Array Nat → World → Prop) : Prop where
  eg : ∀ args w, (callFunc g args).run Try.prog w = .ok (.enter g args) w
  less : ∀ d W (i j : Nat), S d W → i < n → j < n → Calls Try.prog g (#[.int .i64 i, .int .i64 j] ++ lb) W fun e w' => e = .returned (.bool (lt d[i]! d[j]!)) ∧ Below W.heap.size W w'
  swap : ∀ d W (i j : Nat), S d W → i < n → j < n → ∃ W', (callFunc sf (#[.int .i64 i, .int .i64 j] ++ sb)).run Try.prog W = .ok (.value (.tuple #[])) W' ∧ S (swp d i j) W' ∧ Keeps bo W W'
  size : ∀ d W, S d W → d.size = n
  blk : ∀ d W, S d W → bo < W.heap.size
  step : ∀ d W W', S d W → Below W.heap.size W W' → S d W'
  big : n < 4611686018427387904

variable {bo n : Nat} {lt : Nat → Nat → Bool} {g : Nat} {lb : Array Value} {sf : Nat} {sb : Array Value} {S : Array Nat → World → Prop}

set_option maxHeartbeats 2000000 in
theorem swapRange_any (M : Mach bo n lt g lb sf sb S) (d : Array Nat) (W : World) (hS : S d W) (a b k : Nat) (hab : a + k ≤ b) (hb : b + k ≤ n) :
    Calls Try.prog 90 #[.agg #[.func (.func g) #[] lb, .func (.func sf) #[] sb], .int .i64 a, .int .i64 b, .int .i64 k] W fun e w' =>
      e = .returned (.tuple #[]) ∧ ∃ d', S d' w' ∧ Keeps bo W w' ∧ SwapAt a b k d d' ∧ ∀ x y, x ≤ a → b + k ≤ y → y ≤ n → PermIn x y d d' := by
  have hbig := M.big
  have hlt := M.blk _ _ hS
  have H0 := Lib.hid (M.step _ _ _ hS ((Below.refl W.heap.size W).alloc (Nat.le_refl _) (.cells #[.func (.func g) #[] lb, .func (.func sf) #[] sb] 81)))
  have K0 := Lib.hid (Keeps.of_below (bo := bo) ((Below.refl W.heap.size W).alloc (Nat.le_refl _) (.cells #[.func (.func g) #[] lb, .func (.func sf) #[] sb] 81)))
  have HM := Lib.hid M; clear M hS
  go_enter Try.func90, Try.ntmps90
  go_wp2
  go_loopw [8] (fun vi wr => ∃ (i : Nat) (di : Array Nat), vi = .int .i64 i ∧ i ≤ k ∧ Hid (S di wr) ∧ Keeps bo (W.alloc (.cells #[.func (.func g) #[] lb, .func (.func sf) #[] sb] 81)) wr ∧ Hid (SwapAt a b i d di) ∧ Hid (∀ x y, x ≤ a → b + k ≤ y → y ≤ n → PermIn x y d di)) (fun vi _ => k - (intOf vi).toNat)
  case atStart => exact ⟨0, d, rfl, Nat.zero_le _, H0, Keeps.refl _ _, SwapAt.start a b d, fun x y _ _ _ => permIn_refl _ _ _⟩
  case round =>
    obtain ⟨i, di, rfl, hik, HS, hK, HA, HP⟩ := hrel
    have hz := hK.size
    rw [World.size_alloc] at hz
    have cc : ∀ kk v, (W.alloc (.cells #[.func (.func g) #[] lb, .func (.func sf) #[] sb] 81)).cell? ⟨W.heap.size, kk, none⟩ = some v → wr.cell? ⟨W.heap.size, kk, none⟩ = some v := fun kk v h => (hK.cell (p := ⟨W.heap.size, kk, none⟩) (by rw [World.size_alloc]; exact Nat.lt_succ_self _) (by show W.heap.size ≠ bo; omega)).trans h
    have c1 := cc 1 (.func (.func sf) #[] sb) (by simp)
    have HK := Lib.hid hK; clear cc hK
    by_cases hik' : i < k
    · obtain ⟨W', hs, hS', hK'⟩ := HM.out.swap _ _ (a + i) (b + i) HS.out (by omega) (by omega)
      have e1 : (((a + i : Nat)) : Int) = (a : Int) + i := by omega
      have e2 : (((b + i : Nat)) : Int) = (b : Int) + i := by omega
      rw [e1, e2] at hs
      have HS' := Lib.hid hS'; have HK' := Lib.hid hK'; clear hS' hK' e1 e2
      go_wp2
      go_roundw
      case rel =>
        have hsz := HM.out.size _ _ HS.out
        have hd : d.size = n := by rw [← HA.out.1]; exact hsz
        refine ⟨i + 1, _, by go_num, by omega, HS', HK.out.trans HK'.out, HA.out.step (by omega) (by omega), fun x y h1 h2 h3 => permIn_trans _ _ _ _ _ (HP.out x y h1 h2 h3) (swp_permIn _ _ _ _ _ (by omega) (by omega) (by omega) (by omega) (by omega))⟩
      case measure => simp [intOf]; omega
    · obtain rfl : i = k := by omega
      go_wp2
      go_end0
      exact ⟨rfl, di, HS.out, K0.out.trans HK.out, HA.out, HP.out⟩
end Go.Proofs.Ytjipchloebbldaa
