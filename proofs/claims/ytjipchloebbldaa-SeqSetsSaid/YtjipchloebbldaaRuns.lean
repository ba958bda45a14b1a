/- Sorted runs of one length, in plain words. No program is named. -/
import Derived.Test.YtjipchloebbldaaSym
namespace Go.Proofs.Ytjipchloebbldaa
open Go.Sort
variable {lt : Nat → Nat → Bool}

theorem sorted_below {a b x y : Nat} {d d' : Array Nat} (h : SortedIn lt x y d) (hp : PermIn a b d d') (hy : y ≤ a) : SortedIn lt x y d' := fun i j h1 h2 h3 => by
  rw [hp.2.1 i (Or.inl (by omega)), hp.2.1 j (Or.inl (by omega))]; exact h i j h1 h2 h3
theorem sorted_above {a b x y : Nat} {d d' : Array Nat} (h : SortedIn lt x y d) (hp : PermIn a b d d') (hx : b ≤ x) : SortedIn lt x y d' := fun i j h1 h2 h3 => by
  rw [hp.2.1 i (Or.inr (by omega)), hp.2.1 j (Or.inr (by omega))]; exact h i j h1 h2 h3
/-- From a on: runs of bs, the last may be shorter. -/
inductive Runs (lt : Nat → Nat → Bool) (bs n : Nat) (d : Array Nat) : Nat → Prop
  | last (a : Nat) : n ≤ a + bs → SortedIn lt a n d → Runs lt bs n d a
  | more (a : Nat) : a + bs ≤ n → SortedIn lt a (a + bs) d → Runs lt bs n d (a + bs) → Runs lt bs n d a
/-- Up to a: runs of bs. -/
inductive Done (lt : Nat → Nat → Bool) (bs : Nat) (d : Array Nat) : Nat → Prop
  | start : Done lt bs d 0
  | step (a : Nat) : Done lt bs d a → SortedIn lt a (a + bs) d → Done lt bs d (a + bs)
theorem Done.runs {bs n : Nat} {d : Array Nat} {a : Nat} (h : Done lt bs d a) : a ≤ n → Runs lt bs n d a → Runs lt bs n d 0 := by
  induction h with
  | start => exact fun _ h => h
  | step a _ hs ih => exact fun h1 h2 => ih (by omega) (.more a h1 hs h2)
theorem Done.move {bs a x y : Nat} {d d' : Array Nat} (h : Done lt bs d a) : a ≤ x → PermIn x y d d' → Done lt bs d' a := by
  induction h with
  | start => exact fun _ _ => .start
  | step a _ hs ih => exact fun h1 h2 => .step a (ih (by omega) h2) (sorted_below hs h2 h1)
theorem Runs.move {bs n a x y : Nat} {d d' : Array Nat} (h : Runs lt bs n d a) : y ≤ a → PermIn x y d d' → Runs lt bs n d' a := by
  induction h with
  | last a h1 h2 => exact fun h3 h4 => .last a h1 (sorted_above h2 h4 h3)
  | more a h1 h2 _ ih => exact fun h3 h4 => .more a h1 (sorted_above h2 h4 h3) (ih (by omega) h4)
theorem Runs.head {bs n a : Nat} {d : Array Nat} (h : Runs lt bs n d a) (hn : a + bs ≤ n) : SortedIn lt a (a + bs) d ∧ Runs lt bs n d (a + bs) := by
  cases h with
  | last _ h1 h2 =>
    obtain rfl : n = a + bs := by omega
    exact ⟨h2, .last _ (by omega) (fun i j h1 h2 h3 => by omega)⟩
  | more _ h1 h2 h3 => exact ⟨h2, h3⟩
theorem Runs.tail {bs n a : Nat} {d : Array Nat} (h : Runs lt bs n d a) (hn : n ≤ a + bs) : SortedIn lt a n d := by
  cases h with
  | last _ h1 h2 => exact h2
  | more _ h1 h2 h3 =>
    obtain rfl : n = a + bs := by omega
    exact h2
end Go.Proofs.Ytjipchloebbldaa
