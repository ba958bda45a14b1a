/- A slice of texts that came in, or that a call made: what it holds. -/
import Derived.Test.YtnlbibfjhobmjaaDoorBytes
namespace Go.Proofs.YtnlbibfjhobmjaaDoor
open Go.RowKit
set_option maxRecDepth 100000

/-- The slice p (of as many as ss) holds the texts ss, all below block B. -/
def SRow (w : World) (B : Nat) (p : Option Addr) (ss : List ByteArray) : Prop :=
  ss = [] ∨ ∃ a : Addr, p = some a ∧ a.block < B ∧ ∀ i (h : i < ss.length), w.cell? (a.add i) = some (.string ss[i])
theorem add_block (a : Addr) (i : Nat) : (a.add i).block = a.block := by unfold Addr.add; split <;> rfl
theorem SRow.below {w w' : World} {B : Nat} {p : Option Addr} {ss : List ByteArray} (h : SRow w B p ss) (hb : Below B w w') : SRow w' B p ss := by
  rcases h with h | ⟨a, hp, ha, hc⟩
  · exact .inl h
  · exact .inr ⟨a, hp, ha, fun i hi => by rw [hb.cell (p := a.add i) (by rw [add_block]; exact ha)]; exact hc i hi⟩
theorem SRow.grow {w : World} {B C : Nat} {p : Option Addr} {ss : List ByteArray} (h : SRow w B p ss) (hb : B ≤ C) : SRow w C p ss := by
  rcases h with h | ⟨a, hp, ha, hc⟩
  · exact .inl h
  · exact .inr ⟨a, hp, Nat.lt_of_lt_of_le ha hb, hc⟩
theorem SRow.at_ {w : World} {B : Nat} {p : Option Addr} {ss : List ByteArray} (h : SRow w B p ss) (i : Nat) (hi : i < ss.length) : ∃ a : Addr, p = some a ∧ w.cell? (a.add i) = some (.string ss[i]) := by
  rcases h with h | ⟨a, hp, _, hc⟩
  · subst h; simp at hi
  · exact ⟨a, hp, hc i hi⟩

end Go.Proofs.YtnlbibfjhobmjaaDoor
