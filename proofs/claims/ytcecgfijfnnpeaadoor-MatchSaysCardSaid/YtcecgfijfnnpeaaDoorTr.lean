/- Rows of texts in memory. -/
import Derived.Test.YtcecgfijfnnpeaaDoorBase
import Derived.Below
namespace Go.Proofs.YtcecgfijfnnpeaaDoor
open Go.RowKit

/-- The slice p (of as many as ss) holds the texts ss, in a block below B. -/
def TRow (w : World) (B : Nat) (p : Option Addr) (ss : List ByteArray) : Prop :=
  ss = [] ∨ ∃ b off, p = some ⟨b, off, none⟩ ∧ b < B ∧ ∀ i (h : i < ss.length), w.cell? ⟨b, off + i, none⟩ = some (.string ss[i])
theorem TRow.below {w w' : World} {B : Nat} {p : Option Addr} {ss : List ByteArray} (h : TRow w B p ss) (hb : Below B w w') : TRow w' B p ss := by
  rcases h with h | ⟨b, off, hp, ha, hc⟩
  · exact .inl h
  · exact .inr ⟨b, off, hp, ha, fun i hi => (hb.cell (p := ⟨b, off + i, none⟩) ha).trans (hc i hi)⟩
theorem TRow.grow {w : World} {B C : Nat} {p : Option Addr} {ss : List ByteArray} (h : TRow w B p ss) (hb : B ≤ C) : TRow w C p ss := by
  rcases h with h | ⟨b, off, hp, ha, hc⟩
  · exact .inl h
  · exact .inr ⟨b, off, hp, Nat.lt_of_lt_of_le ha hb, hc⟩
theorem TRow.at_ {w : World} {B : Nat} {p : Option Addr} {ss : List ByteArray} (h : TRow w B p ss) (i : Nat) (hi : i < ss.length) : ∃ b off, p = some ⟨b, off, none⟩ ∧ b < B ∧ w.cell? ⟨b, off + i, none⟩ = some (.string ss[i]) := by
  rcases h with h | ⟨b, off, hp, ha, hc⟩
  · subst h; simp at hi
  · exact ⟨b, off, hp, ha, hc i hi⟩
theorem TRow.take {w : World} {B : Nat} {p : Option Addr} {ss : List ByteArray} (h : TRow w B p ss) (k : Nat) : TRow w B p (ss.take k) := by
  rcases h with h | ⟨b, off, hp, ha, hc⟩
  · exact .inl (by rw [h]; simp)
  · exact .inr ⟨b, off, hp, ha, fun i hi => by rw [List.getElem_take]; exact hc i (by rw [List.length_take] at hi; omega)⟩

end Go.Proofs.YtcecgfijfnnpeaaDoor
