/- The contract of the reader's names of codes. -/
import Derived.Test.YtemkikjcjhmlaaaGreatDoorM08
import Derived.Deep.DeepCutAuto
namespace Go.Proofs.YtemkikjcjhmlaaaGreatDoor
open Go.RowKit
set_option maxRecDepth 100000

/-- The name of a code, as the program's table holds it. -/
def nameS (i : Nat) : ByteArray := ⟨(names.getD i []).toArray⟩
theorem nameS_list (i : Nat) : (nameS i).data.toList = names.getD i [] := rfl
/-- The program's table of names stands in its variable. -/
structure Names (w : World) : Prop where
  at_ : ∀ i, i < 15 → w.cell? ⟨6, i, none⟩ = some (.string (nameS i))
theorem Names.lt {w : World} (h : Names w) : 6 < w.heap.size := by
  have := World.block_lt_of_cell? w _ (h.at_ 0 (by omega)); exact this
theorem Names.but {w w' : World} {g : Nat} (h : Names w) (hb : But g w w') (hg : 6 ≠ g) : Names w' :=
  ⟨fun i hi => (hb.cell (p := ⟨6, i, none⟩) h.lt hg).trans (h.at_ i hi)⟩
theorem Names.below {w w' : World} {B : Nat} (h : Names w) (hb : Below B w w') (hB : 6 < B) : Names w' :=
  ⟨fun i hi => (hb.cell (p := ⟨6, i, none⟩) hB).trans (h.at_ i hi)⟩

theorem codeGo_step (inp : Bs) (i far : Nat) (h : i < 15) : codeGo inp i far (names.drop i) = if lcp inp (names.getD i []) = (names.getD i []).length then (some (i : Int), (names.getD i []).length) else codeGo inp (i + 1) (max far (lcp inp (names.getD i []))) (names.drop (i + 1)) := by
  have h' : i < names.length := h
  rw [List.drop_eq_getElem_cons h', codeGo]
  have e : names.getD i [] = names[i] := by simp [List.getD, h']
  rw [e]
theorem codeGo_end (inp : Bs) (far : Nat) : codeGo inp 15 far (names.drop 15) = (none, far) := rfl

abbrev namesV : Value := .agg #[.string (nameS 0), .string (nameS 1), .string (nameS 2), .string (nameS 3), .string (nameS 4), .string (nameS 5), .string (nameS 6), .string (nameS 7), .string (nameS 8), .string (nameS 9), .string (nameS 10), .string (nameS 11), .string (nameS 12), .string (nameS 13), .string (nameS 14)]
theorem idx_names (w : World) (j : Nat) (hj : j < 15) : (Instr.index 131 namesV (.int .i64 (j : Int))).run Tryz.prog w = .ok (.string (nameS j)) w := by
  have h : j = 0 ∨ j = 1 ∨ j = 2 ∨ j = 3 ∨ j = 4 ∨ j = 5 ∨ j = 6 ∨ j = 7 ∨ j = 8 ∨ j = 9 ∨ j = 10 ∨ j = 11 ∨ j = 12 ∨ j = 13 ∨ j = 14 := by omega
  rcases h with rfl | rfl | rfl | rfl | rfl | rfl | rfl | rfl | rfl | rfl | rfl | rfl | rfl | rfl | rfl
  all_goals simp [Instr.index, run_underlying Tryz.underlying131, asIntOf, go_sem, namesV]

theorem ext_list (s : ByteArray) (p : Nat) : (s.extract p s.size).data.toList = s.data.toList.drop p := by
  have h : (s.extract p s.size).data = s.data.extract p s.size := by simp
  rw [h]
  simp
  apply List.take_of_length_le
  simp
end Go.Proofs.YtemkikjcjhmlaaaGreatDoor
