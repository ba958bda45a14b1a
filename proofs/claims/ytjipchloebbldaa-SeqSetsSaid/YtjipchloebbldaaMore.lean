/- Small facts of lists in memory, and that a value is the same as itself. -/
import Derived.Test.YtjipchloebbldaaClone
import Derived.Test.YtjipchloebbldaaOrd
import Derived.Lib.SmallJoins
namespace Go.Proofs.Ytjipchloebbldaa
open Go.RowKit

theorem rep_list {w : World} {lo hi : Nat} {l : List T} {v : Value} (h : Rep w lo hi (mkList l) v) : ∃ (p : Option Addr) (cap : Nat), v = .agg #[.int .i64 4, .int .i64 0, .string ByteArray.empty, .slice p l.length cap] ∧ l.length ≤ cap ∧ l.length * 56 ≤ 140737488355328 ∧ RepAll w lo hi l p := by
  unfold mkList Rep at h
  obtain ⟨p, cap, hv, _, _, _, h1, h2, h3⟩ := h
  exact ⟨p, cap, hv, h1, h2, h3⟩

theorem cell_set4 (w : World) (b o1 o2 o3 o4 g x : Nat) (c0 c1 c2 c3 : Value) (h : g ≠ b) : ((((w.setCell ⟨b, o1, none⟩ c0).setCell ⟨b, o2, none⟩ c1).setCell ⟨b, o3, none⟩ c2).setCell ⟨b, o4, none⟩ c3).cell? ⟨g, x, none⟩ = w.cell? ⟨g, x, none⟩ := by
  rw [World.cell?_setCell_other _ _ _ _ (fun e => by cases e; exact h rfl), World.cell?_setCell_other _ _ _ _ (fun e => by cases e; exact h rfl), World.cell?_setCell_other _ _ _ _ (fun e => by cases e; exact h rfl), World.cell?_setCell_other _ _ _ _ (fun e => by cases e; exact h rfl)]
theorem heap_set4 (w : World) (b o1 o2 o3 o4 g : Nat) (c0 c1 c2 c3 : Value) (h : g ≠ b) : ((((w.setCell ⟨b, o1, none⟩ c0).setCell ⟨b, o2, none⟩ c1).setCell ⟨b, o3, none⟩ c2).setCell ⟨b, o4, none⟩ c3).heap[g]? = w.heap[g]? := by
  rw [Below.heap_setCell _ _ _ _ h, Below.heap_setCell _ _ _ _ h, Below.heap_setCell _ _ _ _ h, Below.heap_setCell _ _ _ _ h]
/-- Cells stand here, whatever they hold. -/
def Row (w : World) (b off m : Nat) : Prop := ∀ o, o < m → ∃ u, w.cell? ⟨b, off + o, none⟩ = some u
theorem RepAll.row {w : World} {lo hi : Nat} {l : List T} {b off : Nat} (h : RepAll w lo hi l (some ⟨b, off, none⟩)) : Row w b off (l.length * 4) := by
  intro o ho
  obtain ⟨b', off', c0, c1, c2, c3, hp, _, _, h0, h1, h2, h3, _⟩ := h.at' (o / 4) (by omega)
  cases hp
  have hc : o % 4 = 0 ∨ o % 4 = 1 ∨ o % 4 = 2 ∨ o % 4 = 3 := by omega
  rcases hc with hc | hc | hc | hc
  · exact ⟨_, by rw [← h0]; congr 2; omega⟩
  · exact ⟨_, by rw [← h1]; congr 2; omega⟩
  · exact ⟨_, by rw [← h2]; congr 2; omega⟩
  · exact ⟨_, by rw [← h3]; congr 2; omega⟩
theorem Row.below {w w' : World} {b off m B : Nat} (h : Row w b off m) (hb : Below B w w') (hB : b < B) : Row w' b off m := fun o ho => by
  obtain ⟨u, hu⟩ := h o ho; exact ⟨u, (hb.cell (p := ⟨b, off + o, none⟩) hB).trans hu⟩
theorem Row.setCell {w : World} {b off m : Nat} (h : Row w b off m) (p : Addr) (v : Value) : Row (w.setCell p v) b off m := fun o ho => by
  obtain ⟨u, hu⟩ := h o ho
  obtain ⟨v', hv'⟩ := cell?_setCell_some (w := w) (p := p) (x := v) (q := ⟨b, off + o, none⟩) (v := u) hu
  exact ⟨v', hv'⟩
theorem Row.olds {w : World} {b off m : Nat} (h : Row w b off m) : ∃ olds : List Value, olds.length = m ∧ ∀ j u, olds[j]? = some u → w.cell? (Addr.add ⟨b, off, none⟩ j) = some u := by
  refine ⟨(List.range m).map (fun o => (w.cell? ⟨b, off + o, none⟩).getD undef), by simp, fun j u hu => ?_⟩
  have hadd : Addr.add ⟨b, off, none⟩ j = ⟨b, off + j, none⟩ := by
    unfold Addr.add; split
    · rename_i h; subst h; rfl
    · rfl
  rw [hadd]
  rw [List.getElem?_map] at hu
  by_cases hj : j < m
  · obtain ⟨v, hv⟩ := h j hj
    rw [List.getElem?_range hj] at hu
    simp [hv] at hu
    rw [hv, hu]
  · rw [List.getElem?_eq_none (by simp; omega)] at hu; simp at hu

theorem compareBytes_self : ∀ l : List UInt8, Lib.compareBytes l l = 0
  | [] => by simp [Lib.compareBytes]
  | a :: l => by unfold Lib.compareBytes; rw [if_neg (by simp), if_neg (by simp)]; exact compareBytes_self l
theorem ord_self : ∀ t, ord t t = 0 := by
  refine T.ind_ (fun k n s l ih => ?_)
  have hall : ∀ l : List T, (∀ t ∈ l, ord t t = 0) → ordAll l l = 0 := by
    intro l
    induction l with
    | nil => intro _; simp [ordAll]
    | cons x r ihr => intro h; rw [ordAll, if_neg (by rw [h x (by simp)]; simp)]; exact ihr (fun t ht => h t (by simp [ht]))
  rw [ord, if_neg (by simp)]
  split
  · exact compareBytes_self _
  · split
    · exact hall l ih
    · simp [cmpI]
theorem sameB_self (t : T) : sameB t t = true := by unfold sameB; rw [ord_self]; rfl
end Go.Proofs.Ytjipchloebbldaa
