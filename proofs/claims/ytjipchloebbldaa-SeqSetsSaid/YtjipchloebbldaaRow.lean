/- Items by their places in a row. -/
import Derived.Test.YtjipchloebbldaaRowS
import Derived.Shelf.GgSortFunc.RowK
namespace Go.Proofs.Ytjipchloebbldaa
open Go.RowKit
set_option maxRecDepth 100000

/-! The items by their places: an array of places tells how the row stands. -/
open Go.Sort
/-- Items whose cells are enc, in the row d of their places. -/
structure Lies (W : World) (bo : Nat) (l : List T) (enc : Nat → List Value) : Prop where
  len : ∀ x, (enc x).length = 4
  one : ∀ x, ∀ v ∈ enc x, v.oneCell' = true
  rep : ∀ i (h : i < l.length), Rep W (bo + 1) W.heap.size l[i] (.agg (enc i).toArray)
theorem Lies.keep {W W' : World} {bo : Nat} {l : List T} {enc : Nat → List Value} (h : Lies W bo l enc) (hs : W.heap.size ≤ W'.heap.size) (hk : ∀ k, bo < k → k < W.heap.size → W'.heap[k]? = W.heap[k]?) : Lies W' bo l enc :=
  ⟨h.len, h.one, fun i hi => (h.rep i hi).keep (Nat.le_refl _) hs (fun p h1 h2 => by simp only [World.cell?]; rw [hk p.block (by omega) h2])⟩
/-- A row of copies, read by places. -/
theorem Part.lies {W : World} {bo : Nat} {l : List T} (h : Part W bo l l.length) : ∃ enc, Lies W bo l enc ∧ HoldsK enc 4 W bo 0 (Array.range l.length) := by
  obtain ⟨cs, h1, h2, h3⟩ := h
  have hc : ∀ o, W.cell? ⟨bo, o, none⟩ = cs[o]? := fun o => cell_of_row _ _ o _ _ _ h1
  refine ⟨fun i => if i < l.length then [cs[i * 4]!, cs[i * 4 + 1]!, cs[i * 4 + 2]!, cs[i * 4 + 3]!] else [.int .i64 0, .int .i64 0, .int .i64 0, .int .i64 0], ⟨fun x => by split <;> rfl, fun x v hv => ?_, fun i hi => ?_⟩, fun t ht => ?_⟩
  · by_cases hx : x < l.length
    · rw [if_pos hx] at hv
      obtain ⟨c0, c1, c2, c3, e0, e1, e2, e3, hr⟩ := h3 x hx hx
      obtain ⟨k, n, s, p, len, cap, hf⟩ := rep_form hr
      simp only [Value.agg.injEq, Array.mk.injEq, List.cons.injEq, and_true] at hf
      obtain ⟨rfl, rfl, rfl, rfl⟩ := hf
      simp only [getElem!_def, e0, e1, e2, e3, List.mem_cons, List.not_mem_nil, or_false] at hv
      rcases hv with rfl | rfl | rfl | rfl <;> rfl
    · rw [if_neg hx] at hv
      simp only [List.mem_cons, List.not_mem_nil, or_false, or_self] at hv
      subst hv; rfl
  · obtain ⟨c0, c1, c2, c3, e0, e1, e2, e3, hr⟩ := h3 i hi hi
    simp only [if_pos hi, getElem!_def, e0, e1, e2, e3]
    exact hr
  · rw [size_flatK, Array.size_range] at ht
    rw [get_flatK _ _ _ _ (by rw [Array.size_range]; exact ht), Nat.zero_add, hc]
    have h4 : t / 4 < l.length := by omega
    have hm : (Array.range l.length)[t / 4]! = t / 4 := by rw [getElem!_pos _ _ (by rw [Array.size_range]; exact h4), Array.getElem_range]
    rw [hm, if_pos h4]
    refine ⟨?_, by simp [World.frozen?, h1]⟩
    rw [Array.getElem?_eq_getElem (by omega : t < cs.size)]
    have h5 : cs[t]'(by omega) = cs[t]! := (getElem!_pos cs t (by omega)).symm
    rw [h5]
    have e := Nat.div_add_mod t 4
    rcases (by omega : t % 4 = 0 ∨ t % 4 = 1 ∨ t % 4 = 2 ∨ t % 4 = 3) with h | h | h | h <;> rw [h] <;> rw [h] at e
    · show _ = some cs[t / 4 * 4]!; congr 2; omega
    · show _ = some cs[t / 4 * 4 + 1]!; congr 2; omega
    · show _ = some cs[t / 4 * 4 + 2]!; congr 2; omega
    · show _ = some cs[t / 4 * 4 + 3]!; congr 2; omega
/-- And back: the row holds the places d. -/
theorem Lies.all {W : World} {bo : Nat} {l l' : List T} {enc : Nat → List Value} {d : Array Nat} (h : Lies W bo l enc) (hH : HoldsK enc 4 W bo 0 d) (hbo : bo < W.heap.size) (hl : l'.length = d.size) (hd : ∀ i (h : i < d.size), ∃ h2 : d[i] < l.length, l'[i]'(by omega) = l[d[i]]) :
    RepAll W bo W.heap.size l' (some ⟨bo, 0, none⟩) := by
  refine RepAll.of (Nat.le_refl _) hbo l' 0 (fun i hi => ?_)
  have hid : i < d.size := by omega
  obtain ⟨h2, h3⟩ := hd i hid
  have he : d[i]! = d[i] := getElem!_pos d i hid
  have c := fun c (hc : c < 4) => (hH.cell hid hc).1
  rw [he] at c
  have hr := h.rep _ h2
  have hlen := h.len d[i]
  match hm : enc d[i], hlen with
  | [c0, c1, c2, c3], _ =>
    rw [hm] at c hr
    exact ⟨c0, c1, c2, c3, (c 0 (by omega)).trans rfl, (c 1 (by omega)).trans rfl, (c 2 (by omega)).trans rfl, (c 3 (by omega)).trans rfl, by rw [h3]; exact hr.keep (by omega) (Nat.le_refl _) (fun _ _ _ => rfl)⟩
end Go.Proofs.Ytjipchloebbldaa
