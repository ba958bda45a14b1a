/- What beginning a list, laying a value into the innermost one, and ending it make of the open lists. -/
import Derived.Test.YtlinclbodbbemaaDoorY12
import Derived.Test.YtlinclbodbbemaaDoorY18
namespace Go.Proofs.YtlinclbodbbemaaDoor
open Go.RowKit
set_option maxRecDepth 100000

theorem Lev.blocks {w : World} {g : Nat} {A : List Nat} : ∀ {st : List (List T)} {frs : List (Value × List Value)}, Lev w g A st frs → ∀ f ∈ frs, ∀ b, f.1.ownBlock = some b → g < b ∧ b < w.heap.size
  | [], [], _, _, hf, _, _ => by cases hf
  | _ :: _, f :: q, ⟨h1, _, h3⟩, f', hf, b, hb => by
    rcases List.mem_cons.1 hf with e | e
    · subst e; have := h1.lt b hb; omega
    · exact Lev.blocks h3 f' e b hb
  | [], _ :: _, h, _, _, _, _ => h.elim
  | _ :: _, [], h, _, _, _, _ => h.elim
theorem live_mem {ov : Value} {frs : List (Value × List Value)} {b : Nat} : b ∈ live ov frs ↔ ov.ownBlock = some b ∨ ∃ f ∈ frs, f.1.ownBlock = some b := by
  unfold live; simp [mem_bk]
theorem live_snoc (ov : Value) (frs : List (Value × List Value)) (f : Value × List Value) : live ov (frs ++ [f]) = live ov frs ++ bk f.1 := by
  unfold live; simp
theorem Stk.live_lt {w : World} {g : Nat} {s : ByteArray} {x : Rd} {st : List (List T)} {frs : List (Value × List Value)} (h : Stk w g s x st frs) {b : Nat} (hb : b ∈ live x.ov frs) : g < b ∧ b < w.heap.size := by
  rcases live_mem.1 hb with e | ⟨f, hf, e⟩
  · have := h.own.lt b e; omega
  · exact h.lev.blocks f hf b e

/-- Behind the beginning of a list. -/
theorem Stk.begun {w w' : World} {g : Nat} {s : ByteArray} {x : Rd} {st : List (List T)} {frs : List (Value × List Value)} {e : Ending} (h : Stk w g s x st frs) (hp : BegPost s x g w frs.length (ocs (frs.map (·.1))) e w') :
    e = .returned (.tuple #[]) ∧ ∃ x', x'.pos = x.pos ∧ x'.sk = x.sk ∧ x'.md = x.md + 1 ∧ Stk w' g s x' (st ++ [[]]) (frs ++ [(.slice none 0 0, [])]) ∧ Below g w w' := by
  obtain ⟨he, gb, cb, hr, hown, hat, h1, h2, h3, h4, h5⟩ := hp
  have hfar : ∀ b ∈ live x.ov frs, b ≠ gb → b < w.heap.size := fun b hb _ => (h.live_lt hb).2
  have hgbf : ∀ f ∈ frs, ∀ b, f.1.ownBlock = some b → b ≠ gb ∧ some b ≠ x.ov.ownBlock := by
    intro f hf b hb
    have hbl := h.lev.blocks f hf b hb
    have hnd := h.nd
    unfold live at hnd
    rw [List.nodup_append] at hnd
    have hne : some b ≠ x.ov.ownBlock := fun e => hnd.2.2 b (mem_bk.2 e.symm) b (List.mem_flatMap.2 ⟨f, hf, mem_bk.2 hb⟩) rfl
    refine ⟨fun e => ?_, hne⟩
    rcases hat with ha | ha
    · exact hne (by rw [ha, e])
    · omega
  refine ⟨he, { x with md := x.md + 1, ov := .slice (some ⟨gb, 0, none⟩) (frs.length + 1) cb }, rfl, rfl, rfl, ⟨hr, ?_, ?_, ?_⟩, ⟨h1, h2, h3, h4, fun k hk => ?_⟩⟩
  · have e : (frs ++ [((Value.slice none 0 0 : Value), ([] : List Value))]).map (·.1) = frs.map (·.1) ++ [.slice none 0 0] := by simp
    rw [e, ocs_append, List.length_append]
    exact hown
  · have el := live_snoc (.slice (some ⟨gb, 0, none⟩) (frs.length + 1) cb) frs (.slice none 0 0, [])
    have eb : bk (.slice none 0 0) = [] := rfl
    rw [eb, List.append_nil] at el
    refine Lev.snoc (l := []) (f := (.slice none 0 0, [])) (World.ownsRow_nil _ _ _ _) (by unfold Itm; rfl) ?_
    rw [el]
    refine h.lev.keep (fun b hf => ⟨hf.1, Nat.lt_of_lt_of_le hf.2.1 h4, fun hm => ?_⟩) (fun p hp => ?_) (fun f hf b hb => h5 b (h.lev.blocks f hf b hb).2 (by have := (h.lev.blocks f hf b hb).1; omega) (hgbf f hf b hb).2)
    · rcases live_mem.1 hm with hm | hm
      · obtain rfl : gb = b := by simpa [Value.ownBlock] using hm
        rcases hat with ha | ha
        · exact hf.2.2 (live_mem.2 (.inl ha))
        · have := hf.2.1; omega
      · exact hf.2.2 (live_mem.2 (.inr hm))
    · exact World.cell?_of_block (h5 p.block hp.2.1 (by have := hp.1; omega) (fun e => hp.2.2 (live_mem.2 (.inl e.symm))))
  · have el := live_snoc (.slice (some ⟨gb, 0, none⟩) (frs.length + 1) cb) frs (.slice none 0 0, [])
    have eb : bk (.slice none 0 0) = [] := rfl
    rw [eb, List.append_nil] at el
    show (live (.slice (some ⟨gb, 0, none⟩) (frs.length + 1) cb) (frs ++ [(.slice none 0 0, [])])).Nodup
    rw [el]
    have hnd := h.nd
    unfold live at hnd ⊢
    rw [List.nodup_append] at hnd ⊢
    refine ⟨by simp [bk, Value.ownBlock], hnd.2.1, ?_⟩
    intro a ha b hb
    have e : a = gb := by simpa [bk, Value.ownBlock] using ha
    subst e
    obtain ⟨f, hf, hfb⟩ := List.mem_flatMap.1 hb
    exact fun e => (hgbf f hf b (mem_bk.1 hfb)).1 e.symm
  · refine h5 k (Nat.lt_trans hk h.rd.lt) (by omega) (fun e => ?_)
    have := (h.own.lt k e.symm).1
    omega

end Go.Proofs.YtlinclbodbbemaaDoor
