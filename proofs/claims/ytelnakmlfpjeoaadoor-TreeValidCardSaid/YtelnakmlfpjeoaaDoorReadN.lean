/- How an argument that is a node, or a list of nodes, is read: the trees that it holds, within the reach. -/
import Derived.Test.YtelnakmlfpjeoaaDoorRead
import Derived.Test.YtelnakmlfpjeoaaDoorNt
namespace Go.Proofs.YtelnakmlfpjeoaaDoor
open Go.RowKit
set_option maxRecDepth 100000

theorem Tryd.cellsN : Tryd.prog.cellsOf 27 = 8 := by kernel_rfl
theorem Tryd.bytesN : Tryd.prog.bytesOf 27 = 112 := by kernel_rfl
theorem Tryd.cellsNs : Tryd.prog.cellsOf 22 = 1 := by kernel_rfl

section
variable {H : Type} {enc : TypeId × Value → H} {w : World} {spare : Nat → Bool} {held : Bool}

set_option maxHeartbeats 1000000 in
theorem readN_both : ∀ fuel : Nat,
    (∀ (cs : List Value) (x : DataW H × List MemPlace), DataW.trod enc Tryd.prog w 0 (fun _ => true) held fuel 27 cs = some x → Fit 27 x.1 → ∃ t, ∃ c0 c1 c2 c3 c4 c5 c6 c7, cs = [c0, c1, c2, c3, c4, c5, c6, c7] ∧ NRep w 0 w.heap.size t (.agg #[c0, c1, c2, c3, c4, c5, c6, c7])) ∧
    (∀ (cs : List Value) (x : DataW H × List MemPlace), DataW.trod enc Tryd.prog w 0 (fun _ => true) held fuel 22 cs = some x → Fit 22 x.1 → ∃ l p cap, cs = [.slice p (l : List Nd).length cap] ∧ l.length ≤ cap ∧ l.length * 112 ≤ 140737488355328 ∧ NAll w 0 w.heap.size l p) := by
  intro fuel
  induction fuel using Nat.strongRecOn with
  | ind fuel ih =>
    refine ⟨fun cs x h hf => ?_, fun cs x h hf => ?_⟩
    · obtain ⟨xs, n, hn, hx, hlen, hxl, hg⟩ := DataW.trod_struct Tryd.underlying27 h
      rw [Tryd.cellsN] at hlen
      match cs, hlen with
      | [c0, c1, c2, c3, c4, c5, c6, c7], _ =>
        match xs, hxl with
        | [y0, y1, y2, y3, y4], _ =>
          have g0 := hg 0 _ rfl
          have g1 := hg 1 _ rfl
          have g2 := hg 2 _ rfl
          have g3 := hg 3 _ rfl
          have g4 := hg 4 _ rfl
          simp [Tryd.cellsI, Tryd.cellsV, Tryd.cellsS, Tryd.cellsNs] at g0 g1 g2 g3 g4
          obtain ⟨o, ho, ho2, how⟩ := DataW.trod_int Tryd.underlying3 g0
          obtain ⟨m, hm, hm2, hmw⟩ := DataW.trod_int Tryd.underlying3 g1
          obtain ⟨s, hs, hs2, _⟩ := DataW.trod_string Tryd.underlying9 g2
          simp only [List.cons.injEq, and_true] at ho hm hs
          subst ho hm hs
          have hw : ∀ q ∈ DataW.weightsEach Tryd.prog [3, 3, 9, 25, 22] [y0.1, y1.1, y2.1, y3.1, y4.1], q ≤ reachBytes := by
            intro q hq
            refine hf q ?_
            rw [hx]
            simpa [DataW.weights, Tryd.underlying27] using hq
          have hs3 : s.size ≤ reachBytes := by
            have := hw s.data.toList.length (by rw [hs2]; simp [DataW.weightsEach, DataW.weights])
            simpa using this
          obtain ⟨v, e0, e1, e2, e3, he, hv⟩ := (read_both n).1 _ _ g3 (fun q hq => hw q (by simp only [DataW.weightsEach, List.mem_append]; exact Or.inr (Or.inr (Or.inr (Or.inl hq)))))
          simp only [List.cons.injEq, and_true] at he
          obtain ⟨rfl, rfl, rfl, rfl⟩ := he
          obtain ⟨l, p, cap, hc, h1, h2, h3⟩ := (ih n (by omega)).2 _ _ g4 (fun q hq => hw q (by simp only [DataW.weightsEach, List.mem_append]; exact Or.inr (Or.inr (Or.inr (Or.inr (Or.inl hq))))))
          simp only [List.cons.injEq, and_true] at hc
          subst hc
          have hs4 : s.size ≤ 140737488355328 := by unfold reachBytes at hs3; omega
          obtain ⟨k', n', s', p', len', cap', hform⟩ := rep_form hv
          simp only [Value.agg.injEq, Array.mk.injEq, List.cons.injEq, and_true] at hform
          obtain ⟨rfl, rfl, rfl, rfl⟩ := hform
          refine ⟨.mk o m s v l, _, _, _, _, _, _, _, _, rfl, ?_⟩
          unfold NRep
          exact ⟨_, _, _, _, _, _, _, _, rfl, i64_of_wf how, i64_of_wf hmw, hs4, hv, h1, h2, h3⟩
    · rcases DataW.trod_slice Tryd.underlying22 h with ⟨rfl, _⟩ | ⟨a, len, cap, elems, rest, n, hn, rfl, hx, _, hlc, _, hel, hit, hsp, _⟩
      · exact ⟨[], none, 0, rfl, Nat.le_refl _, by simp, NAll.nil _ _ _ _⟩
      · obtain ⟨hrl, _⟩ := hsp rfl
        rw [Tryd.cellsN] at hit
        have hbytes : cap * 112 ≤ reachBytes := by
          have := hf ((elems.length + rest.length) * 112) (by rw [hx]; simp [DataW.weights, Tryd.underlying22, Tryd.bytesN])
          rw [hel, hrl] at this
          have e : len + (cap - len) = cap := by omega
          rw [e] at this; exact this
        have hel2 : ∀ i, i < len → ∃ t c0 c1 c2 c3 c4 c5 c6 c7, w.cell? (a.add (i * 8)) = some c0 ∧ w.cell? (a.add (i * 8 + 1)) = some c1 ∧ w.cell? (a.add (i * 8 + 2)) = some c2 ∧ w.cell? (a.add (i * 8 + 3)) = some c3 ∧ w.cell? (a.add (i * 8 + 4)) = some c4 ∧ w.cell? (a.add (i * 8 + 5)) = some c5 ∧ w.cell? (a.add (i * 8 + 6)) = some c6 ∧ w.cell? (a.add (i * 8 + 7)) = some c7 ∧ NRep w 0 w.heap.size t (.agg #[c0, c1, c2, c3, c4, c5, c6, c7]) := by
          intro i hi
          have hI := hit i hi
          have hex : elems[i]? = some (elems[i]'(by omega)) := List.getElem?_eq_getElem (by omega)
          rw [hex] at hI
          cases hcs : w.cells? 0 (a.add (i * 8)) 8 with
          | none => rw [hcs] at hI; simp at hI
          | some cs' =>
            rw [hcs] at hI
            simp only [Option.bind_some] at hI
            obtain ⟨t, c0, c1, c2, c3, c4, c5, c6, c7, hc, hr⟩ := (ih n (by omega)).1 _ _ hI (fun q hq => hf q (by
              rw [hx]
              simp only [DataW.weights, Tryd.underlying22, List.mem_cons, List.mem_append]
              exact Or.inr (Or.inl (weightsAll_mem (List.mem_map_of_mem (List.getElem_mem (by omega))) q hq))))
            obtain ⟨_, _, hat⟩ := World.cells?_some hcs
            subst hc
            refine ⟨t, c0, c1, c2, c3, c4, c5, c6, c7, ?_, ?_, ?_, ?_, ?_, ?_, ?_, ?_, hr⟩
            · have := hat 0 (by omega); rw [add_add] at this; simpa using this
            · have := hat 1 (by omega); rw [add_add] at this; simpa using this
            · have := hat 2 (by omega); rw [add_add] at this; simpa using this
            · have := hat 3 (by omega); rw [add_add] at this; simpa using this
            · have := hat 4 (by omega); rw [add_add] at this; simpa using this
            · have := hat 5 (by omega); rw [add_add] at this; simpa using this
            · have := hat 6 (by omega); rw [add_add] at this; simpa using this
            · have := hat 7 (by omega); rw [add_add] at this; simpa using this
        have hmk : ∀ (m i0 : Nat), i0 + m = len → ∃ l : List Nd, l.length = m ∧ NAll w 0 w.heap.size l (some (a.add (i0 * 8))) := by
          intro m
          induction m with
          | zero => intro i0 _; exact ⟨[], rfl, NAll.nil _ _ _ _⟩
          | succ m ihm =>
            intro i0 hi0
            obtain ⟨t, c0, c1, c2, c3, c4, c5, c6, c7, e0, e1, e2, e3, e4, e5, e6, e7, hr⟩ := hel2 i0 (by omega)
            obtain ⟨l, hl, hrl⟩ := ihm (i0 + 1) (by omega)
            refine ⟨t :: l, by simp [hl], ?_⟩
            unfold NAll
            have hblk := World.block_lt_of_cell? w _ e0
            refine ⟨a.add (i0 * 8), c0, c1, c2, c3, c4, c5, c6, c7, rfl, Nat.zero_le _, hblk, e0, by rw [add_add]; exact e1, by rw [add_add]; exact e2, by rw [add_add]; exact e3, by rw [add_add]; exact e4, by rw [add_add]; exact e5, by rw [add_add]; exact e6, by rw [add_add]; exact e7, hr, ?_⟩
            rw [add_add]
            have e : i0 * 8 + 8 = (i0 + 1) * 8 := by omega
            rw [e]; exact hrl
        obtain ⟨l, hl, hrl2⟩ := hmk len 0 (by omega)
        rw [Nat.zero_mul, add_zero] at hrl2
        unfold reachBytes at hbytes
        exact ⟨l, some a, cap, by rw [hl], by omega, by omega, hrl2⟩
end
end Go.Proofs.YtelnakmlfpjeoaaDoor
