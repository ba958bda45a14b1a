/- How an argument that is a list of values is read: the trees that it holds, within the reach. -/
import Derived.Test.YtminmadaeaiihaaDoorClone
import Derived.SizedLaws
import Derived.ChangeArms
namespace Go.Proofs.YtminmadaeaiihaaDoor
open Go.RowKit
set_option maxRecDepth 100000

theorem Tryd.cellsV : Tryd.prog.cellsOf 38 = 4 := by kernel_rfl
theorem Tryd.bytesV : Tryd.prog.bytesOf 38 = 56 := by kernel_rfl
theorem Tryd.cellsI : Tryd.prog.cellsOf 3 = 1 := by kernel_rfl
theorem Tryd.cellsL : Tryd.prog.cellsOf 2 = 1 := by kernel_rfl
theorem Tryd.cellsS : Tryd.prog.cellsOf 9 = 1 := by kernel_rfl
theorem Tryd.cellsVs : Tryd.prog.cellsOf 36 = 1 := by kernel_rfl

theorem i64_of_wf {n : Int} (h : (Lit.int .i64 n).wf = true) : I64 n := by
  unfold Lit.wf at h
  unfold I64
  have h1 : IntKind.i64.min = -9223372036854775808 := rfl
  have h2 : IntKind.i64.max = 9223372036854775807 := rfl
  simp only [Bool.and_eq_true, decide_eq_true_eq, h1, h2] at h
  exact h

section
variable {H : Type} {enc : TypeId × Value → H} {w : World} {spare : Nat → Bool} {held : Bool}

def Fit (t : TypeId) (d : DataW H) : Prop := ∀ n ∈ DataW.weights Tryd.prog t d, n ≤ reachBytes

theorem weightsAll_mem {P : Program} {e : TypeId} : ∀ {l : List (DataW H)} {d : DataW H}, d ∈ l → ∀ n ∈ DataW.weights P e d, n ∈ DataW.weightsAll P e l
  | [], _, h, _, _ => absurd h (by simp)
  | x :: r, d, h, n, hn => by
    simp only [DataW.weightsAll, List.mem_append]
    rcases List.mem_cons.1 h with rfl | h
    · exact Or.inl hn
    · exact Or.inr (weightsAll_mem h n hn)

theorem read_both : ∀ fuel : Nat,
    (∀ (cs : List Value) (x : DataW H × List MemPlace), DataW.trod enc Tryd.prog w 0 (fun _ => true) held fuel 38 cs = some x → Fit 38 x.1 → ∃ t, ∃ c0 c1 c2 c3, cs = [c0, c1, c2, c3] ∧ Rep w 0 w.heap.size t (.agg #[c0, c1, c2, c3])) ∧
    (∀ (cs : List Value) (x : DataW H × List MemPlace), DataW.trod enc Tryd.prog w 0 (fun _ => true) held fuel 36 cs = some x → Fit 36 x.1 → ∃ l p cap, cs = [.slice p (l : List T).length cap] ∧ l.length ≤ cap ∧ l.length * 56 ≤ 140737488355328 ∧ RepAll w 0 w.heap.size l p) := by
  intro fuel
  induction fuel using Nat.strongRecOn with
  | ind fuel ih =>
    refine ⟨fun cs x h hf => ?_, fun cs x h hf => ?_⟩
    · obtain ⟨xs, n, hn, hx, hlen, hxl, hg⟩ := DataW.trod_struct Tryd.underlying38 h
      rw [Tryd.cellsV] at hlen
      match cs, hlen with
      | [c0, c1, c2, c3], _ =>
        match xs, hxl with
        | [y0, y1, y2, y3], _ =>
          have g0 := hg 0 _ rfl
          have g1 := hg 1 _ rfl
          have g2 := hg 2 _ rfl
          have g3 := hg 3 _ rfl
          simp [Tryd.cellsI, Tryd.cellsL, Tryd.cellsS, Tryd.cellsVs] at g0 g1 g2 g3
          obtain ⟨k, hk, hk2, hkw⟩ := DataW.trod_int Tryd.underlying3 g0
          obtain ⟨m, hm, hm2, hmw⟩ := DataW.trod_int Tryd.underlying2 g1
          obtain ⟨s, hs, hs2, _⟩ := DataW.trod_string Tryd.underlying9 g2
          simp only [List.cons.injEq, and_true] at hk hm hs
          subst hk hm hs
          have hw : ∀ q ∈ DataW.weightsEach Tryd.prog [3, 2, 9, 36] [y0.1, y1.1, y2.1, y3.1], q ≤ reachBytes := by
            intro q hq
            refine hf q ?_
            rw [hx]
            simpa [DataW.weights, Tryd.underlying38] using hq
          have hs3 : s.size ≤ reachBytes := by
            have := hw s.data.toList.length (by rw [hs2]; simp [DataW.weightsEach, DataW.weights])
            simpa using this
          obtain ⟨l, p, cap, hc, h1, h2, h3⟩ := (ih n (by omega)).2 _ _ g3 (fun q hq => hw q (by simp only [DataW.weightsEach, List.mem_append]; exact Or.inr (Or.inr (Or.inr (Or.inl hq)))))
          simp only [List.cons.injEq, and_true] at hc
          subst hc
          have hs4 : s.size ≤ 140737488355328 := by unfold reachBytes at hs3; omega
          exact ⟨.mk k m s l, _, _, _, _, rfl, Rep.mk_ (i64_of_wf hkw) (i64_of_wf hmw) hs4 h1 h2 h3⟩
    · rcases DataW.trod_slice Tryd.underlying36 h with ⟨rfl, _⟩ | ⟨a, len, cap, elems, rest, n, hn, rfl, hx, _, hlc, _, hel, hit, hsp, _⟩
      · exact ⟨[], none, 0, rfl, Nat.le_refl _, by simp, by unfold RepAll; trivial⟩
      · obtain ⟨hrl, _⟩ := hsp rfl
        rw [Tryd.cellsV] at hit
        have hbytes : cap * 56 ≤ reachBytes := by
          have := hf ((elems.length + rest.length) * 56) (by rw [hx]; simp [DataW.weights, Tryd.underlying36, Tryd.bytesV])
          rw [hel, hrl] at this
          have e : len + (cap - len) = cap := by omega
          rw [e] at this; exact this
        have hel2 : ∀ i, i < len → ∃ t c0 c1 c2 c3, w.cell? (a.add (i * 4)) = some c0 ∧ w.cell? (a.add (i * 4 + 1)) = some c1 ∧ w.cell? (a.add (i * 4 + 2)) = some c2 ∧ w.cell? (a.add (i * 4 + 3)) = some c3 ∧ Rep w 0 w.heap.size t (.agg #[c0, c1, c2, c3]) := by
          intro i hi
          have hI := hit i hi
          have hex : elems[i]? = some (elems[i]'(by omega)) := List.getElem?_eq_getElem (by omega)
          rw [hex] at hI
          cases hcs : w.cells? 0 (a.add (i * 4)) 4 with
          | none => rw [hcs] at hI; simp at hI
          | some cs' =>
            rw [hcs] at hI
            simp only [Option.bind_some] at hI
            obtain ⟨t, c0, c1, c2, c3, hc, hr⟩ := (ih n (by omega)).1 _ _ hI (fun q hq => hf q (by
              rw [hx]
              simp only [DataW.weights, Tryd.underlying36, List.mem_cons, List.mem_append]
              exact Or.inr (Or.inl (weightsAll_mem (List.mem_map_of_mem (List.getElem_mem (by omega))) q hq))))
            obtain ⟨_, _, hat⟩ := World.cells?_some hcs
            subst hc
            refine ⟨t, c0, c1, c2, c3, ?_, ?_, ?_, ?_, hr⟩
            · have := hat 0 (by omega); rw [add_add] at this; simpa using this
            · have := hat 1 (by omega); rw [add_add] at this; simpa using this
            · have := hat 2 (by omega); rw [add_add] at this; simpa using this
            · have := hat 3 (by omega); rw [add_add] at this; simpa using this
        have hmk : ∀ (m i0 : Nat), i0 + m = len → ∃ l : List T, l.length = m ∧ RepAll w 0 w.heap.size l (some (a.add (i0 * 4))) := by
          intro m
          induction m with
          | zero => intro i0 _; exact ⟨[], rfl, by unfold RepAll; trivial⟩
          | succ m ihm =>
            intro i0 hi0
            obtain ⟨t, c0, c1, c2, c3, e0, e1, e2, e3, hr⟩ := hel2 i0 (by omega)
            obtain ⟨l, hl, hrl⟩ := ihm (i0 + 1) (by omega)
            refine ⟨t :: l, by simp [hl], ?_⟩
            unfold RepAll
            have hblk := World.block_lt_of_cell? w _ e0
            refine ⟨a.add (i0 * 4), c0, c1, c2, c3, rfl, Nat.zero_le _, hblk, e0, by rw [add_add]; exact e1, by rw [add_add]; exact e2, by rw [add_add]; exact e3, hr, ?_⟩
            rw [add_add]
            have e : i0 * 4 + 4 = (i0 + 1) * 4 := by omega
            rw [e]; exact hrl
        obtain ⟨l, hl, hrl2⟩ := hmk len 0 (by omega)
        rw [Nat.zero_mul, add_zero] at hrl2
        unfold reachBytes at hbytes
        exact ⟨l, some a, cap, by rw [hl], by omega, by omega, hrl2⟩
end

end Go.Proofs.YtminmadaeaiihaaDoor
