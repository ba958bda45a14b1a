/- How an argument that is a list of texts, or of things, is read. -/
import Derived.Test.YtcecgfijfnnpeaaDoorMf
import Derived.ChangeArms
import Derived.SliceStrings
import Derived.KernelRfl
namespace Go.Proofs.YtcecgfijfnnpeaaDoor.Mt
open Go.RowKit Go.ChangeShapes Go.WideShapes Go.ChangeAt
set_option maxRecDepth 100000

theorem cellsIn : Tryd.prog.cellsOf 3 = 1 := by kernel_rfl
theorem cellsSt : Tryd.prog.cellsOf 23 = 1 := by kernel_rfl
theorem cellsTh : Tryd.prog.cellsOf 41 = 2 := by kernel_rfl
theorem i64_of_wf' {n : Int} (h : (Lit.int .i64 n).wf = true) : I64 n := by
  unfold Lit.wf at h
  unfold I64
  have h1 : IntKind.i64.min = -9223372036854775808 := rfl
  have h2 : IntKind.i64.max = 9223372036854775807 := rfl
  simp only [Bool.and_eq_true, decide_eq_true_eq, h1, h2] at h
  exact h
theorem lit_addr {w : World} {a : Addr} {v : Value} (h : w.cell? a = some v) : ∃ b off, a = ⟨b, off, none⟩ := by
  have hs := spot_none h
  obtain ⟨b, off, sp⟩ := a
  simp only at hs
  subst hs
  exact ⟨b, off, rfl⟩
theorem add_lit (b off n : Nat) : (⟨b, off, none⟩ : Addr).add n = ⟨b, off + n, none⟩ := by unfold Addr.add; split <;> simp_all
section
variable {H : Type} {enc : TypeId × Value → H} {w : World} {held : Bool}
theorem readS {fuel : Nat} {cs : List Value} {x : DataW H × List MemPlace} (h : DataW.trod enc Tryd.prog w 0 (fun _ => true) held fuel 23 cs = some x) :
    ∃ (l : List ByteArray) (p : Option Addr) (cap : Nat), cs = [.slice p l.length cap] ∧ TRow w w.heap.size p l ∧ l.length ≤ 9223372036854775807 := by
  rcases open_strings Tryd.underlying23 Tryd.underlying9 (by kernel_rfl) h with ⟨hcs, _⟩ | ⟨a, len, cap, ss, hcs, _, hl, hm, hz, _, hcell, _⟩
  · exact ⟨[], none, 0, hcs, .inl rfl, by simp⟩
  · simp at hz
    have hlen : (ss.take len).length = len := by rw [List.length_take]; omega
    refine ⟨ss.take len, some a, cap, by rw [hlen]; exact hcs, ?_, by rw [hlen]; unfold maxLen at hm; omega⟩
    by_cases h0 : len = 0
    · subst h0; exact .inl (by simp)
    · have hc0 := hcell 0 (by omega)
      rw [add_zero] at hc0
      obtain ⟨b, off, rfl⟩ := lit_addr hc0
      refine .inr ⟨b, off, rfl, World.block_lt_of_cell? w (a := ⟨b, off, none⟩) hc0, fun i hi => ?_⟩
      rw [hlen] at hi
      have hi2 : i < ss.length := by omega
      have := hcell i hi2
      rw [add_lit] at this
      rw [this, List.getElem_take]
      simp [List.getD, hi2]
theorem readT1 {fuel : Nat} {cs : List Value} {x : DataW H × List MemPlace} (h : DataW.trod enc Tryd.prog w 0 (fun _ => true) held fuel 41 cs = some x) :
    ∃ (t : Tg) (q : Option Addr) (c : Nat), cs = [.int .i64 t.1, .slice q t.2.length c] ∧ I64 t.1 ∧ TRow w w.heap.size q t.2 ∧ t.2.length ≤ 9223372036854775807 := by
  obtain ⟨xs, n, hn, hx, hlen, hxl, hg⟩ := DataW.trod_struct Tryd.underlying41 h
  rw [cellsTh] at hlen
  match cs, hlen with
  | [c0, c1], _ =>
    match xs, hxl with
    | [y0, y1], _ =>
      have g0 := hg 0 _ rfl
      have g1 := hg 1 _ rfl
      simp [cellsIn, cellsSt] at g0 g1
      obtain ⟨o, ho, _, how⟩ := DataW.trod_int Tryd.underlying3 g0
      simp only [List.cons.injEq, and_true] at ho
      subst ho
      obtain ⟨l, p, cap, hc, h1, h2⟩ := readS g1
      simp only [List.cons.injEq, and_true] at hc
      subst hc
      exact ⟨(o, l), p, cap, rfl, i64_of_wf' how, h1, h2⟩
theorem readT {fuel : Nat} {cs : List Value} {x : DataW H × List MemPlace} (h : DataW.trod enc Tryd.prog w 0 (fun _ => true) held fuel 22 cs = some x) :
    ∃ (l : List Tg) (p : Option Addr) (cap : Nat), cs = [.slice p l.length cap] ∧ GRow0 w w.heap.size p l ∧ l.length ≤ 9223372036854775807 := by
  rcases DataW.trod_slice Tryd.underlying22 h with ⟨rfl, _⟩ | ⟨a, len, cap, elems, rest, n, hn, rfl, hx, _, hlc, hm, hel, hit, hsp, _⟩
  · exact ⟨[], none, 0, rfl, .inl rfl, by simp⟩
  · rw [cellsTh] at hit
    have hel2 : ∀ i, i < len → ∃ (t : Tg) (q : Option Addr) (c : Nat), w.cell? (a.add (i * 2)) = some (.int .i64 t.1) ∧ w.cell? (a.add (i * 2 + 1)) = some (.slice q t.2.length c) ∧ I64 t.1 ∧ TRow w w.heap.size q t.2 ∧ t.2.length ≤ 9223372036854775807 := by
      intro i hi
      have hI := hit i hi
      have hex : elems[i]? = some (elems[i]'(by omega)) := List.getElem?_eq_getElem (by omega)
      rw [hex] at hI
      cases hcs : w.cells? 0 (a.add (i * 2)) 2 with
      | none => rw [hcs] at hI; simp at hI
      | some cs' =>
        rw [hcs] at hI
        simp only [Option.bind_some] at hI
        obtain ⟨t, q, c, hc, h1, h2, h3⟩ := readT1 hI
        obtain ⟨_, _, hat⟩ := World.cells?_some hcs
        subst hc
        refine ⟨t, q, c, ?_, ?_, h1, h2, h3⟩
        · have := hat 0 (by omega); rw [add_add] at this; simpa using this
        · have := hat 1 (by omega); rw [add_add] at this; simpa using this
    have hmk : ∀ m, m ≤ len → ∃ l : List Tg, l.length = m ∧ ∀ i (h : i < l.length), I64 l[i].1 ∧ w.cell? (a.add (i * 2)) = some (.int .i64 l[i].1) ∧ ∃ q c, w.cell? (a.add (i * 2 + 1)) = some (.slice q l[i].2.length c) ∧ TRow w w.heap.size q l[i].2 ∧ l[i].2.length ≤ 9223372036854775807 := by
      intro m
      induction m with
      | zero => intro _; exact ⟨[], rfl, fun i h => by simp at h⟩
      | succ m ihm =>
        intro hm2
        obtain ⟨l, hl, hp⟩ := ihm (by omega)
        obtain ⟨t, q, c, e0, e1, h1, h2, h3⟩ := hel2 m (by omega)
        refine ⟨l ++ [t], by simp [hl], fun i hi => ?_⟩
        by_cases hil : i < l.length
        · rw [List.getElem_append_left hil]; exact hp i hil
        · have hie : i = l.length := by simp at hi; omega
          subst hie
          have e : (l ++ [t])[l.length] = t := by simp
          rw [e, hl]
          exact ⟨h1, e0, q, c, e1, h2, h3⟩
    obtain ⟨l, hl, hp⟩ := hmk len (Nat.le_refl _)
    refine ⟨l, some a, cap, by rw [hl], ?_, by unfold maxLen at hm; omega⟩
    by_cases h0 : l.length = 0
    · exact .inl (List.eq_nil_of_length_eq_zero h0)
    · obtain ⟨_, hc0, _⟩ := hp 0 (by omega)
      rw [Nat.zero_mul, add_zero] at hc0
      obtain ⟨b, off, rfl⟩ := lit_addr hc0
      refine .inr ⟨b, off, rfl, World.block_lt_of_cell? w (a := ⟨b, off, none⟩) hc0, fun i hi => ?_⟩
      obtain ⟨h1, h2, q, c, h3, h4, h5⟩ := hp i hi
      rw [add_lit] at h2 h3
      exact ⟨h1, h2, q, c, by rw [Nat.add_assoc]; exact h3, h4, h5⟩
end
end Go.Proofs.YtcecgfijfnnpeaaDoor.Mt
