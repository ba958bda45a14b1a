/- The statement on what is said of programs: for every input it returns true, and its arguments read as they did; the listed variables are tied to the program's text. -/
import Derived.Test.YtminmadaeaiihaaDoorRead
import Derived.Test.YtminmadaeaiihaaDoorNt
import Derived.Test.YtminmadaeaiihaaDoorLaid
import Derived.Test.YtminmadaeaiihaaDoorSn
import Derived.Test.YtminmadaeaiihaaDoorCards
import Derived.Test.YtminmadaeaiihaaDoorTie
import Derived.Test.YtminmadaeaiihaaDoorTsA
import Derived.ProofKit
import Derived.LaidMore
import Derived.OpenShut
import Derived.Stop.Joined
import Derived.Carry
import Derived.ChangeMaps5
import Derived.Lib.SmallJoins
import Derived.SevenTiedAt
namespace Go.Proofs.YtminmadaeaiihaaDoor
open Go.RowKit
set_option maxRecDepth 100000

theorem Tryd.cellsN : Tryd.prog.cellsOf 40 = 8 := by kernel_rfl
theorem Tryd.bytesN : Tryd.prog.bytesOf 40 = 112 := by kernel_rfl
theorem Tryd.cellsNs : Tryd.prog.cellsOf 22 = 1 := by kernel_rfl

section
variable {H : Type} {enc : TypeId × Value → H} {w : World} {spare : Nat → Bool} {held : Bool}

set_option maxHeartbeats 1000000 in
theorem readN_both : ∀ fuel : Nat,
    (∀ (cs : List Value) (x : DataW H × List MemPlace), DataW.trod enc Tryd.prog w 0 (fun _ => true) held fuel 40 cs = some x → Fit 40 x.1 → ∃ t, ∃ c0 c1 c2 c3 c4 c5 c6 c7, cs = [c0, c1, c2, c3, c4, c5, c6, c7] ∧ NRep w 0 w.heap.size t (.agg #[c0, c1, c2, c3, c4, c5, c6, c7])) ∧
    (∀ (cs : List Value) (x : DataW H × List MemPlace), DataW.trod enc Tryd.prog w 0 (fun _ => true) held fuel 22 cs = some x → Fit 22 x.1 → ∃ l p cap, cs = [.slice p (l : List Nd).length cap] ∧ l.length ≤ cap ∧ l.length * 112 ≤ 140737488355328 ∧ NAll w 0 w.heap.size l p) := by
  intro fuel
  induction fuel using Nat.strongRecOn with
  | ind fuel ih =>
    refine ⟨fun cs x h hf => ?_, fun cs x h hf => ?_⟩
    · obtain ⟨xs, n, hn, hx, hlen, hxl, hg⟩ := DataW.trod_struct Tryd.underlying40 h
      rw [Tryd.cellsN] at hlen
      match cs, hlen with
      | [c0, c1, c2, c3, c4, c5, c6, c7], _ =>
        match xs, hxl with
        | [y0, y1, y2, y3, y4], _ =>
          have g0 := hg 0 _ rfl
          have g1 := hg 1 _ rfl
          have g2 := hg 2 _ rfl
          have g3 := hg 3 _ rfl
          have g4 := hg 4 _ rfl
          simp [Tryd.cellsI, Tryd.cellsV, Tryd.cellsS, Tryd.cellsNs] at g0 g1 g2 g3 g4
          obtain ⟨o, ho, ho2, how⟩ := DataW.trod_int Tryd.underlying3 g0
          obtain ⟨m, hm, hm2, hmw⟩ := DataW.trod_int Tryd.underlying3 g1
          obtain ⟨s, hs, hs2, _⟩ := DataW.trod_string Tryd.underlying9 g2
          simp only [List.cons.injEq, and_true] at ho hm hs
          subst ho hm hs
          have hw : ∀ q ∈ DataW.weightsEach Tryd.prog [3, 3, 9, 38, 22] [y0.1, y1.1, y2.1, y3.1, y4.1], q ≤ reachBytes := by
            intro q hq
            refine hf q ?_
            rw [hx]
            simpa [DataW.weights, Tryd.underlying40] using hq
          have hs3 : s.size ≤ reachBytes := by
            have := hw s.data.toList.length (by rw [hs2]; simp [DataW.weightsEach, DataW.weights])
            simpa using this
          obtain ⟨v, e0, e1, e2, e3, he, hv⟩ := (read_both n).1 _ _ g3 (fun q hq => hw q (by simp only [DataW.weightsEach, List.mem_append]; exact Or.inr (Or.inr (Or.inr (Or.inl hq)))))
          simp only [List.cons.injEq, and_true] at he
          obtain ⟨rfl, rfl, rfl, rfl⟩ := he
          obtain ⟨l, p, cap, hc, h1, h2, h3⟩ := (ih n (by omega)).2 _ _ g4 (fun q hq => hw q (by simp only [DataW.weightsEach, List.mem_append]; exact Or.inr (Or.inr (Or.inr (Or.inr (Or.inl hq))))))
          simp only [List.cons.injEq, and_true] at hc
          subst hc
          have hs4 : s.size ≤ 140737488355328 := by unfold reachBytes at hs3; omega
          obtain ⟨k', n', s', p', len', cap', hform⟩ := rep_form hv
          simp only [Value.agg.injEq, Array.mk.injEq, List.cons.injEq, and_true] at hform
          obtain ⟨rfl, rfl, rfl, rfl⟩ := hform
          refine ⟨.mk o m s v l, _, _, _, _, _, _, _, _, rfl, ?_⟩
          unfold NRep
          exact ⟨_, _, _, _, _, _, _, _, rfl, i64_of_wf how, i64_of_wf hmw, hs4, hv, h1, h2, h3⟩
    · rcases DataW.trod_slice Tryd.underlying22 h with ⟨rfl, _⟩ | ⟨a, len, cap, elems, rest, n, hn, rfl, hx, _, hlc, _, hel, hit, hsp, _⟩
      · exact ⟨[], none, 0, rfl, Nat.le_refl _, by simp, NAll.nil _ _ _ _⟩
      · obtain ⟨hrl, _⟩ := hsp rfl
        rw [Tryd.cellsN] at hit
        have hbytes : cap * 112 ≤ reachBytes := by
          have := hf ((elems.length + rest.length) * 112) (by rw [hx]; simp [DataW.weights, Tryd.underlying22, Tryd.bytesN])
          rw [hel, hrl] at this
          have e : len + (cap - len) = cap := by omega
          rw [e] at this; exact this
        have hel2 : ∀ i, i < len → ∃ t c0 c1 c2 c3 c4 c5 c6 c7, w.cell? (a.add (i * 8)) = some c0 ∧ w.cell? (a.add (i * 8 + 1)) = some c1 ∧ w.cell? (a.add (i * 8 + 2)) = some c2 ∧ w.cell? (a.add (i * 8 + 3)) = some c3 ∧ w.cell? (a.add (i * 8 + 4)) = some c4 ∧ w.cell? (a.add (i * 8 + 5)) = some c5 ∧ w.cell? (a.add (i * 8 + 6)) = some c6 ∧ w.cell? (a.add (i * 8 + 7)) = some c7 ∧ NRep w 0 w.heap.size t (.agg #[c0, c1, c2, c3, c4, c5, c6, c7]) := by
          intro i hi
          have hI := hit i hi
          have hex : elems[i]? = some (elems[i]'(by omega)) := List.getElem?_eq_getElem (by omega)
          rw [hex] at hI
          cases hcs : w.cells? 0 (a.add (i * 8)) 8 with
          | none => rw [hcs] at hI; simp at hI
          | some cs' =>
            rw [hcs] at hI
            simp only [Option.bind_some] at hI
            obtain ⟨t, c0, c1, c2, c3, c4, c5, c6, c7, hc, hr⟩ := (ih n (by omega)).1 _ _ hI (fun q hq => hf q (by
              rw [hx]
              simp only [DataW.weights, Tryd.underlying22, List.mem_cons, List.mem_append]
              exact Or.inr (Or.inl (weightsAll_mem (List.mem_map_of_mem (List.getElem_mem (by omega))) q hq))))
            obtain ⟨_, _, hat⟩ := World.cells?_some hcs
            subst hc
            refine ⟨t, c0, c1, c2, c3, c4, c5, c6, c7, ?_, ?_, ?_, ?_, ?_, ?_, ?_, ?_, hr⟩
            · have := hat 0 (by omega); rw [add_add] at this; simpa using this
            · have := hat 1 (by omega); rw [add_add] at this; simpa using this
            · have := hat 2 (by omega); rw [add_add] at this; simpa using this
            · have := hat 3 (by omega); rw [add_add] at this; simpa using this
            · have := hat 4 (by omega); rw [add_add] at this; simpa using this
            · have := hat 5 (by omega); rw [add_add] at this; simpa using this
            · have := hat 6 (by omega); rw [add_add] at this; simpa using this
            · have := hat 7 (by omega); rw [add_add] at this; simpa using this
        have hmk : ∀ (m i0 : Nat), i0 + m = len → ∃ l : List Nd, l.length = m ∧ NAll w 0 w.heap.size l (some (a.add (i0 * 8))) := by
          intro m
          induction m with
          | zero => intro i0 _; exact ⟨[], rfl, NAll.nil _ _ _ _⟩
          | succ m ihm =>
            intro i0 hi0
            obtain ⟨t, c0, c1, c2, c3, c4, c5, c6, c7, e0, e1, e2, e3, e4, e5, e6, e7, hr⟩ := hel2 i0 (by omega)
            obtain ⟨l, hl, hrl⟩ := ihm (i0 + 1) (by omega)
            refine ⟨t :: l, by simp [hl], ?_⟩
            unfold NAll
            have hblk := World.block_lt_of_cell? w _ e0
            refine ⟨a.add (i0 * 8), c0, c1, c2, c3, c4, c5, c6, c7, rfl, Nat.zero_le _, hblk, e0, by rw [add_add]; exact e1, by rw [add_add]; exact e2, by rw [add_add]; exact e3, by rw [add_add]; exact e4, by rw [add_add]; exact e5, by rw [add_add]; exact e6, by rw [add_add]; exact e7, hr, ?_⟩
            rw [add_add]
            have e : i0 * 8 + 8 = (i0 + 1) * 8 := by omega
            rw [e]; exact hrl
        obtain ⟨l, hl, hrl2⟩ := hmk len 0 (by omega)
        rw [Nat.zero_mul, add_zero] at hrl2
        unfold reachBytes at hbytes
        exact ⟨l, some a, cap, by rw [hl], by omega, by omega, hrl2⟩
end
end Go.Proofs.YtminmadaeaiihaaDoor
namespace Go.Proofs.YtminmadaeaiihaaDoor
open Go.RowKit
set_option maxRecDepth 100000

def sent5 : List (String × List UInt8 × Nat) := [
  ("inglenook/api.ErrShape", [110, 111, 116, 32, 97, 115, 32, 105, 116, 32, 104, 97, 115, 32, 116, 111, 32, 98, 101], 3),
  ("inglenook/api.ErrMany", [116, 111, 111, 32, 109, 97, 110, 121], 1),
  ("inglenook/api.ErrRange", [97, 32, 110, 117, 109, 98, 101, 114, 32, 111, 117, 116, 32, 111, 102, 32, 105, 116, 115, 32, 114, 97, 110, 103, 101], 5),
  ("inglenook/api.ErrName", [110, 111, 32, 110, 97, 109, 101, 32, 116, 104, 97, 116, 32, 109, 97, 121, 32, 98, 101], 4),
  ("inglenook/api.ErrDeep", [116, 111, 111, 32, 100, 101, 101, 112], 2)]
theorem sn_of_laid {W : World} (h : laidMet Tryd.prog (sent5.map datumOf) W) : ∃ ad, Sn W ad := by
  obtain ⟨ps, hL, _, hrows⟩ := h
  obtain ⟨qs, hl, _, _, hc⟩ := laid_list W sent5 ps (by
    intro x hx
    simp only [sent5, List.mem_cons, List.not_mem_nil, or_false] at hx
    rcases hx with rfl | rfl | rfl | rfl | rfl <;> exact ⟨by kernel_rfl, by kernel_rfl⟩) hL hrows
  match qs, hl with
  | [q0, q1, q2, q3, q4], _ =>
    exact ⟨fun i => match i with | 2 => q0 | 3 => q1 | 4 => q2 | 5 => q3 | _ => q4, hc 0 _ q0 rfl rfl, hc 1 _ q1 rfl rfl, hc 2 _ q2 rfl rfl, hc 3 _ q3 rfl rfl, hc 4 _ q4 rfl rfl⟩
end Go.Proofs.YtminmadaeaiihaaDoor
namespace Go.Proofs.YtminmadaeaiihaaDoor
open Go.ChangeShapes Go.WideShapes Go.ChangeAt Go.RowKit Go.Joins
open Go.ChangeMaps (open_string shut_string)

theorem Tryd.own : ownKnob Tryd.prog.godebug = none := by kernel_rfl
theorem Tryd.laidOut : laidOutB Tryd.prog = true := by kernel_rfl

/-- The door's own heap meets the condition. -/
theorem door_met (os : Os) (args : Array Value) : laidMetH Tryd.prog Rows.treeSaysRow.laid ((World.doorLaid Tryd.prog 400 os).forCall (fun _ _ => 0) ⟨#[], args, []⟩).memory :=
  laidMetH_of_parts3 (fuel := 8) (laidMet_of_run' 8 (by kernel_rfl) (by kernel_rfl)) (by kernel_rfl) (by kernel_rfl)

theorem laid_same : Rows.treeSaysRow.laid = sent5.map datumOf := rfl
theorem of_laid {W : World} (h : laidMetH Tryd.prog Rows.treeSaysRow.laid W) : ∃ ad : Nat → Addr, Sn W ad := by
  rw [MakeChecks.laidMetH_plain _ _ _ (by kernel_rfl), laid_same] at h
  exact sn_of_laid h

set_option maxRecDepth 100000 in
theorem treeSays_lifted (os : Os) (started : os.Started) (H : Type) (enc : TypeId × Value → H) :
    ReturnsInHanded {} Tryd.checked os 3 .any (fun w args => (Rows.treeSaysSpec.pre enc Tryd.prog Tryd.f3 [] false w args ∧ laidMetH Tryd.prog Rows.treeSaysRow.laid w) ∧ sizedMet enc Tryd.prog Tryd.f3 (OpenSpec.ofChange Rows.treeSaysSpec) false w args)
      (Rows.treeSaysSpec.post enc Tryd.prog Tryd.f3 false true false false) := by
  refine returnsInHanded_of_change_and (C := Tryd.checked) (X := fun w _ => laidMetH Tryd.prog Rows.treeSaysRow.laid w) (fun _ _ _ hh h => h.of_heap hh) Tryd.own started (by kernel_rfl) Tryd.func3
    (ChangeSpec.witness_shaped (enc := enc) (C := Tryd.checked) (os := os) (X := fun w _ => laidMetH Tryd.prog Rows.treeSaysRow.laid w) false (World.doorLaid Tryd.prog 400 os) #[.slice none 0 0, .slice none 0 0] 8 rfl (World.shaped_of_RefB (by kernel_rfl) (by kernel_rfl)) (by kernel_rfl) (by kernel_rfl) (by kernel_rfl) (door_met os _)) ?_
  intro W base args ds gs before hval0 hW _ hsz0 hL _
  have hval : ∀ (j : Nat) t v, Tryd.f3.params[j]? = some t → args[j]? = some v → Value.okWide Tryd.prog W .any base t v := hval0
  have hsz : (DataW.weightsEach Tryd.prog (Tryd.f3.params.toList ++ Rows.treeSaysSpec.plain.varTypes Tryd.prog) (ds ++ gs)).all (· ≤ reachBytes) = true := hsz0
  have hW' := hW
  obtain ⟨p, q, hA0, hV, rfl, hfz, hnd⟩ := hW
  have hA : DataW.TrodAll enc Tryd.prog W 0 (fun _ => true) true Tryd.f3.params.toList args.toList ds p := hA0
  rw [Tryd.params3] at hA hval hsz
  obtain ⟨v0, vs0, d0, ds0, p0, q0, hargs, rfl, rfl, h0, r0⟩ := trodAll_cons hA
  obtain ⟨v1, vs1, d1, ds1, p1, q1, rfl, rfl, rfl, h1, r1⟩ := trodAll_cons r0
  obtain ⟨rfl, rfl, rfl⟩ := trodAll_nil r1
  obtain rfl : args = #[v0, v1] := by cases args; simp_all
  obtain ⟨rfl, rfl⟩ := trodVars_none hV
  have k0 := h0
  have lt0 : ∀ x ∈ p0, x.block < W.heap.size := by obtain ⟨m, hm⟩ := k0; exact DataW.trod_lt m _ _ _ hm
  obtain ⟨a0, len0, cap0, rfl⟩ := okWide_slice Tryd.underlying22 (hval 0 22 v0 rfl rfl)
  obtain ⟨l0, hlen0, hlc0, hcap0, hall0⟩ : ∃ l : List Nd, len0 = l.length ∧ l.length ≤ cap0 ∧ l.length * 112 ≤ 140737488355328 ∧ NAll W 0 W.heap.size l a0 := by
    obtain ⟨fuel, hf⟩ := h0
    obtain ⟨l, p, cap, hc, g1, g2, g3⟩ := (readN_both fuel).2 _ _ hf (fun n hn => by
      have := List.all_eq_true.1 hsz n (DataW.weights_mem_each (j := 0) (t := 22) rfl rfl n hn)
      simpa using this)
    simp [Value.cells] at hc
    obtain ⟨rfl, rfl, rfl⟩ := hc
    exact ⟨l, rfl, g1, g2, g3⟩
  subst hlen0
  have k1 := h1
  have lt1 : ∀ x ∈ p1, x.block < W.heap.size := by obtain ⟨m, hm⟩ := k1; exact DataW.trod_lt m _ _ _ hm
  obtain ⟨a1, len1, cap1, rfl⟩ := okWide_slice Tryd.underlying22 (hval 1 22 v1 rfl rfl)
  obtain ⟨l1, hlen1, hlc1, hcap1, hall1⟩ : ∃ l : List Nd, len1 = l.length ∧ l.length ≤ cap1 ∧ l.length * 112 ≤ 140737488355328 ∧ NAll W 0 W.heap.size l a1 := by
    obtain ⟨fuel, hf⟩ := h1
    obtain ⟨l, p, cap, hc, g1, g2, g3⟩ := (readN_both fuel).2 _ _ hf (fun n hn => by
      have := List.all_eq_true.1 hsz n (DataW.weights_mem_each (j := 1) (t := 22) rfl rfl n hn)
      simpa using this)
    simp [Value.cells] at hc
    obtain ⟨rfl, rfl, rfl⟩ := hc
    exact ⟨l, rfl, g1, g2, g3⟩
  subst hlen1
  obtain ⟨ad, hS⟩ := of_laid hL
  clear hA0 hval0
  refine (treeSays_all ad l0 l1 a0 a1 cap0 cap1 W hall0 hlc0 hcap0 hall1 hlc1 hcap1 hS).mono fun e W' ⟨he, bel⟩ => ?_
  subst he
  exact ⟨_, rfl, _, _, _, [], _, [], hW', trodAll_mk1 (shut_bool Tryd.underlying4 _), (trodAll_cons_mk (Below.trod Tryd.laidOut (by kernel_rfl) (of_decide_eq_true (by kernel_rfl)) k0 bel lt0) (trodAll_cons_mk (Below.trod Tryd.laidOut (by kernel_rfl) (of_decide_eq_true (by kernel_rfl)) k1 bel lt1) trodAll_mk0)), rfl, bel.frame _, fun h => by cases h⟩

theorem treeSays_row : Rows.TreeSaysSaid :=
  OpenClaim.holds_of_wide 3 Tryd.f3 rfl rfl rfl rfl rfl rfl rfl ⟨rfl, rfl, rfl, rfl, rfl⟩ rfl rfl rfl rfl rfl (by kernel_rfl) Tryd.func3 (by kernel_rfl)
    (of_decide_eq_true (by kernel_rfl)) (by unfold Func.isWrapper; first | (rw [if_pos (by decide +kernel)]; kernel_rfl) | (rw [if_neg (by decide +kernel)]; exact ⟨rfl, rfl⟩))
    (fun os started H enc _ => treeSays_lifted os started H enc)

theorem treeSays_card : Rows.TreeSaysCardSaid :=
  Claim7.holds_tied_plain_at .later [] [.sentinel, .sentinel, .sentinel, .sentinel, .sentinel] true (true, "c502ad787b304169487af729c8a1a81ee35f6d06b90b28396989d2acc04cb0bb") false
    treeSays_row (fun _ h => by cases h) (by kernel_rfl) (fun _ h => by cases h) treeSays_row_tie rfl ⟨rfl, rfl⟩ (by kernel_rfl) rfl
    (fun f fn hf hfn => by
      obtain rfl : f = 3 := Option.some.inj ((show Tryd.prog.funcNamed "inglenook/inglenooklaw7.TreeSays" = some 3 by kernel_rfl).symm.trans hf) |>.symm
      obtain rfl : fn = Tryd.f3 := (Option.some.inj (Tryd.func3.symm.trans hfn)).symm
      exact ⟨by kernel_rfl, fun j t ht => by
        rw [Tryd.params3] at ht
        have hm : t ∈ [22] := by simpa using Array.mem_of_getElem? ht
        have hall : ([22].all fun u => !Tryd.prog.wantsStandIn u) = true := by kernel_rfl
        exact (show Tryd.prog.wantsStandIn t = false by simpa using List.all_eq_true.1 hall t hm)⟩)
    (by kernel_rfl)

end Go.Proofs.YtminmadaeaiihaaDoor
