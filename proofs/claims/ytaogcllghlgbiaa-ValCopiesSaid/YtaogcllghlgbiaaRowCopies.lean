/- The statement on copies: for every list of values and every place it returns true, and its arguments read as they did. -/
import Derived.Test.YtaogcllghlgbiaaLawCopies2
import Derived.Test.YtaogcllghlgbiaaRead
import Derived.ProofKit
import Derived.OpenShut
import Derived.Carry
namespace Go.Proofs.Ytaogcllghlgbiaa
open Go.ChangeShapes Go.WideShapes Go.ChangeAt Go.RowKit

theorem copies_all (l : List T) (at_ : Int) (w : World) (lo hi : Nat) (p : Option Addr) (cap : Nat) (hall : RepAll w lo hi l p) (hlc : l.length ≤ cap) (hcap : cap * 56 ≤ 140737488355328) (hhi : hi ≤ w.heap.size) (hat : I64 at_) :
    Calls Try.prog 3 #[.slice p l.length cap, .int .i64 at_] w fun e w' => e = .returned (.bool true) ∧ Below w.heap.size w w' := by
  cases h : fewRight l 20 with
  | false => exact copies_few l at_ w lo hi p cap hall hlc hcap hhi h
  | true =>
    by_cases hp : 0 < l.length
    · by_cases hf : fits (mkList l) = 0
      · exact copies_main l at_ w lo hi p cap hall hlc hcap hhi h hp hf hat
      · exact copies_great l at_ w lo hi p cap hall hlc hcap hhi h hp hf
    · have hz : l.length = 0 := by omega
      rw [hz]
      exact copies_nil at_ w p cap

theorem Try.own : ownKnob Try.prog.godebug = none := by kernel_rfl
theorem Try.laidOut : laidOutB Try.prog = true := by kernel_rfl

set_option maxRecDepth 100000 in
theorem copies_lifted (os : Os) (started : os.Started) (H : Type) (enc : TypeId × Value → H) :
    ReturnsInHanded {} Try.checked os 3 .any (Rows.valCopiesSpec.pre6 enc Try.prog Try.f3 Rows.valCopiesRow.domain false) (Rows.valCopiesSpec.post enc Try.prog Try.f3 false true false false) := by
  refine returnsInHanded_of_change_sized (C := Try.checked) Try.own started (by kernel_rfl) Try.func3
    (ChangeSpec.witness6 (enc := enc) (C := Try.checked) false ⟨#[], #[.slice none 0 0, .int .i64 0], []⟩ 8 (by kernel_rfl) (by kernel_rfl) (by kernel_rfl) (by kernel_rfl)) ?_
  intro W base args ds gs before hval0 hW hcnd hsz0 _
  have hval : ∀ (j : Nat) t v, Try.f3.params[j]? = some t → args[j]? = some v → Value.okWide Try.prog W .any base t v := hval0
  have hsz : (DataW.weightsEach Try.prog (Try.f3.params.toList ++ Rows.valCopiesSpec.plain.varTypes Try.prog) (ds ++ gs)).all (· ≤ reachBytes) = true := hsz0
  have hW' := hW
  obtain ⟨p, q, hA0, hV, rfl, hfz, hnd⟩ := hW
  have hA : DataW.TrodAll enc Try.prog W 0 (fun _ => true) true Try.f3.params.toList args.toList ds p := hA0
  rw [Try.params3] at hA hval hsz
  obtain ⟨v0, vs0, d0, ds0, p0, q0, hargs, rfl, rfl, h0, r0⟩ := trodAll_cons hA
  obtain ⟨v1, vs1, d1, ds1, p1, q1, rfl, rfl, rfl, h1, r1⟩ := trodAll_cons r0
  obtain ⟨rfl, rfl, rfl⟩ := trodAll_nil r1
  obtain rfl : args = #[v0, v1] := by cases args; simp_all
  obtain ⟨rfl, rfl⟩ := trodVars_none hV
  obtain ⟨a0, len0, cap0, rfl⟩ := okWide_slice Try.underlying22 (hval 0 22 v0 rfl rfl)
  have k0 := h0
  have lt0 : ∀ x ∈ p0, x.block < W.heap.size := by obtain ⟨m, hm⟩ := k0; exact DataW.trod_lt m _ _ _ hm
  obtain ⟨l, hlen, hlc, hcap, hall⟩ : ∃ l : List T, len0 = l.length ∧ l.length ≤ cap0 ∧ cap0 * 56 ≤ 140737488355328 ∧ RepAll W 0 W.heap.size l a0 := by
    obtain ⟨fuel, hf⟩ := h0
    obtain ⟨l, p, cap, hc, g1, g2, g3⟩ := (read_both fuel).2 _ _ hf (fun n hn => by
      have := List.all_eq_true.1 hsz n (DataW.weights_mem_each (j := 0) (t := 22) rfl rfl n hn)
      simpa using this)
    simp [Value.cells] at hc
    obtain ⟨rfl, rfl, rfl⟩ := hc
    exact ⟨l, rfl, g1, g2, g3⟩
  subst hlen
  obtain ⟨a1, rfl, rfl, rfl, w1⟩ := open_int Try.underlying3 (hval 1 3 v1 rfl rfl) h1
  clear hA0 hval0
  refine (copies_all l a1 W 0 W.heap.size a0 cap0 hall hlc hcap (Nat.le_refl _) (i64_of_wf w1)).mono fun e W' ⟨he, bel⟩ => ?_
  subst he
  exact ⟨_, rfl, _, _, _, [], _, [], hW', trodAll_mk1 (shut_bool Try.underlying4 _), (trodAll_cons_mk (Below.trod Try.laidOut (by kernel_rfl) (of_decide_eq_true (by kernel_rfl)) k0 bel lt0) (trodAll_cons_mk (shut_int Try.underlying3 w1) trodAll_mk0)), rfl, bel.frame _, fun h => by cases h⟩

theorem copies_holds : Rows.ValCopiesSaid :=
  OpenClaim.holds_of_wide 3 Try.f3 rfl rfl rfl rfl rfl rfl rfl ⟨rfl, rfl, rfl, rfl, rfl⟩ rfl rfl rfl rfl rfl (by kernel_rfl) Try.func3 (by kernel_rfl)
    (of_decide_eq_true (by kernel_rfl)) (by unfold Func.isWrapper; first | (rw [if_pos (by decide +kernel)]; kernel_rfl) | (rw [if_neg (by decide +kernel)]; exact ⟨rfl, rfl⟩))
    (fun os started H enc _ => copies_lifted os started H enc)

end Go.Proofs.Ytaogcllghlgbiaa
