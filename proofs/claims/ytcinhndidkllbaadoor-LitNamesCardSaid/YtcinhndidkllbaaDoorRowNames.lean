/- The statement on names of codes and numbers of texts: for every code and text it returns true, and its arguments read as they did; the listed variables are tied to the program's text. -/
import Derived.Test.YtcinhndidkllbaaDoorCards
import Derived.Test.YtcinhndidkllbaaDoorTie
import Derived.Test.YtcinhndidkllbaaDoorLawNames
import Derived.Test.YtcinhndidkllbaaDoorEnv
import Derived.Test.YtcinhndidkllbaaDoorRead
import Derived.ProofKit
import Derived.LaidMore
import Derived.OpenShut
import Derived.Stop.Joined
import Derived.Carry
import Derived.ChangeMaps5
import Derived.Lib.SmallJoins
import Derived.SevenTiedAt
namespace Go.Proofs.YtcinhndidkllbaaDoor
open Go.ChangeShapes Go.WideShapes Go.ChangeAt Go.RowKit Go.Joins
open Go.ChangeMaps (open_string shut_string)

theorem Tryd.own : ownKnob Tryd.prog.godebug = none := by kernel_rfl
theorem Tryd.laidOut : laidOutB Tryd.prog = true := by kernel_rfl

/-- The door's own heap meets the condition. -/
theorem door_met (os : Os) (args : Array Value) : laidMetH Tryd.prog Rows.litNamesRow.laid ((World.doorLaid Tryd.prog 400 os).forCall (fun _ _ => 0) ⟨#[], args, []⟩).memory :=
  laidMetH_of_parts3 (fuel := 8) (laidMet_of_run' 8 (by kernel_rfl) (by kernel_rfl)) (by kernel_rfl) (by kernel_rfl)

theorem envR_of {L : List (String × DataW Unit)} {W : World} (h : laidMet Tryd.prog L W)
    (m1 : ("inglenook/api.ErrDeep", Rows.laid_inglenook_api_ErrDeep) ∈ L) (m2 : ("inglenook/api.ErrMany", Rows.laid_inglenook_api_ErrMany) ∈ L) (m3 : ("inglenook/api.ErrRange", Rows.laid_inglenook_api_ErrRange) ∈ L) (m4 : ("inglenook/api.ErrShape", Rows.laid_inglenook_api_ErrShape) ∈ L)
    (m5 : ("inglenook/api.ErrSyntax", Rows.laid_inglenook_api_ErrSyntax) ∈ L) (m6 : ("inglenook/lit.names", Rows.laid_inglenook_lit_names) ∈ L) :
    ∃ eD eM eR eS aY, Ptrs eD eM eR eS ∧ EnvR W eD eM eR eS aY := by
  obtain ⟨aD, hD⟩ := err_of_laid (g := 2) h m1 (by kernel_rfl) (by kernel_rfl)
  obtain ⟨aM, hM⟩ := err_of_laid (g := 3) h m2 (by kernel_rfl) (by kernel_rfl)
  obtain ⟨aR, hR⟩ := err_of_laid (g := 4) h m3 (by kernel_rfl) (by kernel_rfl)
  obtain ⟨aS, hS⟩ := err_of_laid (g := 5) h m4 (by kernel_rfl) (by kernel_rfl)
  obtain ⟨aY, hY⟩ := err_of_laid (g := 0) h m5 (by kernel_rfl) (by kernel_rfl)
  exact ⟨_, _, _, _, aY, ptrs_of aD aM aR aS, ⟨⟨hD, hM, hR, hS⟩, names_of_laid h m6, hY⟩⟩

theorem of_laid {W : World} (h : laidMetH Tryd.prog Rows.litNamesRow.laid W) : ∃ eD eM eR eS aY, Ptrs eD eM eR eS ∧ EnvR W eD eM eR eS aY := by
  rw [MakeChecks.laidMetH_plain _ _ _ (by kernel_rfl)] at h
  exact envR_of h (by simp [Rows.litNamesRow]) (by simp [Rows.litNamesRow]) (by simp [Rows.litNamesRow]) (by simp [Rows.litNamesRow]) (by simp [Rows.litNamesRow]) (by simp [Rows.litNamesRow])

set_option maxRecDepth 100000 in
theorem names_lifted (os : Os) (started : os.Started) (H : Type) (enc : TypeId × Value → H) :
    ReturnsInHanded {} Tryd.checked os 6 .any (fun w args => (Rows.litNamesSpec.pre enc Tryd.prog Tryd.f6 [] false w args ∧ laidMetH Tryd.prog Rows.litNamesRow.laid w) ∧ sizedMet enc Tryd.prog Tryd.f6 (OpenSpec.ofChange Rows.litNamesSpec) false w args)
      (Rows.litNamesSpec.post enc Tryd.prog Tryd.f6 false true false false) := by
  refine returnsInHanded_of_change_and (C := Tryd.checked) (X := fun w _ => laidMetH Tryd.prog Rows.litNamesRow.laid w) (fun _ _ _ hh h => h.of_heap hh) Tryd.own started (by kernel_rfl) Tryd.func6
    (ChangeSpec.witness_shaped (enc := enc) (C := Tryd.checked) (os := os) (X := fun w _ => laidMetH Tryd.prog Rows.litNamesRow.laid w) false (World.doorLaid Tryd.prog 400 os) #[.int .i64 0, .string ByteArray.empty] 8 rfl (World.shaped_of_RefB (by kernel_rfl) (by kernel_rfl)) (by kernel_rfl) (by kernel_rfl) (by kernel_rfl) (door_met os _)) ?_
  intro W base args ds gs before hval0 hW _ _ hL _
  have hval : ∀ (j : Nat) t v, Tryd.f6.params[j]? = some t → args[j]? = some v → Value.okWide Tryd.prog W .any base t v := hval0
  have hW' := hW
  obtain ⟨p, q, hA0, hV, rfl, hfz, hnd⟩ := hW
  have hA : DataW.TrodAll enc Tryd.prog W 0 (fun _ => true) true Tryd.f6.params.toList args.toList ds p := hA0
  rw [Tryd.params6] at hA hval
  obtain ⟨v0, vs0, d0, ds0, p0, q0, hargs, rfl, rfl, h0, r0⟩ := trodAll_cons hA
  obtain ⟨v1, vs1, d1, ds1, p1, q1, rfl, rfl, rfl, h1, r1⟩ := trodAll_cons r0
  obtain ⟨rfl, rfl, rfl⟩ := trodAll_nil r1
  obtain rfl : args = #[v0, v1] := by cases args; simp_all
  obtain ⟨rfl, rfl⟩ := trodVars_none hV
  obtain ⟨a0, rfl, rfl, rfl, w0⟩ := open_int Tryd.underlying3 (hval 0 3 v0 rfl rfl) h0
  obtain ⟨a1, rfl, rfl, rfl, w1⟩ := open_string Tryd.underlying9 (hval 1 9 v1 rfl rfl) h1
  obtain ⟨eD, eM, eR, eS, aY, hP, hE⟩ := of_laid hL
  clear hA0 hval0
  refine (names_all eD eM eR eS aY hP a0 a1 W hE (i64_of_wf w0)).mono fun e W' ⟨he, bel⟩ => ?_
  subst he
  exact ⟨_, rfl, _, _, _, [], _, [], hW', trodAll_mk1 (shut_bool Tryd.underlying4 _), (trodAll_cons_mk (shut_int Tryd.underlying3 w0) (trodAll_cons_mk (shut_string Tryd.underlying9 w1) trodAll_mk0)), rfl, bel.frame _, fun h => by cases h⟩

theorem names_row : Rows.LitNamesSaid :=
  OpenClaim.holds_of_wide 6 Tryd.f6 rfl rfl rfl rfl rfl rfl rfl ⟨rfl, rfl, rfl, rfl, rfl⟩ rfl rfl rfl rfl rfl (by kernel_rfl) Tryd.func6 (by kernel_rfl)
    (of_decide_eq_true (by kernel_rfl)) (by unfold Func.isWrapper; first | (rw [if_pos (by decide +kernel)]; kernel_rfl) | (rw [if_neg (by decide +kernel)]; exact ⟨rfl, rfl⟩))
    (fun os started H enc _ => names_lifted os started H enc)

theorem names_card : Rows.LitNamesCardSaid :=
  Claim7.holds_tied_plain_at .later [] [.sentinel, .sentinel, .sentinel, .sentinel, .sentinel, .data] true (true, "c27b9c746a20d5d0abe61d8c1e46b85ba6d3542a14d131095415a6f86a16257d") true
    names_row (fun _ h => by cases h) (by kernel_rfl) (fun _ h => by cases h) litNames_row_tie rfl ⟨rfl, rfl⟩ (by kernel_rfl) rfl
    (fun f fn hf hfn => by
      obtain rfl : f = 6 := Option.some.inj ((show Tryd.prog.funcNamed "inglenook/inglenooklaw2.LitNames" = some 6 by kernel_rfl).symm.trans hf) |>.symm
      obtain rfl : fn = Tryd.f6 := (Option.some.inj (Tryd.func6.symm.trans hfn)).symm
      exact ⟨by kernel_rfl, fun j t ht => by
        rw [Tryd.params6] at ht
        have hm : t ∈ [3, 9] := by simpa using Array.mem_of_getElem? ht
        have hall : ([3, 9].all fun u => !Tryd.prog.wantsStandIn u) = true := by kernel_rfl
        exact (show Tryd.prog.wantsStandIn t = false by simpa using List.all_eq_true.1 hall t hm)⟩)
    (by kernel_rfl)

end Go.Proofs.YtcinhndidkllbaaDoor
