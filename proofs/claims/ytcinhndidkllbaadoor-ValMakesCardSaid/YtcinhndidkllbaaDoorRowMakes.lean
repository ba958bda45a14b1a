/- The statement on what is made of each kind: for every argument it returns true, and its arguments read as they did; the listed variables are tied to the program's text. -/
import Derived.Test.YtcinhndidkllbaaDoorCards
import Derived.Test.YtcinhndidkllbaaDoorTie
import Derived.Test.YtcinhndidkllbaaDoorLawMakes2
import Derived.Test.YtcinhndidkllbaaDoorEnv
import Derived.Test.YtcinhndidkllbaaDoorRead
import Derived.ProofKit
import Derived.LaidMore
import Derived.OpenShut
import Derived.Stop.Joined
import Derived.Carry
import Derived.ChangeMaps5
import Derived.Lib.SmallJoins
import Derived.SevenTiedAt
namespace Go.Proofs.YtcinhndidkllbaaDoor
open Go.ChangeShapes Go.WideShapes Go.ChangeAt Go.RowKit Go.Joins
open Go.ChangeMaps (open_string shut_string)

theorem Tryd.own : ownKnob Tryd.prog.godebug = none := by kernel_rfl
theorem Tryd.laidOut : laidOutB Tryd.prog = true := by kernel_rfl

/-- The door's own heap meets the condition. -/
theorem door_met (os : Os) (args : Array Value) : laidMetH Tryd.prog Rows.valMakesRow.laid ((World.doorLaid Tryd.prog 400 os).forCall (fun _ _ => 0) ⟨#[], args, []⟩).memory :=
  laidMetH_of_parts3 (fuel := 8) (laidMet_of_run' 8 (by kernel_rfl) (by kernel_rfl)) (by kernel_rfl) (by kernel_rfl)

theorem errs_of {L : List (String × DataW Unit)} {W : World} (h : laidMet Tryd.prog L W)
    (m1 : ("inglenook/api.ErrDeep", Rows.laid_inglenook_api_ErrDeep) ∈ L) (m2 : ("inglenook/api.ErrMany", Rows.laid_inglenook_api_ErrMany) ∈ L) (m3 : ("inglenook/api.ErrRange", Rows.laid_inglenook_api_ErrRange) ∈ L) (m4 : ("inglenook/api.ErrShape", Rows.laid_inglenook_api_ErrShape) ∈ L) :
    ∃ eD eM eR eS, Ptrs eD eM eR eS ∧ Errs W eD eM eR eS := by
  obtain ⟨aD, hD⟩ := err_of_laid (g := 2) h m1 (by kernel_rfl) (by kernel_rfl)
  obtain ⟨aM, hM⟩ := err_of_laid (g := 3) h m2 (by kernel_rfl) (by kernel_rfl)
  obtain ⟨aR, hR⟩ := err_of_laid (g := 4) h m3 (by kernel_rfl) (by kernel_rfl)
  obtain ⟨aS, hS⟩ := err_of_laid (g := 5) h m4 (by kernel_rfl) (by kernel_rfl)
  exact ⟨_, _, _, _, ptrs_of aD aM aR aS, ⟨hD, hM, hR, hS⟩⟩

theorem of_laid {W : World} (h : laidMetH Tryd.prog Rows.valMakesRow.laid W) : ∃ eD eM eR eS, Ptrs eD eM eR eS ∧ Errs W eD eM eR eS := by
  rw [MakeChecks.laidMetH_plain _ _ _ (by kernel_rfl)] at h
  exact errs_of h (by simp [Rows.valMakesRow]) (by simp [Rows.valMakesRow]) (by simp [Rows.valMakesRow]) (by simp [Rows.valMakesRow])

set_option maxRecDepth 100000 in
theorem makes_long2 (n o code : Int) (s : ByteArray) (l : List T) (w : World) (p : Option Addr) (cap : Nat) (hs : 200 < s.size) (_hsm : s.size ≤ 9223372036854775807) :
    Calls Tryd.prog 3 #[.int .i64 n, .int .i64 o, .string s, .int .i64 code, .slice p l.length cap] w fun e w' => e = .returned (.bool true) ∧ Below w.heap.size w w' := by
  have hsd : decide ((200 : Int) < (s.size : Int)) = true := by simp; omega
  go_enter Tryd.func3, Tryd.ntmps3
  go_wp2_with (go_at_call 8; refine (first_any _).mono ?_; rintro e w1 ⟨rfl, hb1⟩)
  go_ret
  exact ⟨rfl, hb1⟩
theorem makes_all (n o code : Int) (s : ByteArray) (l : List T) (w : World) (lo hi : Nat) (p : Option Addr) (cap : Nat) (hall : RepAll w lo hi l p) (hlc : l.length ≤ cap) (hcap : l.length * 56 ≤ 140737488355328) (hhi : hi ≤ w.heap.size) (hsm : s.size ≤ maxLen)
    (hn : I64 n) (ho : I64 o) (hcd : I64 code) (eD eM eR eS : Value) (hP : Ptrs eD eM eR eS) (he : Errs w eD eM eR eS) :
    Calls Tryd.prog 3 #[.int .i64 n, .int .i64 o, .string s, .int .i64 code, .slice p l.length cap] w fun e w' => e = .returned (.bool true) ∧ Below w.heap.size w w' := by
  by_cases hs : 200 < s.size
  · exact makes_long2 n o code s l w p cap hs hsm
  · cases h : fewRight l 20 with
    | false => exact makes_few n o code s l w lo hi p cap hall hcap hhi h (by omega)
    | true => exact makes_main n o code s l w lo hi p cap hall hlc hcap hhi h (by omega) hn ho hcd eD eM eR eS hP he

set_option maxRecDepth 100000 in
theorem makes_lifted (os : Os) (started : os.Started) (H : Type) (enc : TypeId × Value → H) :
    ReturnsInHanded {} Tryd.checked os 3 .any (fun w args => (Rows.valMakesSpec.pre enc Tryd.prog Tryd.f3 [] false w args ∧ laidMetH Tryd.prog Rows.valMakesRow.laid w) ∧ sizedMet enc Tryd.prog Tryd.f3 (OpenSpec.ofChange Rows.valMakesSpec) false w args)
      (Rows.valMakesSpec.post enc Tryd.prog Tryd.f3 false true false false) := by
  refine returnsInHanded_of_change_and (C := Tryd.checked) (X := fun w _ => laidMetH Tryd.prog Rows.valMakesRow.laid w) (fun _ _ _ hh h => h.of_heap hh) Tryd.own started (by kernel_rfl) Tryd.func3
    (ChangeSpec.witness_shaped (enc := enc) (C := Tryd.checked) (os := os) (X := fun w _ => laidMetH Tryd.prog Rows.valMakesRow.laid w) false (World.doorLaid Tryd.prog 400 os) #[.int .i64 0, .int .i64 0, .string ByteArray.empty, .int .i64 0, .slice none 0 0] 8 rfl (World.shaped_of_RefB (by kernel_rfl) (by kernel_rfl)) (by kernel_rfl) (by kernel_rfl) (by kernel_rfl) (door_met os _)) ?_
  intro W base args ds gs before hval0 hW _ hsz0 hL _
  have hval : ∀ (j : Nat) t v, Tryd.f3.params[j]? = some t → args[j]? = some v → Value.okWide Tryd.prog W .any base t v := hval0
  have hsz : (DataW.weightsEach Tryd.prog (Tryd.f3.params.toList ++ Rows.valMakesSpec.plain.varTypes Tryd.prog) (ds ++ gs)).all (· ≤ reachBytes) = true := hsz0
  have hW' := hW
  obtain ⟨p, q, hA0, hV, rfl, hfz, hnd⟩ := hW
  have hA : DataW.TrodAll enc Tryd.prog W 0 (fun _ => true) true Tryd.f3.params.toList args.toList ds p := hA0
  rw [Tryd.params3] at hA hval hsz
  obtain ⟨v0, vs0, d0, ds0, p0, q0, hargs, rfl, rfl, h0, r0⟩ := trodAll_cons hA
  obtain ⟨v1, vs1, d1, ds1, p1, q1, rfl, rfl, rfl, h1, r1⟩ := trodAll_cons r0
  obtain ⟨v2, vs2, d2, ds2, p2, q2, rfl, rfl, rfl, h2, r2⟩ := trodAll_cons r1
  obtain ⟨v3, vs3, d3, ds3, p3, q3, rfl, rfl, rfl, h3, r3⟩ := trodAll_cons r2
  obtain ⟨v4, vs4, d4, ds4, p4, q4, rfl, rfl, rfl, h4, r4⟩ := trodAll_cons r3
  obtain ⟨rfl, rfl, rfl⟩ := trodAll_nil r4
  obtain rfl : args = #[v0, v1, v2, v3, v4] := by cases args; simp_all
  obtain ⟨rfl, rfl⟩ := trodVars_none hV
  obtain ⟨a0, rfl, rfl, rfl, w0⟩ := open_int Tryd.underlying2 (hval 0 2 v0 rfl rfl) h0
  obtain ⟨a1, rfl, rfl, rfl, w1⟩ := open_int Tryd.underlying3 (hval 1 3 v1 rfl rfl) h1
  obtain ⟨a2, rfl, rfl, rfl, w2⟩ := open_string Tryd.underlying9 (hval 2 9 v2 rfl rfl) h2
  obtain ⟨a3, rfl, rfl, rfl, w3⟩ := open_int Tryd.underlying3 (hval 3 3 v3 rfl rfl) h3
  obtain ⟨a4, len4, cap4, rfl⟩ := okWide_slice Tryd.underlying22 (hval 4 22 v4 rfl rfl)
  have k4 := h4
  have lt4 : ∀ x ∈ p4, x.block < W.heap.size := by obtain ⟨m, hm⟩ := k4; exact DataW.trod_lt m _ _ _ hm
  obtain ⟨l, hlen, hlc, hcap, hall⟩ : ∃ l : List T, len4 = l.length ∧ l.length ≤ cap4 ∧ l.length * 56 ≤ 140737488355328 ∧ RepAll W 0 W.heap.size l a4 := by
    obtain ⟨fuel, hf⟩ := h4
    obtain ⟨l, p, cap, hc, g1, g2, g3⟩ := (read_both fuel).2 _ _ hf (fun n hn => by
      have := List.all_eq_true.1 hsz n (DataW.weights_mem_each (j := 4) (t := 22) rfl rfl n hn)
      simpa using this)
    simp [Value.cells] at hc
    obtain ⟨rfl, rfl, rfl⟩ := hc
    exact ⟨l, rfl, g1, g2, g3⟩
  subst hlen
  obtain ⟨eD, eM, eR, eS, hP, hE⟩ := of_laid hL
  clear hA0 hval0
  refine (makes_all a0 a1 a3 a2 l W 0 W.heap.size a4 cap4 hall hlc hcap (Nat.le_refl _) w2 (i64_of_wf w0) (i64_of_wf w1) (i64_of_wf w3) eD eM eR eS hP hE).mono fun e W' ⟨he, bel⟩ => ?_
  subst he
  exact ⟨_, rfl, _, _, _, [], _, [], hW', trodAll_mk1 (shut_bool Tryd.underlying4 _), (trodAll_cons_mk (shut_int Tryd.underlying2 w0) (trodAll_cons_mk (shut_int Tryd.underlying3 w1) (trodAll_cons_mk (shut_string Tryd.underlying9 w2) (trodAll_cons_mk (shut_int Tryd.underlying3 w3) (trodAll_cons_mk (Below.trod Tryd.laidOut (by kernel_rfl) (of_decide_eq_true (by kernel_rfl)) k4 bel lt4) trodAll_mk0))))), rfl, bel.frame _, fun h => by cases h⟩

theorem makes_row : Rows.ValMakesSaid :=
  OpenClaim.holds_of_wide 3 Tryd.f3 rfl rfl rfl rfl rfl rfl rfl ⟨rfl, rfl, rfl, rfl, rfl⟩ rfl rfl rfl rfl rfl (by kernel_rfl) Tryd.func3 (by kernel_rfl)
    (of_decide_eq_true (by kernel_rfl)) (by unfold Func.isWrapper; first | (rw [if_pos (by decide +kernel)]; kernel_rfl) | (rw [if_neg (by decide +kernel)]; exact ⟨rfl, rfl⟩))
    (fun os started H enc _ => makes_lifted os started H enc)

theorem makes_card : Rows.ValMakesCardSaid :=
  Claim7.holds_tied_plain_at .later [] [.sentinel, .sentinel, .sentinel, .sentinel] true (true, "c27b9c746a20d5d0abe61d8c1e46b85ba6d3542a14d131095415a6f86a16257d") true
    makes_row (fun _ h => by cases h) (by kernel_rfl) (fun _ h => by cases h) valMakes_row_tie rfl ⟨rfl, rfl⟩ (by kernel_rfl) rfl
    (fun f fn hf hfn => by
      obtain rfl : f = 3 := Option.some.inj ((show Tryd.prog.funcNamed "inglenook/inglenooklaw1.ValMakes" = some 3 by kernel_rfl).symm.trans hf) |>.symm
      obtain rfl : fn = Tryd.f3 := (Option.some.inj (Tryd.func3.symm.trans hfn)).symm
      exact ⟨by kernel_rfl, fun j t ht => by
        rw [Tryd.params3] at ht
        have hm : t ∈ [2, 3, 9, 3, 22] := by simpa using Array.mem_of_getElem? ht
        have hall : ([2, 3, 9, 3, 22].all fun u => !Tryd.prog.wantsStandIn u) = true := by kernel_rfl
        exact (show Tryd.prog.wantsStandIn t = false by simpa using List.all_eq_true.1 hall t hm)⟩)
    (by kernel_rfl)

end Go.Proofs.YtcinhndidkllbaaDoor
