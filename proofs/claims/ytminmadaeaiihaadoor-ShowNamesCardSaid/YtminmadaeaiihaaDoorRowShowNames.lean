/- The statement on names of properties and of verbs: for every input it returns true, and its arguments read as they did; the listed variables are tied to the program's text. -/
import Derived.Test.YtminmadaeaiihaaDoorCards
import Derived.Test.YtminmadaeaiihaaDoorTie
import Derived.Test.YtminmadaeaiihaaDoorKE
import Derived.Test.YtminmadaeaiihaaDoorKH1
import Derived.Test.YtminmadaeaiihaaDoorKH2
import Derived.ProofKit
import Derived.LaidMore
import Derived.OpenShut
import Derived.Stop.Joined
import Derived.Carry
import Derived.ChangeMaps5
import Derived.Lib.SmallJoins
import Derived.SevenTiedAt
namespace Go.Proofs.YtminmadaeaiihaaDoor.Sh
open Go.RowKit
set_option maxRecDepth 100000
set_option maxHeartbeats 4000000 in
theorem showNames_all (ad : Nat → Addr) (eD eM eR eS : Value) (hP : Ptrs eD eM eR eS) (s : ByteArray) (c : Bool) (_ : s.size ≤ maxLen) (w : World) (hG : Glob ad eD eM eR eS w) :
    Calls Tryd.prog 5 #[.string s, .bool c] w fun e w' => e = .returned (.bool true) ∧ Below w.heap.size w w' := by
  have HF := Lib.hid (first8_any ad eD eM eR eS hP w hG)
  have HG := Lib.hid hG
  clear hG
  by_cases h40 : (40 : Int) < s.size
  · go_enter Tryd.func5, Tryd.ntmps5
    go_wp2_with (go_at_call 24; (with_reducible refine HF.out.mono ?_); rintro e w2 ⟨rfl, hb2⟩; have HB2 := Lib.hid hb2; clear hb2)
    go_ret
    exact ⟨rfl, HB2.out⟩
  have hs : s.size ≤ 140737488355328 := by omega
  have HPR := Lib.hid (fun w => printed_any s w hs)
  cases hp : printed s with
  | false =>
    have HPR1 := Lib.hid (fun w => by have := HPR.out w; rw [hp] at this; exact this)
    go_enter Tryd.func5, Tryd.ntmps5
    go_wp2_with (first
      | (go_at_call 24; (with_reducible refine HF.out.mono ?_); rintro e w2 ⟨rfl, hb2⟩; have HB2 := Lib.hid hb2; clear hb2)
      | (go_at_call 25; refine (HPR1.out _).mono ?_; rintro e w3 ⟨rfl, rfl⟩))
    go_ret
    exact ⟨rfl, HB2.out⟩
  | true =>
    obtain ⟨N1, hN1⟩ : ∃ b : Bool, b = (decide (1 ≤ s.size) && decide (s.size ≤ 32) && smallB (s.data.toList.headD 0)) := ⟨_, rfl⟩
    have HW := first8_ways s N1 hN1
    cases c
    · rcases HW with ⟨e1, a1⟩ | ⟨e1, a1, a2⟩ | ⟨h0, a1, a2, (⟨e1, b1, b2⟩ | ⟨e1, b1, b2, b3⟩ | ⟨e1, b1, b2⟩ | ⟨e1, b1, b2⟩)⟩
      · exact names_w1f ad eD eM eR eS hP s hs w HG.out h40 hp N1 hN1 e1 a1
      · exact names_w2f ad eD eM eR eS hP s hs w HG.out h40 hp N1 hN1 e1 a1 a2
      · exact names_w3f ad eD eM eR eS hP s hs w HG.out h40 hp N1 hN1 h0 a1 a2 e1 b1 b2
      · exact names_w4f ad eD eM eR eS hP s hs w HG.out h40 hp N1 hN1 h0 a1 a2 e1 b1 b2 b3
      · exact names_w5f ad eD eM eR eS hP s hs w HG.out h40 hp N1 hN1 h0 a1 a2 e1 b1 b2
      · exact names_w6f ad eD eM eR eS hP s hs w HG.out h40 hp N1 hN1 h0 a1 a2 e1 b1 b2
    · rcases HW with ⟨e1, a1⟩ | ⟨e1, a1, a2⟩ | ⟨h0, a1, a2, (⟨e1, b1, b2⟩ | ⟨e1, b1, b2, b3⟩ | ⟨e1, b1, b2⟩ | ⟨e1, b1, b2⟩)⟩
      · exact names_w1t ad eD eM eR eS hP s hs w HG.out h40 hp N1 hN1 e1 a1
      · exact names_w2t ad eD eM eR eS hP s hs w HG.out h40 hp N1 hN1 e1 a1 a2
      · exact names_w3t ad eD eM eR eS hP s hs w HG.out h40 hp N1 hN1 h0 a1 a2 e1 b1 b2
      · exact names_w4t ad eD eM eR eS hP s hs w HG.out h40 hp N1 hN1 h0 a1 a2 e1 b1 b2 b3
      · exact names_w5t ad eD eM eR eS hP s hs w HG.out h40 hp N1 hN1 h0 a1 a2 e1 b1 b2
      · exact names_w6t ad eD eM eR eS hP s hs w HG.out h40 hp N1 hN1 h0 a1 a2 e1 b1 b2
end Go.Proofs.YtminmadaeaiihaaDoor.Sh
namespace Go.Proofs.YtminmadaeaiihaaDoor
open Go.ChangeShapes Go.WideShapes Go.ChangeAt Go.RowKit Go.Joins
open Go.ChangeMaps (open_string shut_string)

theorem Tryd.own : ownKnob Tryd.prog.godebug = none := by kernel_rfl
theorem Tryd.laidOut : laidOutB Tryd.prog = true := by kernel_rfl

/-- The door's own heap meets the condition. -/
theorem door_met (os : Os) (args : Array Value) : laidMetH Tryd.prog Rows.showNamesRow.laid ((World.doorLaid Tryd.prog 400 os).forCall (fun _ _ => 0) ⟨#[], args, []⟩).memory :=
  laidMetH_of_parts3 (fuel := 8) (laidMet_of_run' 8 (by kernel_rfl) (by kernel_rfl)) (by kernel_rfl) (by kernel_rfl)

theorem of_laid {W : World} (h : laidMetH Tryd.prog Rows.showNamesRow.laid W) : ∃ ad : Nat → Addr, Ptrs (ev (ad 11)) (ev (ad 3)) (ev (ad 4)) (ev (ad 2)) ∧ Sh.Glob ad (ev (ad 11)) (ev (ad 3)) (ev (ad 4)) (ev (ad 2)) W := by
  rw [MakeChecks.laidMetH_plain _ _ _ (by kernel_rfl)] at h
  exact Sh.glob_of_laid (Rows.showNamesRow.laid.take 3) (Rows.showNamesRow.laid.drop 8) rfl h (by simp [Rows.showNamesRow]) (by simp [Rows.showNamesRow]) (by simp [Rows.showNamesRow])

set_option maxRecDepth 100000 in
theorem showNames_lifted (os : Os) (started : os.Started) (H : Type) (enc : TypeId × Value → H) :
    ReturnsInHanded {} Tryd.checked os 5 .any (fun w args => (Rows.showNamesSpec.pre enc Tryd.prog Tryd.f5 [] false w args ∧ laidMetH Tryd.prog Rows.showNamesRow.laid w) ∧ sizedMet enc Tryd.prog Tryd.f5 (OpenSpec.ofChange Rows.showNamesSpec) false w args)
      (Rows.showNamesSpec.post enc Tryd.prog Tryd.f5 false true false false) := by
  refine returnsInHanded_of_change_and (C := Tryd.checked) (X := fun w _ => laidMetH Tryd.prog Rows.showNamesRow.laid w) (fun _ _ _ hh h => h.of_heap hh) Tryd.own started (by kernel_rfl) Tryd.func5
    (ChangeSpec.witness_shaped (enc := enc) (C := Tryd.checked) (os := os) (X := fun w _ => laidMetH Tryd.prog Rows.showNamesRow.laid w) false (World.doorLaid Tryd.prog 400 os) #[.string ByteArray.empty, .bool false] 8 rfl (World.shaped_of_RefB (by kernel_rfl) (by kernel_rfl)) (by kernel_rfl) (by kernel_rfl) (by kernel_rfl) (door_met os _)) ?_
  intro W base args ds gs before hval0 hW _ _ hL _
  have hval : ∀ (j : Nat) t v, Tryd.f5.params[j]? = some t → args[j]? = some v → Value.okWide Tryd.prog W .any base t v := hval0
  have hW' := hW
  obtain ⟨p, q, hA0, hV, rfl, hfz, hnd⟩ := hW
  have hA : DataW.TrodAll enc Tryd.prog W 0 (fun _ => true) true Tryd.f5.params.toList args.toList ds p := hA0
  rw [Tryd.params5] at hA hval
  obtain ⟨v0, vs0, d0, ds0, p0, q0, hargs, rfl, rfl, h0, r0⟩ := trodAll_cons hA
  obtain ⟨v1, vs1, d1, ds1, p1, q1, rfl, rfl, rfl, h1, r1⟩ := trodAll_cons r0
  obtain ⟨rfl, rfl, rfl⟩ := trodAll_nil r1
  obtain rfl : args = #[v0, v1] := by cases args; simp_all
  obtain ⟨rfl, rfl⟩ := trodVars_none hV
  obtain ⟨a0, rfl, rfl, rfl, w0⟩ := open_string Tryd.underlying9 (hval 0 9 v0 rfl rfl) h0
  obtain ⟨a1, rfl, rfl, rfl⟩ := open_bool Tryd.underlying4 (hval 1 4 v1 rfl rfl) h1
  obtain ⟨ad, hP, hG⟩ := of_laid hL
  clear hA0 hval0
  refine (Sh.showNames_all ad _ _ _ _ hP a0 a1 w0 W hG).mono fun e W' ⟨he, bel⟩ => ?_
  subst he
  exact ⟨_, rfl, _, _, _, [], _, [], hW', trodAll_mk1 (shut_bool Tryd.underlying4 _), (trodAll_cons_mk (shut_string Tryd.underlying9 w0) (trodAll_cons_mk (shut_bool Tryd.underlying4 _) trodAll_mk0)), rfl, bel.frame _, fun h => by cases h⟩

theorem showNames_row : Rows.ShowNamesSaid :=
  OpenClaim.holds_of_wide 5 Tryd.f5 rfl rfl rfl rfl rfl rfl rfl ⟨rfl, rfl, rfl, rfl, rfl⟩ rfl rfl rfl rfl rfl (by kernel_rfl) Tryd.func5 (by kernel_rfl)
    (of_decide_eq_true (by kernel_rfl)) (by unfold Func.isWrapper; first | (rw [if_pos (by decide +kernel)]; kernel_rfl) | (rw [if_neg (by decide +kernel)]; exact ⟨rfl, rfl⟩))
    (fun os started H enc _ => showNames_lifted os started H enc)

theorem showNames_card : Rows.ShowNamesCardSaid :=
  Claim7.holds_tied_plain_at .later [] [.data, .data, .data, .sentinel, .sentinel, .sentinel, .sentinel, .sentinel, .data, .data] true (true, "c502ad787b304169487af729c8a1a81ee35f6d06b90b28396989d2acc04cb0bb") false
    showNames_row (fun _ h => by cases h) (by kernel_rfl) (fun _ h => by cases h) showNames_row_tie rfl ⟨rfl, rfl⟩ (by kernel_rfl) rfl
    (fun f fn hf hfn => by
      obtain rfl : f = 5 := Option.some.inj ((show Tryd.prog.funcNamed "inglenook/inglenooklaw8.ShowNames" = some 5 by kernel_rfl).symm.trans hf) |>.symm
      obtain rfl : fn = Tryd.f5 := (Option.some.inj (Tryd.func5.symm.trans hfn)).symm
      exact ⟨by kernel_rfl, fun j t ht => by
        rw [Tryd.params5] at ht
        have hm : t ∈ [9, 4] := by simpa using Array.mem_of_getElem? ht
        have hall : ([9, 4].all fun u => !Tryd.prog.wantsStandIn u) = true := by kernel_rfl
        exact (show Tryd.prog.wantsStandIn t = false by simpa using List.all_eq_true.1 hall t hm)⟩)
    (by kernel_rfl)

end Go.Proofs.YtminmadaeaiihaaDoor
