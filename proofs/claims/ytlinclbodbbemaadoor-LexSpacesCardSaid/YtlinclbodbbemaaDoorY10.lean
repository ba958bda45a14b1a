/- The contract of the reader's names of codes. -/
import Derived.Test.YtlinclbodbbemaaDoorY07
import Derived.Deep.DeepCutAuto
namespace Go.Proofs.YtlinclbodbbemaaDoor
open Go.RowKit
set_option maxRecDepth 100000

/-- The name of a code, as the program's table holds it. -/
def nameS (i : Nat) : ByteArray := ⟨(names.getD i []).toArray⟩
theorem nameS_list (i : Nat) : (nameS i).data.toList = names.getD i [] := rfl
/-- The program's table of names stands in its variable. -/
structure Names (w : World) : Prop where
  at_ : ∀ i, i < 15 → w.cell? ⟨4, i, none⟩ = some (.string (nameS i))
theorem Names.lt {w : World} (h : Names w) : 4 < w.heap.size := by
  have := World.block_lt_of_cell? w _ (h.at_ 0 (by omega)); exact this
theorem Names.but {w w' : World} {g : Nat} (h : Names w) (hb : But g w w') (hg : 4 ≠ g) : Names w' :=
  ⟨fun i hi => (hb.cell (p := ⟨4, i, none⟩) h.lt hg).trans (h.at_ i hi)⟩
theorem Names.below {w w' : World} {B : Nat} (h : Names w) (hb : Below B w w') (hB : 4 < B) : Names w' :=
  ⟨fun i hi => (hb.cell (p := ⟨4, i, none⟩) hB).trans (h.at_ i hi)⟩

theorem codeGo_step (inp : Bs) (i far : Nat) (h : i < 15) : codeGo inp i far (names.drop i) = if lcp inp (names.getD i []) = (names.getD i []).length then (some (i : Int), (names.getD i []).length) else codeGo inp (i + 1) (max far (lcp inp (names.getD i []))) (names.drop (i + 1)) := by
  have h' : i < names.length := h
  rw [List.drop_eq_getElem_cons h', codeGo]
  have e : names.getD i [] = names[i] := by simp [List.getD, h']
  rw [e]
theorem codeGo_end (inp : Bs) (far : Nat) : codeGo inp 15 far (names.drop 15) = (none, far) := rfl

abbrev namesV : Value := .agg #[.string (nameS 0), .string (nameS 1), .string (nameS 2), .string (nameS 3), .string (nameS 4), .string (nameS 5), .string (nameS 6), .string (nameS 7), .string (nameS 8), .string (nameS 9), .string (nameS 10), .string (nameS 11), .string (nameS 12), .string (nameS 13), .string (nameS 14)]
theorem idx_names (w : World) (j : Nat) (hj : j < 15) : (Instr.index 129 namesV (.int .i64 (j : Int))).run Tryd.prog w = .ok (.string (nameS j)) w := by
  have h : j = 0 ∨ j = 1 ∨ j = 2 ∨ j = 3 ∨ j = 4 ∨ j = 5 ∨ j = 6 ∨ j = 7 ∨ j = 8 ∨ j = 9 ∨ j = 10 ∨ j = 11 ∨ j = 12 ∨ j = 13 ∨ j = 14 := by omega
  rcases h with rfl | rfl | rfl | rfl | rfl | rfl | rfl | rfl | rfl | rfl | rfl | rfl | rfl | rfl | rfl
  all_goals simp [Instr.index, run_underlying Tryd.underlying129, asIntOf, go_sem, namesV]

theorem ext_list (s : ByteArray) (p : Nat) : (s.extract p s.size).data.toList = s.data.toList.drop p := by
  have h : (s.extract p s.size).data = s.data.extract p s.size := by simp
  rw [h]
  simp
  apply List.take_of_length_le
  simp
theorem alike_val (a b : ByteArray) (w : World) (ha : a.size ≤ 140737488355328) (M : Nat) (hM : lcp a.data.toList b.data.toList = M) :
    Calls Tryd.prog 174 #[.string a, .string b] w fun e w' => e = .returned (.int .i64 (M : Int)) ∧ ∃ m, w' = w.drewN m := by
  subst hM; exact alike_any a b w ha

set_option maxHeartbeats 8000000 in
theorem code_any (s : ByteArray) (x : Rd) (g : Nat) (w : World) (hx : RdIs w g s x) (hp : x.pos ≤ s.size) (hs : s.size ≤ 140737488355328) (hn : Names w) :
    Calls Tryd.prog 171 #[.pointer (some ⟨g, 0, none⟩)] w (NumPost s x g w (codeOf (s.data.toList.drop x.pos))) := by
  have n0 := hn.at_ 0 (by omega); have n1 := hn.at_ 1 (by omega); have n2 := hn.at_ 2 (by omega); have n3 := hn.at_ 3 (by omega); have n4 := hn.at_ 4 (by omega)
  have n5 := hn.at_ 5 (by omega); have n6 := hn.at_ 6 (by omega); have n7 := hn.at_ 7 (by omega); have n8 := hn.at_ 8 (by omega); have n9 := hn.at_ 9 (by omega)
  have n10 := hn.at_ 10 (by omega); have n11 := hn.at_ 11 (by omega); have n12 := hn.at_ 12 (by omega); have n13 := hn.at_ 13 (by omega); have n14 := hn.at_ 14 (by omega)
  have hgl := hn.lt
  have HX := Lib.hid hx; clear hx hn
  go_enter Tryd.func171, Tryd.ntmps171
  go_wp2
  clear n0 n1 n2 n3 n4 n5 n6 n7 n8 n9 n10 n11 n12 n13 n14
  go_loopw [4, 9] (fun far i wr => ∃ (j f : Nat), far = .int .i64 f ∧ i = .int .i64 j ∧ j ≤ 15 ∧ f ≤ s.size - x.pos ∧ Hid (codeGo (s.data.toList.drop x.pos) 0 0 names = codeGo (s.data.toList.drop x.pos) j f (names.drop j)) ∧ Hid (RdIs wr g s x) ∧ Hid (But g w wr)) (fun _ i _ => 15 - (intOf i).toNat)
  case atStart => exact ⟨0, 0, rfl, rfl, by omega, by omega, Lib.hid rfl, HX, Lib.hid (But.refl _ _)⟩
  case round =>
    obtain ⟨j, f, rfl, rfl, hj, hf, hgo, hxr, hbr⟩ := hrel
    by_cases hj15 : j < 15
    · obtain ⟨h0, h1, h2, h3, h4, h5, h6, h7, h8, hfz, hlt⟩ := hxr.out.open
      have hidx : ∀ W : World, (Instr.index 129 namesV (.int .i64 (j : Int))).run Tryd.prog W = .ok (.string (nameS j)) W := fun W => idx_names W j hj15
      obtain ⟨M, hM⟩ : ∃ M, lcp (s.data.toList.drop x.pos) (names.getD j []) = M := ⟨_, rfl⟩
      have hMl := lcp_le (s.data.toList.drop x.pos) (names.getD j [])
      rw [hM, List.length_drop, show s.data.toList.length = s.size from by simp] at hMl
      have hMs : M ≤ s.size - x.pos := hMl.1
      have hst := Lib.hid (hgo.out.trans (codeGo_step (s.data.toList.drop x.pos) j f hj15))
      rw [hM] at hst
      have HM := Lib.hid (show lcp (s.extract x.pos s.size).data.toList (nameS j).data.toList = M from by rw [ext_list]; exact hM)
      have hsz : (names.getD j []).length = (nameS j).size := rfl
      rw [hsz] at hst
      obtain ⟨L, hL⟩ : ∃ L, (nameS j).size = L := ⟨_, rfl⟩
      rw [hL] at hst
      clear hM hMl hsz
      by_cases hml : M = L
      · have hE := Lib.hid (hst.out.trans (if_pos hml))
        have hml2 : ((M : Int) == (L : Int)) = true := by simp; omega
        go_wp2_with (go_quiet ((go_at_call 174; refine Calls.quiet_of (alike_val _ _ _ ?_ M HM.out); simp; omega)))
        go_ret2
        exact ⟨x.pos + L, by omega, by unfold codeOf; rw [hE.out, List.drop_drop], by unfold codeOf; rw [hE.out]; rfl, (hxr.out.drewN _).setPos _ (by simp), (hbr.out.drewN _).setCell _ _⟩
      · have hE := Lib.hid (hst.out.trans (if_neg hml))
        have hml2 : ((M : Int) == (L : Int)) = false := by simp; omega
        go_wp2_with (go_quiet ((go_at_call 174; refine Calls.quiet_of (alike_val _ _ _ ?_ M HM.out); simp; omega)))
        go_roundw
        case measure => simp [intOf]; omega
        case rel => exact ⟨j + 1, max f M, by go_num, by go_num, by omega, by omega, hE, Lib.hid (hxr.out.drewN _), Lib.hid (hbr.out.drewN _)⟩
    · have hje : j = 15 := by omega
      subst hje
      have hE := Lib.hid (hgo.out.trans (codeGo_end _ f))
      obtain ⟨h0, h1, h2, h3, h4, h5, h6, h7, h8, hfz, hlt⟩ := hxr.out.open
      go_wp2
      go_ret2
      exact ⟨x.pos + f, by omega, by unfold codeOf; rw [hE.out, List.drop_drop], by unfold codeOf; rw [hE.out]; rfl, hxr.out.setPos _ (by simp), hbr.out.setCell _ _⟩

end Go.Proofs.YtlinclbodbbemaaDoor
