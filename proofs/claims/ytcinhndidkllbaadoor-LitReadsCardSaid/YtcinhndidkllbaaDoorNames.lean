/- The names of codes, and numbers in texts: the program's, and the document's. -/
import Derived.Test.YtcinhndidkllbaaDoorCodeM
import Derived.Test.YtcinhndidkllbaaDoorRefName
import Derived.WalkSpells
namespace Go.Proofs.YtcinhndidkllbaaDoor
open Go.RowKit
set_option maxRecDepth 100000

theorem name_eq (j : Nat) (s : ByteArray) : (nameS j = s) ↔ names.getD j [] = s.data.toList := by
  constructor
  · intro h; rw [← h]; rfl
  · intro h
    apply ByteArray.ext; apply Array.ext'
    exact h

theorem toList_ne {a b : ByteArray} (h : ¬ a = b) : (a.toList == b.toList) = false := by
  refine beq_eq_false_iff_ne.2 (fun e => h ?_)
  rw [ByteArray.toList_eq, ByteArray.toList_eq] at e
  apply ByteArray.ext; apply Array.ext'
  exact e

set_option maxHeartbeats 2000000 in
theorem litCode_any (s : ByteArray) (w : World) (hn : Names w) (q : Int × Bool) (hq : codeL s.data.toList = q) :
    Calls Tryd.prog 28 #[.string s] w fun e w' => e = .returned (.tuple #[.int .i64 q.1, .bool q.2]) ∧ w = w' := by
  subst hq
  have n0 := hn.at_ 0 (by omega); have n1 := hn.at_ 1 (by omega); have n2 := hn.at_ 2 (by omega); have n3 := hn.at_ 3 (by omega); have n4 := hn.at_ 4 (by omega)
  have n5 := hn.at_ 5 (by omega); have n6 := hn.at_ 6 (by omega); have n7 := hn.at_ 7 (by omega); have n8 := hn.at_ 8 (by omega); have n9 := hn.at_ 9 (by omega)
  have n10 := hn.at_ 10 (by omega); have n11 := hn.at_ 11 (by omega); have n12 := hn.at_ 12 (by omega); have n13 := hn.at_ 13 (by omega); have n14 := hn.at_ 14 (by omega)
  have hgl := hn.lt
  clear hn
  go_enter Tryd.func28, Tryd.ntmps28
  go_wp2
  clear n0 n1 n2 n3 n4 n5 n6 n7 n8 n9 n10 n11 n12 n13 n14
  go_loop [7] (fun i => ∃ (j : Nat), i = .int .i64 j ∧ j ≤ 15 ∧ Hid (codeAt s.data.toList 0 names = codeAt s.data.toList j (names.drop j))) (fun i => 15 - (intOf i).toNat)
  case atStart => exact ⟨0, rfl, by omega, Lib.hid rfl⟩
  case round =>
    obtain ⟨j, rfl, hj, hgo⟩ := hrel
    by_cases hj15 : j < 15
    · have hidx : ∀ W : World, (Instr.index 77 namesV (.int .i64 (j : Int))).run Tryd.prog W = .ok (.string (nameS j)) W := fun W => idx_names W j hj15
      have hst := hgo.out.trans (codeAt_step s.data.toList j hj15)
      by_cases he : nameS j = s
      · have hE := Lib.hid (hst.trans (if_pos ((name_eq j s).1 he)))
        have he2 : ((nameS j).toList == s.toList) = true := by rw [he]; simp
        clear hst
        go_wp2
        go_ret2
        exact ⟨by unfold codeL; rw [hE.out]; rfl, rfl⟩
      · have hE := Lib.hid (hst.trans (if_neg (fun h => he ((name_eq j s).2 h))))
        have he2 : ((nameS j).toList == s.toList) = false := toList_ne he
        clear hst
        go_wp2
        go_round
        case measure => show 15 - ((j : Int) + 1).toNat < 15 - ((j : Int)).toNat; omega
        case rel => exact ⟨j + 1, by go_num, by omega, hE⟩
    · have hje : j = 15 := by omega
      subst hje
      have hE := Lib.hid (hgo.out.trans (codeAt_end _))
      go_wp2
      go_ret2
      exact ⟨by unfold codeL; rw [hE.out]; rfl, rfl⟩

theorem nameOf_nat (j : Nat) (h : j < 15) : nameOf (j : Int) = names.getD j [] := by
  unfold nameOf; rw [if_neg (by omega)]; rfl
set_option maxHeartbeats 2000000 in
theorem refCode_any (s : ByteArray) (w : World) (q : Int × Bool) (hq : codeL s.data.toList = q) :
    Calls Tryd.prog 29 #[.string s] w fun e w' => e = .returned (.tuple #[.int .i64 q.1, .bool q.2]) ∧ w = w' := by
  subst hq
  go_enter Tryd.func29, Tryd.ntmps29
  go_wp2
  go_loop [4] (fun i => ∃ (j : Nat), i = .int .i64 j ∧ j ≤ 15 ∧ Hid (codeAt s.data.toList 0 names = codeAt s.data.toList j (names.drop j))) (fun i => 15 - (intOf i).toNat)
  case atStart => exact ⟨0, rfl, by omega, Lib.hid rfl⟩
  case round =>
    obtain ⟨j, rfl, hj, hgo⟩ := hrel
    by_cases hj15 : j < 15
    · have hst := hgo.out.trans (codeAt_step s.data.toList j hj15)
      have HN : ∀ W, Calls Tryd.prog 33 #[.int .i64 (j : Int)] W fun e w' => e = .returned (.string (nameS j)) ∧ W = w' := fun W => by
        have h := refName_any (j : Int) W
        rw [nameOf_nat j hj15] at h; exact h
      have HN := Lib.hid HN
      by_cases he : nameS j = s
      · have hE := Lib.hid (hst.trans (if_pos ((name_eq j s).1 he)))
        have he2 : ((nameS j).toList == s.toList) = true := by rw [he]; simp
        clear hst
        go_wp2_with (go_at_call 33; refine (HN.out _).mono ?_; rintro e w2 ⟨rfl, rfl⟩)
        go_ret2
        exact ⟨by unfold codeL; rw [hE.out]; rfl, rfl⟩
      · have hE := Lib.hid (hst.trans (if_neg (fun h => he ((name_eq j s).2 h))))
        have he2 : ((nameS j).toList == s.toList) = false := toList_ne he
        clear hst
        go_wp2_with (go_at_call 33; refine (HN.out _).mono ?_; rintro e w2 ⟨rfl, rfl⟩)
        go_round
        case measure => show 15 - ((j : Int) + 1).toNat < 15 - ((j : Int)).toNat; omega
        case rel => exact ⟨j + 1, by go_num, by omega, hE⟩
    · have hje : j = 15 := by omega
      subst hje
      have hE := Lib.hid (hgo.out.trans (codeAt_end _))
      go_wp2
      go_ret2
      exact ⟨by unfold codeL; rw [hE.out]; rfl, rfl⟩

end Go.Proofs.YtcinhndidkllbaaDoor
