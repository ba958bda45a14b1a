/- Package match: names. -/
import Derived.Test.YtcecgfijfnnpeaaDoorMp
import Derived.Test.YtcecgfijfnnpeaaDoorChecked
import Derived.WalkKit
import Derived.ProofKit
import Derived.Lib.Hide
import Derived.LoopTactic
import Derived.Deep.DeepCutAuto
import Derived.Deep.QuietTactic
import Derived.BigQuiet
import Derived.Deep.RegionHeld3
namespace Go.Proofs.YtcecgfijfnnpeaaDoor.Mt
open Go.RowKit
set_option maxRecDepth 100000

theorem len_data (s : ByteArray) : s.data.toList.length = s.size := by simp
theorem get_data (s : ByteArray) (j : Nat) (h : j < s.size) : s.data.toList[j]'(by rw [len_data]; exact h) = s[j] := by
  rw [Array.getElem_toList]; rfl
theorem empty_iff (s : ByteArray) : s.toList.isEmpty = decide (s.size = 0) := by
  rw [Go.ByteArray.toList_eq, ← len_data]
  cases s.data.toList with
  | nil => rfl
  | cons c r => simp

set_option maxHeartbeats 2000000 in
theorem isName_any (s : ByteArray) (hs : s.size ≤ 140737488355328) (w : World) : Calls Tryd.prog 50 #[.string s] w fun e w' => e = .returned (.bool (nameL s.data.toList)) ∧ w' = w := by
  have he := empty_iff s
  go_enter Tryd.func50, Tryd.ntmps50
  by_cases h0 : s.size = 0
  · have HM := Lib.hid (show nameL s.data.toList = false from by
      have : s.data.toList = [] := List.eq_nil_of_length_eq_zero (by rw [len_data]; exact h0)
      rw [this]; rfl)
    have hse2 : s.toList.isEmpty = true := by rw [he, decide_eq_true h0]
    clear he
    go_wp2
    go_ret; exact ⟨by rw [HM.out]; rfl, rfl⟩
  have hse2 : s.toList.isEmpty = false := by rw [he, decide_eq_false h0]
  clear he
  by_cases h32 : 32 < s.size
  · have HM := Lib.hid (show nameL s.data.toList = false from name_long (by rw [len_data]; exact h32))
    have d32 : decide ((32 : Int) < (s.size : Int)) = true := by simp; omega
    go_wp2
    go_ret; exact ⟨by rw [HM.out]; rfl, rfl⟩
  have d32 : decide ((32 : Int) < (s.size : Int)) = false := by simp; omega
  have HL := Lib.hid (len_data s)
  go_wp2
  go_loop [14] (fun i => ∃ j : Nat, j ≤ s.size ∧ i = .int .i64 j ∧ Hid ((s.data.toList.take j).all nameByteB = true) ∧ Hid (∀ h : 0 < s.data.toList.length, 0 < j → digB s.data.toList[0] = false)) (fun i => s.size - (intOf i).toNat)
  case atStart => exact ⟨0, Nat.zero_le _, rfl, Lib.hid rfl, Lib.hid (fun _ h => by omega)⟩
  case round =>
    obtain ⟨j, hj, rfl, hA, hD⟩ := hrel
    by_cases hjs : j < s.size
    · have hj' : j < s.data.toList.length := by rw [len_data]; exact hjs
      have hget := get_data s j hjs
      have hnext : nameByteB s[j] = true → Hid ((s.data.toList.take (j + 1)).all nameByteB = true) := fun h => all_step hj' hA.out (by rw [hget]; exact h)
      have hbad : nameByteB s[j] = false ∨ (j = 0 ∧ digB s[j] = true) → Hid (nameL s.data.toList = false) := fun h => name_bad hj' (by rw [hget]; exact h)
      have hnd : digB s[j] = false → Hid (∀ h : 0 < s.data.toList.length, 0 < j + 1 → digB s.data.toList[0] = false) := fun h => Lib.hid (fun h0 _ => by
        by_cases hz : j = 0
        · subst hz; rw [hget]; exact h
        · exact hD.out h0 (by omega))
      -- ARMS
      by_cases c0 : 97 ≤ (s[j]).toNat ∧ (s[j]).toNat ≤ 122
      · have k1 := hnext (byte_good (by omega))
        have k2 := hnd (by cases hq : digB s[j] with | false => rfl | true => rw [byte_dig] at hq; omega)
        have hd97 : decide ((97 : Int) ≤ ((s[j]).toNat : Int)) = true := by simp; omega
        have hd122 : decide (((s[j]).toNat : Int) ≤ (122 : Int)) = true := by simp; omega
        clear hnext hnd hbad hA hD hget c0
        go_wp2
        go_round
        case rel => exact ⟨j + 1, by omega, by go_num, k1, k2⟩
        case measure => simp [intOf]; omega
      by_cases c1 : (s[j]).toNat = 95
      · have k1 := hnext (byte_good (by omega))
        have k2 := hnd (by cases hq : digB s[j] with | false => rfl | true => rw [byte_dig] at hq; omega)
        have hd97 : decide ((97 : Int) ≤ ((s[j]).toNat : Int)) = false := by simp; omega
        have he95 : (((s[j]).toNat : Int) == 95) = true := by simp; omega
        clear hnext hnd hbad hA hD hget c0 c1
        go_wp2
        go_round
        case rel => exact ⟨j + 1, by omega, by go_num, k1, k2⟩
        case measure => simp [intOf]; omega
      by_cases c2 : (48 ≤ (s[j]).toNat ∧ (s[j]).toNat ≤ 57) ∧ 0 < j
      · have k1 := hnext (byte_good (by omega))
        have k2 : Hid (∀ h : 0 < s.data.toList.length, 0 < j + 1 → digB s.data.toList[0] = false) := Lib.hid (fun h0 _ => hD.out h0 (by omega))
        have hd97 : decide ((97 : Int) ≤ ((s[j]).toNat : Int)) = false := by simp; omega
        have he95 : (((s[j]).toNat : Int) == 95) = false := by simp; omega
        have hd48 : decide ((48 : Int) ≤ ((s[j]).toNat : Int)) = true := by simp; omega
        have hd57 : decide (((s[j]).toNat : Int) ≤ (57 : Int)) = true := by simp; omega
        have hdj : decide ((0 : Int) < (j : Int)) = true := by simp; omega
        have hdn : decide (0 < j) = true := by simp; omega
        clear hnext hnd hbad hA hD hget c0 c1 c2
        go_wp2
        go_round
        case rel => exact ⟨j + 1, by omega, by go_num, k1, k2⟩
        case measure => simp [intOf]; omega
      by_cases c3 : 48 ≤ (s[j]).toNat ∧ (s[j]).toNat ≤ 57
      · have k1 := hbad (.inr ⟨by omega, byte_dig.2 (by omega)⟩)
        have hd97 : decide ((97 : Int) ≤ ((s[j]).toNat : Int)) = false := by simp; omega
        have he95 : (((s[j]).toNat : Int) == 95) = false := by simp; omega
        have hd48 : decide ((48 : Int) ≤ ((s[j]).toNat : Int)) = true := by simp; omega
        have hd57 : decide (((s[j]).toNat : Int) ≤ (57 : Int)) = true := by simp; omega
        have hdj : decide ((0 : Int) < (j : Int)) = false := by simp; omega
        have hdn : decide (0 < j) = false := by simp; omega
        clear hnext hnd hbad hA hD hget c0 c1 c2 c3
        go_wp2
        go_ret
        exact ⟨by rw [k1.out]; rfl, rfl⟩
      by_cases c4 : (s[j]).toNat < 48
      · have k1 := hbad (.inl (byte_bad (by omega)))
        have hd97 : decide ((97 : Int) ≤ ((s[j]).toNat : Int)) = false := by simp; omega
        have he95 : (((s[j]).toNat : Int) == 95) = false := by simp; omega
        have hd48 : decide ((48 : Int) ≤ ((s[j]).toNat : Int)) = false := by simp; omega
        clear hnext hnd hbad hA hD hget c0 c1 c2 c3 c4
        go_wp2
        go_ret
        exact ⟨by rw [k1.out]; rfl, rfl⟩
      by_cases c5 : (s[j]).toNat < 97
      · have k1 := hbad (.inl (byte_bad (by omega)))
        have hd97 : decide ((97 : Int) ≤ ((s[j]).toNat : Int)) = false := by simp; omega
        have he95 : (((s[j]).toNat : Int) == 95) = false := by simp; omega
        have hd48 : decide ((48 : Int) ≤ ((s[j]).toNat : Int)) = true := by simp; omega
        have hd57 : decide (((s[j]).toNat : Int) ≤ (57 : Int)) = false := by simp; omega
        clear hnext hnd hbad hA hD hget c0 c1 c2 c3 c4 c5
        go_wp2
        go_ret
        exact ⟨by rw [k1.out]; rfl, rfl⟩
      have k1 := hbad (.inl (byte_bad (by omega)))
      have hd97 : decide ((97 : Int) ≤ ((s[j]).toNat : Int)) = true := by simp; omega
      have hd122 : decide (((s[j]).toNat : Int) ≤ (122 : Int)) = false := by simp; omega
      have he95 : (((s[j]).toNat : Int) == 95) = false := by simp; omega
      have hd48 : decide ((48 : Int) ≤ ((s[j]).toNat : Int)) = true := by simp; omega
      have hd57 : decide (((s[j]).toNat : Int) ≤ (57 : Int)) = false := by simp; omega
      clear hnext hnd hbad hA hD hget c0 c1 c2 c3 c4 c5
      go_wp2
      go_ret
      exact ⟨by rw [k1.out]; rfl, rfl⟩
      -- END
    · have hje : j = s.size := by omega
      have HF := Lib.hid (show nameL s.data.toList = true from name_good (by rw [len_data]; omega) (by rw [len_data]; omega) (hD.out (by rw [len_data]; omega) (by omega)) (by
        have := hA.out; rw [hje, ← HL.out, List.take_length] at this; exact this))
      clear hA hD
      go_wp2
      go_ret; exact ⟨by rw [HF.out]; rfl, rfl⟩
end Go.Proofs.YtcecgfijfnnpeaaDoor.Mt
