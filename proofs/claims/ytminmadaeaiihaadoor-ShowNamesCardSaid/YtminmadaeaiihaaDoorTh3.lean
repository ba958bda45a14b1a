/- Package tree: names. -/
import Derived.Test.YtminmadaeaiihaaDoorTh2
namespace Go.Proofs.YtminmadaeaiihaaDoor
open Go.RowKit
set_option maxRecDepth 100000

set_option maxHeartbeats 2000000 in
theorem isName_any (s : ByteArray) (hs : s.size ≤ 140737488355328) (w : World) : Calls Tryd.prog 108 #[.string s] w fun e w' => e = .returned (.bool (isNameB s)) ∧ w' = w := by
  go_enter Tryd.func108, Tryd.ntmps108
  have hdl : s.data.toList.length = s.size := by simp
  by_cases h0 : s.size = 0
  · have HM := Lib.hid (show isNameB s = false from (by
      have : s.data.toList = [] := List.eq_nil_of_length_eq_zero (by omega)
      unfold isNameB; rw [this]))
    have hse2 : s.toList.isEmpty = true := by
      rw [Go.ByteArray.toList_eq, List.eq_nil_of_length_eq_zero (by omega : s.data.toList.length = 0)]; rfl
    go_wp2
    go_ret; exact ⟨by rw [HM.out]; rfl, rfl⟩
  have hd0 : 0 < s.data.size := by
    have : s.data.size = s.size := rfl
    omega
  have hse2 : s.toList.isEmpty = false := by
    rw [Go.ByteArray.toList_eq]
    cases hl : s.data.toList with
    | nil => rw [hl] at hdl; simp at hdl; omega
    | cons c r => rfl
  have hh : s.data.toList = s[0] :: s.data.toList.tail := by
    cases hl : s.data.toList with
    | nil => rw [hl] at hdl; simp at hdl; omega
    | cons c r =>
      have : s[0] = c := by
        have h1 : s[0] = s.data[0] := rfl
        rw [h1, ← Array.getElem_toList]; simp [hl]
      rw [this]; rfl
  have HN := Lib.hid (show isNameB s = (decide (s.size ≤ 32) && !digB s[0] && !isKeyB s && s.data.toList.all nameByteB) from (by
    unfold isNameB; rw [hh]))
  clear hh
  by_cases h32 : (32 : Int) < s.size
  · have HM := Lib.hid (show isNameB s = false from (by
      have : ¬ s.size ≤ 32 := by omega
      rw [HN.out, decide_eq_false this]; simp))
    go_wp2
    go_ret; exact ⟨by rw [HM.out]; rfl, rfl⟩
  have HD := Lib.hid (fun (c : UInt8) (w : World) => (show Calls Tryd.prog 138 #[.int .u8 (c.toNat : Int)] w fun e w' => e = .returned (.bool (digB c)) ∧ w' = w from isDigit_any c.toNat w))
  have hs0 : (0 : Int) < s.size := by omega
  cases hd : digB s[0]
  · cases hk : isKeyB s
    · have HM := Lib.hid (show isNameB s = s.data.toList.all nameByteB from (by
        have : s.size ≤ 32 := by omega
        rw [HN.out, hd, hk, decide_eq_true this]; simp))
      have HD0 := Lib.hid (fun (w : World) => by have := HD.out s[0] w; rw [hd] at this; exact this)
      have HK := Lib.hid (fun (w : World) => by have := isKey_any s w; rw [hk] at this; exact this)
      clear hd hk HN
      go_wp2_with (first
        | (go_at_call 138; refine (HD0.out _).mono ?_; rintro e w2 ⟨rfl, rfl⟩)
        | (go_at_call 139; refine (HK.out _).mono ?_; rintro e w2 ⟨rfl, rfl⟩))
      go_loop [23] (fun i => ∃ j : Nat, j ≤ s.size ∧ i = .int .i64 j ∧ Hid ((s.data.toList.take j).all nameByteB = true)) (fun i => s.size - (intOf i).toNat)
      case atStart => exact ⟨0, Nat.zero_le _, rfl, Lib.hid rfl⟩
      case round =>
        obtain ⟨j, hj, rfl, hA⟩ := hrel
        by_cases hjs : j < s.size
        · have hj' : j < s.data.toList.length := by simpa using hjs
          have hget : s.data.toList[j] = s[j] := by
            rw [Array.getElem_toList]; rfl
          cases hb : nameByteB s[j]
          · have HF := Lib.hid (show isNameB s = false from (by
              rw [HM.out, List.all_eq_false]
              exact ⟨s[j], by rw [← hget]; exact List.getElem_mem hj', by simp [hb]⟩))
            have HDj := Lib.hid (fun (w : World) => by
              have hdj : digB s[j] = false := by unfold nameByteB at hb; simp at hb; exact hb.1.1
              have := HD.out s[j] w; rw [hdj] at this; exact this)
            have h95 : (((s[j]).toNat : Int) != 95) = true := by
              unfold nameByteB at hb; simp at hb; simp; omega
            by_cases h97 : ((s[j]).toNat : Int) < 97
            · clear hb hget
              go_wp2_with (go_at_call 138; refine (HDj.out _).mono ?_; rintro e w2 ⟨rfl, rfl⟩)
              go_ret; exact ⟨by rw [HF.out]; rfl, rfl⟩
            · have h122 : (122 : Int) < ((s[j]).toNat : Int) := by
                unfold nameByteB at hb; simp at hb; omega
              clear hb hget
              go_wp2_with (go_at_call 138; refine (HDj.out _).mono ?_; rintro e w2 ⟨rfl, rfl⟩)
              go_ret; exact ⟨by rw [HF.out]; rfl, rfl⟩
          · have HNX := Lib.hid (show (s.data.toList.take (j + 1)).all nameByteB = true from (by
              rw [List.take_succ_eq_append_getElem hj', List.all_append, hA.out, hget]
              simp [hb]))
            cases hdj : digB s[j]
            · have HDj := Lib.hid (fun (w : World) => by have := HD.out s[j] w; rw [hdj] at this; exact this)
              by_cases h95 : ((s[j]).toNat : Int) = 95
              · have h95b : (((s[j]).toNat : Int) != 95) = false := by rw [h95]; rfl
                clear hb hget hdj h95
                go_wp2_with (go_at_call 138; refine (HDj.out _).mono ?_; rintro e w2 ⟨rfl, rfl⟩)
                go_round
                case rel => exact ⟨j + 1, by omega, by go_num, HNX⟩
                case measure => simp [intOf]; omega
              · have h95b : (((s[j]).toNat : Int) != 95) = true := by simpa using h95
                have h97 : ¬ ((s[j]).toNat : Int) < 97 := by
                  unfold nameByteB at hb; rw [hdj] at hb; simp at hb; omega
                have h122 : ¬ (122 : Int) < ((s[j]).toNat : Int) := by
                  unfold nameByteB at hb; rw [hdj] at hb; simp at hb; omega
                clear hb hget hdj
                go_wp2_with (go_at_call 138; refine (HDj.out _).mono ?_; rintro e w2 ⟨rfl, rfl⟩)
                go_round
                case rel => exact ⟨j + 1, by omega, by go_num, HNX⟩
                case measure => simp [intOf]; omega
            · have HDj := Lib.hid (fun (w : World) => by have := HD.out s[j] w; rw [hdj] at this; exact this)
              clear hb hget hdj
              go_wp2_with (go_at_call 138; refine (HDj.out _).mono ?_; rintro e w2 ⟨rfl, rfl⟩)
              go_round
              case rel => exact ⟨j + 1, by omega, by go_num, HNX⟩
              case measure => simp [intOf]; omega
        · have hje : j = s.size := by omega
          have HF := Lib.hid (show isNameB s = true from (by
            have := hA.out
            rw [hje, List.take_of_length_le (by omega)] at this
            rw [HM.out, this]))
          go_wp2
          go_ret; exact ⟨by rw [HF.out]; rfl, rfl⟩
    · have HM := Lib.hid (show isNameB s = false from (by rw [HN.out, hk]; simp))
      have HD0 := Lib.hid (fun (w : World) => by have := HD.out s[0] w; rw [hd] at this; exact this)
      have HK := Lib.hid (fun (w : World) => by have := isKey_any s w; rw [hk] at this; exact this)
      clear hd hk HN
      go_wp2_with (first
        | (go_at_call 138; refine (HD0.out _).mono ?_; rintro e w2 ⟨rfl, rfl⟩)
        | (go_at_call 139; refine (HK.out _).mono ?_; rintro e w2 ⟨rfl, rfl⟩))
      go_ret; exact ⟨by rw [HM.out]; rfl, rfl⟩
  · have HM := Lib.hid (show isNameB s = false from (by rw [HN.out, hd]; simp))
    have HD0 := Lib.hid (fun (w : World) => by have := HD.out s[0] w; rw [hd] at this; exact this)
    clear hd HN
    go_wp2_with (go_at_call 138; refine (HD0.out _).mono ?_; rintro e w2 ⟨rfl, rfl⟩)
    go_ret; exact ⟨by rw [HM.out]; rfl, rfl⟩

end Go.Proofs.YtminmadaeaiihaaDoor
