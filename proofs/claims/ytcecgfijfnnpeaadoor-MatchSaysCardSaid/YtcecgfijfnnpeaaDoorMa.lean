/- The document's patterns. -/
import Derived.Test.YtcecgfijfnnpeaaDoorMt2
import Derived.Test.YtcecgfijfnnpeaaDoorMo
import Derived.Test.YtcecgfijfnnpeaaDoorLawMatchStars
namespace Go.Proofs.YtcecgfijfnnpeaaDoor.Mt
open Go.RowKit
set_option maxRecDepth 100000

def smallB (c : UInt8) : Bool := (decide (97 ≤ c.toNat) && decide (c.toNat ≤ 122)) || c.toNat == 95
theorem byte_ways (c : UInt8) : nameByteB c = (smallB c || digB c) ∧ (smallB c = true → digB c = false) := by
  unfold nameByteB smallB digB
  by_cases h1 : 97 ≤ c.toNat <;> by_cases h2 : c.toNat ≤ 122 <;> by_cases h3 : c.toNat = 95 <;> by_cases h4 : 48 ≤ c.toNat <;> by_cases h5 : c.toNat ≤ 57 <;> simp [h1, h2, h3, h4, h5] <;> omega
theorem name_small {c : UInt8} {r : Ls} : nameL (c :: r) = (decide (r.length + 1 ≤ 32) && smallB c && (c :: r).all nameByteB) := by
  rw [name_head, List.all_cons]
  obtain ⟨h1, h2⟩ := byte_ways c
  rw [h1]
  cases hs : smallB c with
  | true => rw [h2 hs]; simp
  | false => cases hd : digB c <;> simp

theorem star_hit {l : Ls} {j : Nat} (hj : j < l.length) (h : 42 ∉ l.take j) (hc : l[j] = 42) : Lib.index l [42] = j := by
  have e : l = l.take j ++ 42 :: l.drop (j + 1) := by
    rw [← hc, ← List.drop_eq_getElem_cons hj, List.take_append_drop]
  have := index_at (l.take j) (l.drop (j + 1)) 42 h
  rw [← e, List.length_take, Nat.min_eq_left (by omega)] at this
  exact this
set_option maxHeartbeats 1000000 in
theorem star_any (s : ByteArray) (hs : s.size ≤ 140737488355328) (w : World) : Calls Tryd.prog 51 #[.string s] w fun e w' => e = .returned (.int .i64 (Lib.index s.data.toList [42])) ∧ w' = w := by
  go_enter Tryd.func51, Tryd.ntmps51
  go_wp2
  go_loop [3] (fun i => ∃ j : Nat, j ≤ s.size ∧ i = .int .i64 j ∧ Hid (42 ∉ s.data.toList.take j)) (fun i => s.size - (intOf i).toNat)
  case atStart => exact ⟨0, Nat.zero_le _, rfl, Lib.hid (by simp)⟩
  case round =>
    obtain ⟨j, hj, rfl, HA⟩ := hrel
    by_cases hlt : j < s.size
    · have hj' : j < s.data.toList.length := by rw [len_data]; exact hlt
      have hg := get_data s j hlt
      by_cases hc : (s[j]).toNat = 42
      · have HF := Lib.hid (star_hit hj' HA.out (by rw [hg]; exact UInt8.toNat_inj.1 hc))
        have h42 : (((s[j]).toNat : Int) == 42) = true := by rw [beq_iff_eq]; omega
        clear HA hg hc
        go_wp2
        go_ret; exact ⟨ret_int HF.out.symm, rfl⟩
      · have HN : Hid (42 ∉ s.data.toList.take (j + 1)) := Lib.hid (by
          rw [List.take_succ_eq_append_getElem hj', List.mem_append, hg]
          rintro (h | h)
          · exact HA.out h
          · rw [List.mem_singleton] at h; exact hc (by rw [← h]; rfl))
        have h42 : (((s[j]).toNat : Int) == 42) = false := by rw [beq_eq_false_iff_ne]; omega
        clear HA hg hc
        go_wp2
        go_round
        case rel => exact ⟨j + 1, by omega, by go_num, HN⟩
        case measure => simp [intOf]; omega
    · have hje : j = s.size := by omega
      have HF := Lib.hid (show Lib.index s.data.toList [42] = -1 from index_no _ _ (by have := HA.out; rw [hje, List.take_of_length_le (by rw [len_data]; exact Nat.le_refl _)] at this; exact this))
      clear HA
      go_wp2
      go_ret; exact ⟨ret_int HF.out.symm, rfl⟩

set_option maxHeartbeats 1000000 in
theorem rbegins_any (s p : ByteArray) (w : World) : Calls Tryd.prog 43 #[.string s, .string p] w fun e w' => e = .returned (.bool (Lib.hasPrefix s.data.toList p.data.toList)) ∧ w' = w := by
  have hq := Lib.hasPrefix_of_take s.data.toList p.data.toList
  rw [len_data, len_data] at hq
  by_cases h : p.size ≤ s.size
  · have hd : decide ((p.size : Int) ≤ (s.size : Int)) = true := by simp; omega
    have hd2 : decide (p.size ≤ s.size) = true := by simp; omega
    have hx : ((s.extract 0 p.size).toList == p.toList) = (s.data.toList.take p.size == p.data.toList) := by
      rw [Lib.extract_toList, Go.ByteArray.toList_eq]; simp
    rw [hd2, Bool.true_and] at hq
    have HQ := Lib.hid (hq.symm.trans hx.symm)
    clear hq hx
    go_enter Tryd.func43, Tryd.ntmps43
    go_wp2
    go_ret; exact ⟨ret_bool HQ.out.symm, rfl⟩
  · have hd : decide ((p.size : Int) ≤ (s.size : Int)) = false := by simp; omega
    have hd2 : decide (p.size ≤ s.size) = false := by simp; omega
    rw [hd2, Bool.false_and] at hq
    have HQ := Lib.hid hq
    clear hq
    go_enter Tryd.func43, Tryd.ntmps43
    go_wp2
    go_ret; exact ⟨ret_bool HQ.out, rfl⟩
set_option maxHeartbeats 400000 in
theorem rsmall_any (c : UInt8) (w : World) : Calls Tryd.prog 69 #[.int .u8 (c.toNat : Int)] w fun e w' => e = .returned (.bool (smallB c)) ∧ w' = w := by
  obtain ⟨n, hn⟩ : ∃ n, n = c.toNat := ⟨_, rfl⟩
  have hs : smallB c = ((decide ((97 : Int) ≤ (n : Int)) && decide ((n : Int) ≤ 122)) || ((n : Int) == 95)) := by
    unfold smallB; rw [← hn]
    rw [Bool.eq_iff_iff]
    simp only [Bool.or_eq_true, Bool.and_eq_true, decide_eq_true_eq, beq_iff_eq]
    omega
  rw [← hn]
  have HS := Lib.hid hs
  clear hs hn
  go_enter Tryd.func69, Tryd.ntmps69
  by_cases h1 : (97 : Int) ≤ (n : Int)
  · by_cases h2 : (n : Int) ≤ 122
    · go_wp2; go_ret; exact ⟨by rw [HS.out, decide_eq_true h1, decide_eq_true h2]; rfl, rfl⟩
    · go_wp2; go_ret; exact ⟨by rw [HS.out, decide_eq_true h1, decide_eq_false (show ¬ (n : Int) ≤ 122 by omega)]; rfl, rfl⟩
  · go_wp2; go_ret; exact ⟨by rw [HS.out, decide_eq_false (show ¬ (97 : Int) ≤ (n : Int) by omega)]; rfl, rfl⟩
set_option maxHeartbeats 400000 in
theorem rdigit_any (c : UInt8) (w : World) : Calls Tryd.prog 70 #[.int .u8 (c.toNat : Int)] w fun e w' => e = .returned (.bool (digB c)) ∧ w' = w := by
  obtain ⟨n, hn⟩ : ∃ n, n = c.toNat := ⟨_, rfl⟩
  have hs : digB c = (decide ((48 : Int) ≤ (n : Int)) && decide ((n : Int) ≤ 57)) := by
    unfold digB; rw [← hn]
    by_cases h1 : 48 ≤ n <;> by_cases h2 : n ≤ 57 <;> simp [h1, h2] <;> omega
  rw [← hn]
  have HS := Lib.hid hs
  clear hs hn
  go_enter Tryd.func70, Tryd.ntmps70
  by_cases h1 : (48 : Int) ≤ (n : Int)
  · go_wp2; go_ret; exact ⟨by rw [HS.out, decide_eq_true h1]; rfl, rfl⟩
  · go_wp2; go_ret; exact ⟨by rw [HS.out, decide_eq_false (show ¬ (48 : Int) ≤ (n : Int) by omega)]; rfl, rfl⟩

set_option maxHeartbeats 2000000 in
theorem risName_any (s : ByteArray) (hs : s.size ≤ 140737488355328) (w : World) : Calls Tryd.prog 52 #[.string s] w fun e w' => e = .returned (.bool (nameL s.data.toList)) ∧ w' = w := by
  have hdl : s.data.toList.length = s.size := by simp
  have HSM := Lib.hid (fun (c : UInt8) (w : World) => rsmall_any c w)
  have HDG := Lib.hid (fun (c : UInt8) (w : World) => rdigit_any c w)
  go_enter Tryd.func52, Tryd.ntmps52
  by_cases h0 : s.size = 0
  · have HM := Lib.hid (show nameL s.data.toList = false from (by
      have : s.data.toList = [] := List.eq_nil_of_length_eq_zero (by omega)
      rw [this]; rfl))
    have h0i : (s.size : Int) < 1 := by omega
    clear h0
    go_wp2
    go_ret; exact ⟨by rw [HM.out]; rfl, rfl⟩
  have hd0 : 0 < s.data.size := by
    have : s.data.size = s.size := rfl
    omega
  have hh : s.data.toList = s[0] :: s.data.toList.tail := by
    cases hl : s.data.toList with
    | nil => rw [hl] at hdl; simp at hdl; omega
    | cons c r =>
      have : s[0] = c := by
        have h1 : s[0] = s.data[0] := rfl
        rw [h1, ← Array.getElem_toList]; simp [hl]
      rw [this]; rfl
  have HN := Lib.hid (show nameL s.data.toList = (decide (s.size ≤ 32) && smallB s[0] && s.data.toList.all nameByteB) from (by
    have ht : s.data.toList.tail.length + 1 = s.size := by rw [← hdl, hh]; rfl
    rw [← ht]; conv => lhs; rw [hh, name_small]
    rw [← hh]))
  have h0i : ¬ (s.size : Int) < 1 := by omega
  have hs0 : (0 : Int) < s.size := by omega
  clear hh
  by_cases h32 : (32 : Int) < s.size
  · have HM := Lib.hid (show nameL s.data.toList = false from (by
      have : ¬ s.size ≤ 32 := by omega
      rw [HN.out, decide_eq_false this]; simp))
    go_wp2
    go_ret; exact ⟨by rw [HM.out]; rfl, rfl⟩
  cases hsm : smallB s[0]
  · have HM := Lib.hid (show nameL s.data.toList = false from (by rw [HN.out, hsm]; simp))
    have HS0 := Lib.hid (fun (w : World) => by have := HSM.out s[0] w; rw [hsm] at this; exact this)
    clear hsm HN
    go_wp2_with (go_at_call 69; refine (HS0.out _).mono ?_; rintro e w2 ⟨rfl, rfl⟩)
    go_ret; exact ⟨by rw [HM.out]; rfl, rfl⟩
  · have HM := Lib.hid (show nameL s.data.toList = s.data.toList.all nameByteB from (by
      have : s.size ≤ 32 := by omega
      rw [HN.out, hsm, decide_eq_true this]; simp))
    have HS0 := Lib.hid (fun (w : World) => by have := HSM.out s[0] w; rw [hsm] at this; exact this)
    clear hsm HN
    go_wp2_with (go_at_call 69; refine (HS0.out _).mono ?_; rintro e w2 ⟨rfl, rfl⟩)
    go_loop [3] (fun i => ∃ j : Nat, j ≤ s.size ∧ i = .int .i64 j ∧ Hid ((s.data.toList.take j).all nameByteB = true)) (fun i => s.size - (intOf i).toNat)
    case atStart => exact ⟨0, Nat.zero_le _, rfl, Lib.hid rfl⟩
    case round =>
      obtain ⟨j, hj, rfl, hA⟩ := hrel
      by_cases hjs : j < s.size
      · have hj' : j < s.data.toList.length := by simpa using hjs
        have hget : s.data.toList[j] = s[j] := by
          rw [Array.getElem_toList]; rfl
        obtain ⟨hb1, _⟩ := byte_ways s[j]
        cases hs1 : smallB s[j]
        · have HS1 := Lib.hid (fun (w : World) => by have := HSM.out s[j] w; rw [hs1] at this; exact this)
          cases hd1 : digB s[j]
          · have HD1 := Lib.hid (fun (w : World) => by have := HDG.out s[j] w; rw [hd1] at this; exact this)
            have HF := Lib.hid (show nameL s.data.toList = false from (by
              rw [HM.out, List.all_eq_false]
              exact ⟨s[j], by rw [← hget]; exact List.getElem_mem hj', by rw [hb1, hs1, hd1]; simp⟩))
            clear hget hb1 hs1 hd1
            go_wp2_with (first
              | (go_at_call 69; refine (HS1.out _).mono ?_; rintro e w2 ⟨rfl, rfl⟩)
              | (go_at_call 70; refine (HD1.out _).mono ?_; rintro e w2 ⟨rfl, rfl⟩))
            go_ret; exact ⟨by rw [HF.out]; rfl, rfl⟩
          · have HD1 := Lib.hid (fun (w : World) => by have := HDG.out s[j] w; rw [hd1] at this; exact this)
            have HNX := Lib.hid (show (s.data.toList.take (j + 1)).all nameByteB = true from (by
              rw [List.take_succ_eq_append_getElem hj', List.all_append, hA.out, hget]
              simp [hb1, hd1]))
            clear hget hb1 hs1 hd1
            go_wp2_with (first
              | (go_at_call 69; refine (HS1.out _).mono ?_; rintro e w2 ⟨rfl, rfl⟩)
              | (go_at_call 70; refine (HD1.out _).mono ?_; rintro e w2 ⟨rfl, rfl⟩))
            go_round
            case rel => exact ⟨j + 1, by omega, by go_num, HNX⟩
            case measure => simp [intOf]; omega
        · have HS1 := Lib.hid (fun (w : World) => by have := HSM.out s[j] w; rw [hs1] at this; exact this)
          have HNX := Lib.hid (show (s.data.toList.take (j + 1)).all nameByteB = true from (by
            rw [List.take_succ_eq_append_getElem hj', List.all_append, hA.out, hget]
            simp [hb1, hs1]))
          clear hget hb1 hs1
          go_wp2_with (go_at_call 69; refine (HS1.out _).mono ?_; rintro e w2 ⟨rfl, rfl⟩)
          go_round
          case rel => exact ⟨j + 1, by omega, by go_num, HNX⟩
          case measure => simp [intOf]; omega
      · have hje : j = s.size := by omega
        have HF := Lib.hid (show nameL s.data.toList = true from (by
          have := hA.out
          rw [hje, List.take_of_length_le (by omega)] at this
          rw [HM.out, this]))
        go_wp2
        go_ret; exact ⟨by rw [HF.out]; rfl, rfl⟩
end Go.Proofs.YtcecgfijfnnpeaaDoor.Mt
