/- ShowNames: the ways of the first byte. -/
import Derived.Test.YtminmadaeaiihaaDoorKF
namespace Go.Proofs.YtminmadaeaiihaaDoor.Sh
open Go.RowKit
set_option maxRecDepth 100000

section
attribute [local go_sem ↓] run_string_add
set_option maxHeartbeats 8000000 in
theorem names_w1f (ad : Nat → Addr) (eD eM eR eS : Value) (hP : Ptrs eD eM eR eS) (s : ByteArray) (hs : s.size ≤ 140737488355328) (w : World) (hG : Glob ad eD eM eR eS w) (h40 : ¬ (40 : Int) < s.size) (hp : printed s = true)
    (N1 : Bool) (hN1 : N1 = (decide (1 ≤ s.size) && decide (s.size ≤ 32) && smallB (s.data.toList.headD 0))) (e1 : N1 = false) (a1 : ¬ (1 : Int) ≤ s.size) :
    Calls Tryd.prog 5 #[.string s, .bool false] w fun e w' => e = .returned (.bool true) ∧ Below w.heap.size w w' := by
  have HF := Lib.hid (first8_any ad eD eM eR eS hP w hG)
  have HPR := Lib.hid (fun w => printed_any s w hs)
  have HG := Lib.hid hG
  clear hG
  have HPR1 := Lib.hid (fun w => by have := HPR.out w; rw [hp] at this; exact this)
  have h40' : s.size ≤ 40 := by omega
  have HE := Lib.hid (fun k hk => exprW ad eD eM eR eS hP s false h40' hp w HG.out k hk)
  obtain ⟨t, ht⟩ : ∃ t : ByteArray, t = ⟨(wT (pN false s)).toArray⟩ := ⟨_, rfl⟩
  rw [← ht] at HE
  have HT := Lib.hid (show t = ⟨([120] ++ [if false = true then 58 else 46] ++ nmL s ++ (if false = true then [40, 41] else [])).toArray⟩ from by rw [ht, pN_text])
  have HTZ := Lib.hid (show t.size ≤ 100100 from by
    have := nmL_len s h40'
    rw [HT.out]
    show (List.toArray _).size ≤ _
    simp only [List.size_toArray, List.length_append]
    simp; omega)
  have HQ := Lib.hid (fun w => refQuoted_any s w (by have := esc_len s.data.toList; have h2 : s.data.toList.length = s.size := by simp
                                                     omega))
  clear ht
  have HS1 := Lib.hid (fun w => rS1_any s w)
  clear HG hP hs HPR hp
  have HN1 := Lib.hid hN1
  clear hN1
  have HE1 := Lib.hid e1
  clear e1
  have HEX := Lib.hid (HE.out 22 rfl)
  clear HE
  go_enter Tryd.func5, Tryd.ntmps5
  go_wp2_with (first
    | (go_at_call 24; (with_reducible refine HF.out.mono ?_); rintro e w2 ⟨rfl, hb2⟩; have HB2 := Lib.hid hb2; clear hb2 HF)
    | (go_at_call 27; (with_reducible refine (HEX.out _ HB4.out _).mono ?_); rintro e w5 ⟨rfl, hb5⟩; have HB5 := Lib.hid hb5; clear hb5 HB4 HB2 HEX)
    | (go_at_call 25; refine (HPR1.out _).mono ?_; rintro e w3 ⟨rfl, rfl⟩)
    | (go_at_call 26; (with_reducible refine (HS1.out _).mono ?_); rintro e w4 ⟨rfl, hb4⟩; have HB4 := Lib.hid (HB2.out.trans (hb4.mono HB2.out.size)); clear hb4))
  go_loop [11, 12] (fun nv i => ∃ (j : Nat) (b : Bool), j ≤ s.size ∧ nv = .bool b ∧ i = .int .i64 j ∧ Hid (b = (N1 && (s.data.toList.take j).all nameByteB))) (fun _ i => s.size - (intOf i).toNat)
  case atStart => exact ⟨0, _, Nat.zero_le _, rfl, rfl, Lib.hid (by rw [HE1.out]; first | rfl | (generalize s[0].toNat = n at *; simp; omega))⟩
  case round =>
    obtain ⟨j, b, hj, rfl, rfl, HA⟩ := hrel
    by_cases hjs : j < s.size
    · have hj' : j < s.data.toList.length := by simpa using hjs
      have hget : s.data.toList[j] = s[j] := by rw [Array.getElem_toList]; rfl
      have HNX := Lib.hid (show (N1 && (s.data.toList.take (j + 1)).all nameByteB) = (b && nameByteB s[j]) from (by
        rw [List.take_succ_eq_append_getElem hj', List.all_append, hget, HA.out]
        simp [Bool.and_assoc]))
      clear hget HA
      cases b with
      | false =>
        go_wp2
        go_round
        case rel => exact ⟨j + 1, false, by omega, rfl, by go_num, Lib.hid (by rw [HNX.out]; rfl)⟩
        case measure => simp [intOf]; omega
      | true =>
        rcases byte_5 s[j] with ⟨e2, c1, c2⟩ | ⟨e2, c1, c2⟩ | ⟨e2, c1, c2, c3, c4⟩ | ⟨e2, c1, c2, c3, c4, c5⟩ | ⟨e2, c1, c2, c3⟩ | ⟨e2, c1, c2, c3, c4⟩
        all_goals
          have HNY := Lib.hid (HNX.out.trans (by rw [e2]))
          clear e2 HNX
          go_wp2
          go_round
          case rel => exact ⟨j + 1, _, by omega, rfl, by go_num, Lib.hid (by rw [HNY.out]; first | rfl | (generalize s[j].toNat = n at *; simp; omega))⟩
          case measure => simp [intOf]; omega
    · have hje : j = s.size := by omega
      have HA2 := Lib.hid (show b = (N1 && s.data.toList.all nameByteB) from (by rw [HA.out, hje, List.take_of_length_le (by simp)]))
      clear HA hje
      go_wp2
      generalize hWK : w5.alloc _ = W6
      have HK : Hid (∀ i (h : i < 19), W6.cell? ⟨w5.heap.size, i, none⟩ = some (.string (keysL[i]'h))) := by
        rw [← hWK]; exact keyRow w5
      have HB6 : Hid (Below w.heap.size w W6) := by
        rw [← hWK]; exact HB5.out.alloc HB5.out.size _
      clear hWK
      go_loop [11, 14] (fun nv i => ∃ (j : Nat) (d : Bool), j ≤ 19 ∧ nv = .bool d ∧ i = .int .i64 j ∧ Hid (d = (b && !holdsB (keysL.take j) s))) (fun _ i => 19 - (intOf i).toNat)
      case atStart => exact ⟨0, _, Nat.zero_le _, rfl, rfl, Lib.hid (by simp [holdsB])⟩
      case round =>
        obtain ⟨j2, d, hj2, rfl, rfl, HD⟩ := hrel
        by_cases hjk : j2 < 19
        · have h0 := HK.out j2 hjk
          obtain ⟨y, hy⟩ : ∃ y, y = keysL[j2]'hjk := ⟨_, rfl⟩
          have HNX := Lib.hid (show (b && !holdsB (keysL.take (j2 + 1)) s) = (d && !(y.toList == s.toList)) from (by
            rw [holds_next j2 hjk, HD.out, ← hy]
            cases b <;> cases holdsB (keysL.take j2) s <;> rfl))
          rw [← hy] at h0
          clear hy HD
          cases d with
          | false =>
            go_wp2
            go_round
            case rel => exact ⟨j2 + 1, false, by omega, rfl, by go_num, Lib.hid (by rw [HNX.out]; rfl)⟩
            case measure => simp [intOf]; omega
          | true =>
            have HNY := Lib.hid (show (b && !holdsB (keysL.take (j2 + 1)) s) = !(s.toList == y.toList) from (by
              rw [HNX.out, Bool.true_and]; congr 1; rw [Bool.eq_iff_iff, beq_iff_eq, beq_iff_eq]; exact eq_comm))
            clear HNX
            go_wp2
            go_round
            case rel => exact ⟨j2 + 1, _, by omega, rfl, by go_num, Lib.hid HNY.out.symm⟩
            case measure => simp [intOf]; omega
        · have hje : j2 = 19 := by omega
          have HD2 := Lib.hid (show d = isNameB s from (by rw [isName_says s N1 HN1.out, HD.out, hje, ← HA2.out]; rfl))
          clear HD hje HA2 HN1 HE1
          have h41 : (s.size : Int) ≤ 40 := by omega
          cases d with
          | true =>
            have HTE := Lib.hid (textT false s t HD2.out.symm HT.out)
            go_wp2
            go_ret
            exact ⟨ret_bool (beq_iff_eq.2 HTE.out), HB6.out⟩
          | false =>
            have hte := textF false s t HD2.out.symm HT.out
            have hqz : (strB (34 :: (esc s.data.toList ++ [34]))).size ≤ 200 := (by
              have := esc_len s.data.toList
              have h2 : s.data.toList.length = s.size := by simp
              rw [strB_size]; simp; omega)
            generalize strB (34 :: (esc s.data.toList ++ [34])) = Q at hqz hte HQ
            have HTE := Lib.hid hte
            clear hte
            obtain ⟨m, hm, HNU⟩ := number9 t W6 HTZ.out
            have HNU := Lib.hid HNU
            go_wp2_with (first
              | (go_at_call 28; (with_reducible refine (HQ.out _).mono ?_); rintro e w7 ⟨rfl, rfl⟩)
              | (go_at_call 23; (with_reducible refine HNU.out.mono ?_); rintro e w8 ⟨rfl, rfl⟩))
            all_goals first
              | (exfalso; rename_i h; exact h HTE.out)
              | (go_ret; exact ⟨ret_bool (by first | rfl | simpa using hm), HB6.out⟩)

set_option maxHeartbeats 8000000 in
theorem names_w1t (ad : Nat → Addr) (eD eM eR eS : Value) (hP : Ptrs eD eM eR eS) (s : ByteArray) (hs : s.size ≤ 140737488355328) (w : World) (hG : Glob ad eD eM eR eS w) (h40 : ¬ (40 : Int) < s.size) (hp : printed s = true)
    (N1 : Bool) (hN1 : N1 = (decide (1 ≤ s.size) && decide (s.size ≤ 32) && smallB (s.data.toList.headD 0))) (e1 : N1 = false) (a1 : ¬ (1 : Int) ≤ s.size) :
    Calls Tryd.prog 5 #[.string s, .bool true] w fun e w' => e = .returned (.bool true) ∧ Below w.heap.size w w' := by
  have HF := Lib.hid (first8_any ad eD eM eR eS hP w hG)
  have HPR := Lib.hid (fun w => printed_any s w hs)
  have HG := Lib.hid hG
  clear hG
  have HPR1 := Lib.hid (fun w => by have := HPR.out w; rw [hp] at this; exact this)
  have h40' : s.size ≤ 40 := by omega
  have HE := Lib.hid (fun k hk => exprW ad eD eM eR eS hP s true h40' hp w HG.out k hk)
  obtain ⟨t, ht⟩ : ∃ t : ByteArray, t = ⟨(wT (pN true s)).toArray⟩ := ⟨_, rfl⟩
  rw [← ht] at HE
  have HT := Lib.hid (show t = ⟨([120] ++ [if true = true then 58 else 46] ++ nmL s ++ (if true = true then [40, 41] else [])).toArray⟩ from by rw [ht, pN_text])
  have HTZ := Lib.hid (show t.size ≤ 100100 from by
    have := nmL_len s h40'
    rw [HT.out]
    show (List.toArray _).size ≤ _
    simp only [List.size_toArray, List.length_append]
    simp; omega)
  have HQ := Lib.hid (fun w => refQuoted_any s w (by have := esc_len s.data.toList; have h2 : s.data.toList.length = s.size := by simp
                                                     omega))
  clear ht
  have HS1 := Lib.hid (fun w => rS1_any s w)
  clear HG hP hs HPR hp
  have HN1 := Lib.hid hN1
  clear hN1
  have HE1 := Lib.hid e1
  clear e1
  have HEX := Lib.hid (HE.out 23 rfl)
  clear HE
  go_enter Tryd.func5, Tryd.ntmps5
  go_wp2_with (first
    | (go_at_call 24; (with_reducible refine HF.out.mono ?_); rintro e w2 ⟨rfl, hb2⟩; have HB2 := Lib.hid hb2; clear hb2 HF)
    | (go_at_call 27; (with_reducible refine (HEX.out _ HB4.out _).mono ?_); rintro e w5 ⟨rfl, hb5⟩; have HB5 := Lib.hid hb5; clear hb5 HB4 HB2 HEX)
    | (go_at_call 25; refine (HPR1.out _).mono ?_; rintro e w3 ⟨rfl, rfl⟩)
    | (go_at_call 26; (with_reducible refine (HS1.out _).mono ?_); rintro e w4 ⟨rfl, hb4⟩; have HB4 := Lib.hid (HB2.out.trans (hb4.mono HB2.out.size)); clear hb4))
  go_loop [11, 12] (fun nv i => ∃ (j : Nat) (b : Bool), j ≤ s.size ∧ nv = .bool b ∧ i = .int .i64 j ∧ Hid (b = (N1 && (s.data.toList.take j).all nameByteB))) (fun _ i => s.size - (intOf i).toNat)
  case atStart => exact ⟨0, _, Nat.zero_le _, rfl, rfl, Lib.hid (by rw [HE1.out]; first | rfl | (generalize s[0].toNat = n at *; simp; omega))⟩
  case round =>
    obtain ⟨j, b, hj, rfl, rfl, HA⟩ := hrel
    by_cases hjs : j < s.size
    · have hj' : j < s.data.toList.length := by simpa using hjs
      have hget : s.data.toList[j] = s[j] := by rw [Array.getElem_toList]; rfl
      have HNX := Lib.hid (show (N1 && (s.data.toList.take (j + 1)).all nameByteB) = (b && nameByteB s[j]) from (by
        rw [List.take_succ_eq_append_getElem hj', List.all_append, hget, HA.out]
        simp [Bool.and_assoc]))
      clear hget HA
      cases b with
      | false =>
        go_wp2
        go_round
        case rel => exact ⟨j + 1, false, by omega, rfl, by go_num, Lib.hid (by rw [HNX.out]; rfl)⟩
        case measure => simp [intOf]; omega
      | true =>
        rcases byte_5 s[j] with ⟨e2, c1, c2⟩ | ⟨e2, c1, c2⟩ | ⟨e2, c1, c2, c3, c4⟩ | ⟨e2, c1, c2, c3, c4, c5⟩ | ⟨e2, c1, c2, c3⟩ | ⟨e2, c1, c2, c3, c4⟩
        all_goals
          have HNY := Lib.hid (HNX.out.trans (by rw [e2]))
          clear e2 HNX
          go_wp2
          go_round
          case rel => exact ⟨j + 1, _, by omega, rfl, by go_num, Lib.hid (by rw [HNY.out]; first | rfl | (generalize s[j].toNat = n at *; simp; omega))⟩
          case measure => simp [intOf]; omega
    · have hje : j = s.size := by omega
      have HA2 := Lib.hid (show b = (N1 && s.data.toList.all nameByteB) from (by rw [HA.out, hje, List.take_of_length_le (by simp)]))
      clear HA hje
      go_wp2
      generalize hWK : w5.alloc _ = W6
      have HK : Hid (∀ i (h : i < 19), W6.cell? ⟨w5.heap.size, i, none⟩ = some (.string (keysL[i]'h))) := by
        rw [← hWK]; exact keyRow w5
      have HB6 : Hid (Below w.heap.size w W6) := by
        rw [← hWK]; exact HB5.out.alloc HB5.out.size _
      clear hWK
      go_loop [11, 14] (fun nv i => ∃ (j : Nat) (d : Bool), j ≤ 19 ∧ nv = .bool d ∧ i = .int .i64 j ∧ Hid (d = (b && !holdsB (keysL.take j) s))) (fun _ i => 19 - (intOf i).toNat)
      case atStart => exact ⟨0, _, Nat.zero_le _, rfl, rfl, Lib.hid (by simp [holdsB])⟩
      case round =>
        obtain ⟨j2, d, hj2, rfl, rfl, HD⟩ := hrel
        by_cases hjk : j2 < 19
        · have h0 := HK.out j2 hjk
          obtain ⟨y, hy⟩ : ∃ y, y = keysL[j2]'hjk := ⟨_, rfl⟩
          have HNX := Lib.hid (show (b && !holdsB (keysL.take (j2 + 1)) s) = (d && !(y.toList == s.toList)) from (by
            rw [holds_next j2 hjk, HD.out, ← hy]
            cases b <;> cases holdsB (keysL.take j2) s <;> rfl))
          rw [← hy] at h0
          clear hy HD
          cases d with
          | false =>
            go_wp2
            go_round
            case rel => exact ⟨j2 + 1, false, by omega, rfl, by go_num, Lib.hid (by rw [HNX.out]; rfl)⟩
            case measure => simp [intOf]; omega
          | true =>
            have HNY := Lib.hid (show (b && !holdsB (keysL.take (j2 + 1)) s) = !(s.toList == y.toList) from (by
              rw [HNX.out, Bool.true_and]; congr 1; rw [Bool.eq_iff_iff, beq_iff_eq, beq_iff_eq]; exact eq_comm))
            clear HNX
            go_wp2
            go_round
            case rel => exact ⟨j2 + 1, _, by omega, rfl, by go_num, Lib.hid HNY.out.symm⟩
            case measure => simp [intOf]; omega
        · have hje : j2 = 19 := by omega
          have HD2 := Lib.hid (show d = isNameB s from (by rw [isName_says s N1 HN1.out, HD.out, hje, ← HA2.out]; rfl))
          clear HD hje HA2 HN1 HE1
          have h41 : (s.size : Int) ≤ 40 := by omega
          cases d with
          | true =>
            have HTE := Lib.hid (textT true s t HD2.out.symm HT.out)
            go_wp2
            go_ret
            exact ⟨ret_bool (beq_iff_eq.2 HTE.out), HB6.out⟩
          | false =>
            have hte := textF true s t HD2.out.symm HT.out
            have hqz : (strB (34 :: (esc s.data.toList ++ [34]))).size ≤ 200 := (by
              have := esc_len s.data.toList
              have h2 : s.data.toList.length = s.size := by simp
              rw [strB_size]; simp; omega)
            generalize strB (34 :: (esc s.data.toList ++ [34])) = Q at hqz hte HQ
            have HTE := Lib.hid hte
            clear hte
            obtain ⟨m, hm, HNU⟩ := number9 t W6 HTZ.out
            have HNU := Lib.hid HNU
            go_wp2_with (first
              | (go_at_call 28; (with_reducible refine (HQ.out _).mono ?_); rintro e w7 ⟨rfl, rfl⟩)
              | (go_at_call 23; (with_reducible refine HNU.out.mono ?_); rintro e w8 ⟨rfl, rfl⟩))
            all_goals first
              | (exfalso; rename_i h; exact h HTE.out)
              | (go_ret; exact ⟨ret_bool (by first | rfl | simpa using hm), HB6.out⟩)

set_option maxHeartbeats 8000000 in
theorem names_w2f (ad : Nat → Addr) (eD eM eR eS : Value) (hP : Ptrs eD eM eR eS) (s : ByteArray) (hs : s.size ≤ 140737488355328) (w : World) (hG : Glob ad eD eM eR eS w) (h40 : ¬ (40 : Int) < s.size) (hp : printed s = true)
    (N1 : Bool) (hN1 : N1 = (decide (1 ≤ s.size) && decide (s.size ≤ 32) && smallB (s.data.toList.headD 0))) (e1 : N1 = false) (a1 : (32 : Int) < s.size) (a2 : (1 : Int) ≤ s.size) :
    Calls Tryd.prog 5 #[.string s, .bool false] w fun e w' => e = .returned (.bool true) ∧ Below w.heap.size w w' := by
  have HF := Lib.hid (first8_any ad eD eM eR eS hP w hG)
  have HPR := Lib.hid (fun w => printed_any s w hs)
  have HG := Lib.hid hG
  clear hG
  have HPR1 := Lib.hid (fun w => by have := HPR.out w; rw [hp] at this; exact this)
  have h40' : s.size ≤ 40 := by omega
  have HE := Lib.hid (fun k hk => exprW ad eD eM eR eS hP s false h40' hp w HG.out k hk)
  obtain ⟨t, ht⟩ : ∃ t : ByteArray, t = ⟨(wT (pN false s)).toArray⟩ := ⟨_, rfl⟩
  rw [← ht] at HE
  have HT := Lib.hid (show t = ⟨([120] ++ [if false = true then 58 else 46] ++ nmL s ++ (if false = true then [40, 41] else [])).toArray⟩ from by rw [ht, pN_text])
  have HTZ := Lib.hid (show t.size ≤ 100100 from by
    have := nmL_len s h40'
    rw [HT.out]
    show (List.toArray _).size ≤ _
    simp only [List.size_toArray, List.length_append]
    simp; omega)
  have HQ := Lib.hid (fun w => refQuoted_any s w (by have := esc_len s.data.toList; have h2 : s.data.toList.length = s.size := by simp
                                                     omega))
  clear ht
  have HS1 := Lib.hid (fun w => rS1_any s w)
  clear HG hP hs HPR hp
  have HN1 := Lib.hid hN1
  clear hN1
  have HE1 := Lib.hid e1
  clear e1
  have HEX := Lib.hid (HE.out 22 rfl)
  clear HE
  go_enter Tryd.func5, Tryd.ntmps5
  go_wp2_with (first
    | (go_at_call 24; (with_reducible refine HF.out.mono ?_); rintro e w2 ⟨rfl, hb2⟩; have HB2 := Lib.hid hb2; clear hb2 HF)
    | (go_at_call 27; (with_reducible refine (HEX.out _ HB4.out _).mono ?_); rintro e w5 ⟨rfl, hb5⟩; have HB5 := Lib.hid hb5; clear hb5 HB4 HB2 HEX)
    | (go_at_call 25; refine (HPR1.out _).mono ?_; rintro e w3 ⟨rfl, rfl⟩)
    | (go_at_call 26; (with_reducible refine (HS1.out _).mono ?_); rintro e w4 ⟨rfl, hb4⟩; have HB4 := Lib.hid (HB2.out.trans (hb4.mono HB2.out.size)); clear hb4))
  go_loop [11, 12] (fun nv i => ∃ (j : Nat) (b : Bool), j ≤ s.size ∧ nv = .bool b ∧ i = .int .i64 j ∧ Hid (b = (N1 && (s.data.toList.take j).all nameByteB))) (fun _ i => s.size - (intOf i).toNat)
  case atStart => exact ⟨0, _, Nat.zero_le _, rfl, rfl, Lib.hid (by rw [HE1.out]; first | rfl | (generalize s[0].toNat = n at *; simp; omega))⟩
  case round =>
    obtain ⟨j, b, hj, rfl, rfl, HA⟩ := hrel
    by_cases hjs : j < s.size
    · have hj' : j < s.data.toList.length := by simpa using hjs
      have hget : s.data.toList[j] = s[j] := by rw [Array.getElem_toList]; rfl
      have HNX := Lib.hid (show (N1 && (s.data.toList.take (j + 1)).all nameByteB) = (b && nameByteB s[j]) from (by
        rw [List.take_succ_eq_append_getElem hj', List.all_append, hget, HA.out]
        simp [Bool.and_assoc]))
      clear hget HA
      cases b with
      | false =>
        go_wp2
        go_round
        case rel => exact ⟨j + 1, false, by omega, rfl, by go_num, Lib.hid (by rw [HNX.out]; rfl)⟩
        case measure => simp [intOf]; omega
      | true =>
        rcases byte_5 s[j] with ⟨e2, c1, c2⟩ | ⟨e2, c1, c2⟩ | ⟨e2, c1, c2, c3, c4⟩ | ⟨e2, c1, c2, c3, c4, c5⟩ | ⟨e2, c1, c2, c3⟩ | ⟨e2, c1, c2, c3, c4⟩
        all_goals
          have HNY := Lib.hid (HNX.out.trans (by rw [e2]))
          clear e2 HNX
          go_wp2
          go_round
          case rel => exact ⟨j + 1, _, by omega, rfl, by go_num, Lib.hid (by rw [HNY.out]; first | rfl | (generalize s[j].toNat = n at *; simp; omega))⟩
          case measure => simp [intOf]; omega
    · have hje : j = s.size := by omega
      have HA2 := Lib.hid (show b = (N1 && s.data.toList.all nameByteB) from (by rw [HA.out, hje, List.take_of_length_le (by simp)]))
      clear HA hje
      go_wp2
      generalize hWK : w5.alloc _ = W6
      have HK : Hid (∀ i (h : i < 19), W6.cell? ⟨w5.heap.size, i, none⟩ = some (.string (keysL[i]'h))) := by
        rw [← hWK]; exact keyRow w5
      have HB6 : Hid (Below w.heap.size w W6) := by
        rw [← hWK]; exact HB5.out.alloc HB5.out.size _
      clear hWK
      go_loop [11, 14] (fun nv i => ∃ (j : Nat) (d : Bool), j ≤ 19 ∧ nv = .bool d ∧ i = .int .i64 j ∧ Hid (d = (b && !holdsB (keysL.take j) s))) (fun _ i => 19 - (intOf i).toNat)
      case atStart => exact ⟨0, _, Nat.zero_le _, rfl, rfl, Lib.hid (by simp [holdsB])⟩
      case round =>
        obtain ⟨j2, d, hj2, rfl, rfl, HD⟩ := hrel
        by_cases hjk : j2 < 19
        · have h0 := HK.out j2 hjk
          obtain ⟨y, hy⟩ : ∃ y, y = keysL[j2]'hjk := ⟨_, rfl⟩
          have HNX := Lib.hid (show (b && !holdsB (keysL.take (j2 + 1)) s) = (d && !(y.toList == s.toList)) from (by
            rw [holds_next j2 hjk, HD.out, ← hy]
            cases b <;> cases holdsB (keysL.take j2) s <;> rfl))
          rw [← hy] at h0
          clear hy HD
          cases d with
          | false =>
            go_wp2
            go_round
            case rel => exact ⟨j2 + 1, false, by omega, rfl, by go_num, Lib.hid (by rw [HNX.out]; rfl)⟩
            case measure => simp [intOf]; omega
          | true =>
            have HNY := Lib.hid (show (b && !holdsB (keysL.take (j2 + 1)) s) = !(s.toList == y.toList) from (by
              rw [HNX.out, Bool.true_and]; congr 1; rw [Bool.eq_iff_iff, beq_iff_eq, beq_iff_eq]; exact eq_comm))
            clear HNX
            go_wp2
            go_round
            case rel => exact ⟨j2 + 1, _, by omega, rfl, by go_num, Lib.hid HNY.out.symm⟩
            case measure => simp [intOf]; omega
        · have hje : j2 = 19 := by omega
          have HD2 := Lib.hid (show d = isNameB s from (by rw [isName_says s N1 HN1.out, HD.out, hje, ← HA2.out]; rfl))
          clear HD hje HA2 HN1 HE1
          have h41 : (s.size : Int) ≤ 40 := by omega
          cases d with
          | true =>
            have HTE := Lib.hid (textT false s t HD2.out.symm HT.out)
            go_wp2
            go_ret
            exact ⟨ret_bool (beq_iff_eq.2 HTE.out), HB6.out⟩
          | false =>
            have hte := textF false s t HD2.out.symm HT.out
            have hqz : (strB (34 :: (esc s.data.toList ++ [34]))).size ≤ 200 := (by
              have := esc_len s.data.toList
              have h2 : s.data.toList.length = s.size := by simp
              rw [strB_size]; simp; omega)
            generalize strB (34 :: (esc s.data.toList ++ [34])) = Q at hqz hte HQ
            have HTE := Lib.hid hte
            clear hte
            obtain ⟨m, hm, HNU⟩ := number9 t W6 HTZ.out
            have HNU := Lib.hid HNU
            go_wp2_with (first
              | (go_at_call 28; (with_reducible refine (HQ.out _).mono ?_); rintro e w7 ⟨rfl, rfl⟩)
              | (go_at_call 23; (with_reducible refine HNU.out.mono ?_); rintro e w8 ⟨rfl, rfl⟩))
            all_goals first
              | (exfalso; rename_i h; exact h HTE.out)
              | (go_ret; exact ⟨ret_bool (by first | rfl | simpa using hm), HB6.out⟩)

set_option maxHeartbeats 8000000 in
theorem names_w2t (ad : Nat → Addr) (eD eM eR eS : Value) (hP : Ptrs eD eM eR eS) (s : ByteArray) (hs : s.size ≤ 140737488355328) (w : World) (hG : Glob ad eD eM eR eS w) (h40 : ¬ (40 : Int) < s.size) (hp : printed s = true)
    (N1 : Bool) (hN1 : N1 = (decide (1 ≤ s.size) && decide (s.size ≤ 32) && smallB (s.data.toList.headD 0))) (e1 : N1 = false) (a1 : (32 : Int) < s.size) (a2 : (1 : Int) ≤ s.size) :
    Calls Tryd.prog 5 #[.string s, .bool true] w fun e w' => e = .returned (.bool true) ∧ Below w.heap.size w w' := by
  have HF := Lib.hid (first8_any ad eD eM eR eS hP w hG)
  have HPR := Lib.hid (fun w => printed_any s w hs)
  have HG := Lib.hid hG
  clear hG
  have HPR1 := Lib.hid (fun w => by have := HPR.out w; rw [hp] at this; exact this)
  have h40' : s.size ≤ 40 := by omega
  have HE := Lib.hid (fun k hk => exprW ad eD eM eR eS hP s true h40' hp w HG.out k hk)
  obtain ⟨t, ht⟩ : ∃ t : ByteArray, t = ⟨(wT (pN true s)).toArray⟩ := ⟨_, rfl⟩
  rw [← ht] at HE
  have HT := Lib.hid (show t = ⟨([120] ++ [if true = true then 58 else 46] ++ nmL s ++ (if true = true then [40, 41] else [])).toArray⟩ from by rw [ht, pN_text])
  have HTZ := Lib.hid (show t.size ≤ 100100 from by
    have := nmL_len s h40'
    rw [HT.out]
    show (List.toArray _).size ≤ _
    simp only [List.size_toArray, List.length_append]
    simp; omega)
  have HQ := Lib.hid (fun w => refQuoted_any s w (by have := esc_len s.data.toList; have h2 : s.data.toList.length = s.size := by simp
                                                     omega))
  clear ht
  have HS1 := Lib.hid (fun w => rS1_any s w)
  clear HG hP hs HPR hp
  have HN1 := Lib.hid hN1
  clear hN1
  have HE1 := Lib.hid e1
  clear e1
  have HEX := Lib.hid (HE.out 23 rfl)
  clear HE
  go_enter Tryd.func5, Tryd.ntmps5
  go_wp2_with (first
    | (go_at_call 24; (with_reducible refine HF.out.mono ?_); rintro e w2 ⟨rfl, hb2⟩; have HB2 := Lib.hid hb2; clear hb2 HF)
    | (go_at_call 27; (with_reducible refine (HEX.out _ HB4.out _).mono ?_); rintro e w5 ⟨rfl, hb5⟩; have HB5 := Lib.hid hb5; clear hb5 HB4 HB2 HEX)
    | (go_at_call 25; refine (HPR1.out _).mono ?_; rintro e w3 ⟨rfl, rfl⟩)
    | (go_at_call 26; (with_reducible refine (HS1.out _).mono ?_); rintro e w4 ⟨rfl, hb4⟩; have HB4 := Lib.hid (HB2.out.trans (hb4.mono HB2.out.size)); clear hb4))
  go_loop [11, 12] (fun nv i => ∃ (j : Nat) (b : Bool), j ≤ s.size ∧ nv = .bool b ∧ i = .int .i64 j ∧ Hid (b = (N1 && (s.data.toList.take j).all nameByteB))) (fun _ i => s.size - (intOf i).toNat)
  case atStart => exact ⟨0, _, Nat.zero_le _, rfl, rfl, Lib.hid (by rw [HE1.out]; first | rfl | (generalize s[0].toNat = n at *; simp; omega))⟩
  case round =>
    obtain ⟨j, b, hj, rfl, rfl, HA⟩ := hrel
    by_cases hjs : j < s.size
    · have hj' : j < s.data.toList.length := by simpa using hjs
      have hget : s.data.toList[j] = s[j] := by rw [Array.getElem_toList]; rfl
      have HNX := Lib.hid (show (N1 && (s.data.toList.take (j + 1)).all nameByteB) = (b && nameByteB s[j]) from (by
        rw [List.take_succ_eq_append_getElem hj', List.all_append, hget, HA.out]
        simp [Bool.and_assoc]))
      clear hget HA
      cases b with
      | false =>
        go_wp2
        go_round
        case rel => exact ⟨j + 1, false, by omega, rfl, by go_num, Lib.hid (by rw [HNX.out]; rfl)⟩
        case measure => simp [intOf]; omega
      | true =>
        rcases byte_5 s[j] with ⟨e2, c1, c2⟩ | ⟨e2, c1, c2⟩ | ⟨e2, c1, c2, c3, c4⟩ | ⟨e2, c1, c2, c3, c4, c5⟩ | ⟨e2, c1, c2, c3⟩ | ⟨e2, c1, c2, c3, c4⟩
        all_goals
          have HNY := Lib.hid (HNX.out.trans (by rw [e2]))
          clear e2 HNX
          go_wp2
          go_round
          case rel => exact ⟨j + 1, _, by omega, rfl, by go_num, Lib.hid (by rw [HNY.out]; first | rfl | (generalize s[j].toNat = n at *; simp; omega))⟩
          case measure => simp [intOf]; omega
    · have hje : j = s.size := by omega
      have HA2 := Lib.hid (show b = (N1 && s.data.toList.all nameByteB) from (by rw [HA.out, hje, List.take_of_length_le (by simp)]))
      clear HA hje
      go_wp2
      generalize hWK : w5.alloc _ = W6
      have HK : Hid (∀ i (h : i < 19), W6.cell? ⟨w5.heap.size, i, none⟩ = some (.string (keysL[i]'h))) := by
        rw [← hWK]; exact keyRow w5
      have HB6 : Hid (Below w.heap.size w W6) := by
        rw [← hWK]; exact HB5.out.alloc HB5.out.size _
      clear hWK
      go_loop [11, 14] (fun nv i => ∃ (j : Nat) (d : Bool), j ≤ 19 ∧ nv = .bool d ∧ i = .int .i64 j ∧ Hid (d = (b && !holdsB (keysL.take j) s))) (fun _ i => 19 - (intOf i).toNat)
      case atStart => exact ⟨0, _, Nat.zero_le _, rfl, rfl, Lib.hid (by simp [holdsB])⟩
      case round =>
        obtain ⟨j2, d, hj2, rfl, rfl, HD⟩ := hrel
        by_cases hjk : j2 < 19
        · have h0 := HK.out j2 hjk
          obtain ⟨y, hy⟩ : ∃ y, y = keysL[j2]'hjk := ⟨_, rfl⟩
          have HNX := Lib.hid (show (b && !holdsB (keysL.take (j2 + 1)) s) = (d && !(y.toList == s.toList)) from (by
            rw [holds_next j2 hjk, HD.out, ← hy]
            cases b <;> cases holdsB (keysL.take j2) s <;> rfl))
          rw [← hy] at h0
          clear hy HD
          cases d with
          | false =>
            go_wp2
            go_round
            case rel => exact ⟨j2 + 1, false, by omega, rfl, by go_num, Lib.hid (by rw [HNX.out]; rfl)⟩
            case measure => simp [intOf]; omega
          | true =>
            have HNY := Lib.hid (show (b && !holdsB (keysL.take (j2 + 1)) s) = !(s.toList == y.toList) from (by
              rw [HNX.out, Bool.true_and]; congr 1; rw [Bool.eq_iff_iff, beq_iff_eq, beq_iff_eq]; exact eq_comm))
            clear HNX
            go_wp2
            go_round
            case rel => exact ⟨j2 + 1, _, by omega, rfl, by go_num, Lib.hid HNY.out.symm⟩
            case measure => simp [intOf]; omega
        · have hje : j2 = 19 := by omega
          have HD2 := Lib.hid (show d = isNameB s from (by rw [isName_says s N1 HN1.out, HD.out, hje, ← HA2.out]; rfl))
          clear HD hje HA2 HN1 HE1
          have h41 : (s.size : Int) ≤ 40 := by omega
          cases d with
          | true =>
            have HTE := Lib.hid (textT true s t HD2.out.symm HT.out)
            go_wp2
            go_ret
            exact ⟨ret_bool (beq_iff_eq.2 HTE.out), HB6.out⟩
          | false =>
            have hte := textF true s t HD2.out.symm HT.out
            have hqz : (strB (34 :: (esc s.data.toList ++ [34]))).size ≤ 200 := (by
              have := esc_len s.data.toList
              have h2 : s.data.toList.length = s.size := by simp
              rw [strB_size]; simp; omega)
            generalize strB (34 :: (esc s.data.toList ++ [34])) = Q at hqz hte HQ
            have HTE := Lib.hid hte
            clear hte
            obtain ⟨m, hm, HNU⟩ := number9 t W6 HTZ.out
            have HNU := Lib.hid HNU
            go_wp2_with (first
              | (go_at_call 28; (with_reducible refine (HQ.out _).mono ?_); rintro e w7 ⟨rfl, rfl⟩)
              | (go_at_call 23; (with_reducible refine HNU.out.mono ?_); rintro e w8 ⟨rfl, rfl⟩))
            all_goals first
              | (exfalso; rename_i h; exact h HTE.out)
              | (go_ret; exact ⟨ret_bool (by first | rfl | simpa using hm), HB6.out⟩)

set_option maxHeartbeats 8000000 in
theorem names_w3f (ad : Nat → Addr) (eD eM eR eS : Value) (hP : Ptrs eD eM eR eS) (s : ByteArray) (hs : s.size ≤ 140737488355328) (w : World) (hG : Glob ad eD eM eR eS w) (h40 : ¬ (40 : Int) < s.size) (hp : printed s = true)
    (N1 : Bool) (hN1 : N1 = (decide (1 ≤ s.size) && decide (s.size ≤ 32) && smallB (s.data.toList.headD 0))) (h0 : 0 < s.size) (a1 : (1 : Int) ≤ s.size) (a2 : (s.size : Int) ≤ 32) (e1 : N1 = true) (b1 : (97 : Int) ≤ (s[0].toNat : Int)) (b2 : (s[0].toNat : Int) ≤ 122) :
    Calls Tryd.prog 5 #[.string s, .bool false] w fun e w' => e = .returned (.bool true) ∧ Below w.heap.size w w' := by
  have HF := Lib.hid (first8_any ad eD eM eR eS hP w hG)
  have HPR := Lib.hid (fun w => printed_any s w hs)
  have HG := Lib.hid hG
  clear hG
  have HPR1 := Lib.hid (fun w => by have := HPR.out w; rw [hp] at this; exact this)
  have h40' : s.size ≤ 40 := by omega
  have HE := Lib.hid (fun k hk => exprW ad eD eM eR eS hP s false h40' hp w HG.out k hk)
  obtain ⟨t, ht⟩ : ∃ t : ByteArray, t = ⟨(wT (pN false s)).toArray⟩ := ⟨_, rfl⟩
  rw [← ht] at HE
  have HT := Lib.hid (show t = ⟨([120] ++ [if false = true then 58 else 46] ++ nmL s ++ (if false = true then [40, 41] else [])).toArray⟩ from by rw [ht, pN_text])
  have HTZ := Lib.hid (show t.size ≤ 100100 from by
    have := nmL_len s h40'
    rw [HT.out]
    show (List.toArray _).size ≤ _
    simp only [List.size_toArray, List.length_append]
    simp; omega)
  have HQ := Lib.hid (fun w => refQuoted_any s w (by have := esc_len s.data.toList; have h2 : s.data.toList.length = s.size := by simp
                                                     omega))
  clear ht
  have HS1 := Lib.hid (fun w => rS1_any s w)
  clear HG hP hs HPR hp
  have HN1 := Lib.hid hN1
  clear hN1
  have HE1 := Lib.hid e1
  clear e1
  have HEX := Lib.hid (HE.out 22 rfl)
  clear HE
  go_enter Tryd.func5, Tryd.ntmps5
  go_wp2_with (first
    | (go_at_call 24; (with_reducible refine HF.out.mono ?_); rintro e w2 ⟨rfl, hb2⟩; have HB2 := Lib.hid hb2; clear hb2 HF)
    | (go_at_call 27; (with_reducible refine (HEX.out _ HB4.out _).mono ?_); rintro e w5 ⟨rfl, hb5⟩; have HB5 := Lib.hid hb5; clear hb5 HB4 HB2 HEX)
    | (go_at_call 25; refine (HPR1.out _).mono ?_; rintro e w3 ⟨rfl, rfl⟩)
    | (go_at_call 26; (with_reducible refine (HS1.out _).mono ?_); rintro e w4 ⟨rfl, hb4⟩; have HB4 := Lib.hid (HB2.out.trans (hb4.mono HB2.out.size)); clear hb4))
  go_loop [11, 12] (fun nv i => ∃ (j : Nat) (b : Bool), j ≤ s.size ∧ nv = .bool b ∧ i = .int .i64 j ∧ Hid (b = (N1 && (s.data.toList.take j).all nameByteB))) (fun _ i => s.size - (intOf i).toNat)
  case atStart => exact ⟨0, _, Nat.zero_le _, rfl, rfl, Lib.hid (by rw [HE1.out]; first | rfl | (generalize s[0].toNat = n at *; simp; omega))⟩
  case round =>
    obtain ⟨j, b, hj, rfl, rfl, HA⟩ := hrel
    by_cases hjs : j < s.size
    · have hj' : j < s.data.toList.length := by simpa using hjs
      have hget : s.data.toList[j] = s[j] := by rw [Array.getElem_toList]; rfl
      have HNX := Lib.hid (show (N1 && (s.data.toList.take (j + 1)).all nameByteB) = (b && nameByteB s[j]) from (by
        rw [List.take_succ_eq_append_getElem hj', List.all_append, hget, HA.out]
        simp [Bool.and_assoc]))
      clear hget HA
      cases b with
      | false =>
        go_wp2
        go_round
        case rel => exact ⟨j + 1, false, by omega, rfl, by go_num, Lib.hid (by rw [HNX.out]; rfl)⟩
        case measure => simp [intOf]; omega
      | true =>
        rcases byte_5 s[j] with ⟨e2, c1, c2⟩ | ⟨e2, c1, c2⟩ | ⟨e2, c1, c2, c3, c4⟩ | ⟨e2, c1, c2, c3, c4, c5⟩ | ⟨e2, c1, c2, c3⟩ | ⟨e2, c1, c2, c3, c4⟩
        all_goals
          have HNY := Lib.hid (HNX.out.trans (by rw [e2]))
          clear e2 HNX
          go_wp2
          go_round
          case rel => exact ⟨j + 1, _, by omega, rfl, by go_num, Lib.hid (by rw [HNY.out]; first | rfl | (generalize s[j].toNat = n at *; simp; omega))⟩
          case measure => simp [intOf]; omega
    · have hje : j = s.size := by omega
      have HA2 := Lib.hid (show b = (N1 && s.data.toList.all nameByteB) from (by rw [HA.out, hje, List.take_of_length_le (by simp)]))
      clear HA hje
      go_wp2
      generalize hWK : w5.alloc _ = W6
      have HK : Hid (∀ i (h : i < 19), W6.cell? ⟨w5.heap.size, i, none⟩ = some (.string (keysL[i]'h))) := by
        rw [← hWK]; exact keyRow w5
      have HB6 : Hid (Below w.heap.size w W6) := by
        rw [← hWK]; exact HB5.out.alloc HB5.out.size _
      clear hWK
      go_loop [11, 14] (fun nv i => ∃ (j : Nat) (d : Bool), j ≤ 19 ∧ nv = .bool d ∧ i = .int .i64 j ∧ Hid (d = (b && !holdsB (keysL.take j) s))) (fun _ i => 19 - (intOf i).toNat)
      case atStart => exact ⟨0, _, Nat.zero_le _, rfl, rfl, Lib.hid (by simp [holdsB])⟩
      case round =>
        obtain ⟨j2, d, hj2, rfl, rfl, HD⟩ := hrel
        by_cases hjk : j2 < 19
        · have h0 := HK.out j2 hjk
          obtain ⟨y, hy⟩ : ∃ y, y = keysL[j2]'hjk := ⟨_, rfl⟩
          have HNX := Lib.hid (show (b && !holdsB (keysL.take (j2 + 1)) s) = (d && !(y.toList == s.toList)) from (by
            rw [holds_next j2 hjk, HD.out, ← hy]
            cases b <;> cases holdsB (keysL.take j2) s <;> rfl))
          rw [← hy] at h0
          clear hy HD
          cases d with
          | false =>
            go_wp2
            go_round
            case rel => exact ⟨j2 + 1, false, by omega, rfl, by go_num, Lib.hid (by rw [HNX.out]; rfl)⟩
            case measure => simp [intOf]; omega
          | true =>
            have HNY := Lib.hid (show (b && !holdsB (keysL.take (j2 + 1)) s) = !(s.toList == y.toList) from (by
              rw [HNX.out, Bool.true_and]; congr 1; rw [Bool.eq_iff_iff, beq_iff_eq, beq_iff_eq]; exact eq_comm))
            clear HNX
            go_wp2
            go_round
            case rel => exact ⟨j2 + 1, _, by omega, rfl, by go_num, Lib.hid HNY.out.symm⟩
            case measure => simp [intOf]; omega
        · have hje : j2 = 19 := by omega
          have HD2 := Lib.hid (show d = isNameB s from (by rw [isName_says s N1 HN1.out, HD.out, hje, ← HA2.out]; rfl))
          clear HD hje HA2 HN1 HE1
          have h41 : (s.size : Int) ≤ 40 := by omega
          cases d with
          | true =>
            have HTE := Lib.hid (textT false s t HD2.out.symm HT.out)
            go_wp2
            go_ret
            exact ⟨ret_bool (beq_iff_eq.2 HTE.out), HB6.out⟩
          | false =>
            have hte := textF false s t HD2.out.symm HT.out
            have hqz : (strB (34 :: (esc s.data.toList ++ [34]))).size ≤ 200 := (by
              have := esc_len s.data.toList
              have h2 : s.data.toList.length = s.size := by simp
              rw [strB_size]; simp; omega)
            generalize strB (34 :: (esc s.data.toList ++ [34])) = Q at hqz hte HQ
            have HTE := Lib.hid hte
            clear hte
            obtain ⟨m, hm, HNU⟩ := number9 t W6 HTZ.out
            have HNU := Lib.hid HNU
            go_wp2_with (first
              | (go_at_call 28; (with_reducible refine (HQ.out _).mono ?_); rintro e w7 ⟨rfl, rfl⟩)
              | (go_at_call 23; (with_reducible refine HNU.out.mono ?_); rintro e w8 ⟨rfl, rfl⟩))
            all_goals first
              | (exfalso; rename_i h; exact h HTE.out)
              | (go_ret; exact ⟨ret_bool (by first | rfl | simpa using hm), HB6.out⟩)

set_option maxHeartbeats 8000000 in
theorem names_w3t (ad : Nat → Addr) (eD eM eR eS : Value) (hP : Ptrs eD eM eR eS) (s : ByteArray) (hs : s.size ≤ 140737488355328) (w : World) (hG : Glob ad eD eM eR eS w) (h40 : ¬ (40 : Int) < s.size) (hp : printed s = true)
    (N1 : Bool) (hN1 : N1 = (decide (1 ≤ s.size) && decide (s.size ≤ 32) && smallB (s.data.toList.headD 0))) (h0 : 0 < s.size) (a1 : (1 : Int) ≤ s.size) (a2 : (s.size : Int) ≤ 32) (e1 : N1 = true) (b1 : (97 : Int) ≤ (s[0].toNat : Int)) (b2 : (s[0].toNat : Int) ≤ 122) :
    Calls Tryd.prog 5 #[.string s, .bool true] w fun e w' => e = .returned (.bool true) ∧ Below w.heap.size w w' := by
  have HF := Lib.hid (first8_any ad eD eM eR eS hP w hG)
  have HPR := Lib.hid (fun w => printed_any s w hs)
  have HG := Lib.hid hG
  clear hG
  have HPR1 := Lib.hid (fun w => by have := HPR.out w; rw [hp] at this; exact this)
  have h40' : s.size ≤ 40 := by omega
  have HE := Lib.hid (fun k hk => exprW ad eD eM eR eS hP s true h40' hp w HG.out k hk)
  obtain ⟨t, ht⟩ : ∃ t : ByteArray, t = ⟨(wT (pN true s)).toArray⟩ := ⟨_, rfl⟩
  rw [← ht] at HE
  have HT := Lib.hid (show t = ⟨([120] ++ [if true = true then 58 else 46] ++ nmL s ++ (if true = true then [40, 41] else [])).toArray⟩ from by rw [ht, pN_text])
  have HTZ := Lib.hid (show t.size ≤ 100100 from by
    have := nmL_len s h40'
    rw [HT.out]
    show (List.toArray _).size ≤ _
    simp only [List.size_toArray, List.length_append]
    simp; omega)
  have HQ := Lib.hid (fun w => refQuoted_any s w (by have := esc_len s.data.toList; have h2 : s.data.toList.length = s.size := by simp
                                                     omega))
  clear ht
  have HS1 := Lib.hid (fun w => rS1_any s w)
  clear HG hP hs HPR hp
  have HN1 := Lib.hid hN1
  clear hN1
  have HE1 := Lib.hid e1
  clear e1
  have HEX := Lib.hid (HE.out 23 rfl)
  clear HE
  go_enter Tryd.func5, Tryd.ntmps5
  go_wp2_with (first
    | (go_at_call 24; (with_reducible refine HF.out.mono ?_); rintro e w2 ⟨rfl, hb2⟩; have HB2 := Lib.hid hb2; clear hb2 HF)
    | (go_at_call 27; (with_reducible refine (HEX.out _ HB4.out _).mono ?_); rintro e w5 ⟨rfl, hb5⟩; have HB5 := Lib.hid hb5; clear hb5 HB4 HB2 HEX)
    | (go_at_call 25; refine (HPR1.out _).mono ?_; rintro e w3 ⟨rfl, rfl⟩)
    | (go_at_call 26; (with_reducible refine (HS1.out _).mono ?_); rintro e w4 ⟨rfl, hb4⟩; have HB4 := Lib.hid (HB2.out.trans (hb4.mono HB2.out.size)); clear hb4))
  go_loop [11, 12] (fun nv i => ∃ (j : Nat) (b : Bool), j ≤ s.size ∧ nv = .bool b ∧ i = .int .i64 j ∧ Hid (b = (N1 && (s.data.toList.take j).all nameByteB))) (fun _ i => s.size - (intOf i).toNat)
  case atStart => exact ⟨0, _, Nat.zero_le _, rfl, rfl, Lib.hid (by rw [HE1.out]; first | rfl | (generalize s[0].toNat = n at *; simp; omega))⟩
  case round =>
    obtain ⟨j, b, hj, rfl, rfl, HA⟩ := hrel
    by_cases hjs : j < s.size
    · have hj' : j < s.data.toList.length := by simpa using hjs
      have hget : s.data.toList[j] = s[j] := by rw [Array.getElem_toList]; rfl
      have HNX := Lib.hid (show (N1 && (s.data.toList.take (j + 1)).all nameByteB) = (b && nameByteB s[j]) from (by
        rw [List.take_succ_eq_append_getElem hj', List.all_append, hget, HA.out]
        simp [Bool.and_assoc]))
      clear hget HA
      cases b with
      | false =>
        go_wp2
        go_round
        case rel => exact ⟨j + 1, false, by omega, rfl, by go_num, Lib.hid (by rw [HNX.out]; rfl)⟩
        case measure => simp [intOf]; omega
      | true =>
        rcases byte_5 s[j] with ⟨e2, c1, c2⟩ | ⟨e2, c1, c2⟩ | ⟨e2, c1, c2, c3, c4⟩ | ⟨e2, c1, c2, c3, c4, c5⟩ | ⟨e2, c1, c2, c3⟩ | ⟨e2, c1, c2, c3, c4⟩
        all_goals
          have HNY := Lib.hid (HNX.out.trans (by rw [e2]))
          clear e2 HNX
          go_wp2
          go_round
          case rel => exact ⟨j + 1, _, by omega, rfl, by go_num, Lib.hid (by rw [HNY.out]; first | rfl | (generalize s[j].toNat = n at *; simp; omega))⟩
          case measure => simp [intOf]; omega
    · have hje : j = s.size := by omega
      have HA2 := Lib.hid (show b = (N1 && s.data.toList.all nameByteB) from (by rw [HA.out, hje, List.take_of_length_le (by simp)]))
      clear HA hje
      go_wp2
      generalize hWK : w5.alloc _ = W6
      have HK : Hid (∀ i (h : i < 19), W6.cell? ⟨w5.heap.size, i, none⟩ = some (.string (keysL[i]'h))) := by
        rw [← hWK]; exact keyRow w5
      have HB6 : Hid (Below w.heap.size w W6) := by
        rw [← hWK]; exact HB5.out.alloc HB5.out.size _
      clear hWK
      go_loop [11, 14] (fun nv i => ∃ (j : Nat) (d : Bool), j ≤ 19 ∧ nv = .bool d ∧ i = .int .i64 j ∧ Hid (d = (b && !holdsB (keysL.take j) s))) (fun _ i => 19 - (intOf i).toNat)
      case atStart => exact ⟨0, _, Nat.zero_le _, rfl, rfl, Lib.hid (by simp [holdsB])⟩
      case round =>
        obtain ⟨j2, d, hj2, rfl, rfl, HD⟩ := hrel
        by_cases hjk : j2 < 19
        · have h0 := HK.out j2 hjk
          obtain ⟨y, hy⟩ : ∃ y, y = keysL[j2]'hjk := ⟨_, rfl⟩
          have HNX := Lib.hid (show (b && !holdsB (keysL.take (j2 + 1)) s) = (d && !(y.toList == s.toList)) from (by
            rw [holds_next j2 hjk, HD.out, ← hy]
            cases b <;> cases holdsB (keysL.take j2) s <;> rfl))
          rw [← hy] at h0
          clear hy HD
          cases d with
          | false =>
            go_wp2
            go_round
            case rel => exact ⟨j2 + 1, false, by omega, rfl, by go_num, Lib.hid (by rw [HNX.out]; rfl)⟩
            case measure => simp [intOf]; omega
          | true =>
            have HNY := Lib.hid (show (b && !holdsB (keysL.take (j2 + 1)) s) = !(s.toList == y.toList) from (by
              rw [HNX.out, Bool.true_and]; congr 1; rw [Bool.eq_iff_iff, beq_iff_eq, beq_iff_eq]; exact eq_comm))
            clear HNX
            go_wp2
            go_round
            case rel => exact ⟨j2 + 1, _, by omega, rfl, by go_num, Lib.hid HNY.out.symm⟩
            case measure => simp [intOf]; omega
        · have hje : j2 = 19 := by omega
          have HD2 := Lib.hid (show d = isNameB s from (by rw [isName_says s N1 HN1.out, HD.out, hje, ← HA2.out]; rfl))
          clear HD hje HA2 HN1 HE1
          have h41 : (s.size : Int) ≤ 40 := by omega
          cases d with
          | true =>
            have HTE := Lib.hid (textT true s t HD2.out.symm HT.out)
            go_wp2
            go_ret
            exact ⟨ret_bool (beq_iff_eq.2 HTE.out), HB6.out⟩
          | false =>
            have hte := textF true s t HD2.out.symm HT.out
            have hqz : (strB (34 :: (esc s.data.toList ++ [34]))).size ≤ 200 := (by
              have := esc_len s.data.toList
              have h2 : s.data.toList.length = s.size := by simp
              rw [strB_size]; simp; omega)
            generalize strB (34 :: (esc s.data.toList ++ [34])) = Q at hqz hte HQ
            have HTE := Lib.hid hte
            clear hte
            obtain ⟨m, hm, HNU⟩ := number9 t W6 HTZ.out
            have HNU := Lib.hid HNU
            go_wp2_with (first
              | (go_at_call 28; (with_reducible refine (HQ.out _).mono ?_); rintro e w7 ⟨rfl, rfl⟩)
              | (go_at_call 23; (with_reducible refine HNU.out.mono ?_); rintro e w8 ⟨rfl, rfl⟩))
            all_goals first
              | (exfalso; rename_i h; exact h HTE.out)
              | (go_ret; exact ⟨ret_bool (by first | rfl | simpa using hm), HB6.out⟩)

end
end Go.Proofs.YtminmadaeaiihaaDoor.Sh
