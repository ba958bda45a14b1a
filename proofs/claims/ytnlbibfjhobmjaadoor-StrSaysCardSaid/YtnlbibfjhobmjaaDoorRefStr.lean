/- The document's Index, Last, Trim and Cut: the same answers. -/
import Derived.Test.YtnlbibfjhobmjaaDoorWords
import Derived.Test.YtnlbibfjhobmjaaDoorTop
import Derived.Lib.IndexBytes
import Derived.WalkSpells
namespace Go.Proofs.YtnlbibfjhobmjaaDoor
open Go.RowKit
set_option maxRecDepth 100000

theorem index_first (l sub : Bs) (j : Nat) (hj : j ≤ l.length) (hn : Lib.NoOcc l sub j) (ho : Lib.occAt l sub j = true) : Lib.index l sub = j := by
  rcases Lib.index_spec l sub with ⟨_, h2⟩ | ⟨i, h1, h2, h3, h4⟩
  · rw [h2 j hj] at ho; cases ho
  · rw [h1]
    rcases Nat.lt_trichotomy i j with h | h | h
    · rw [hn i h] at h3; cases h3
    · rw [h]
    · rw [h4 j h] at ho; cases ho
theorem index_never (l sub : Bs) (j : Nat) (hn : Lib.NoOcc l sub j) (hj : l.length < j + sub.length) : Lib.index l sub = -1 := by
  rcases Lib.index_spec l sub with ⟨h1, _⟩ | ⟨i, h1, h2, h3, h4⟩
  · exact h1
  · exfalso
    have := occ_len h3 h2
    rw [hn i (by omega)] at h3; cases h3

set_option maxHeartbeats 2000000 in
theorem refIndex_any (s t : ByteArray) (w : World) (hs : s.size ≤ 1000000) (ht : t.size ≤ 1000000) :
    Calls Tryd.prog 9 #[.string s, .string t] w fun e w' => e = .returned (.int .i64 (Lib.index s.data.toList t.data.toList + 1)) ∧ w = w' := by
  go_enter Tryd.func9, Tryd.ntmps9
  go_wp2
  go_loop [5] (fun i => ∃ j : Nat, j ≤ s.size + 1 ∧ i = .int .i64 j ∧ Hid (Lib.NoOcc s.data.toList t.data.toList j)) (fun i => s.size + 1 - (intOf i).toNat)
  case atStart => exact ⟨0, Nat.zero_le _, rfl, Lib.NoOcc.zero _ _⟩
  case round =>
    obtain ⟨j, hj, rfl, hno⟩ := hrel
    by_cases hin : j + t.size ≤ s.size
    · have hin2 : (j : Int) + (t.size : Int) ≤ (s.size : Int) := by omega
      cases ho : Lib.occAt s.data.toList t.data.toList j with
      | true =>
        have HI := Lib.hid (index_first _ _ j (by rw [len_list]; omega) hno.out ho)
        rw [Lib.occ_of_piece s t j hin] at ho
        go_wp2
        go_ret
        exact ⟨ret_int (by rw [HI.out]), rfl⟩
      | false =>
        have HN := Lib.hid (hno.out.succ ho)
        rw [Lib.occ_of_piece s t j hin] at ho
        go_wp2
        go_round
        case measure => simp [intOf]; omega
        case rel => exact ⟨j + 1, by omega, by go_num, HN⟩
    · have HI := Lib.hid (index_never _ _ j hno.out (by rw [len_list, len_list]; omega))
      go_wp2
      go_ret
      exact ⟨ret_int (by rw [HI.out]; rfl), rfl⟩

set_option maxHeartbeats 2000000 in
theorem refLast_any (s t : ByteArray) (w : World) (hs : s.size ≤ 1000000) (ht : t.size ≤ 1000000) :
    Calls Tryd.prog 11 #[.string s, .string t] w fun e w' => e = .returned (.int .i64 (Lib.lastIndex s.data.toList t.data.toList + 1)) ∧ w = w' := by
  by_cases hle : t.size ≤ s.size
  · have HL : Hid (Lib.lastIndex s.data.toList t.data.toList = Lib.lastOcc s.data.toList t.data.toList (s.size - t.size + 1)) := by
      show _ = _
      unfold Lib.lastIndex; rw [if_pos (by rw [len_list, len_list]; exact hle), len_list, len_list]
    generalize hLI : Lib.lastIndex s.data.toList t.data.toList = LI at HL
    clear hLI
    go_enter Tryd.func11, Tryd.ntmps11
    go_wp2
    go_loop [5] (fun i => ∃ j : Nat, j ≤ s.size - t.size + 1 ∧ i = .int .i64 ((j : Int) - 1) ∧ Hid (LI = Lib.lastOcc s.data.toList t.data.toList j)) (fun i => (intOf i + 1).toNat)
    case atStart => exact ⟨s.size - t.size + 1, Nat.le_refl _, by go_num, HL⟩
    case round =>
      obtain ⟨j, hj, rfl, hrel⟩ := hrel
      rcases Nat.eq_zero_or_pos j with h0 | h0
      · subst h0
        have HR : Hid (LI = -1) := hrel.out
        go_wp2
        go_ret
        exact ⟨ret_int (by rw [HR.out]; rfl), rfl⟩
      · obtain ⟨k, rfl⟩ : ∃ k, j = k + 1 := ⟨j - 1, by omega⟩
        have hin : k + t.size ≤ s.size := by omega
        have hin2 : (k : Int) + (t.size : Int) ≤ (s.size : Int) := by omega
        cases ho : Lib.occAt s.data.toList t.data.toList k with
        | true =>
          have HI := Lib.hid (hrel.out.trans (Lib.lastOcc_hit _ _ k ho))
          rw [Lib.occ_of_piece s t k hin] at ho
          go_wp2
          go_ret
          exact ⟨ret_int (by rw [HI.out]), rfl⟩
        | false =>
          have HN := Lib.hid (hrel.out.trans (Lib.lastOcc_miss _ _ k ho))
          rw [Lib.occ_of_piece s t k hin] at ho
          clear hrel
          go_wp2
          go_round
          case measure => simp [intOf]
          case rel => exact ⟨k, by omega, by go_num, HN⟩
  · have HL : Hid (Lib.lastIndex s.data.toList t.data.toList = -1) := by
      show _ = _
      unfold Lib.lastIndex; rw [if_neg (by rw [len_list, len_list]; exact hle)]
    go_enter Tryd.func11, Tryd.ntmps11
    go_wp2
    go_loop [5] (fun i => i = .int .i64 ((s.size : Int) - (t.size : Int))) (fun _ => 0)
    case atStart => rfl
    case round =>
      subst hrel
      go_wp2
      go_ret
      exact ⟨ret_int (by rw [HL.out]; rfl), rfl⟩

set_option maxHeartbeats 2000000 in
theorem refCut_any (s : ByteArray) (a b : Int) (w : World) (_hs : s.size ≤ 9223372036854775807) (ha : I64 a) (hb : I64 b) :
    Calls Tryd.prog 7 #[.string s, .int .i64 a, .int .i64 b] w fun e w' => e = .returned (.tuple #[.string (cutS s a b), .int .i64 (cutC s a b)]) ∧ w = w' := by
  obtain ⟨ha1, ha2⟩ := ha
  obtain ⟨hb1, hb2⟩ := hb
  by_cases h1 : b < a
  · have e1 := Lib.hid (show cutS s a b = ByteArray.empty from if_neg (by omega))
    have e2 := Lib.hid (show cutC s a b = 0 from if_neg (by omega))
    have hd : decide (b < a) = true := by simpa using h1
    go_enter Tryd.func7, Tryd.ntmps7
    go_wp2
    go_ret2
    exact ⟨ret_two e1.out.symm e2.out.symm, rfl⟩
  · have hd : decide (b < a) = false := by simpa using h1
    by_cases h2 : a < 1
    · have e1 := Lib.hid (show cutS s a b = ByteArray.empty from if_neg (by omega))
      have e2 := Lib.hid (show cutC s a b = 10 from if_pos (by omega))
      have hd2 : decide (a < 1) = true := by simpa using h2
      go_enter Tryd.func7, Tryd.ntmps7
      go_wp2
      go_ret2
      exact ⟨ret_two e1.out.symm e2.out.symm, rfl⟩
    · have hd2 : decide (a < 1) = false := by simpa using h2
      by_cases h3 : (s.size : Int) < b
      · have e1 := Lib.hid (show cutS s a b = ByteArray.empty from if_neg (by omega))
        have e2 := Lib.hid (show cutC s a b = 10 from if_pos (by omega))
        have hd3 : decide ((s.size : Int) < b) = true := by simpa using h3
        go_enter Tryd.func7, Tryd.ntmps7
        go_wp2
        go_ret2
        exact ⟨ret_two e1.out.symm e2.out.symm, rfl⟩
      · have e1 := Lib.hid (show cutS s a b = s.extract (a - 1).toNat b.toNat from if_pos (by omega))
        have e2 := Lib.hid (show cutC s a b = 0 from if_neg (by omega))
        obtain ⟨A, rfl⟩ : ∃ A : Nat, a = (A : Int) + 1 := ⟨(a - 1).toNat, by omega⟩
        obtain ⟨B, rfl⟩ : ∃ B : Nat, b = (B : Int) := ⟨b.toNat, by omega⟩
        have e3 := Lib.hid (show s.extract ((A : Int) + 1 - 1).toNat ((B : Int)).toNat = s.extract A B from by rw [show ((A : Int) + 1 - 1).toNat = A by omega]; rfl)
        have hd3 : decide ((s.size : Int) < (B : Int)) = false := by simpa using h3
        go_enter Tryd.func7, Tryd.ntmps7
        go_wp2
        go_ret2
        exact ⟨ret_two (by rw [e1.out, e3.out]) e2.out.symm, rfl⟩

theorem trim_at (l : Bs) (i j : Nat) (hij : i ≤ j) (hj : j ≤ l.length) (h1 : ∀ k (b : UInt8), k < i → l[k]? = some b → b = 32) (h2 : ∀ b : UInt8, l[i]? = some b → b ≠ 32) (h3 : ∀ k (b : UInt8), j ≤ k → l[k]? = some b → b = 32) (h4 : ∀ b : UInt8, i < j → l[j - 1]? = some b → b ≠ 32) :
    Lib.trimB l 32 = (l.drop i).take (j - i) := by
  unfold Lib.trimB
  by_cases h : i = j
  · subst h
    have hl : i = l.length := by
      rcases Nat.lt_or_ge i l.length with hlt | hge
      · exact absurd (h3 i _ (Nat.le_refl _) (List.getElem?_eq_getElem hlt)) (h2 _ (List.getElem?_eq_getElem hlt))
      · omega
    have hr : Lib.trimRightB l 32 = l.take 0 := Lib.trimRightB_take l 32 0 (Nat.zero_le _) (fun k b _ hb => by
      rcases Nat.lt_or_ge k l.length with hlt | hge
      · exact h1 k b (by omega) hb
      · rw [List.getElem?_eq_none hge] at hb; cases hb) (fun _ h0 => absurd h0 (by omega))
    rw [hr]
    simp [Lib.trimLeftB]
  · have hr : Lib.trimRightB l 32 = l.take j := Lib.trimRightB_take l 32 j hj h3 (fun b _ hb => h4 b (by omega) hb)
    rw [hr, Lib.trimLeftB_drop (l.take j) 32 i (by rw [List.length_take]; omega) (fun k b hk hb => h1 k b hk (by rw [List.getElem?_take] at hb; split at hb; exact hb; cases hb)) (fun b hb => h2 b (by rw [List.getElem?_take] at hb; split at hb; exact hb; cases hb)), List.drop_take]

theorem at_data (s : ByteArray) (k : Nat) (h : k < s.size) : s.data.toList[k]? = some s[k] := by
  rw [List.getElem?_eq_getElem (by rw [len_list]; exact h)]; rfl
set_option maxHeartbeats 4000000 in
theorem refTrim_any (s : ByteArray) (w : World) (hs : s.size ≤ 1000000) :
    Calls Tryd.prog 17 #[.string s] w fun e w' => e = .returned (.string ⟨(Lib.trimB s.data.toList 32).toArray⟩) ∧ w = w' := by
  go_enter Tryd.func17, Tryd.ntmps17
  go_wp2
  go_loop [3] (fun i => ∃ j : Nat, j ≤ s.size ∧ i = .int .i64 j ∧ Hid (∀ k (b : UInt8), k < j → s.data.toList[k]? = some b → b = 32)) (fun i => s.size - (intOf i).toNat)
  case atStart => exact ⟨0, Nat.zero_le _, rfl, fun k b hk => absurd hk (by omega)⟩
  case round =>
    obtain ⟨i, hi, rfl, hsp⟩ := hrel
    by_cases hgo : ∃ h : i < s.size, s[i] = 32
    · obtain ⟨hlt, hc⟩ := hgo
      have HS : Hid (∀ k (b : UInt8), k < i + 1 → s.data.toList[k]? = some b → b = 32) := fun k b hk hb => by
        rcases Nat.lt_or_ge k i with h | h
        · exact hsp.out k b h hb
        · obtain rfl : k = i := by omega
          rw [at_data s k hlt, hc] at hb; injection hb with hb; exact hb.symm
      have hcc : ((s[i]).toNat : Int) = 32 := by rw [hc]; rfl
      have hd : decide ((i : Int) < (s.size : Int)) = true := by simp; omega
      clear hc hsp
      go_wp2
      go_round
      case measure => simp [intOf]; omega
      case rel => exact ⟨i + 1, by omega, by go_num, HS⟩
    · have HN : Hid (∀ b : UInt8, s.data.toList[i]? = some b → b ≠ 32) := fun b hb h32 => by
        rcases Nat.lt_or_ge i s.size with h | h
        · rw [at_data s i h] at hb; injection hb with hb; exact hgo ⟨h, by rw [hb]; exact h32⟩
        · rw [List.getElem?_eq_none (by rw [len_list]; exact h)] at hb; cases hb
      by_cases hlt : i < s.size
      · have hcc : (((s[i]).toNat : Int) == 32) = false := by
          rw [beq_eq_false_iff_ne]; intro h; apply hgo; exact ⟨hlt, by apply UInt8.toNat_inj.1; exact Int.ofNat.inj h⟩
        have hd : decide ((i : Int) < (s.size : Int)) = true := by simp; omega
        clear hgo
        go_wp2
        go_loop [4] (fun jv => ∃ j : Nat, i ≤ j ∧ j ≤ s.size ∧ jv = .int .i64 j ∧ Hid (∀ k (b : UInt8), j ≤ k → s.data.toList[k]? = some b → b = 32)) (fun jv => (intOf jv).toNat)
        case atStart => exact ⟨s.size, hi, Nat.le_refl _, rfl, fun k b hk hb => by rw [List.getElem?_eq_none (by rw [len_list]; exact hk)] at hb; cases hb⟩
        case round =>
          obtain ⟨j, hij, hjs, rfl, hre⟩ := hrel
          by_cases hlt2 : i < j
          · obtain ⟨k, rfl⟩ : ∃ k, j = k + 1 := ⟨j - 1, by omega⟩
            have hk : k < s.size := by omega
            have hd2 : decide ((i : Int) < (k : Int) + 1) = true := by simp; omega
            by_cases hc : s[k] = 32
            · have HS : Hid (∀ q (b : UInt8), k ≤ q → s.data.toList[q]? = some b → b = 32) := fun q b hq hb => by
                rcases Nat.lt_or_ge k q with h | h
                · exact hre.out q b (by omega) hb
                · obtain rfl : q = k := by omega
                  rw [at_data s q hk, hc] at hb; injection hb with hb; exact hb.symm
              have hcc2 : ((s[k]).toNat : Int) = 32 := by rw [hc]; rfl
              clear hc hre
              go_wp2
              go_round
              case measure => simp [intOf]
              case rel => exact ⟨k, by omega, by omega, by go_num, HS⟩
            · have HE := Lib.hid (trim_at s.data.toList i (k + 1) hij (by rw [len_list]; exact hjs) hsp.out HN.out hre.out (fun b _ hb h32 => by
                rw [Nat.add_sub_cancel, at_data s k hk] at hb; injection hb with hb; exact hc (by rw [hb]; exact h32)))
              have hcc2 : (((s[k]).toNat : Int) == 32) = false := by
                rw [beq_eq_false_iff_ne]; intro h; apply hc; apply UInt8.toNat_inj.1; exact Int.ofNat.inj h
              clear hc hre
              have hik : (i : Int) ≤ (k : Int) + 1 := by omega
              have hks : (k : Int) + 1 ≤ (s.size : Int) := by omega
              go_wp2
              go_ret
              exact ⟨ret_str (by rw [HE.out]; apply ByteArray.ext; apply Array.ext'; simp), rfl⟩
          · obtain rfl : i = j := by omega
            have HE := Lib.hid (trim_at s.data.toList i i hij (by rw [len_list]; exact hjs) hsp.out HN.out hre.out (fun b h => absurd h (by omega)))
            have hd2 : decide ((i : Int) < (i : Int)) = false := by simp
            clear hre
            have hks : (i : Int) ≤ (s.size : Int) := by omega
            go_wp2
            go_ret
            exact ⟨ret_str (by rw [HE.out]; apply ByteArray.ext; apply Array.ext'; simp), rfl⟩
      · have hd : decide ((i : Int) < (s.size : Int)) = false := by simp; omega
        clear hgo
        go_wp2
        go_loop [4] (fun jv => ∃ j : Nat, i ≤ j ∧ j ≤ s.size ∧ jv = .int .i64 j ∧ Hid (∀ k (b : UInt8), j ≤ k → s.data.toList[k]? = some b → b = 32)) (fun jv => (intOf jv).toNat)
        case atStart => exact ⟨s.size, hi, Nat.le_refl _, rfl, fun k b hk hb => by rw [List.getElem?_eq_none (by rw [len_list]; exact hk)] at hb; cases hb⟩
        case round =>
          obtain ⟨j, hij, hjs, rfl, hre⟩ := hrel
          by_cases hlt2 : i < j
          · obtain ⟨k, rfl⟩ : ∃ k, j = k + 1 := ⟨j - 1, by omega⟩
            have hk : k < s.size := by omega
            have hd2 : decide ((i : Int) < (k : Int) + 1) = true := by simp; omega
            by_cases hc : s[k] = 32
            · have HS : Hid (∀ q (b : UInt8), k ≤ q → s.data.toList[q]? = some b → b = 32) := fun q b hq hb => by
                rcases Nat.lt_or_ge k q with h | h
                · exact hre.out q b (by omega) hb
                · obtain rfl : q = k := by omega
                  rw [at_data s q hk, hc] at hb; injection hb with hb; exact hb.symm
              have hcc2 : ((s[k]).toNat : Int) = 32 := by rw [hc]; rfl
              clear hc hre
              go_wp2
              go_round
              case measure => simp [intOf]
              case rel => exact ⟨k, by omega, by omega, by go_num, HS⟩
            · have HE := Lib.hid (trim_at s.data.toList i (k + 1) hij (by rw [len_list]; exact hjs) hsp.out HN.out hre.out (fun b _ hb h32 => by
                rw [Nat.add_sub_cancel, at_data s k hk] at hb; injection hb with hb; exact hc (by rw [hb]; exact h32)))
              have hcc2 : (((s[k]).toNat : Int) == 32) = false := by
                rw [beq_eq_false_iff_ne]; intro h; apply hc; apply UInt8.toNat_inj.1; exact Int.ofNat.inj h
              clear hc hre
              have hik : (i : Int) ≤ (k : Int) + 1 := by omega
              have hks : (k : Int) + 1 ≤ (s.size : Int) := by omega
              go_wp2
              go_ret
              exact ⟨ret_str (by rw [HE.out]; apply ByteArray.ext; apply Array.ext'; simp), rfl⟩
          · obtain rfl : i = j := by omega
            have HE := Lib.hid (trim_at s.data.toList i i hij (by rw [len_list]; exact hjs) hsp.out HN.out hre.out (fun b h => absurd h (by omega)))
            have hd2 : decide ((i : Int) < (i : Int)) = false := by simp
            clear hre
            have hks : (i : Int) ≤ (s.size : Int) := by omega
            go_wp2
            go_ret
            exact ⟨ret_str (by rw [HE.out]; apply ByteArray.ext; apply Array.ext'; simp), rfl⟩
end Go.Proofs.YtnlbibfjhobmjaaDoor
