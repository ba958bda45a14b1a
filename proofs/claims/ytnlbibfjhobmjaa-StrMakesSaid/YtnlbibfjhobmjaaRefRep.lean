/- The document's Replace and Join: the same answers. -/
import Derived.Test.YtnlbibfjhobmjaaJoin
import Derived.Test.YtnlbibfjhobmjaaBuf
import Derived.Lib.IndexBytes
import Derived.WalkSpells
namespace Go.Proofs.Ytnlbibfjhobmjaa
open Go.RowKit
set_option maxRecDepth 100000

theorem rep_drop_hit (s wh : ByteArray) (wi : Bs) (hw : wh.data.toList ≠ []) (i : Nat) (ho : Lib.occAt s.data.toList wh.data.toList i = true) : rep wh.data.toList wi (s.data.toList.drop i) = wi ++ rep wh.data.toList wi (s.data.toList.drop (i + wh.size)) := by
  rw [rep_hit _ wi hw _ ho, List.drop_drop, len_list]
theorem rep_drop_miss (s wh : ByteArray) (wi : Bs) (i : Nat) (hi : i < s.size) (ho : Lib.occAt s.data.toList wh.data.toList i = false) : rep wh.data.toList wi (s.data.toList.drop i) = s[i] :: rep wh.data.toList wi (s.data.toList.drop (i + 1)) := by
  have hl : i < s.data.toList.length := by rw [len_list]; exact hi
  rw [List.drop_eq_getElem_cons hl]
  unfold Lib.occAt at ho
  rw [List.drop_eq_getElem_cons hl] at ho
  rw [rep_miss _ wi _ _ ho]
  rfl
theorem occ_short (s wh : ByteArray) (i : Nat) (hi : i ≤ s.size) (h : ¬ i + wh.size ≤ s.size) : Lib.occAt s.data.toList wh.data.toList i = false := by
  cases ho : Lib.occAt s.data.toList wh.data.toList i with
  | false => rfl
  | true =>
    have := occ_len ho (by rw [len_list]; exact hi)
    rw [len_list, len_list] at this
    exact absurd this h

set_option maxHeartbeats 4000000 in
theorem refReplace_main (s wh wi : ByteArray) (w : World) (hs : s.size ≤ 100000) (hh : wh.size ≤ 100000) (hi : wi.size ≤ 100000) (hw0 : wh.size ≠ 0) :
    Calls Try.prog 10 #[.string s, .string wh, .string wi] w fun e w' => e = .returned (.tuple #[.string (repS s wh wi), .int .i64 (repC s wh wi)]) ∧ Below w.heap.size w w' := by
  have e1 := Lib.hid (show repS s wh wi = topS (rep wh.data.toList wi.data.toList s.data.toList) from if_neg hw0)
  have e2 := Lib.hid (show repC s wh wi = topC (rep wh.data.toList wi.data.toList s.data.toList) from if_neg hw0)
  have HW : Hid (wh.data.toList ≠ []) := by intro h; apply hw0; rw [← len_list, h]; rfl
  have hem : wh.toList.isEmpty = false := by
    rw [ByteArray.toList_eq]
    cases h : wh.data.toList with
    | nil => exact absurd h HW.out
    | cons a t => rfl
  have HRL : Hid ((rep wh.data.toList wi.data.toList s.data.toList).length ≤ 100000 * 100001) := by
    have h1 := rep_len wh.data.toList wi.data.toList _ s.data.toList (Nat.le_refl _)
    rw [len_list, len_list] at h1
    exact Nat.le_trans h1 (Nat.mul_le_mul hs (by omega))
  generalize hR : rep wh.data.toList wi.data.toList s.data.toList = R at e1 e2 HRL
  have HR := Lib.hid hR; clear hR
  have HB0 := Lib.hid (Buf.start w)
  go_enter Try.func10, Try.ntmps10
  go_wp2
  go_loopw [8, 9] (fun v i wr => ∃ (j : Nat) (acc : Bs), i = .int .i64 j ∧ j ≤ s.size ∧ Hid (acc ++ rep wh.data.toList wi.data.toList (s.data.toList.drop j) = R) ∧ Hid (Buf w.heap.size acc v w wr)) (fun _ i _ => s.size - (intOf i).toNat)
  case atStart => exact ⟨0, [], rfl, Nat.zero_le _, HR.out, HB0⟩
  case round =>
    obtain ⟨j, acc, rfl, hj, hrel, hbuf⟩ := hrel
    have HAL : Hid (acc.length ≤ 100000 * 100001) := by
      have h1 := congrArg List.length hrel.out
      have h2 := HRL.out
      rw [List.length_append] at h1
      show _ ≤ _; omega
    by_cases hlt : j < s.size
    · by_cases hocc : j + wh.size ≤ s.size ∧ Lib.occAt s.data.toList wh.data.toList j = true
      · obtain ⟨hin, ho⟩ := hocc
        have HN := Lib.hid (rep_drop_hit s wh wi.data.toList HW.out j ho)
        rw [Lib.occ_of_piece s wh j hin] at ho
        have hd : decide ((j : Int) + (wh.size : Int) ≤ (s.size : Int)) = true := by simp; omega
        have hin2 : (j : Int) + (wh.size : Int) ≤ (s.size : Int) := by omega
        go_wp2_with (at_builtin; refine buf_str rfl (.tmp 34) (.tmp 35) rfl w.heap.size acc _ w _ rfl hbuf.out wi rfl (by have := HAL.out; omega) ?_; intro v1 w1 hb1; have HB1 := Lib.hid hb1; clear hb1)
        go_roundw
        case measure => simp [intOf]; omega
        case rel => exact ⟨j + wh.size, _, by go_num, hin, by show _ = _; rw [← hrel.out, HN.out, List.append_assoc], HB1⟩
      · have ho : Lib.occAt s.data.toList wh.data.toList j = false := by
          by_cases hin : j + wh.size ≤ s.size
          · cases h : Lib.occAt s.data.toList wh.data.toList j with
            | false => rfl
            | true => exact absurd ⟨hin, h⟩ hocc
          · exact occ_short s wh j (by omega) hin
        have HN := Lib.hid (rep_drop_miss s wh wi.data.toList j hlt ho)
        clear hocc
        by_cases hin : j + wh.size ≤ s.size
        · rw [Lib.occ_of_piece s wh j hin] at ho
          have hd : decide ((j : Int) + (wh.size : Int) ≤ (s.size : Int)) = true := by simp; omega
          have hin2 : (j : Int) + (wh.size : Int) ≤ (s.size : Int) := by omega
          go_wp2_with (at_builtin; refine buf_byte rfl (.tmp 41) (.tmp 45) rfl w.heap.size acc _ w _ rfl ?hb s[j] _ rfl _ rfl rfl (by have := HAL.out; omega) ?_; (case hb => exact hbuf.out); intro v1 w1 hb1; have HB1 := Lib.hid hb1; clear hb1)
          go_roundw
          case measure => simp [intOf]; omega
          case rel => exact ⟨j + 1, _, by go_num, by omega, by show _ = _; rw [← hrel.out, HN.out, List.append_assoc]; rfl, HB1⟩
        · have hd : decide ((j : Int) + (wh.size : Int) ≤ (s.size : Int)) = false := by simp; omega
          clear ho
          go_wp2_with (at_builtin; refine buf_byte rfl (.tmp 41) (.tmp 45) rfl w.heap.size acc _ w _ rfl ?hb s[j] _ rfl _ rfl rfl (by have := HAL.out; omega) ?_; (case hb => exact hbuf.out); intro v1 w1 hb1; have HB1 := Lib.hid hb1; clear hb1)
          go_roundw
          case measure => simp [intOf]; omega
          case rel => exact ⟨j + 1, _, by go_num, by omega, by show _ = _; rw [← hrel.out, HN.out, List.append_assoc]; rfl, HB1⟩
    · have hje : j = s.size := by omega
      subst hje
      have hR2 : Hid (acc = R) := by
        show _ = _
        rw [← hrel.out, List.drop_of_length_le (by rw [len_list]; omega), rep_nil, List.append_nil]
      obtain ⟨ao, cap, rfl⟩ := hbuf.out.form
      have hback := hbuf.out.back
      have HBL := Lib.hid hbuf.out.bel
      clear hrel
      by_cases hbig : acc.length < 4096
      · have hd : decide ((4096 : Int) ≤ (acc.length : Int)) = false := by simp; omega
        have HT := Lib.hid (topS_small hbig)
        have HC := Lib.hid (topC_small hbig)
        rw [hR2.out] at HT HC
        go_wp2
        go_ret2
        exact ⟨ret_two (by rw [e1.out, HT.out, hR2.out]) (by rw [e2.out, HC.out]), HBL.out⟩
      · have hd : decide ((4096 : Int) ≤ (acc.length : Int)) = true := by simp; omega
        have HT := Lib.hid (topS_big hbig)
        have HC := Lib.hid (topC_big hbig)
        rw [hR2.out] at HT HC
        clear hback
        go_wp2
        go_ret2
        exact ⟨ret_two (by rw [e1.out, HT.out]) (by rw [e2.out, HC.out]), HBL.out⟩

theorem refReplace_any (s wh wi : ByteArray) (w : World) (hs : s.size ≤ 100000) (hh : wh.size ≤ 100000) (hi : wi.size ≤ 100000) :
    Calls Try.prog 10 #[.string s, .string wh, .string wi] w fun e w' => e = .returned (.tuple #[.string (repS s wh wi), .int .i64 (repC s wh wi)]) ∧ Below w.heap.size w w' := by
  by_cases h : wh.size = 0
  · have hem : wh.toList.isEmpty = true := by
      rw [ByteArray.toList_eq]
      have := len_list wh
      rw [h] at this
      rw [List.eq_nil_of_length_eq_zero this]; rfl
    have e1 := Lib.hid (show repS s wh wi = ⟨#[]⟩ from if_pos h)
    have e2 := Lib.hid (show repC s wh wi = 13 from if_pos h)
    clear h
    go_enter Try.func10, Try.ntmps10
    go_wp2
    go_ret2
    exact ⟨ret_two e1.out.symm e2.out.symm, Below.refl _ _⟩
  · exact refReplace_main s wh wi w hs hh hi h

set_option maxHeartbeats 4000000 in
theorem refJoin_any (sep : ByteArray) (ss : List ByteArray) (p : Option Addr) (cap : Nat) (w : World) (h : SRow w w.heap.size p ss) (hl : ss.length ≤ 1000000) (hsep : sep.size ≤ 1000000) (hss : ∀ s ∈ ss, s.size ≤ 1000000) :
    Calls Try.prog 12 #[.string sep, .slice p ss.length cap] w fun e w' => e = .returned (.tuple #[.string (topS (joinL sep ss)), .int .i64 (topC (joinL sep ss))]) ∧ Below w.heap.size w w' := by
  have HS := Lib.hid h; clear h
  have HSS := Lib.hid hss; clear hss
  generalize hR : joinL sep ss = R
  have HR := Lib.hid hR; clear hR
  have HB0 := Lib.hid (Buf.start w)
  go_enter Try.func12, Try.ntmps12
  go_wp2
  go_loopw [6, 7] (fun v i wr => ∃ (j : Nat) (l : Bs), i = .int .i64 j ∧ j ≤ ss.length ∧ l.length < 4096 ∧ Hid (l = joinL sep (ss.take j)) ∧ Hid (Buf w.heap.size l v w wr)) (fun _ i _ => ss.length - (intOf i).toNat)
  case atStart => exact ⟨0, [], rfl, Nat.zero_le _, by simp, rfl, HB0⟩
  case round =>
    obtain ⟨j, l, rfl, hj, hl4, hrel, hbuf⟩ := hrel
    by_cases hlt : j < ss.length
    · have HLE := Lib.hid (joinL_le sep ss (j + 1) (by omega))
      have hsz1 := HSS.out ss[j] (List.getElem_mem hlt)
      rcases Nat.eq_zero_or_pos j with h0 | h0
      · subst h0
        obtain ⟨a, rfl, hc⟩ := (HS.out.below hbuf.out.bel).at_ 0 hlt
        have hc' : wr.cell? a = some (.string ss[0]) := by simpa [Addr.add] using hc
        clear hc
        have HST := Lib.hid (joinL_first sep ss hlt)
        have hl0 := Lib.hid (show l = [] from hrel.out)
        generalize ss[0] = s at *
        have HL3 := Lib.hid (len_list s)
        by_cases hf : (l ++ s.data.toList).length < 4096
        · have hd : decide ((4096 : Int) ≤ (l.length : Int) + (s.size : Int)) = false := by
            rw [List.length_append, len_list] at hf
            simp only [decide_eq_false_iff_not]; omega
          have HF := Lib.hid hf
          clear hf
          go_wp2_with (at_builtin; refine buf_str rfl (.tmp 19) (.tmp 23) rfl w.heap.size l _ w _ rfl hbuf.out s rfl (by omega) ?_; intro v1 w1 hb1; obtain ⟨ao1, cap1, rfl⟩ := hb1.form; simp only [List.length_append, len_list] at hb1; have HB1 := Lib.hid hb1; clear hb1)
          go_roundw
          case measure => simp [intOf]; omega
          case rel => exact ⟨1, _, by go_num, by omega, HF.out, by show _ = _; rw [HST.out, hl0.out]; rfl, HB1⟩
        · have hd : decide ((4096 : Int) ≤ (l.length : Int) + (s.size : Int)) = true := by
            rw [List.length_append, len_list] at hf
            simp only [decide_eq_true_eq]; omega
          have HF := Lib.hid hf
          clear hf
          go_wp2_with (at_builtin; refine buf_str rfl (.tmp 19) (.tmp 23) rfl w.heap.size l _ w _ rfl hbuf.out s rfl (by omega) ?_; intro v1 w1 hb1; obtain ⟨ao1, cap1, rfl⟩ := hb1.form; simp only [List.length_append, len_list] at hb1; have HB1 := Lib.hid hb1; clear hb1)
          go_ret2
          have hlen : ¬ R.length < 4096 := by
            have h3 := HF.out
            have h4 := HLE.out
            rw [HST.out, HR.out] at h4
            rw [hl0.out] at h3
            simp only [List.nil_append] at h3
            omega
          exact ⟨ret_two (by rw [topS_big hlen]) (by rw [topC_big hlen]), HB1.out.bel⟩
      · obtain ⟨a, rfl, hc⟩ := (HS.out.below hbuf.out.bel).at_ j hlt
        have HC := Lib.hid hc
        have hab : Hid (a.block < w.heap.size) := by
          rcases HS.out with h | ⟨a', ha', hb', _⟩
          · subst h; simp at hlt
          · injection ha' with ha'; subst ha'; exact hb'
        clear hc
        have HST := Lib.hid (joinL_step sep ss j hlt h0)
        have hcw : ∀ w1, Hid (Below w.heap.size w w1) → w1.cell? (a.add j) = some (.string ss[j]) := fun w1 hb => by
          obtain ⟨a', ha', hx⟩ := (HS.out.below hb.out).at_ j hlt
          injection ha' with ha'; subst ha'; exact hx
        generalize ss[j] = s at *
        by_cases hf : ((l ++ sep.data.toList) ++ s.data.toList).length < 4096
        · have hd : decide ((4096 : Int) ≤ (l.length : Int) + ((sep.size : Int) + (s.size : Int))) = false := by
            rw [List.length_append, List.length_append, len_list, len_list] at hf
            simp only [decide_eq_false_iff_not]; omega
          have HF := Lib.hid hf
          clear hf
          have HL5 : Hid ((l ++ sep.data.toList).length ≤ 2000000) := by show _ ≤ _; rw [List.length_append, len_list]; omega
          go_wp2_with (first
            | (at_builtin; refine buf_str rfl (.tmp 16) (.tmp 17) rfl w.heap.size l _ w _ rfl hbuf.out sep rfl (by omega) ?_; intro v2 w2 hb2; obtain ⟨ao2, cap2, rfl⟩ := hb2.form; simp only [List.length_append, len_list] at hb2; have HB2 := Lib.hid hb2; have hcc := hcw w2 (Lib.hid hb2.bel); clear hb2)
            | (at_builtin; refine buf_str rfl (.tmp 19) (.tmp 23) rfl w.heap.size (l ++ sep.data.toList) _ w _ rfl HB2.out s rfl (by have := HL5.out; omega) ?_; intro v1 w1 hb1; obtain ⟨ao1, cap1, rfl⟩ := hb1.form; simp only [List.length_append, len_list, Nat.add_assoc] at hb1; have HB1 := Lib.hid hb1; clear hb1))
          go_roundw
          case measure => simp [intOf]; omega
          case rel => exact ⟨j + 1, _, by go_num, by omega, HF.out, by show _ = _; rw [HST.out, ← hrel.out], HB1⟩
        · have hd : decide ((4096 : Int) ≤ (l.length : Int) + ((sep.size : Int) + (s.size : Int))) = true := by
            rw [List.length_append, List.length_append, len_list, len_list] at hf
            simp only [decide_eq_true_eq]; omega
          have HF := Lib.hid hf
          clear hf
          have HL5 : Hid ((l ++ sep.data.toList).length ≤ 2000000) := by show _ ≤ _; rw [List.length_append, len_list]; omega
          go_wp2_with (first
            | (at_builtin; refine buf_str rfl (.tmp 16) (.tmp 17) rfl w.heap.size l _ w _ rfl hbuf.out sep rfl (by omega) ?_; intro v2 w2 hb2; obtain ⟨ao2, cap2, rfl⟩ := hb2.form; simp only [List.length_append, len_list] at hb2; have HB2 := Lib.hid hb2; have hcc := hcw w2 (Lib.hid hb2.bel); clear hb2)
            | (at_builtin; refine buf_str rfl (.tmp 19) (.tmp 23) rfl w.heap.size (l ++ sep.data.toList) _ w _ rfl HB2.out s rfl (by have := HL5.out; omega) ?_; intro v1 w1 hb1; obtain ⟨ao1, cap1, rfl⟩ := hb1.form; simp only [List.length_append, len_list, Nat.add_assoc] at hb1; have HB1 := Lib.hid hb1; clear hb1))
          go_ret2
          have hlen : ¬ R.length < 4096 := by
            have h3 := HF.out
            have h4 := HLE.out
            rw [HST.out, ← hrel.out, HR.out] at h4
            omega
          exact ⟨ret_two (by rw [topS_big hlen]) (by rw [topC_big hlen]), HB1.out.bel⟩
    · have hje : j = ss.length := by omega
      subst hje
      have hR2 : l = R := by rw [hrel.out, List.take_length, HR.out]
      have HR2 := Lib.hid hR2; clear hR2
      obtain ⟨ao, cap2, rfl⟩ := hbuf.out.form
      have hback := hbuf.out.back
      have HBL := Lib.hid hbuf.out.bel
      go_wp2
      go_ret2
      exact ⟨ret_two (by rw [← HR2.out, topS_small hl4]) (by rw [← HR2.out, topC_small hl4]), HBL.out⟩
end Go.Proofs.Ytnlbibfjhobmjaa
