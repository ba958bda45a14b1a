/- str.Replace and the document's: what they answer of any texts. -/
import Derived.Test.YtnlbibfjhobmjaaShort
import Derived.Test.YtnlbibfjhobmjaaFind
import Derived.Test.YtnlbibfjhobmjaaBuf
import Derived.Test.YtnlbibfjhobmjaaRepM
namespace Go.Proofs.Ytnlbibfjhobmjaa
open Go.RowKit
set_option maxRecDepth 100000

theorem ext_head (s : ByteArray) (i : Nat) : (s.extract 0 i).data.toList = s.data.toList.take i := by
  simp
theorem ext_tail (s : ByteArray) (i : Nat) : (s.extract i s.size).data.toList = s.data.toList.drop i := by
  simp
  rw [List.take_of_length_le (by simp)]
theorem fits_true {n : Nat} {s : ByteArray} (h : n + s.size < 4096) : fits n s = true := by simp [fits, h]
theorem fits_false {n : Nat} {s : ByteArray} (h : ¬ n + s.size < 4096) : fits n s = false := by simp [fits]; omega
theorem len_list (s : ByteArray) : s.data.toList.length = s.size := by simp
theorem topS_big {l : Bs} (h : ¬ l.length < 4096) : topS l = ⟨#[]⟩ := if_neg h
theorem topC_big {l : Bs} (h : ¬ l.length < 4096) : topC l = 14 := if_neg h
theorem topS_small {l : Bs} (h : l.length < 4096) : topS l = ⟨l.toArray⟩ := if_pos h
theorem topC_small {l : Bs} (h : l.length < 4096) : topC l = 0 := if_pos h
theorem ret_two {a b : ByteArray} {c d : Int} (h : a = b) (h2 : c = d) : Ending.returned (.tuple #[.string a, .int .i64 c]) = .returned (.tuple #[.string b, .int .i64 d]) := by rw [h, h2]

set_option maxHeartbeats 4000000 in
theorem replace_main (s wh wi : ByteArray) (w : World) (hs : s.size ≤ 100000) (hh : wh.size ≤ 100000) (hi : wi.size ≤ 100000) (hm : MaxL w) (hw0 : wh.size ≠ 0) :
    Calls Try.prog 9 #[.string s, .string wh, .string wi] w fun e w' => e = .returned (.tuple #[.string (repS s wh wi), .int .i64 (repC s wh wi)]) ∧ Below w.heap.size w w' := by
  have HM := Lib.hid hm; clear hm
  have e1 := Lib.hid (show repS s wh wi = topS (rep wh.data.toList wi.data.toList s.data.toList) from if_neg hw0)
  have e2 := Lib.hid (show repC s wh wi = topC (rep wh.data.toList wi.data.toList s.data.toList) from if_neg hw0)
  have HW : Hid (wh.data.toList ≠ []) := by intro h; apply hw0; rw [← len_list, h]; rfl
  have hem : wh.toList.isEmpty = false := by
    rw [ByteArray.toList_eq]
    cases h : wh.data.toList with
    | nil => exact absurd h HW.out
    | cons a t => rfl
  have HMG := Lib.hid (show 0 < w.heap.size from by obtain ⟨m, h⟩ := HM.out; exact World.block_lt_of_cell? w (a := ⟨0, 0, none⟩) h)
  have HF := Lib.hid (Lib.fresh_isBuilder 42 5 w)
  have HB0 := Lib.hid ((Below.refl w.heap.size w).alloc (Nat.le_refl _) (.cells #[.pointer none, .slice none 0 0] 42))
  generalize hR : rep wh.data.toList wi.data.toList s.data.toList = R at e1 e2
  have HR := Lib.hid hR; clear hR
  go_enter Try.func9, Try.ntmps9
  go_wp2
  generalize w.alloc (.cells #[.pointer none, .slice none 0 0] 42) = W0 at *
  generalize hg : w.heap.size = g at *
  have HG := Lib.hid hg; clear hg
  go_loopw [0] (fun v wr => ∃ (r : ByteArray) (l : Bs), v = .string r ∧ r.size ≤ 100000 ∧ l.length < 4096 ∧ Hid (l ++ rep wh.data.toList wi.data.toList r.data.toList = R) ∧ Hid (Mk g g (Lib.byteCells l) wr) ∧ Hid (Below g w wr)) (fun v _ => match v with | .string r => r.size | _ => 0)
  case atStart => exact ⟨s, [], rfl, hs, by simp, by rw [HR.out]; rfl, HF.out, HB0⟩
  case round =>
    obtain ⟨r, l, rfl, hr, hl, hrel, hmk, hbel⟩ := hrel
    have HMR := Lib.hid (HM.out.below hbel.out HMG.out)
    have hsz : g ≤ wr.heap.size := by have := hbel.out.size; rw [HG.out] at this; exact this
    rcases Lib.index_spec r.data.toList wh.data.toList with ⟨hx, hno⟩ | ⟨i, hx, hil, hocc, hnoc⟩
    · have HX := Lib.hid hx; clear hx
      have HN := Lib.hid (rep_never _ wi.data.toList _ hno); clear hno
      by_cases hf : l.length + r.size < 4096
      · have F1 := Lib.hid (fits_true hf)
        go_wp2_with (first
          | (go_at_call 20; obtain ⟨m, hm⟩ := HMR.out; refine (Try.strings_Index r wh m _ (by omega) hm).mono ?_; rintro e w1 ⟨rfl, rfl⟩; rw [HX.out])
          | (go_at_call 21; refine (add_any g g l r _ hmk.out hl (by omega) hsz).mono ?_; rintro e w2 ⟨rfl, hm2, hb2⟩; rw [F1.out]; rw [F1.out] at hm2; have HM2 := Lib.hid hm2; have HB2 := Lib.hid hb2; clear hm2 hb2)
          | (go_at_call 22; refine (text_any g g _ _ HM2.out (by have := HB2.out.size; omega)).mono ?_; rintro e w3 ⟨rfl, hb3⟩; have HB3 := Lib.hid hb3; clear hb3))
        go_ret2
        have hR2 : l ++ r.data.toList = R := by rw [← hrel.out, HN.out]
        have hlen : (l ++ r.data.toList).length < 4096 := by rw [List.length_append, len_list]; exact hf
        exact ⟨ret_two (by rw [e1.out, ← hR2, topS_small hlen]) (by rw [e2.out, ← hR2, topC_small hlen]), by rw [HG.out]; exact hbel.out.trans (HB2.out.trans HB3.out)⟩
      · have F1 := Lib.hid (fits_false hf)
        go_wp2_with (first
          | (go_at_call 20; obtain ⟨m, hm⟩ := HMR.out; refine (Try.strings_Index r wh m _ (by omega) hm).mono ?_; rintro e w1 ⟨rfl, rfl⟩; rw [HX.out])
          | (go_at_call 21; refine (add_any g g l r _ hmk.out hl (by omega) hsz).mono ?_; rintro e w2 ⟨rfl, hm2, hb2⟩; rw [F1.out]; have HB2 := Lib.hid hb2; clear hm2 hb2))
        go_ret2
        have hR2 : l ++ r.data.toList = R := by rw [← hrel.out, HN.out]
        have hlen : ¬ (l ++ r.data.toList).length < 4096 := by rw [List.length_append, len_list]; exact hf
        exact ⟨ret_two (by rw [e1.out, ← hR2, topS_big hlen]) (by rw [e2.out, ← hR2, topC_big hlen]), by rw [HG.out]; exact hbel.out.trans HB2.out⟩
    · have HX := Lib.hid hx; clear hx
      have hroom : i + wh.size ≤ r.size := by have := occ_len hocc hil; simpa using this
      have HN := Lib.hid (rep_at _ wi.data.toList HW.out i _ hil hnoc hocc); clear hocc hnoc hil
      have hpz : (r.extract 0 i).size = i := by rw [ByteArray.size_extract]; omega
      have hpl := Lib.hid (ext_head r i)
      have htl := Lib.hid (ext_tail r (i + wh.size))
      by_cases hf : l.length + (r.extract 0 i).size < 4096
      · have F1 := Lib.hid (fits_true hf)
        have hl2 : (l ++ (r.extract 0 i).data.toList).length < 4096 := by rw [List.length_append, len_list]; exact hf
        by_cases hf2 : (l ++ (r.extract 0 i).data.toList).length + wi.size < 4096
        · have F2 := Lib.hid (fits_true hf2)
          have HL2 := Lib.hid hl2
          have HL3' := Lib.hid (show (l ++ (r.extract 0 i).data.toList ++ wi.data.toList).length < 4096 by rw [List.length_append, len_list wi]; exact hf2)
          clear hl2 hf2 hf
          go_wp2_with (first
            | (go_at_call 20; obtain ⟨m, hm⟩ := HMR.out; refine (Try.strings_Index r wh m _ (by omega) hm).mono ?_; rintro e w1 ⟨rfl, rfl⟩; rw [HX.out])
            | (go_at_call_of 21 (Value.string (r.extract 0 i)); refine (add_any g g l _ _ hmk.out hl (by omega) hsz).mono ?_; rintro e w2 ⟨rfl, hm2, hb2⟩; rw [F1.out]; rw [F1.out, if_pos rfl] at hm2; have HM2 := Lib.hid hm2; have HB2 := Lib.hid hb2; clear hm2 hb2)
            | (go_at_call_of 21 (Value.string wi); refine (add_any g g _ wi _ HM2.out HL2.out (by omega) (by have := HB2.out.size; omega)).mono ?_; rintro e w3 ⟨rfl, hm3, hb3⟩; rw [F2.out]; rw [F2.out, if_pos rfl] at hm3; have HM3 := Lib.hid hm3; have HB3 := Lib.hid hb3; clear hm3 hb3))
          go_roundw
          case measure =>
            show (r.extract (i + wh.size) r.size).size < r.size
            rw [ByteArray.size_extract]; omega
          case rel => exact ⟨_, _, rfl, by rw [ByteArray.size_extract]; omega, HL3'.out, by show _ = _; rw [htl.out, ← hrel.out, HN.out, len_list, hpl.out]; simp only [List.append_assoc], HM3, hbel.out.trans (HB2.out.trans HB3.out)⟩
        · have F2 := Lib.hid (fits_false hf2)
          have HL2 := Lib.hid hl2
          have HL3 := Lib.hid hf2
          clear hl2 hf2 hf
          go_wp2_with (first
            | (go_at_call 20; obtain ⟨m, hm⟩ := HMR.out; refine (Try.strings_Index r wh m _ (by omega) hm).mono ?_; rintro e w1 ⟨rfl, rfl⟩; rw [HX.out])
            | (go_at_call_of 21 (Value.string (r.extract 0 i)); refine (add_any g g l _ _ hmk.out hl (by omega) hsz).mono ?_; rintro e w2 ⟨rfl, hm2, hb2⟩; rw [F1.out]; rw [F1.out, if_pos rfl] at hm2; have HM2 := Lib.hid hm2; have HB2 := Lib.hid hb2; clear hm2 hb2)
            | (go_at_call_of 21 (Value.string wi); refine (add_any g g _ wi _ HM2.out HL2.out (by omega) (by have := HB2.out.size; omega)).mono ?_; rintro e w3 ⟨rfl, hm3, hb3⟩; rw [F2.out]; have HB3 := Lib.hid hb3; clear hm3 hb3))
          go_ret2
          have hlen : ¬ R.length < 4096 := by
            have h3 := HL3.out
            rw [← hrel.out, HN.out, ← hpl.out]
            simp only [List.length_append, len_list] at h3 ⊢
            omega
          exact ⟨ret_two (by rw [e1.out, topS_big hlen]) (by rw [e2.out, topC_big hlen]), by rw [HG.out]; exact hbel.out.trans (HB2.out.trans HB3.out)⟩
      · have F1 := Lib.hid (fits_false hf)
        have HL3 := Lib.hid hf
        clear hf
        go_wp2_with (first
          | (go_at_call 20; obtain ⟨m, hm⟩ := HMR.out; refine (Try.strings_Index r wh m _ (by omega) hm).mono ?_; rintro e w1 ⟨rfl, rfl⟩; rw [HX.out])
          | (go_at_call_of 21 (Value.string (r.extract 0 i)); refine (add_any g g l _ _ hmk.out hl (by omega) hsz).mono ?_; rintro e w2 ⟨rfl, hm2, hb2⟩; rw [F1.out]; have HB2 := Lib.hid hb2; clear hm2 hb2))
        go_ret2
        have hlen : ¬ R.length < 4096 := by
          have h3 := HL3.out
          rw [← hrel.out, HN.out, ← hpl.out]
          simp only [List.length_append, len_list] at h3 ⊢
          omega
        exact ⟨ret_two (by rw [e1.out, topS_big hlen]) (by rw [e2.out, topC_big hlen]), by rw [HG.out]; exact hbel.out.trans HB2.out⟩

theorem replace_any (s wh wi : ByteArray) (w : World) (hs : s.size ≤ 100000) (hh : wh.size ≤ 100000) (hi : wi.size ≤ 100000) (hm : MaxL w) :
    Calls Try.prog 9 #[.string s, .string wh, .string wi] w fun e w' => e = .returned (.tuple #[.string (repS s wh wi), .int .i64 (repC s wh wi)]) ∧ Below w.heap.size w w' := by
  by_cases h : wh.size = 0
  · have hem : wh.toList.isEmpty = true := by
      rw [ByteArray.toList_eq]
      have := len_list wh
      rw [h] at this
      rw [List.eq_nil_of_length_eq_zero this]; rfl
    have e1 := Lib.hid (show repS s wh wi = ⟨#[]⟩ from if_pos h)
    have e2 := Lib.hid (show repC s wh wi = 13 from if_pos h)
    clear h
    go_enter Try.func9, Try.ntmps9
    go_wp2
    go_ret2
    exact ⟨ret_two e1.out.symm e2.out.symm, Below.refl _ _⟩
  · exact replace_main s wh wi w hs hh hi hm h
end Go.Proofs.Ytnlbibfjhobmjaa
