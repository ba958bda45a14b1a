/- The walk of the statement on finding. -/
import Derived.Test.YtnlbibfjhobmjaaFind
import Derived.Laws.Concat
namespace Go.Proofs.Ytnlbibfjhobmjaa
open Go.RowKit
set_option maxRecDepth 100000
attribute [local go_sem ↓] run_string_add

theorem bytes_ext {a b : ByteArray} (h : a.data.toList = b.data.toList) : a = b := by
  apply ByteArray.ext; apply Array.ext'; exact h
theorem ext_list (s : ByteArray) (i j : Nat) : (s.extract i j).data.toList = (s.data.toList.drop i).take (j - i) := by
  simp
theorem size_list (s : ByteArray) : s.data.toList.length = s.size := by simp
theorem app_list (a b : ByteArray) : (a ++ b).data.toList = a.data.toList ++ b.data.toList := by simp

theorem cut_at (s : ByteArray) (a b : Int) (A B : Nat) (X : ByteArray) (w : World) (hs : s.size ≤ 9223372036854775807) (ha : a = (A : Int) + 1) (hb : b = B) (hAB : A ≤ B) (hBS : B ≤ s.size) (hX : s.extract A B = X) :
    Calls Try.prog 16 #[.string s, .int .i64 a, .int .i64 b] w fun e w' => e = .returned (.tuple #[.string X, .int .i64 0]) ∧ w = w' := by
  subst ha hb hX
  exact cut_in s A B w hs hAB hBS

/-- The text t laid into s at k: what is then found. -/
theorem laid_in (s t : ByteArray) (k : Nat) (hk : k ≤ s.size) (A : ByteArray) (hA : A = s.extract 0 k ++ t ++ s.extract k s.size) :
    ∃ I J : Nat, A.size = s.size + t.size ∧ Lib.index A.data.toList t.data.toList = I ∧ Lib.lastIndex A.data.toList t.data.toList = J ∧ I ≤ k ∧ k ≤ J ∧ J + t.size ≤ s.size + t.size ∧ A.extract I (I + t.size) = t ∧ A.extract J (J + t.size) = t ∧
      (0 < t.size → ∀ x, x = I + t.size - 1 → Lib.index (A.extract 0 x).data.toList t.data.toList = -1) := by
  have hl : A.data.toList = s.data.toList.take k ++ t.data.toList ++ s.data.toList.drop k := by
    rw [hA, app_list, app_list, ext_list, ext_list]
    simp
    rw [List.take_of_length_le (by simp)]
  have hz : A.size = s.size + t.size := by
    rw [← size_list, hl]; simp; omega
  have hkl : (s.data.toList.take k).length = k := by simp; omega
  have ho : Lib.occAt A.data.toList t.data.toList k = true := by
    apply occ_of_take
    rw [hl, List.append_assoc, List.drop_append, hkl]
    simp
  obtain ⟨I, J, h1, h2, h3, h4, h5, h6, h7, h8, h9⟩ := finds A.data.toList t.data.toList k ho (by rw [size_list, size_list]; omega)
  rw [size_list] at h5 h6 h7 h8 h9
  rw [size_list] at h5 h6
  refine ⟨I, J, hz, h1, h2, h3, h4, by omega, bytes_ext ?_, bytes_ext ?_, fun ht x hx => ?_⟩
  · rw [ext_list, Nat.add_sub_cancel_left]; exact h7
  · rw [ext_list, Nat.add_sub_cancel_left]; exact h8
  · subst hx
    rw [ext_list]
    exact h9 (fun h => by rw [← size_list, h] at ht; simp at ht)

set_option maxHeartbeats 4000000 in
theorem finds_main (s t : ByteArray) (at_ : Int) (w : World) (hs : s.size ≤ 200) (ht : t.size ≤ 20) (hat : I64 at_) (hm : MaxL w) :
    Calls Try.prog 4 #[.string s, .string t, .int .i64 at_] w fun e w' => e = .returned (.bool true) ∧ Below w.heap.size w w' := by
  have HM := Lib.hid hm
  have HAT := Lib.hid hat
  clear hm hat
  obtain ⟨k, hk, hks⟩ : ∃ k : Nat, Hid (numB at_ ((s.size : Int) + 1) = (k : Int)) ∧ k ≤ s.size := by
    have h1 := Int.emod_nonneg at_ (b := (s.size : Int) + 1) (by omega)
    have h2 := Int.emod_lt_of_pos at_ (b := (s.size : Int) + 1) (by omega)
    refine ⟨(at_ % ((s.size : Int) + 1)).toNat, ?_, by omega⟩
    show _ = _
    unfold numB; omega
  obtain ⟨A, hA⟩ : ∃ A, A = s.extract 0 k ++ t ++ s.extract k s.size := ⟨_, rfl⟩
  obtain ⟨I, J, hz, h1, h2, hIk, hkJ, hJ, h3, h4, h5⟩ := laid_in s t k hks A hA
  have HI := Lib.hid h1; have HJ := Lib.hid h2; have HA1 := Lib.hid h3; have HA2 := Lib.hid h4; have HN := Lib.hid h5
  clear h1 h2 h3 h4 h5
  obtain ⟨P, hP⟩ : ∃ P, s.extract 0 k = P := ⟨_, rfl⟩
  obtain ⟨Q, hQ⟩ : ∃ Q, s.extract k s.size = Q := ⟨_, rfl⟩
  have p1 : (P.size : Int) ≤ 8388608 := by rw [← hP, ByteArray.size_extract]; omega
  have p2 : (Q.size : Int) ≤ 8388608 := by rw [← hQ, ByteArray.size_extract]; omega
  have p3 : (t.size : Int) ≤ 8388608 := by omega
  rw [hP, hQ] at hA
  obtain ⟨R, hR⟩ : ∃ R, P ++ t = R := ⟨_, rfl⟩
  have p4 : (R.size : Int) ≤ 8388608 := by rw [← hR, ByteArray.size_append, ← hP, ByteArray.size_extract]; omega
  rw [hR] at hA
  have hA' := hA.symm
  clear hA
  have hd1 : decide ((200 : Int) < (s.size : Int)) = false := by simp; omega
  have hd2 : decide ((20 : Int) < (t.size : Int)) = false := by simp; omega
  go_enter Try.func4, Try.ntmps4
  go_wp2_with (first
    | (go_at_call 7; refine (first3_any _).mono ?_; rintro e w1 ⟨rfl, rfl⟩)
    | (go_at_call 13; refine (number_any _ _ _ HAT.out (by omega) (by omega)).mono ?_; rintro e w2 ⟨rfl, rfl⟩; rw [hk.out]))
  go_quiet (fail)
  have HM2 := fun nq => Lib.hid (HM.out.below (below_drewN (Below.refl w.heap.size w) nq) (by obtain ⟨m, h⟩ := HM.out; exact World.block_lt_of_cell? w (a := ⟨0, 0, none⟩) h))
  have HB2 := fun nq => Lib.hid (below_drewN (Below.refl w.heap.size w) nq)
  clear hP hQ hR hA' p1 p2 p3 p4 hd1 hd2
  have CI := Lib.hid (fun W => cut_at A ((I : Int) + 1) ((I : Int) + 1 + (t.size : Int) - 1) I (I + t.size) t W (by omega) (by omega) (by omega) (by omega) (by omega) HA1.out)
  have CJ := Lib.hid (fun W => cut_at A ((J : Int) + 1) ((J : Int) + 1 + (t.size : Int) - 1) J (J + t.size) t W (by omega) (by omega) (by omega) (by omega) (by omega) HA2.out)
  rcases Nat.eq_zero_or_pos t.size with h0 | h0
  · have h0' : ((t.size : Int) == 0) = true := by simp [h0]
    have H0 := Lib.hid h0; clear h0
    go_wp2_with (first
      | (go_at_call 14; refine (strIndex_any A t I _ (by omega) (HM2 _).out HI.out (by omega) (by omega)).mono ?_; rintro e w3 ⟨rfl, rfl⟩)
      | (go_at_call 15; refine (strLast_any A t J _ (by omega) HJ.out (by omega) (by omega)).mono ?_; rintro e w4 ⟨rfl, rfl⟩)
      | (go_at_call 16; first | (with_reducible refine (CI.out _).mono ?_; rintro e w5 ⟨rfl, rfl⟩) | (with_reducible refine (CJ.out _).mono ?_; rintro e w5 ⟨rfl, rfl⟩)))
    go_ret
    exact ⟨rfl, (HB2 _).out⟩
  · have h0' : ((t.size : Int) == 0) = false := beq_eq_false_iff_ne.2 (by omega)
    have q1 : (0 : Int) ≤ (I : Int) + 1 + (t.size : Int) - 2 := by omega
    have q2 : (I : Int) + 1 + (t.size : Int) - 2 ≤ (A.size : Int) := by omega
    have CN := Lib.hid (fun W hm => strIndex_any (A.extract 0 (I + 1 + t.size - 2)) t (-1) W (by rw [ByteArray.size_extract]; omega) hm (HN.out h0 _ (by omega)) (by omega) (by omega))
    go_wp2_with (first
      | (go_at_call_of 14 (Value.string A); refine (strIndex_any A t I _ (by omega) (HM2 _).out HI.out (by omega) (by omega)).mono ?_; rintro e w3 ⟨rfl, rfl⟩)
      | (go_at_call 15; refine (strLast_any A t J _ (by omega) HJ.out (by omega) (by omega)).mono ?_; rintro e w4 ⟨rfl, rfl⟩)
      | (go_at_call 16; first | (with_reducible refine (CI.out _).mono ?_; rintro e w5 ⟨rfl, rfl⟩) | (with_reducible refine (CJ.out _).mono ?_; rintro e w5 ⟨rfl, rfl⟩))
      | (go_at_call 14; with_reducible refine (CN.out _ (HM2 _).out).mono ?_; rintro e w3 ⟨rfl, rfl⟩))
    go_ret
    exact ⟨rfl, (HB2 _).out⟩
theorem finds_early (s t : ByteArray) (at_ : Int) (w : World) (hs : s.size ≤ 9223372036854775807) (ht : t.size ≤ 9223372036854775807) (h : 200 < s.size ∨ 20 < t.size) :
    Calls Try.prog 4 #[.string s, .string t, .int .i64 at_] w fun e w' => e = .returned (.bool true) ∧ Below w.heap.size w w' := by
  by_cases h1 : 200 < s.size
  · have hd1 : decide ((200 : Int) < (s.size : Int)) = true := by simp; omega
    clear h h1
    go_enter Try.func4, Try.ntmps4
    go_wp2_with (go_at_call 7; refine (first3_any _).mono ?_; rintro e w1 ⟨rfl, rfl⟩)
    go_ret
    exact ⟨rfl, Below.refl _ _⟩
  · have hd1 : decide ((200 : Int) < (s.size : Int)) = false := by simp; omega
    have hd2 : decide ((20 : Int) < (t.size : Int)) = true := by simp; omega
    clear h h1
    go_enter Try.func4, Try.ntmps4
    go_wp2_with (go_at_call 7; refine (first3_any _).mono ?_; rintro e w1 ⟨rfl, rfl⟩)
    go_ret
    exact ⟨rfl, Below.refl _ _⟩
theorem finds_all (s t : ByteArray) (at_ : Int) (w : World) (hs : s.size ≤ 9223372036854775807) (ht : t.size ≤ 9223372036854775807) (hat : I64 at_) (hm : MaxL w) :
    Calls Try.prog 4 #[.string s, .string t, .int .i64 at_] w fun e w' => e = .returned (.bool true) ∧ Below w.heap.size w w' := by
  by_cases h : 200 < s.size ∨ 20 < t.size
  · exact finds_early s t at_ w hs ht h
  · exact finds_main s t at_ w (by omega) (by omega) hat hm
end Go.Proofs.Ytnlbibfjhobmjaa
