/- The walk of the statement on what is said of texts. -/
import Derived.Test.YtnlbibfjhobmjaaDoorRefWords
import Derived.Test.YtnlbibfjhobmjaaDoorTurn
namespace Go.Proofs.YtnlbibfjhobmjaaDoor
open Go.RowKit
set_option maxRecDepth 100000

set_option maxHeartbeats 1000000 in
theorem refLower_any (s : ByteArray) (w : World) (hs : s.size ≤ 9223372036854775807) :
    Calls Tryd.prog 15 #[.string s] w fun e w' => e = .returned (.string (lower s)) ∧ Below w.heap.size w w' := by
  go_enter Tryd.func15, Tryd.ntmps15
  go_wp2_with (go_at_call 26; refine (refTurn_any loB 65 97 (by omega) (by omega) (by omega) (by omega) (fun c => by have := (lo_fin ⟨c.toNat, c.toNat_lt⟩).2; simpa using this) s _ hs).mono ?_; rintro e w1 ⟨rfl, hb1⟩; have HB1 := Lib.hid hb1; clear hb1)
  go_ret
  exact ⟨rfl, HB1.out⟩

set_option maxHeartbeats 4000000 in
theorem says_main (s t : ByteArray) (a b : Int) (w : World) (hs : s.size ≤ 300) (ht : t.size ≤ 100) (ha : I64 a) (hb : I64 b) (hm : MaxL w) :
    Calls Tryd.prog 3 #[.string s, .string t, .int .i64 a, .int .i64 b] w fun e w' => e = .returned (.bool true) ∧ Below w.heap.size w w' := by
  have HM := Lib.hid hm
  have HA := Lib.hid ha; have HB := Lib.hid hb
  clear hm ha hb
  have HMG := Lib.hid (show 0 < w.heap.size from by obtain ⟨m, h⟩ := HM.out; exact World.block_lt_of_cell? w (a := ⟨0, 0, none⟩) h)
  obtain ⟨X, hX⟩ : ∃ X, cutS s a b = X := ⟨_, rfl⟩
  obtain ⟨C, hC⟩ : ∃ C, cutC s a b = C := ⟨_, rfl⟩
  obtain ⟨I, hI⟩ : ∃ I, Lib.index s.data.toList t.data.toList = I := ⟨_, rfl⟩
  obtain ⟨J, hJ⟩ : ∃ J, Lib.lastIndex s.data.toList t.data.toList = J := ⟨_, rfl⟩
  obtain ⟨U, hU⟩ : ∃ U, upper s = U := ⟨_, rfl⟩
  obtain ⟨L, hL⟩ : ∃ L, lower s = L := ⟨_, rfl⟩
  obtain ⟨T, hT⟩ : ∃ T : ByteArray, ⟨(Lib.trimB s.data.toList 32).toArray⟩ = T := ⟨_, rfl⟩
  obtain ⟨ws, hws⟩ : ∃ ws, wordsS s = ws := ⟨_, rfl⟩
  have hwl : ws.length ≤ 1000000 := by
    have h1 : (words s.data.toList).length ≤ s.size := by
      have h2 := (joinT_bounds (words s.data.toList) (words_good _)).1
      have h3 := wl_len s.data.toList []
      rw [len_list] at h3
      simp only [List.length_nil, Nat.zero_add] at h3
      exact Nat.le_trans h2 h3
    rw [← hws]
    have h4 : (wordsS s).length = (words s.data.toList).length := by rw [← wordsS_list]; simp
    omega
  have hI1 : -1 ≤ I := by rw [← hI]; exact Lib.index_ge _ _
  have hI2 : I ≤ 1000 := by
    rw [← hI]
    rcases Lib.index_spec s.data.toList t.data.toList with ⟨h, _⟩ | ⟨i, h, h2, _⟩
    · rw [h]; omega
    · rw [h]; rw [len_list] at h2; omega
  have hJ1 : -1 ≤ J ∧ J ≤ 1000 := by
    rw [← hJ]
    unfold Lib.lastIndex
    split
    · rcases Lib.lastOcc_spec s.data.toList t.data.toList (s.data.toList.length - t.data.toList.length + 1) with ⟨h, _⟩ | ⟨i, h2, h, _⟩
      · rw [h]; omega
      · rw [h]; rw [len_list] at h2; omega
    · omega
  obtain ⟨hJ1, hJ2⟩ := hJ1
  have HX := Lib.hid hX; have HC := Lib.hid hC; have HI := Lib.hid hI; have HJ := Lib.hid hJ; have HU := Lib.hid hU; have HL := Lib.hid hL; have HT := Lib.hid hT; have HWS := Lib.hid hws
  clear hX hC hI hJ hU hL hT hws
  have hd1 : decide ((300 : Int) < (s.size : Int)) = false := by simp; omega
  have hd2 : decide ((100 : Int) < (t.size : Int)) = false := by simp; omega
  go_enter Tryd.func3, Tryd.ntmps3
  go_wp2_with (first
    | (go_at_call 5; refine (first3_any _).mono ?_; rintro e w1 ⟨rfl, rfl⟩)
    | (go_at_call 6; refine (cut_any s a b _ (by omega)).mono ?_; rintro e w1 ⟨rfl, rfl⟩; rw [HX.out, HC.out])
    | (go_at_call 7; refine (refCut_any s a b _ (by omega) HA.out HB.out).mono ?_; rintro e w1 ⟨rfl, rfl⟩; rw [HX.out, HC.out])
    | (go_at_call 8; refine (strIndex_any s t I _ (by omega) HM.out HI.out hI1 (by omega)).mono ?_; rintro e w1 ⟨rfl, rfl⟩)
    | (go_at_call 9; refine (refIndex_any s t _ (by omega) (by omega)).mono ?_; rintro e w1 ⟨rfl, rfl⟩; rw [HI.out])
    | (go_at_call 10; refine (strLast_any s t J _ (by omega) HJ.out hJ1 (by omega)).mono ?_; rintro e w1 ⟨rfl, rfl⟩)
    | (go_at_call 11; refine (refLast_any s t _ (by omega) (by omega)).mono ?_; rintro e w1 ⟨rfl, rfl⟩; rw [HJ.out])
    | (go_at_call 12; refine (upper_any s _ (by omega)).mono ?_; rintro e w2 ⟨rfl, hb2⟩; rw [HU.out]; have HB2 := Lib.hid hb2; clear hb2)
    | (go_at_call 13; refine (refUpper_any s _ (by omega)).mono ?_; rintro e w3 ⟨rfl, hb3⟩; rw [HU.out]; have HB3 := Lib.hid (HB2.out.trans (hb3.mono HB2.out.size)); clear hb3)
    | (go_at_call 14; refine (lower_any s _ (by omega)).mono ?_; rintro e w4 ⟨rfl, hb4⟩; rw [HL.out]; have HB4 := Lib.hid (HB3.out.trans (hb4.mono HB3.out.size)); clear hb4)
    | (go_at_call 15; refine (refLower_any s _ (by omega)).mono ?_; rintro e w5 ⟨rfl, hb5⟩; rw [HL.out]; have HB5 := Lib.hid (HB4.out.trans (hb5.mono HB4.out.size)); clear hb5)
    | (go_at_call 16; refine (trim_any s _ (by omega)).mono ?_; rintro e w6 ⟨rfl, hb6⟩; rw [HT.out]; have HB6 := Lib.hid (HB5.out.trans (hb6.mono HB5.out.size)); clear hb6)
    | (go_at_call 17; refine (refTrim_any s _ (by omega)).mono ?_; rintro e w1 ⟨rfl, rfl⟩; rw [HT.out])
    | (go_at_call 19; refine (words_any s _ (by omega)).mono ?_; rintro e w7 ⟨p, cap, rfl, hr7, hb7⟩; rw [HWS.out]; rw [HWS.out] at hr7; have HR7 := Lib.hid hr7; have HB7 := Lib.hid (HB6.out.trans (hb7.mono HB6.out.size)); clear hr7 hb7)
    | (go_at_call 20; refine (refWords_any s _ (by omega)).mono ?_; rintro e w8 ⟨p2, cap2, rfl, hr8, hb8⟩; rw [HWS.out]; rw [HWS.out] at hr8; have HR8 := Lib.hid hr8; have HR7' := Lib.hid ((HR7.out.below hb8).grow hb8.size); have HB8 := Lib.hid (HB7.out.trans (hb8.mono HB7.out.size)); clear hr8 hb8)
    | (go_at_call 18; refine (sameTexts_any ws _ _ _ _ _ _ _ HR7'.out HR8.out hwl).mono ?_; rintro e w9 ⟨rfl, hb9⟩; have HB9 := Lib.hid (HB8.out.trans (hb9.mono HB8.out.size)); clear hb9))
  go_ret
  exact ⟨rfl, HB9.out⟩

theorem says_all (s t : ByteArray) (a b : Int) (w : World) (hs : s.size ≤ 9223372036854775807) (ht : t.size ≤ 9223372036854775807) (ha : I64 a) (hb : I64 b) (hm : MaxL w) :
    Calls Tryd.prog 3 #[.string s, .string t, .int .i64 a, .int .i64 b] w fun e w' => e = .returned (.bool true) ∧ Below w.heap.size w w' := by
  by_cases h1 : 300 < s.size
  · have hd1 : decide ((300 : Int) < (s.size : Int)) = true := by simp; omega
    clear h1 ha hb hm
    go_enter Tryd.func3, Tryd.ntmps3
    go_wp2_with (go_at_call 5; refine (first3_any _).mono ?_; rintro e w1 ⟨rfl, rfl⟩)
    go_ret
    exact ⟨rfl, Below.refl _ _⟩
  · by_cases h2 : 100 < t.size
    · have hd1 : decide ((300 : Int) < (s.size : Int)) = false := by simp; omega
      have hd2 : decide ((100 : Int) < (t.size : Int)) = true := by simp; omega
      clear h1 h2 ha hb hm
      go_enter Tryd.func3, Tryd.ntmps3
      go_wp2_with (go_at_call 5; refine (first3_any _).mono ?_; rintro e w1 ⟨rfl, rfl⟩)
      go_ret
      exact ⟨rfl, Below.refl _ _⟩
    · exact says_main s t a b w (by omega) (by omega) ha hb hm
end Go.Proofs.YtnlbibfjhobmjaaDoor
