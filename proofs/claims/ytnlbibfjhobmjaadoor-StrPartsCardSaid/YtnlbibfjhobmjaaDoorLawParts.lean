/- The walk of the statement on parts. -/
import Derived.Test.YtnlbibfjhobmjaaDoorWords
import Derived.Test.YtnlbibfjhobmjaaDoorJoin
import Derived.Test.YtnlbibfjhobmjaaDoorTurn
import Derived.Laws.Concat
namespace Go.Proofs.YtnlbibfjhobmjaaDoor
open Go.RowKit
set_option maxRecDepth 100000
attribute [local go_sem ↓] run_string_add

theorem cut_at (s : ByteArray) (a b : Int) (A B : Nat) (X : ByteArray) (w : World) (hs : s.size ≤ 9223372036854775807) (ha : a = (A : Int) + 1) (hb : b = B) (hAB : A ≤ B) (hBS : B ≤ s.size) (hX : s.extract A B = X) :
    Calls Tryd.prog 6 #[.string s, .int .i64 a, .int .i64 b] w fun e w' => e = .returned (.tuple #[.string X, .int .i64 0]) ∧ w = w' := by
  subst ha hb hX
  exact cut_in s A B w hs hAB hBS
theorem lo_up3 (c : UInt8) : upB (loB (upB c)) = upB c := fin_all (P := fun c => upB (loB (upB c)) = upB c) (by decide +kernel) c
theorem up_lo_up (s : ByteArray) : upper (lower (upper s)) = upper s := by unfold lower upper; simp [Function.comp_def, lo_up3]
theorem upper_size' (s : ByteArray) : (upper s).size = s.size := by show (upper s).data.size = _; simp [upper]
theorem lower_size' (s : ByteArray) : (lower s).size = s.size := by show (lower s).data.size = _; simp [lower]

/-- The words joined: what they are. -/
theorem wjoin (s : ByteArray) : ∃ J : ByteArray, J = ⟨(joinL ⟨#[32]⟩ (wordsS s)).toArray⟩ ∧ (joinL ⟨#[32]⟩ (wordsS s)).length ≤ s.size ∧ J.size ≤ s.size ∧ wordsS J = wordsS s ∧ (⟨(Lib.trimB J.data.toList 32).toArray⟩ : ByteArray) = J ∧ (wordsS s).length ≤ s.size ∧ ∀ x ∈ wordsS s, x.size ≤ s.size := by
  have hjl : joinL ⟨#[32]⟩ (wordsS s) = joinT [32] (words s.data.toList) := by
    unfold joinL Lst
    rw [wordsS_list]
  have hlen : (joinL ⟨#[32]⟩ (wordsS s)).length ≤ s.size := by
    rw [hjl]
    have := wl_len s.data.toList []
    rw [len_list] at this
    simpa [words] using this
  have hJ : (⟨(joinL ⟨#[32]⟩ (wordsS s)).toArray⟩ : ByteArray).data.toList = joinT [32] (words s.data.toList) := by rw [hjl]
  have hinj : ∀ a b : List ByteArray, a.map (fun x => x.data.toList) = b.map (fun x => x.data.toList) → a = b := by
    intro a
    induction a with
    | nil => intro b h; cases b with
      | nil => rfl
      | cons y q => simp at h
    | cons x r ih => intro b h; cases b with
      | nil => simp at h
      | cons y q =>
        simp only [List.map_cons, List.cons.injEq] at h
        rw [ih q h.2, show x = y from by apply ByteArray.ext; apply Array.ext'; exact h.1]
  obtain ⟨m1, m2⟩ := joinT_bounds (words s.data.toList) (words_good _)
  rw [← hjl] at m1 m2
  refine ⟨_, rfl, hlen, ?_, ?_, ?_, ?_, ?_⟩
  · rw [← len_list]; exact hlen
  · apply hinj
    rw [wordsS_list, wordsS_list, hJ]
    exact words_join _ (words_good _)
  · apply ByteArray.ext; apply Array.ext'
    rw [hJ, trim_words]
  · have : (wordsS s).length = (words s.data.toList).length := by rw [← wordsS_list]; simp
    omega
  · intro x hx
    have := m2 x.data.toList (by rw [← wordsS_list]; exact List.mem_map.2 ⟨x, hx, rfl⟩)
    rw [len_list] at this
    omega

set_option maxHeartbeats 4000000 in
theorem parts_main (s : ByteArray) (at_ : Int) (w : World) (hs : s.size ≤ 300) (_hat : I64 at_) :
    Calls Tryd.prog 4 #[.string s, .int .i64 at_] w fun e w' => e = .returned (.bool true) ∧ Below w.heap.size w w' := by
  obtain ⟨J, hJ, j1, j2, j3, j4, j5, j6⟩ := wjoin s
  have HT := Lib.hid (show topS (joinL ⟨#[32]⟩ (wordsS s)) = J from by rw [topS_small (by omega), hJ])
  have HC := Lib.hid (show topC (joinL ⟨#[32]⟩ (wordsS s)) = 0 from topC_small (by omega))
  have HJ3 := Lib.hid j3; have HJ4 := Lib.hid j4; have HJ6 := Lib.hid j6
  clear hJ j1 j3 j4 j6
  have HU := Lib.hid (up_lo_up s)
  obtain ⟨U, hU⟩ : ∃ U, upper s = U := ⟨_, rfl⟩
  have hUz : U.size ≤ 300 := by rw [← hU, upper_size']; exact hs
  rw [hU] at HU
  obtain ⟨V, hV⟩ : ∃ V, lower U = V := ⟨_, rfl⟩
  have hVz : V.size ≤ 300 := by rw [← hV, lower_size']; exact hUz
  rw [hV] at HU
  have HU1 := Lib.hid hU; have HV1 := Lib.hid hV
  clear hU hV
  have HWL := Lib.hid j5
  obtain ⟨ws, hws⟩ : ∃ ws, wordsS s = ws := ⟨_, rfl⟩
  have HWS := Lib.hid hws
  have hwl : ws.length ≤ 300 := by rw [← hws]; omega
  clear hws j5
  have HB0 := Lib.hid (Below.refl w.heap.size w)
  have hd : decide ((300 : Int) < (s.size : Int)) = false := by simp; omega
  have hb := tmod_bounds at_ ((s.size : Int) + 1) (by omega)
  obtain ⟨T, hT⟩ : ∃ T, at_.tmod ((s.size : Int) + 1) = T := ⟨_, rfl⟩
  rw [hT] at hb
  obtain ⟨K, hK, hKs⟩ : ∃ K : Nat, (if T < 0 then T + (s.size : Int) + 1 else T) = (K : Int) ∧ K ≤ s.size := by
    by_cases h : T < 0
    · exact ⟨(T + (s.size : Int) + 1).toNat, by rw [if_pos h]; omega, by omega⟩
    · exact ⟨T.toNat, by rw [if_neg h]; omega, by omega⟩
  obtain ⟨X, hX⟩ : ∃ X, s.extract 0 K = X := ⟨_, rfl⟩
  obtain ⟨Y, hY⟩ : ∃ Y, s.extract K s.size = Y := ⟨_, rfl⟩
  have hXY : X ++ Y = s := by
    rw [← hX, ← hY]
    apply ByteArray.ext; apply Array.ext'
    simp
  have p1 : (X.size : Int) ≤ 8388608 := by rw [← hX, ByteArray.size_extract]; omega
  have p2 : (Y.size : Int) ≤ 8388608 := by rw [← hY, ByteArray.size_extract]; omega
  have HX := Lib.hid hX; have HY := Lib.hid hY
  clear hX hY
  have C3 := Lib.hid (fun W => cut_out s 0 1 W (by omega) (by omega) (by omega))
  have C4 := Lib.hid (fun W => cut_out s 1 ((s.size : Int) + 1) W (by omega) (by omega) (by omega))
  have C1 := Lib.hid (fun W => cut_at s 1 (K : Int) 0 K X W (by omega) (by omega) (by omega) (by omega) (by omega) HX.out)
  have C2 := Lib.hid (fun W => cut_at s ((K : Int) + 1) (s.size : Int) K s.size Y W (by omega) (by omega) (by omega) (by omega) (by omega) HY.out)
  by_cases hneg : T < 0
  · rw [if_pos hneg] at hK
    go_enter Tryd.func4, Tryd.ntmps4
    go_wp2_with (first
    | (go_at_call 5; refine (first3_any _).mono ?_; rintro e w1 ⟨rfl, rfl⟩)
    | (go_at_call_of 19 (Value.string s); refine (words_any s _ (by omega)).mono ?_; rintro e w2 ⟨p, cap, rfl, hr2, hb2⟩; rw [HWS.out]; rw [HWS.out] at hr2; have HR2 := Lib.hid hr2; have HB2 := Lib.hid hb2; clear hr2 hb2)
    | (go_at_call 21; refine (strJoin_any ⟨#[32]⟩ ws p cap _ HR2.out (by omega) (by decide) (by rw [← HWS.out]; intro x hx; have := HJ6.out x hx; omega)).mono ?_; rintro e w3 ⟨rfl, hb3⟩; rw [← HWS.out, HT.out, HC.out]; have HB3 := Lib.hid (HB2.out.trans (hb3.mono HB2.out.size)); have HR3 := Lib.hid ((HR2.out.below hb3).grow hb3.size); clear hb3)
    | (go_at_call_of 19 (Value.string J); refine (words_any J _ (by omega)).mono ?_; rintro e w4 ⟨p2, cap2, rfl, hr4, hb4⟩; rw [HJ3.out, HWS.out]; rw [HJ3.out, HWS.out] at hr4; have HR4 := Lib.hid hr4; have HB4 := Lib.hid (HB3.out.trans (hb4.mono HB3.out.size)); have HR5 := Lib.hid ((HR3.out.below hb4).grow hb4.size); clear hr4 hb4)
    | (go_at_call 18; refine (sameTexts_any ws _ _ _ _ _ _ _ HR4.out HR5.out (by omega)).mono ?_; rintro e w5 ⟨rfl, hb5⟩; have HB5 := Lib.hid (HB4.out.trans (hb5.mono HB4.out.size)); clear hb5)
    | (go_at_call 16; refine (trim_any J _ (by omega)).mono ?_; rintro e w6 ⟨rfl, hb6⟩; rw [HJ4.out]; have HB6 := Lib.hid (HB5.out.trans (hb6.mono HB5.out.size)); clear hb6)
    | (go_at_call 6; first | (with_reducible refine (C1.out _).mono ?_; rintro e w7 ⟨rfl, rfl⟩) | (with_reducible refine (C2.out _).mono ?_; rintro e w7 ⟨rfl, rfl⟩) | (with_reducible refine (C3.out _).mono ?_; rintro e w7 ⟨rfl, rfl⟩) | (with_reducible refine (C4.out _).mono ?_; rintro e w7 ⟨rfl, rfl⟩))
    | (go_at_call_of 12 (Value.string V); refine (upper_any V _ (by omega)).mono ?_; rintro e w8 ⟨rfl, hb8⟩; rw [HU.out]; have HB8 := Lib.hid (HB7.out.trans (hb8.mono HB7.out.size)); clear hb8)
    | (go_at_call 14; refine (lower_any U _ (by omega)).mono ?_; rintro e w9 ⟨rfl, hb9⟩; rw [HV1.out]; have HB7 := Lib.hid (HB6'.out.trans (hb9.mono HB6'.out.size)); clear hb9)
    | (go_at_call_of 12 (Value.string s); first | (refine (upper_any s _ (by omega)).mono ?_; rintro e w10 ⟨rfl, hb10⟩; rw [HU1.out]; have HB9 := Lib.hid (HB8.out.trans (hb10.mono HB8.out.size)); clear hb10) | (refine (upper_any s _ (by omega)).mono ?_; rintro e w10 ⟨rfl, hb10⟩; rw [HU1.out]; have HB6' := Lib.hid (HB6.out.trans (hb10.mono HB6.out.size)); clear hb10)))
    go_ret
    exact ⟨rfl, HB9.out⟩
  · rw [if_neg hneg] at hK
    go_enter Tryd.func4, Tryd.ntmps4
    go_wp2_with (first
    | (go_at_call 5; refine (first3_any _).mono ?_; rintro e w1 ⟨rfl, rfl⟩)
    | (go_at_call_of 19 (Value.string s); refine (words_any s _ (by omega)).mono ?_; rintro e w2 ⟨p, cap, rfl, hr2, hb2⟩; rw [HWS.out]; rw [HWS.out] at hr2; have HR2 := Lib.hid hr2; have HB2 := Lib.hid hb2; clear hr2 hb2)
    | (go_at_call 21; refine (strJoin_any ⟨#[32]⟩ ws p cap _ HR2.out (by omega) (by decide) (by rw [← HWS.out]; intro x hx; have := HJ6.out x hx; omega)).mono ?_; rintro e w3 ⟨rfl, hb3⟩; rw [← HWS.out, HT.out, HC.out]; have HB3 := Lib.hid (HB2.out.trans (hb3.mono HB2.out.size)); have HR3 := Lib.hid ((HR2.out.below hb3).grow hb3.size); clear hb3)
    | (go_at_call_of 19 (Value.string J); refine (words_any J _ (by omega)).mono ?_; rintro e w4 ⟨p2, cap2, rfl, hr4, hb4⟩; rw [HJ3.out, HWS.out]; rw [HJ3.out, HWS.out] at hr4; have HR4 := Lib.hid hr4; have HB4 := Lib.hid (HB3.out.trans (hb4.mono HB3.out.size)); have HR5 := Lib.hid ((HR3.out.below hb4).grow hb4.size); clear hr4 hb4)
    | (go_at_call 18; refine (sameTexts_any ws _ _ _ _ _ _ _ HR4.out HR5.out (by omega)).mono ?_; rintro e w5 ⟨rfl, hb5⟩; have HB5 := Lib.hid (HB4.out.trans (hb5.mono HB4.out.size)); clear hb5)
    | (go_at_call 16; refine (trim_any J _ (by omega)).mono ?_; rintro e w6 ⟨rfl, hb6⟩; rw [HJ4.out]; have HB6 := Lib.hid (HB5.out.trans (hb6.mono HB5.out.size)); clear hb6)
    | (go_at_call 6; first | (with_reducible refine (C1.out _).mono ?_; rintro e w7 ⟨rfl, rfl⟩) | (with_reducible refine (C2.out _).mono ?_; rintro e w7 ⟨rfl, rfl⟩) | (with_reducible refine (C3.out _).mono ?_; rintro e w7 ⟨rfl, rfl⟩) | (with_reducible refine (C4.out _).mono ?_; rintro e w7 ⟨rfl, rfl⟩))
    | (go_at_call_of 12 (Value.string V); refine (upper_any V _ (by omega)).mono ?_; rintro e w8 ⟨rfl, hb8⟩; rw [HU.out]; have HB8 := Lib.hid (HB7.out.trans (hb8.mono HB7.out.size)); clear hb8)
    | (go_at_call 14; refine (lower_any U _ (by omega)).mono ?_; rintro e w9 ⟨rfl, hb9⟩; rw [HV1.out]; have HB7 := Lib.hid (HB6'.out.trans (hb9.mono HB6'.out.size)); clear hb9)
    | (go_at_call_of 12 (Value.string s); first | (refine (upper_any s _ (by omega)).mono ?_; rintro e w10 ⟨rfl, hb10⟩; rw [HU1.out]; have HB9 := Lib.hid (HB8.out.trans (hb10.mono HB8.out.size)); clear hb10) | (refine (upper_any s _ (by omega)).mono ?_; rintro e w10 ⟨rfl, hb10⟩; rw [HU1.out]; have HB6' := Lib.hid (HB6.out.trans (hb10.mono HB6.out.size)); clear hb10)))
    go_ret
    exact ⟨rfl, HB9.out⟩

theorem parts_all (s : ByteArray) (at_ : Int) (w : World) (hs : s.size ≤ 9223372036854775807) (hat : I64 at_) :
    Calls Tryd.prog 4 #[.string s, .int .i64 at_] w fun e w' => e = .returned (.bool true) ∧ Below w.heap.size w w' := by
  by_cases h : s.size ≤ 300
  · exact parts_main s at_ w h hat
  · have hd1 : decide ((300 : Int) < (s.size : Int)) = true := by simp; omega
    clear h hat
    go_enter Tryd.func4, Tryd.ntmps4
    go_wp2_with (go_at_call 5; refine (first3_any _).mono ?_; rintro e w1 ⟨rfl, rfl⟩)
    go_ret
    exact ⟨rfl, Below.refl _ _⟩
end Go.Proofs.YtnlbibfjhobmjaaDoor
