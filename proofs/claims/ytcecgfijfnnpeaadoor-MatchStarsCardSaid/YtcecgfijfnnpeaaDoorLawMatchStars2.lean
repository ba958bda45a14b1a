/- The walk of the statement on stars: the way of names. -/
import Derived.Test.YtcecgfijfnnpeaaDoorLawMatchStars
namespace Go.Proofs.YtcecgfijfnnpeaaDoor.Mt
open Go.RowKit
set_option maxRecDepth 100000

theorem ext_data (s : ByteArray) (k : Nat) : (s.extract 0 k).data.toList = s.data.toList.take k := by rw [Lib.extract_data]; simp
set_option maxHeartbeats 4000000 in
theorem stars_main (a b : ByteArray) (n : Int) (w : World) (hn : I64 n) (hM : MaxL w) (ha : a.size ≤ 10) (hb : b.size ≤ 10) (ha0 : 0 < a.size) (hb0 : 0 < b.size)
    (h1 : validB (a ++ b).data.toList = true) (h2 : validB a.data.toList = true) (h3 : plainB (a ++ b).data.toList = true) :
    Calls Tryd.prog 4 #[.string a, .string b, .int .i64 n] w fun e w' => e = .returned (.bool true) ∧ Below w.heap.size w w' := by
  have F := Lib.hid (first10_any w hM)
  have d1 : decide ((10 : Int) < (a.size : Int)) = false := by simp; omega
  have d2 : decide ((10 : Int) < (b.size : Int)) = false := by simp; omega
  have d3 : ((a.size : Int) == 0) = false := by rw [beq_eq_false_iff_ne]; omega
  have d4 : ((b.size : Int) == 0) = false := by rw [beq_eq_false_iff_ne]; omega
  have hz : (a ++ b).size = a.size + b.size := by simp
  have eAB := data_app a b
  have eAS : (a ++ ⟨#[42]⟩).data.toList = a.data.toList ++ [42] := data_app a ⟨#[42]⟩
  have eP : ((a ++ ⟨#[42]⟩) ++ b).data.toList = a.data.toList ++ 42 :: b.data.toList := by rw [data_app, eAS, List.append_assoc]; rfl
  have eOT : (⟨#[111, 116, 104, 101, 114, 32]⟩ ++ ((a ++ ⟨#[42]⟩) ++ b)).data.toList = [111, 116, 104, 101, 114, 32] ++ (a.data.toList ++ 42 :: b.data.toList) := by rw [data_app, eP]
  have eX : ((a ++ b) ++ ⟨#[120]⟩).data.toList = a.data.toList ++ b.data.toList ++ [120] := by rw [data_app, eAB]
  obtain ⟨a1, ha1⟩ : ∃ a1, a.size = a1 + 1 := ⟨a.size - 1, by omega⟩
  have eE1 : (a.extract 0 a1).data.toList = a.data.toList.take (a.data.toList.length - 1) := by rw [ext_data, len_data, ha1]; rfl
  have eEC : ((a ++ b).extract 0 (a.size + b.size - 1)).data.toList = (a.data.toList ++ b.data.toList).take ((a.data.toList ++ b.data.toList).length - 1) := by rw [ext_data, eAB, List.length_append, len_data, len_data]
  obtain ⟨r, hr⟩ : ∃ r : Nat, n % ((b.size : Int) + 1) = (r : Int) := ⟨(n % ((b.size : Int) + 1)).toNat, by have := Int.emod_nonneg n (show ((b.size : Int) + 1) ≠ 0 by omega); omega⟩
  have hrb : r ≤ b.size := by have := Int.emod_lt_of_pos n (show 0 < ((b.size : Int) + 1) by omega); omega
  have eEK : ((a ++ b).extract 0 (a.size + r)).data.toList = (a.data.toList ++ b.data.toList).take (a.size + r) := by rw [ext_data, eAB]
  have hk : a.data.toList.length ≤ a.size + r := by rw [len_data]; omega
  have h42 : 42 ∉ a.data.toList ++ b.data.toList ∧ 32 ∉ a.data.toList ++ b.data.toList := by
    rw [eAB] at h3
    unfold plainB at h3
    rw [List.all_eq_true] at h3
    exact ⟨fun h => by have := h3 _ h; simp at this, fun h => by have := h3 _ h; simp at this⟩
  have S := stars_all (a := a.data.toList) (b := b.data.toList) (by rw [len_data]; omega) (by rw [len_data]; omega) (by rw [len_data]; omega) (by rw [len_data]; omega) (by rw [← eAB]; exact h1) h2 h42.1 h42.2
  have zAB : (a ++ b).size ≤ 1000000 := by omega
  have zA : a.size ≤ 1000000 := by omega
  have zO : (⟨#[42]⟩ : ByteArray).size ≤ 1000000 := by decide
  have zAS : (a ++ ⟨#[42]⟩).size ≤ 1000000 := by rw [ByteArray.size_append]; have : (⟨#[42]⟩ : ByteArray).size = 1 := rfl; omega
  have zP : ((a ++ ⟨#[42]⟩) ++ b).size ≤ 1000000 := by rw [ByteArray.size_append, ByteArray.size_append]; have : (⟨#[42]⟩ : ByteArray).size = 1 := rfl; omega
  have zOT : (⟨#[111, 116, 104, 101, 114, 32]⟩ ++ ((a ++ ⟨#[42]⟩) ++ b)).size ≤ 1000000 := by rw [ByteArray.size_append, ByteArray.size_append, ByteArray.size_append]; have : (⟨#[42]⟩ : ByteArray).size = 1 := rfl; have : (⟨#[111, 116, 104, 101, 114, 32]⟩ : ByteArray).size = 6 := rfl; omega
  have HNUM := Lib.hid (fun (W : World) => by have := number6_any n ((b.size : Int) + 1) W hn (by omega) (by omega); rw [hr] at this; exact this)
  have V0 := Lib.hid (fun (W : World) (h : MaxL W) => by have := valid_any (a ++ b) W zAB h; rw [show validB (a ++ b).data.toList = true from h1] at this; exact this)
  have V1 := Lib.hid (fun (W : World) (h : MaxL W) => by have := valid_any a W zA h; rw [show validB a.data.toList = true from h2] at this; exact this)
  have V2 := Lib.hid (fun (W : World) => by have := plainName_any (a ++ b) zAB W; rw [h3] at this; exact this)
  have V3 := Lib.hid (fun (W : World) (h : MaxL W) => by have := valid_any ((a ++ ⟨#[42]⟩) ++ b) W zP h; rw [show validB ((a ++ ⟨#[42]⟩) ++ b).data.toList = true from (by rw [eP]; exact S.vp)] at this; exact this)
  have V4 := Lib.hid (fun (W : World) (h : MaxL W) => by have := verb_any (a ++ b) (a ++ b) W zAB h; rw [show verbB (a ++ b).data.toList (a ++ b).data.toList = true from (by rw [eAB]; exact S.aa)] at this; exact this)
  have V5 := Lib.hid (fun (W : World) (h : MaxL W) => by have := verb_any ((a ++ ⟨#[42]⟩) ++ b) (a ++ b) W zP h; rw [show verbB ((a ++ ⟨#[42]⟩) ++ b).data.toList (a ++ b).data.toList = true from (by rw [eP, eAB]; exact S.pa)] at this; exact this)
  have V6 := Lib.hid (fun (W : World) (h : MaxL W) => by have := verb_any ((a ++ ⟨#[42]⟩) ++ b) a W zP h; rw [show verbB ((a ++ ⟨#[42]⟩) ++ b).data.toList a.data.toList = true from (by rw [eP]; exact S.pb)] at this; exact this)
  have V7 := Lib.hid (fun (W : World) (h : MaxL W) => by have := verb_any ((a ++ ⟨#[42]⟩) ++ b) ((a ++ b) ++ ⟨#[120]⟩) W zP h; rw [show verbB ((a ++ ⟨#[42]⟩) ++ b).data.toList ((a ++ b) ++ ⟨#[120]⟩).data.toList = false from (by rw [eP, eX]; exact S.px _)] at this; exact this)
  have V8 := Lib.hid (fun (W : World) (h : MaxL W) => by have := verb_any ((a ++ ⟨#[42]⟩) ++ b) (a.extract 0 a1) W zP h; rw [show verbB ((a ++ ⟨#[42]⟩) ++ b).data.toList (a.extract 0 a1).data.toList = false from (by rw [eP, eE1]; exact S.ps)] at this; exact this)
  have V9 := Lib.hid (fun (W : World) (h : MaxL W) => by have := verb_any (a ++ ⟨#[42]⟩) (a ++ b) W zAS h; rw [show verbB (a ++ ⟨#[42]⟩).data.toList (a ++ b).data.toList = true from (by rw [eAS, eAB]; exact S.sa)] at this; exact this)
  have V10 := Lib.hid (fun (W : World) (h : MaxL W) => by have := verb_any (⟨#[42]⟩ : ByteArray) (a ++ b) W zO h; rw [show verbB (⟨#[42]⟩ : ByteArray).data.toList (a ++ b).data.toList = true from (by rw [eAB]; exact S.s1)] at this; exact this)
  have V12 := Lib.hid (fun (W : World) (h : MaxL W) => by have := verb_any ((a ++ ⟨#[42]⟩) ++ b) ((a ++ b).extract 0 (a.size + r)) W zP h; rw [show verbB ((a ++ ⟨#[42]⟩) ++ b).data.toList ((a ++ b).extract 0 (a.size + r)).data.toList = true from (by rw [eP, eEK]; exact S.pk _ hk)] at this; exact this)
  have V13 := Lib.hid (fun (W : World) (h : MaxL W) => by have := verb_any (⟨#[111, 116, 104, 101, 114, 32]⟩ ++ ((a ++ ⟨#[42]⟩) ++ b)) ((a ++ b).extract 0 (a.size + r)) W zOT h; rw [show verbB (⟨#[111, 116, 104, 101, 114, 32]⟩ ++ ((a ++ ⟨#[42]⟩) ++ b)).data.toList ((a ++ b).extract 0 (a.size + r)).data.toList = true from (by rw [eOT, eEK]; exact S.ok _ hk)] at this; exact this)
  have V14 := Lib.hid (fun (W : World) (h : MaxL W) => by have := verb_any (a ++ b) ((a ++ b).extract 0 (a.size + b.size - 1)) W zAB h; rw [show verbB (a ++ b).data.toList ((a ++ b).extract 0 (a.size + b.size - 1)).data.toList = false from (by rw [eAB, eEC]; exact S.as)] at this; exact this)
  have HM := Lib.hid hM
  have k1 : (a.size : Int) - 1 = (a1 : Int) := by omega
  have k3 : a1 ≤ a.size := by omega
  have k5 : a.size + r ≤ (a ++ b).size := by omega
  have HA1 := Lib.hid ha1
  have HR := Lib.hid hr
  have HZ := Lib.hid hz
  clear hM h1 h2 h3 h42 S eAB eAS eP eOT eX eE1 eEC eEK hk zAB zA zO zAS zP zOT ha1 hr hz
  go_enter Tryd.func4, Tryd.ntmps4
  go_wp2_with (first
    | (go_at_call 8; refine F.out.mono ?_; rintro e w1 ⟨rfl, hb1⟩; have HB1 := Lib.hid hb1; have HM1 := Lib.hid (HM.out.below hb1); clear hb1)
    | (go_at_call 13; (first | (with_reducible refine (V0.out _ HM1.out).mono ?_; rintro e w2 ⟨rfl, hb2⟩; have HB2 := Lib.hid (HB1.out.trans (hb2.mono HB1.out.size)); have HM2 := Lib.hid (HM1.out.below hb2); clear hb2) | (with_reducible refine (V1.out _ HM2.out).mono ?_; rintro e w3 ⟨rfl, hb3⟩; have HB3 := Lib.hid (HB2.out.trans (hb3.mono HB2.out.size)); have HM3 := Lib.hid (HM2.out.below hb3); clear hb3) | (with_reducible refine (V3.out _ HM3.out).mono ?_; rintro e w4 ⟨rfl, hb4⟩; have HB4 := Lib.hid (HB3.out.trans (hb4.mono HB3.out.size)); have HM4 := Lib.hid (HM3.out.below hb4); clear hb4)))
    | (go_at_call 15; (first | (with_reducible refine (V4.out _ HM4.out).mono ?_; rintro e w5 ⟨rfl, hb5⟩; have HB5 := Lib.hid (HB4.out.trans (hb5.mono HB4.out.size)); have HM5 := Lib.hid (HM4.out.below hb5); clear hb5) | (with_reducible refine (V5.out _ HM5.out).mono ?_; rintro e w6 ⟨rfl, hb6⟩; have HB6 := Lib.hid (HB5.out.trans (hb6.mono HB5.out.size)); have HM6 := Lib.hid (HM5.out.below hb6); clear hb6) | (with_reducible refine (V6.out _ HM6.out).mono ?_; rintro e w7 ⟨rfl, hb7⟩; have HB7 := Lib.hid (HB6.out.trans (hb7.mono HB6.out.size)); have HM7 := Lib.hid (HM6.out.below hb7); clear hb7) | (with_reducible refine (V7.out _ HM7.out).mono ?_; rintro e w8 ⟨rfl, hb8⟩; have HB8 := Lib.hid (HB7.out.trans (hb8.mono HB7.out.size)); have HM8 := Lib.hid (HM7.out.below hb8); clear hb8) | (with_reducible refine (V8.out _ HM8.out).mono ?_; rintro e w9 ⟨rfl, hb9⟩; have HB9 := Lib.hid (HB8.out.trans (hb9.mono HB8.out.size)); have HM9 := Lib.hid (HM8.out.below hb9); clear hb9) | (with_reducible refine (V9.out _ HM9.out).mono ?_; rintro e w10 ⟨rfl, hb10⟩; have HB10 := Lib.hid (HB9.out.trans (hb10.mono HB9.out.size)); have HM10 := Lib.hid (HM9.out.below hb10); clear hb10) | (with_reducible refine (V10.out _ HM10.out).mono ?_; rintro e w11 ⟨rfl, hb11⟩; have HB11 := Lib.hid (HB10.out.trans (hb11.mono HB10.out.size)); have HM11 := Lib.hid (HM10.out.below hb11); clear hb11) | (with_reducible refine (V12.out _ HM11.out).mono ?_; rintro e w12 ⟨rfl, hb12⟩; have HB12 := Lib.hid (HB11.out.trans (hb12.mono HB11.out.size)); have HM12 := Lib.hid (HM11.out.below hb12); clear hb12) | (with_reducible refine (V13.out _ HM12.out).mono ?_; rintro e w13 ⟨rfl, hb13⟩; have HB13 := Lib.hid (HB12.out.trans (hb13.mono HB12.out.size)); have HM13 := Lib.hid (HM12.out.below hb13); clear hb13) | (with_reducible refine (V14.out _ HM13.out).mono ?_; rintro e w14 ⟨rfl, hb14⟩; have HB14 := Lib.hid (HB13.out.trans (hb14.mono HB13.out.size)); have HM14 := Lib.hid (HM13.out.below hb14); clear hb14)))
    | (go_at_call 23; refine (V2.out _).mono ?_; rintro e wp ⟨rfl, rfl⟩)
    | (go_at_call 24; refine (HNUM.out _).mono ?_; rintro e wn ⟨rfl, rfl⟩))
  go_ret; exact ⟨rfl, HB14.out⟩

theorem stars_all10 (a b : ByteArray) (n : Int) (w : World) (hn : I64 n) (hM : MaxL w) :
    Calls Tryd.prog 4 #[.string a, .string b, .int .i64 n] w fun e w' => e = .returned (.bool true) ∧ Below w.heap.size w w' := by
  by_cases h : 10 < a.size ∨ 10 < b.size ∨ a.size = 0 ∨ b.size = 0
  · exact stars_out a b n w hM h
  · cases h1 : validB (a ++ b).data.toList && validB a.data.toList && plainB (a ++ b).data.toList with
    | false => exact stars_not a b n w hM (by omega) (by omega) (by omega) (by omega) h1
    | true =>
      simp only [Bool.and_eq_true] at h1
      exact stars_main a b n w hn hM (by omega) (by omega) (by omega) (by omega) h1.1.1 h1.1.2 h1.2
end Go.Proofs.YtcecgfijfnnpeaaDoor.Mt
