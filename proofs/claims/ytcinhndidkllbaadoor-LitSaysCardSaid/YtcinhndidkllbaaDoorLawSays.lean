/- The walk of the statement on texts of values. -/
import Derived.Test.YtcinhndidkllbaaDoorRefTxt
import Derived.Test.YtcinhndidkllbaaDoorLaw2
import Derived.Test.YtcinhndidkllbaaDoorRight
import Derived.Test.YtcinhndidkllbaaDoorSameV
import Derived.Deep.RegionHeld3
import Derived.Deep.DeepCutAuto
namespace Go.Proofs.YtcinhndidkllbaaDoor
open Go.RowKit
set_option maxRecDepth 100000

theorem tx_short {w : World} {lo hi : Nat} {t : T} {v : Value} (hr : Rep w lo hi t v) (h0 : (odd t 1 0).1 = 0) : (tx t).length ≤ 4000000 := by
  have h1 := odd_sz h0
  have h2 := tx_len t (Rep.ok t hr h0)
  omega

set_option maxHeartbeats 1000000 in
theorem refTextR_any (t : T) (w : World) (lo hi : Nat) (v : Value) (hr : Rep w lo hi t v) (hhi : hi ≤ w.heap.size) (hT : TabI w) (h0 : (odd t 1 0).1 = 0) (hR : rightB t = true) :
    Calls Tryd.prog 22 #[v] w fun e w' => e = .returned (.string (strB (tx t))) ∧ Below w.heap.size w w' := by
  have hs := tx_short hr h0
  have HR := Lib.hid hr
  have HT := Lib.hid hT; clear hT
  have H := Lib.hid hR; clear hR
  obtain ⟨k, n, sv, p, len, cap, rfl⟩ := rep_form hr
  clear hr
  have H1 : ∀ o : Obj, Hid (Below w.heap.size w (w.alloc o)) := fun o => (Below.refl _ _).alloc (Nat.le_refl _) _
  go_enter Tryd.func22, Tryd.ntmps22
  go_wp2_with (first
    | (go_at_call 19; refine (right_any t _ lo hi _ (HR.out.below (H1 _).out hhi) (by simp; omega)).mono ?_; rintro e w2 ⟨rfl, hb2⟩; rw [H.out]; have HV2 := Lib.hid (heap_old (heap_alloc_new w _) hb2); have HB2 := Lib.hid ((H1 _).out.trans (hb2.mono (by simp))); obtain ⟨x0, x1, x2, x3, _⟩ := box4_in _ _ _ _ _ _ _ HV2.out; clear hb2)
    | (go_at_call 44; refine (refText_any t _ lo hi _ (HR.out.below HB2.out hhi) (by have := HB2.out.size; omega) hs (HT.out.below HB2.out)).mono ?_; rintro e w3 ⟨rfl, hb3⟩; have HB3 := Lib.hid (HB2.out.trans (hb3.mono HB2.out.size)); clear hb3))
  go_ret
  exact ⟨rfl, HB3.out⟩

set_option maxHeartbeats 1000000 in
theorem refPlain_any (t : T) (w : World) (lo hi : Nat) (v : Value) (hr : Rep w lo hi t v) (hhi : hi ≤ w.heap.size) (hT : TabI w) (h0 : (odd t 1 0).1 = 0) (hR : rightB t = true) :
    Calls Tryd.prog 24 #[v] w fun e w' => e = .returned (.string (plainOf t)) ∧ Below w.heap.size w w' := by
  have hs := tx_short hr h0
  have HR := Lib.hid hr
  have HT := Lib.hid hT; clear hT
  have H := Lib.hid hR; clear hR
  have H1 : ∀ o : Obj, Hid (Below w.heap.size w (w.alloc o)) := fun o => (Below.refl _ _).alloc (Nat.le_refl _) _
  clear h0
  obtain ⟨k, n, s, l⟩ := t
  unfold Rep at hr
  obtain ⟨p, cap, rfl, _⟩ := hr
  by_cases h2 : k = 2
  · subst h2
    go_enter Tryd.func24, Tryd.ntmps24
    go_wp2_with (go_at_call 19; refine (right_any _ _ lo hi _ (HR.out.below (H1 _).out hhi) (by simp; omega)).mono ?_; rintro e w2 ⟨rfl, hb2⟩; rw [H.out]; have HV2 := Lib.hid (heap_old (heap_alloc_new w _) hb2); have HB2 := Lib.hid ((H1 _).out.trans (hb2.mono (by simp))); obtain ⟨x0, x1, x2, x3, _⟩ := box4_in _ _ _ _ _ _ _ HV2.out; clear hb2)
    go_ret
    exact ⟨rfl, HB2.out⟩
  · by_cases h4 : k = 4
    · subst h4
      go_enter Tryd.func24, Tryd.ntmps24
      go_wp2_with (go_at_call 19; refine (right_any _ _ lo hi _ (HR.out.below (H1 _).out hhi) (by simp; omega)).mono ?_; rintro e w2 ⟨rfl, hb2⟩; rw [H.out]; have HV2 := Lib.hid (heap_old (heap_alloc_new w _) hb2); have HB2 := Lib.hid ((H1 _).out.trans (hb2.mono (by simp))); obtain ⟨x0, x1, x2, x3, _⟩ := box4_in _ _ _ _ _ _ _ HV2.out; clear hb2)
      go_ret
      exact ⟨rfl, HB2.out⟩
    · have HP2 := Lib.hid (show plainOf (.mk k n s l) = strB (tx (.mk k n s l)) from by unfold plainOf; exact (if_neg h2).trans (if_neg h4))
      generalize (T.mk k n s l) = t at *
      go_enter Tryd.func24, Tryd.ntmps24
      go_wp2_with (first
        | (go_at_call 19; refine (right_any t _ lo hi _ (HR.out.below (H1 _).out hhi) (by simp; omega)).mono ?_; rintro e w2 ⟨rfl, hb2⟩; rw [H.out]; have HV2 := Lib.hid (heap_old (heap_alloc_new w _) hb2); have HB2 := Lib.hid ((H1 _).out.trans (hb2.mono (by simp))); obtain ⟨x0, x1, x2, x3, _⟩ := box4_in _ _ _ _ _ _ _ HV2.out; clear hb2)
        | (go_at_call 44; refine (refText_any t _ lo hi _ (HR.out.below HB2.out hhi) (by have := HB2.out.size; omega) hs (HT.out.below HB2.out)).mono ?_; rintro e w3 ⟨rfl, hb3⟩; have HB3 := Lib.hid (HB2.out.trans (hb3.mono HB2.out.size)); clear hb3))
      go_ret
      exact ⟨by rw [HP2.out]; rfl, HB3.out⟩

theorem says_early (eD eM eR eS : Value) (aY : Addr) (hP : Ptrs eD eM eR eS) (t : T) (v : Value) (w : World) (lo hi : Nat) (hr : Rep w lo hi t v) (hhi : hi ≤ w.heap.size) (he : Env w eD eM eR eS aY) (h : rightB t = false) :
    Calls Tryd.prog 4 #[v] w fun e w' => e = .returned (.bool true) ∧ Below w.heap.size w w' := by
  have HE := Lib.hid he; clear he
  have HR := Lib.hid hr
  have H := Lib.hid h; clear h
  obtain ⟨k, n, sv, p, len, cap, rfl⟩ := rep_form hr
  clear hr
  have H1 : ∀ o : Obj, Hid (Below w.heap.size w (w.alloc o)) := fun o => (Below.refl _ _).alloc (Nat.le_refl _) _
  go_enter Tryd.func4, Tryd.ntmps4
  go_wp2_with (first
    | (go_at_call 18; refine (first2_any eD eM eR eS aY hP _ (HE.out.below (H1 _).out)).mono ?_; rintro e w1 ⟨rfl, hb1⟩; have HB1 := Lib.hid ((H1 _).out.trans (hb1.mono (by simp))); have HV1 := Lib.hid (heap_old (heap_alloc_new w _) hb1); obtain ⟨x0, x1, x2, x3, _⟩ := box4_in _ _ _ _ _ _ _ HV1.out; clear hb1)
    | (go_at_call 19; refine (right_any t _ lo hi _ (HR.out.below HB1.out hhi) (by have := HB1.out.size; omega)).mono ?_; rintro e w2 ⟨rfl, hb2⟩; rw [H.out]; have HB2 := Lib.hid (HB1.out.trans (hb2.mono HB1.out.size)); clear hb2))
  go_ret
  exact ⟨rfl, HB2.out⟩

set_option maxHeartbeats 4000000 in
theorem says_main (eD eM eR eS : Value) (aY : Addr) (hP : Ptrs eD eM eR eS) (t : T) (v : Value) (w : World) (lo hi : Nat) (hr : Rep w lo hi t v) (hhi : hi ≤ w.heap.size) (he : Env w eD eM eR eS aY) (h0 : (odd t 1 0).1 = 0) (h : rightB t = true) :
    Calls Tryd.prog 4 #[v] w fun e w' => e = .returned (.bool true) ∧ Below w.heap.size w w' := by
  have HE := Lib.hid he; clear he
  have HR := Lib.hid hr
  have H := Lib.hid h; clear h
  have HO := Lib.hid h0; clear h0
  have HOK := Lib.hid (Rep.ok t hr HO.out)
  have hts := tx_short hr HO.out
  obtain ⟨k, n, sv, p, len, cap, rfl⟩ := rep_form hr
  clear hr
  have H1 : ∀ o : Obj, Hid (Below w.heap.size w (w.alloc o)) := fun o => (Below.refl _ _).alloc (Nat.le_refl _) _
  obtain ⟨X, hX⟩ : ∃ X, (⟨(tx t).toArray⟩ : ByteArray) = X := ⟨_, rfl⟩
  have HXs := Lib.hid (show X.size ≤ 140737488355328 from by rw [← hX]; show (tx t).toArray.size ≤ _; simp; omega)
  have HXt := Lib.hid (show X.data.toList = tx t from by rw [← hX])
  have HX := Lib.hid hX
  have HX2 := Lib.hid (show strB (tx t) = X from hX)
  clear hX hts
  go_enter Tryd.func4, Tryd.ntmps4
  go_wp2_with (first
    | (go_at_call 18; refine (first2_any eD eM eR eS aY hP _ (HE.out.below (H1 _).out)).mono ?_; rintro e w1 ⟨rfl, hb1⟩; have HB1 := Lib.hid ((H1 _).out.trans (hb1.mono (by simp))); have HV1 := Lib.hid (heap_old (heap_alloc_new w _) hb1); obtain ⟨x0, x1, x2, x3, hf⟩ := box4_in _ _ _ _ _ _ _ HV1.out; clear hf; clear hb1)
    | (go_at_call 19; refine (right_any t _ lo hi _ (HR.out.below HB1.out hhi) (by have := HB1.out.size; omega)).mono ?_; rintro e w2 ⟨rfl, hb2⟩; rw [H.out]; have HB2 := Lib.hid (HB1.out.trans (hb2.mono HB1.out.size)); have HV2 := Lib.hid (heap_old HV1.out hb2); obtain ⟨x0, x1, x2, x3, hf⟩ := box4_in _ _ _ _ _ _ _ HV2.out; clear hf; clear hb2)
    | (go_at_call 20; refine (text_any eD eM eR eS aY hP t _ lo hi _ (HR.out.below HB2.out hhi) (by have := HB2.out.size; omega) (HE.out.below HB2.out) HO.out).mono ?_; rintro e w3 ⟨rfl, hb3⟩; rw [HX.out]; have HB3 := Lib.hid (HB2.out.trans (hb3.mono HB2.out.size)); have HV3 := Lib.hid (heap_old HV2.out hb3); obtain ⟨x0, x1, x2, x3, hf⟩ := box4_in _ _ _ _ _ _ _ HV3.out; clear hf; clear hb3)
    | (go_at_call 21; refine (read_tx eD eM eR eS aY hP t X _ HXs.out (HE.out.below HB3.out) HOK.out HO.out HXt.out).mono ?_; rintro e w4 ⟨⟨v4, rfl, hr4⟩, hb4⟩; obtain ⟨k4, n4, sv4, p4, len4, cap4, rfl⟩ := rep_form hr4; have HR4 := Lib.hid hr4; have HB4 := Lib.hid (HB3.out.trans (hb4.mono HB3.out.size)); have HV4 := Lib.hid (heap_old HV3.out hb4); obtain ⟨x0, x1, x2, x3, hf⟩ := box4_in _ _ _ _ _ _ _ HV4.out; clear hf; clear hb4 hr4))
  have HBW := Lib.hid (HB4.out.alloc HB4.out.size (.cells #[.int .i64 k4, .int .i64 n4, .string sv4, .slice p4 len4 cap4] 26))
  have HVA := Lib.hid (heap_alloc_ w4 _ (.cells #[.int .i64 k4, .int .i64 n4, .string sv4, .slice p4 len4 cap4] 26) _ HV4.out)
  have HVB := Lib.hid (heap_alloc_new w4 (.cells #[.int .i64 k4, .int .i64 n4, .string sv4, .slice p4 len4 cap4] 26))
  have HRB := Lib.hid (HR4.out.alloc (Nat.le_refl _) (.cells #[.int .i64 k4, .int .i64 n4, .string sv4, .slice p4 len4 cap4] 26))
  have hgA : w.heap.size < (w4.alloc (.cells #[.int .i64 k4, .int .i64 n4, .string sv4, .slice p4 len4 cap4] 26)).heap.size := (Array.getElem?_eq_some_iff.1 HVA.out).1
  have hgB : w4.heap.size < (w4.alloc (.cells #[.int .i64 k4, .int .i64 n4, .string sv4, .slice p4 len4 cap4] 26)).heap.size := by simp
  clear HV1 HV2 HV3 HV4 HB1 HB2 HB3 HB4 HR4 x0 x1 x2 x3
  generalize w4.alloc (.cells #[.int .i64 k4, .int .i64 n4, .string sv4, .slice p4 len4 cap4] 26) = W at *
  generalize w4.heap.size = gB at *
  generalize w3.heap.size = gC at *
  iterate 3 (try clear x0 x1 x2 x3)
  obtain ⟨P, hP2⟩ : ∃ P, plainOf t = P := ⟨_, rfl⟩
  have HPL := Lib.hid hP2; clear hP2
  have HSM := Lib.hid (eqV_self t)
  have HKA : Hid (∀ w' : World, Below W.heap.size W w' → w'.heap[w.heap.size]? = some (.cells #[.int .i64 k, .int .i64 n, .string sv, .slice p len cap] 26 (0, 0)) ∧ w'.heap[gB]? = some (.cells #[.int .i64 k4, .int .i64 n4, .string sv4, .slice p4 len4 cap4] 26 (0, 0))) := fun w' hb => ⟨heap_old HVA.out hb, heap_old HVB.out hb⟩
  have HS : Hid (∀ w' : World, Below W.heap.size W w' → w'.cell? ⟨w.heap.size, 0, none⟩ = some (.int .i64 k) ∧ w'.cell? ⟨w.heap.size, 1, none⟩ = some (.int .i64 n) ∧ w'.cell? ⟨w.heap.size, 2, none⟩ = some (.string sv) ∧ w'.cell? ⟨w.heap.size, 3, none⟩ = some (.slice p len cap) ∧ w'.cell? ⟨gB, 0, none⟩ = some (.int .i64 k4) ∧ w'.cell? ⟨gB, 1, none⟩ = some (.int .i64 n4) ∧ w'.cell? ⟨gB, 2, none⟩ = some (.string sv4) ∧ w'.cell? ⟨gB, 3, none⟩ = some (.slice p4 len4 cap4)) := fun w' hb => by
    obtain ⟨a0, a1, a2, a3, _⟩ := box4_in _ _ _ _ _ _ _ (HKA.out w' hb).1
    obtain ⟨b0, b1, b2, b3, _⟩ := box4_in _ _ _ _ _ _ _ (HKA.out w' hb).2
    exact ⟨a0, a1, a2, a3, b0, b1, b2, b3⟩
  have HW0 := Lib.hid (Below.refl W.heap.size W)
  have HWd := Lib.hid ((Below.refl W.heap.size W).drew)
  obtain ⟨y0, y1, y2, y3, z0, z1, z2, z3⟩ := HS.out W HW0.out
  clear HKA
  go_region_held3 (fun w' => w'.cell? ⟨w.heap.size, 0, none⟩ = some (.int .i64 k) ∧ w'.cell? ⟨w.heap.size, 1, none⟩ = some (.int .i64 n) ∧ w'.cell? ⟨w.heap.size, 2, none⟩ = some (.string sv) ∧ w'.cell? ⟨w.heap.size, 3, none⟩ = some (.slice p len cap) ∧ w'.cell? ⟨gB, 0, none⟩ = some (.int .i64 k4) ∧ w'.cell? ⟨gB, 1, none⟩ = some (.int .i64 n4) ∧ w'.cell? ⟨gB, 2, none⟩ = some (.string sv4) ∧ w'.cell? ⟨gB, 3, none⟩ = some (.slice p4 len4 cap4)) (first | exact HS.out _ HW0.out | exact HS.out _ HWd.out | exact HS.out _ HW5.out | exact HS.out _ HW6.out | exact HS.out _ HW7.out | exact HS.out _ HW8.out) (first
    | (first
      | (go_at_call 22; refine (refTextR_any t _ lo hi _ (HR.out.below (HBW.out.trans (HWd.out.mono HBW.out.size)) hhi) (by have := HBW.out.size; have := HWd.out.size; omega) (HE.out.below (HBW.out.trans (HWd.out.mono HBW.out.size))).tab HO.out H.out).mono ?_; rintro e w5 ⟨rfl, hb5⟩; rw [HX2.out]; have HW5 := Lib.hid (HWd.out.trans hb5); clear hb5)
      | (go_at_call 23; refine (plain_any eD eM eR eS aY hP t _ lo hi _ (HR.out.below (HBW.out.trans (HW5.out.mono HBW.out.size)) hhi) (by have := HBW.out.size; have := HW5.out.size; omega) (HE.out.below (HBW.out.trans (HW5.out.mono HBW.out.size))) HO.out).mono ?_; rintro e w6 ⟨rfl, hb6⟩; rw [HPL.out]; have HW6 := Lib.hid (HW5.out.trans (hb6.mono HW5.out.size)); clear hb6)
      | (go_at_call 24; refine (refPlain_any t _ lo hi _ (HR.out.below (HBW.out.trans (HW6.out.mono HBW.out.size)) hhi) (by have := HBW.out.size; have := HW6.out.size; omega) (HE.out.below (HBW.out.trans (HW6.out.mono HBW.out.size))).tab HO.out H.out).mono ?_; rintro e w7 ⟨rfl, hb7⟩; rw [HPL.out]; have HW7 := Lib.hid (HW6.out.trans (hb7.mono HW6.out.size)); clear hb7)
      | (go_at_call 25; refine (sameValue_any t t _ lo hi gC gB _ _ (HR.out.below (HBW.out.trans (HW7.out.mono HBW.out.size)) hhi) (by have := HBW.out.size; have := HW7.out.size; omega) (HRB.out.below HW7.out (by omega)) (by have := HW7.out.size; omega)).mono ?_; rintro e w8 ⟨rfl, hb8⟩; rw [HSM.out]; have HW8 := Lib.hid (HW7.out.trans (hb8.mono HW7.out.size)); clear hb8))
    | (rw [if_pos (by rfl)]; go_simp; (first
      | (go_at_call 23; refine (plain_any eD eM eR eS aY hP t _ lo hi _ (HR.out.below (HBW.out.trans (HW5.out.mono HBW.out.size)) hhi) (by have := HBW.out.size; have := HW5.out.size; omega) (HE.out.below (HBW.out.trans (HW5.out.mono HBW.out.size))) HO.out).mono ?_; rintro e w6 ⟨rfl, hb6⟩; rw [HPL.out]; have HW6 := Lib.hid (HW5.out.trans (hb6.mono HW5.out.size)); clear hb6)
      | (go_at_call 24; refine (refPlain_any t _ lo hi _ (HR.out.below (HBW.out.trans (HW6.out.mono HBW.out.size)) hhi) (by have := HBW.out.size; have := HW6.out.size; omega) (HE.out.below (HBW.out.trans (HW6.out.mono HBW.out.size))).tab HO.out H.out).mono ?_; rintro e w7 ⟨rfl, hb7⟩; rw [HPL.out]; have HW7 := Lib.hid (HW6.out.trans (hb7.mono HW6.out.size)); clear hb7)
      | (go_at_call 25; refine (sameValue_any t t _ lo hi gC gB _ _ (HR.out.below (HBW.out.trans (HW7.out.mono HBW.out.size)) hhi) (by have := HBW.out.size; have := HW7.out.size; omega) (HRB.out.below HW7.out (by omega)) (by have := HW7.out.size; omega)).mono ?_; rintro e w8 ⟨rfl, hb8⟩; rw [HSM.out]; have HW8 := Lib.hid (HW7.out.trans (hb8.mono HW7.out.size)); clear hb8)); dsimp only))
  go_wp2_with fail
  go_ret
  exact ⟨rfl, HBW.out.trans (HW8.out.mono HBW.out.size)⟩
theorem says_all (eD eM eR eS : Value) (aY : Addr) (hP : Ptrs eD eM eR eS) (t : T) (v : Value) (w : World) (lo hi : Nat) (hr : Rep w lo hi t v) (hhi : hi ≤ w.heap.size) (he : Env w eD eM eR eS aY) :
    Calls Tryd.prog 4 #[v] w fun e w' => e = .returned (.bool true) ∧ Below w.heap.size w w' := by
  cases h : rightB t with
  | false => exact says_early eD eM eR eS aY hP t v w lo hi hr hhi he h
  | true => exact says_main eD eM eR eS aY hP t v w lo hi hr hhi he (by simpa [rightB, oddCode] using h) h
end Go.Proofs.YtcinhndidkllbaaDoor
