/- The walk of the statement on spoilt texts. -/
import Derived.Test.YtcinhndidkllbaaDoorPrint
import Derived.Deep.RegionHeld3
import Derived.Deep.DeepCutAuto
namespace Go.Proofs.YtcinhndidkllbaaDoor
open Go.RowKit
set_option maxRecDepth 100000
attribute [local go_sem ↓] run_string_add

set_option maxHeartbeats 400000 in
theorem spoilt_few (eD eM eR eS : Value) (aY : Addr) (hP : Ptrs eD eM eR eS) (l : List T) (cut : Int) (w : World) (lo hi : Nat) (p : Option Addr) (cap : Nat) (hall : RepAll w lo hi l p) (hcap : l.length * 56 ≤ 140737488355328) (hhi : hi ≤ w.heap.size) (he : Env w eD eM eR eS aY) (h : fewRight l 12 = false) :
    Calls Tryd.prog 7 #[.slice p l.length cap, .int .i64 cut] w fun e w' => e = .returned (.bool true) ∧ Below w.heap.size w w' := by
  have HE := Lib.hid he; clear he
  have H := Lib.hid h; clear h
  go_enter Tryd.func7, Tryd.ntmps7
  go_wp2_with (first
    | (go_at_call 18; refine (first2_any eD eM eR eS aY hP _ HE.out).mono ?_; rintro e w1 ⟨rfl, hb1⟩)
    | (go_at_call 9; refine (wvalues_any l _ lo hi p cap 12 (hall.below hb1 hhi) (by have := hb1.size; omega) (by omega)).mono ?_; rintro e w2 ⟨rfl, hb2⟩; rw [H.out]))
  go_ret
  exact ⟨rfl, hb1.trans (hb2.mono hb1.size)⟩
set_option maxHeartbeats 400000 in
theorem spoilt_great (eD eM eR eS : Value) (aY : Addr) (hP : Ptrs eD eM eR eS) (l : List T) (cut : Int) (w : World) (lo hi : Nat) (p : Option Addr) (cap : Nat) (hall : RepAll w lo hi l p) (hlc : l.length ≤ cap) (hcap : l.length * 56 ≤ 140737488355328) (hhi : hi ≤ w.heap.size) (he : Env w eD eM eR eS aY) (h : fewRight l 12 = true) (hfit : fits (mkList l) ≠ 0) :
    Calls Tryd.prog 7 #[.slice p l.length cap, .int .i64 cut] w fun e w' => e = .returned (.bool true) ∧ Below w.heap.size w w' := by
  have hsz := few_sz h
  have HE := Lib.hid he; clear he
  have H := Lib.hid h; clear h
  have hF : (fits (mkList l) != 0) = true := by simpa using hfit
  go_enter Tryd.func7, Tryd.ntmps7
  go_wp2_with (first
    | (go_at_call 18; refine (first2_any eD eM eR eS aY hP _ HE.out).mono ?_; rintro e w1 ⟨rfl, hb1⟩)
    | (go_at_call 9; refine (wvalues_any l _ lo hi p cap 12 (hall.below hb1 hhi) (by have := hb1.size; omega) (by omega)).mono ?_; rintro e w2 ⟨rfl, hb2⟩; rw [H.out]; have hb12 := hb1.trans (hb2.mono hb1.size); have hz2 := hb12.size)
    | (go_at_call 35; refine (rL_any l _ lo hi p cap (hall.below hb12 hhi) hlc hcap (by omega)).mono ?_; rintro e w3 ⟨v3, rfl, hv3, hb3⟩; have HV3 := Lib.hid hv3; clear hv3)
    | (go_at_call 34; refine (fits_any (mkList l) _ _ _ _ HV3.out (Nat.le_refl _) hsz).mono ?_; rintro e w4 ⟨rfl, hb4⟩))
  go_ret
  exact ⟨rfl, (hb12.trans (hb3.mono hz2)).trans (hb4.mono (by have := hb3.size; omega))⟩

set_option maxHeartbeats 8000000 in
theorem spoilt_main (eD eM eR eS : Value) (aY : Addr) (hP : Ptrs eD eM eR eS) (l : List T) (cut : Int) (w : World) (lo hi : Nat) (p : Option Addr) (cap : Nat) (hall : RepAll w lo hi l p) (hlc : l.length ≤ cap) (hcap : l.length * 56 ≤ 140737488355328) (hhi : hi ≤ w.heap.size) (he : Env w eD eM eR eS aY) (hcut : I64 cut) (h : fewRight l 12 = true) (hfit : fits (mkList l) = 0) :
    Calls Tryd.prog 7 #[.slice p l.length cap, .int .i64 cut] w fun e w' => e = .returned (.bool true) ∧ Below w.heap.size w w' := by
  have hsz := few_sz h
  obtain ⟨hok, hodd, hsz2, hit⟩ := list_ok hall h hfit
  clear hit
  have htl := tx_len _ hok
  have hlen : (tx (mkList l)).length ≤ 98304 := by omega
  obtain ⟨X, hX⟩ : ∃ X : ByteArray, (⟨(tx (mkList l)).toArray⟩ : ByteArray) = X := ⟨_, rfl⟩
  have hXl : X.data.toList = tx (mkList l) := by rw [← hX]
  have hXs : X.size ≤ 98304 := by have := congrArg List.length hXl; simp at this; omega
  have HXT := Lib.hid hX
  have HXL := Lib.hid hXl
  have HOK := Lib.hid hok
  have HOD := Lib.hid hodd
  have HE := Lib.hid he; clear he
  have H := Lib.hid h; clear h
  have HALL := Lib.hid hall; clear hall
  have HF := Lib.hid hfit
  have HCUT := Lib.hid hcut
  clear hok hodd htl hsz2 hfit hcut hX hXl hlen
  go_enter Tryd.func7, Tryd.ntmps7
  go_wp2_with (first
    | (go_at_call 18; refine (first2_any eD eM eR eS aY hP _ HE.out).mono ?_; rintro e w1 ⟨rfl, hb1⟩; have HB1 := Lib.hid hb1; clear hb1)
    | (go_at_call 9; refine (wvalues_any l _ lo hi p cap 12 (HALL.out.below HB1.out hhi) (by have := HB1.out.size; omega) (by omega)).mono ?_; rintro e w2 ⟨rfl, hb2⟩; rw [H.out]; have HB2 := Lib.hid (HB1.out.trans (hb2.mono HB1.out.size)); clear hb2)
    | (go_at_call 35; refine (rL_any l _ lo hi p cap (HALL.out.below HB2.out hhi) hlc hcap (by have := HB2.out.size; omega)).mono ?_; rintro e w3 ⟨v3, rfl, hv3, hb3⟩; have HV3 := Lib.hid hv3; have HB3 := Lib.hid (HB2.out.trans (hb3.mono HB2.out.size)); clear hv3 hb3)
    | (go_at_call 34; refine (fits_any (mkList l) _ _ _ _ HV3.out (Nat.le_refl _) hsz).mono ?_; rintro e w4 ⟨rfl, hb4⟩; rw [HF.out]; have HB4 := Lib.hid (HB3.out.trans (hb4.mono HB3.out.size)); clear hb4)
    | (go_at_call 10; refine (vL_any l _ lo hi p cap (HALL.out.below HB4.out hhi) hlc hcap (by have := HB4.out.size; omega)).mono ?_; rintro e w5 ⟨⟨v5, rfl, hv5, hb5⟩, _, _⟩; have HV5 := Lib.hid hv5; have HB5 := Lib.hid (HB4.out.trans (hb5.mono HB4.out.size)); clear hv5 hb5)
    | (go_at_call 20; refine (text_any eD eM eR eS aY hP (mkList l) _ _ _ _ HV5.out (Nat.le_refl _) (HE.out.below HB5.out) HOD.out).mono ?_; rintro e w6 ⟨rfl, hb6⟩; rw [HXT.out]; have HB6 := Lib.hid (HB5.out.trans (hb6.mono HB5.out.size)); clear hb6))
  refine (number_any cut ((X.size : Int) + 1) _ HCUT.out (by omega) (by omega)).mono ?_
  rintro e w7 ⟨rfl, rfl⟩
  obtain ⟨K, hK, hKl⟩ : ∃ K : Nat, numB cut ((X.size : Int) + 1) = (K : Int) ∧ K ≤ X.size := by
    unfold numB
    have h1 := Int.emod_nonneg cut (b := (X.size : Int) + 1) (by omega)
    have h2 := Int.emod_lt_of_pos cut (b := (X.size : Int) + 1) (by omega)
    exact ⟨(cut % ((X.size : Int) + 1)).toNat, by omega, by omega⟩
  rw [hK]
  clear hK
  obtain ⟨A, hA⟩ : ∃ A : ByteArray, X.extract 0 K = A := ⟨_, rfl⟩
  obtain ⟨B, hB⟩ : ∃ B : ByteArray, X.extract K X.size = B := ⟨_, rfl⟩
  obtain ⟨C, hC⟩ : ∃ C : ByteArray, X.extract (K + 1) X.size = C := ⟨_, rfl⟩
  have hAs : A.size = K := by rw [← hA, ByteArray.size_extract]; omega
  have hBs : B.size = X.size - K := by rw [← hB, ByteArray.size_extract]; omega
  have hCs : C.size = X.size - (K + 1) := by rw [← hC, ByteArray.size_extract]; omega
  have hAl : A.data.toList = (tx (mkList l)).take K := by rw [← hA, ← HXL.out]; simp
  have hBl : B.data.toList = (tx (mkList l)).drop K := by
    rw [← hB, ← HXL.out]; simp
    exact List.take_of_length_le (by simp)
  have hCl : C.data.toList = (tx (mkList l)).drop (K + 1) := by
    rw [← hC, ← HXL.out]; simp
    exact List.take_of_length_le (by simp)
  obtain ⟨A1, hA1⟩ : ∃ A1 : ByteArray, A ++ ⟨#[1]⟩ = A1 := ⟨_, rfl⟩
  have hA1s : A1.size = K + 1 := by rw [← hA1, catS, hAs]; rfl
  obtain ⟨Y, hY⟩ : ∃ Y : ByteArray, A1 ++ B = Y := ⟨_, rfl⟩
  obtain ⟨Z, hZ⟩ : ∃ Z : ByteArray, A ++ C = Z := ⟨_, rfl⟩
  have hYs : Y.size ≤ 100000 := by rw [← hY, catS]; omega
  have hZs : Z.size ≤ 100000 := by rw [← hZ, catS]; omega
  have HYL := Lib.hid (show Y.data.toList = (tx (mkList l)).take K ++ (1 :: (tx (mkList l)).drop K) by rw [← hY, ← hA1, catL, catL, hAl, hBl]; simp)
  have HZL := Lib.hid (show Z.data.toList = (tx (mkList l)).take K ++ (tx (mkList l)).drop (K + 1) by rw [← hZ, catL, hAl, hCl])
  have i1 : (A.size : Int) ≤ 8388608 := by omega
  have i2 : (B.size : Int) ≤ 8388608 := by omega
  have i3 : (C.size : Int) ≤ 8388608 := by omega
  have i4 : (A1.size : Int) ≤ 8388608 := by omega
  have HBA := Lib.hid (HB6.out.alloc HB6.out.size (.cells #[.int .i64 0, .int .i64 0, .string ⟨#[]⟩, .slice none 0 0] 26))
  have hz7 := HB6.out.size
  clear hAl hBl hCl hAs hBs hCs hA1s
  go_wp2_with fail
  go_cut [9] (fun v9 wx => ∃ (y9 : TypeId) (a9 : Addr), v9 = .iface y9 (.pointer (some a9)) ∧ (y9 = 63 ∨ y9 = 129) ∧ Hid (Below w.heap.size w wx))
  case first =>
    go_region_held3 (fun _ => True) (trivial) (first
      | (go_at_call 21; refine (read_two eD eM eR eS aY hP Y _ (by omega) (HE.out.below HBA.out.drew)).mono ?_; rintro e w8 ⟨hb8, h8⟩; have HB8 := Lib.hid (HBA.out.drew.trans (hb8.mono HBA.out.drew.size)); obtain ⟨hx0, hx1, hx2, hx3, hxf⟩ := box4_in w8 w7.heap.size _ _ _ _ _ (heap_old (heap_drew (heap_alloc_new w7 _)) hb8); have hxf0 := hxf 0; have hxf1 := hxf 1; have hxf2 := hxf 2; have hxf3 := hxf 3; clear hxf; obtain ⟨y, a, rfl, hy⟩ := h8.resolve_right (by rintro ⟨t, v, ht, hk, _⟩; exact no_text (HYL.out.symm.trans ht) hk))
      | (go_at_call 21; refine (read_two eD eM eR eS aY hP Y _ (by omega) (HE.out.below HB6.out.drew)).mono ?_; rintro e w8 ⟨hb8, h8⟩; have HB8 := Lib.hid (HB6.out.drew.trans (hb8.mono HB6.out.drew.size)); obtain ⟨y, a, rfl, hy⟩ := h8.resolve_right (by rintro ⟨t, v, ht, hk, _⟩; exact no_text (HYL.out.symm.trans ht) hk)))
    all_goals (first
      | (have HB9 := Lib.hid ((((HB8.out.setCell (p := ⟨w7.heap.size, 0, none⟩) hz7 (.int .i64 0)).setCell (p := ⟨w7.heap.size, 1, none⟩) hz7 (.int .i64 0)).setCell (p := ⟨w7.heap.size, 2, none⟩) hz7 (.string ⟨#[]⟩)).setCell (p := ⟨w7.heap.size, 3, none⟩) hz7 (.slice none 0 0)); clear HB8 hx0 hx1 hx2 hx3 hxf0 hxf1 hxf2 hxf3; generalize (((w8.setCell ⟨w7.heap.size, 0, none⟩ (.int .i64 0)).setCell ⟨w7.heap.size, 1, none⟩ (.int .i64 0)).setCell ⟨w7.heap.size, 2, none⟩ (.string ⟨#[]⟩)).setCell ⟨w7.heap.size, 3, none⟩ (.slice none 0 0) = w9 at *)
      | (have HB9 := Lib.hid (HB8.out.alloc HB8.out.size (.cells #[.int .i64 0, .int .i64 0, .string ⟨#[]⟩, .slice none 0 0] 26)); clear HB8; generalize w8.alloc (.cells #[.int .i64 0, .int .i64 0, .string ⟨#[]⟩, .slice none 0 0] 26) = w9 at *))
    all_goals go_wp2_with fail
    all_goals go_meet
    all_goals exact ⟨_, _, rfl, hy, HB9⟩
  case rest =>
    obtain ⟨y9, a9, rfl, hy9, HB9⟩ := hcut
    clear hY hA1 hB HBA hz7 HB6
    by_cases hKX : K = X.size
    · subst hKX; go_wp2_with fail; go_ret; exact ⟨rfl, HB9.out⟩
    have hKn : ((K : Int) == (X.size : Int)) = false := by simp; omega
    have hKn' : ¬ ((K : Int) = (X.size : Int)) := by omega
    have j1 : IntKind.i64.wrap ((K : Int) + 1) = (K : Int) + 1 := IntWalk.i64_in _ (by omega)
    have j2 : ((K : Int) + 1).toNat = K + 1 := by omega
    have j3 : (0 : Int) ≤ (K : Int) + 1 := by omega
    have j4 : (K : Int) + 1 ≤ (X.size : Int) := by omega
    have hz9 := HB9.out.size
    have HBA9 := Lib.hid (HB9.out.alloc hz9 (.cells #[.int .i64 0, .int .i64 0, .string ⟨#[]⟩, .slice none 0 0] 26))
    go_wp2_with fail
    go_cut [10, 11] (fun v10 v11 wx => ∃ (g : Nat) (kv nv : Int) (uv : ByteArray) (pv : Option Addr) (lv cv : Nat), v10 = .pointer (some ⟨g, 0, none⟩) ∧ Hid (BoxV w.heap.size w wx g kv nv uv pv lv cv v11 Z))
    case first =>
      go_region_held3 (fun _ => True) (trivial) (first
        | (go_at_call 21; refine (read_box eD eM eR eS aY hP Z _ (by omega) (HE.out.below HBA9.out.drew)).mono ?_; rintro e w10 ⟨hb10, kv, nv, uv, pv, lv, cv, fv, rfl, H10⟩; have HB10 := Lib.hid (HBA9.out.drew.trans (hb10.mono HBA9.out.drew.size)); have HHX := Lib.hid (heap_old (heap_drew (heap_alloc_new wc _)) hb10); obtain ⟨hx0, hx1, hx2, hx3, hxf⟩ := box4_in w10 wc.heap.size _ _ _ _ _ HHX.out; have hxf0 := hxf 0; have hxf1 := hxf 1; have hxf2 := hxf 2; have hxf3 := hxf 3; clear hxf)
        | (go_at_call 21; refine (read_box eD eM eR eS aY hP Z _ (by omega) (HE.out.below HB9.out.drew)).mono ?_; rintro e w10 ⟨hb10, kv, nv, uv, pv, lv, cv, fv, rfl, H10⟩; have HB10 := Lib.hid (HB9.out.drew.trans (hb10.mono HB9.out.drew.size))))
      all_goals (first
        | (have HBX := Lib.hid (box_set HB10.out hz9 (by show wc.heap.size < (wc.alloc _).heap.size; simp) HHX.out H10.out); clear HHX hx0 hx1 hx2 hx3 hxf0 hxf1 hxf2 hxf3 HB10 H10 hb10; generalize (((w10.setCell ⟨wc.heap.size, 0, none⟩ (.int .i64 kv)).setCell ⟨wc.heap.size, 1, none⟩ (.int .i64 nv)).setCell ⟨wc.heap.size, 2, none⟩ (.string uv)).setCell ⟨wc.heap.size, 3, none⟩ (.slice pv lv cv) = W at *; generalize wc.heap.size = g at *)
        | (have HBX := Lib.hid (box_alloc HB10.out HB10.out.size H10.out); clear HB10 H10 hb10; generalize w10.alloc (.cells #[.int .i64 kv, .int .i64 nv, .string uv, .slice pv lv cv] 26) = W at *; generalize w10.heap.size = g at *))
      all_goals go_wp2_with fail
      all_goals go_meet
      all_goals exact ⟨_, _, _, _, _, _, _, rfl, HBX⟩
    case rest =>
      obtain ⟨g, kv, nv, uv, pv, lv, cv, rfl, HBX⟩ := hcut
      clear HBA9 HB9 hz9
      obtain ⟨hb11, hg11, hd11⟩ := HBX.out
      have HB11 := Lib.hid hb11
      obtain ⟨hy0, hy1, hy2, hy3, hyf⟩ := box4_in wc g _ _ _ _ _ hg11
      have hgW : g < wc.heap.size := (Array.getElem?_eq_some_iff.1 hg11).1
      clear HBX hb11 hg11 hyf
      rcases hd11 with ⟨y2, a2, rfl, hy2'⟩ | ⟨rfl, t, ht1, ht2, ht3, ht4⟩
      · rcases hy2' with rfl | rfl
        all_goals (go_wp2_with fail; go_quiet (fail); go_wp2_with fail; go_ret; exact ⟨rfl, below_drewN HB11.out _⟩)
      have HZT := Lib.hid (show (⟨(tx t).toArray⟩ : ByteArray) = Z from by rw [← ht1])
      have HT3 := Lib.hid ht3
      have HT4 := Lib.hid ht4.drew
      have HNE := Lib.hid (show eqV t (mkList l) = false from less_text (k := K) (by rw [← HXL.out]; simp; omega) (HZL.out.symm.trans ht1))
      clear ht1 ht2 ht3 ht4
      have hzW := HB11.out.size
      have k1 : (K : Int) ≤ (X.size : Int) := by omega
      have k2 : (0 : Int) ≤ (K : Int) := by omega
      clear hXs hYs hKX hKn hKn' i2 i4
      go_wp2_with fail
      go_region_held3 (fun w' => w'.cell? ⟨g, 0, none⟩ = some (.int .i64 kv) ∧ w'.cell? ⟨g, 1, none⟩ = some (.int .i64 nv) ∧ w'.cell? ⟨g, 2, none⟩ = some (.string uv) ∧ w'.cell? ⟨g, 3, none⟩ = some (.slice pv lv cv)) (first | exact ⟨hy0, hy1, hy2, hy3⟩ | exact ⟨ha0, ha1, ha2, ha3⟩ | exact ⟨hb0, hb1, hb2, hb3⟩ | exact ⟨hc0, hc1, hc2, hc3⟩) (first
        | (first
        | (go_at_call 20; refine (text_any eD eM eR eS aY hP t _ _ _ _ HT4.out (Nat.le_refl _) (HE.out.below HB11.out.drew) HT3.out).mono ?_; rintro e w12 ⟨rfl, hb12⟩; rw [HZT.out]; have ha0 := (hb12.cell (p := ⟨g, 0, none⟩) hgW).trans hy0; have ha1 := (hb12.cell (p := ⟨g, 1, none⟩) hgW).trans hy1; have ha2 := (hb12.cell (p := ⟨g, 2, none⟩) hgW).trans hy2; have ha3 := (hb12.cell (p := ⟨g, 3, none⟩) hgW).trans hy3; have HB12 := Lib.hid (HB11.out.drew.trans (hb12.mono HB11.out.drew.size)); have HT12 := Lib.hid (HT4.out.below hb12 (Nat.le_refl _)); have hzW12 := hb12.size; clear hb12)
        | (go_at_call 10; refine (vL_any l _ lo hi p cap (HALL.out.below HB12.out hhi) hlc hcap (by have := HB12.out.size; omega)).mono ?_; rintro e w13 ⟨⟨v13, rfl, hv13, hb13⟩, _, _⟩; have hgW12 : g < w12.heap.size := Nat.lt_of_lt_of_le hgW hzW12; have hb0 := (hb13.cell (p := ⟨g, 0, none⟩) hgW12).trans ha0; have hb1 := (hb13.cell (p := ⟨g, 1, none⟩) hgW12).trans ha1; have hb2 := (hb13.cell (p := ⟨g, 2, none⟩) hgW12).trans ha2; have hb3 := (hb13.cell (p := ⟨g, 3, none⟩) hgW12).trans ha3; have HV13 := Lib.hid hv13; have HT13 := Lib.hid (HT12.out.below hb13 hzW12); have HB13 := Lib.hid (HB12.out.trans (hb13.mono HB12.out.size)); have hzW13 := hb13.size; clear hv13 hb13)
        | (go_at_call 25; refine (sameValue_any t (mkList l) _ _ _ _ _ _ _ HT13.out (Nat.le_trans hzW12 hzW13) HV13.out (Nat.le_refl _)).mono ?_; rintro e w14 ⟨rfl, hb14⟩; rw [HNE.out]; have hgW13 : g < w13.heap.size := Nat.lt_of_lt_of_le hgW (Nat.le_trans hzW12 hzW13); have hc0 := (hb14.cell (p := ⟨g, 0, none⟩) hgW13).trans hb0; have hc1 := (hb14.cell (p := ⟨g, 1, none⟩) hgW13).trans hb1; have hc2 := (hb14.cell (p := ⟨g, 2, none⟩) hgW13).trans hb2; have hc3 := (hb14.cell (p := ⟨g, 3, none⟩) hgW13).trans hb3; have HB14 := Lib.hid (HB13.out.trans (hb14.mono HB13.out.size)); clear hb14))
        | (rw [if_pos (by rfl)]; go_simp; (first
        | (go_at_call 20; refine (text_any eD eM eR eS aY hP t _ _ _ _ HT4.out (Nat.le_refl _) (HE.out.below HB11.out.drew) HT3.out).mono ?_; rintro e w12 ⟨rfl, hb12⟩; rw [HZT.out]; have ha0 := (hb12.cell (p := ⟨g, 0, none⟩) hgW).trans hy0; have ha1 := (hb12.cell (p := ⟨g, 1, none⟩) hgW).trans hy1; have ha2 := (hb12.cell (p := ⟨g, 2, none⟩) hgW).trans hy2; have ha3 := (hb12.cell (p := ⟨g, 3, none⟩) hgW).trans hy3; have HB12 := Lib.hid (HB11.out.drew.trans (hb12.mono HB11.out.drew.size)); have HT12 := Lib.hid (HT4.out.below hb12 (Nat.le_refl _)); have hzW12 := hb12.size; clear hb12)
        | (go_at_call 10; refine (vL_any l _ lo hi p cap (HALL.out.below HB12.out hhi) hlc hcap (by have := HB12.out.size; omega)).mono ?_; rintro e w13 ⟨⟨v13, rfl, hv13, hb13⟩, _, _⟩; have hgW12 : g < w12.heap.size := Nat.lt_of_lt_of_le hgW hzW12; have hb0 := (hb13.cell (p := ⟨g, 0, none⟩) hgW12).trans ha0; have hb1 := (hb13.cell (p := ⟨g, 1, none⟩) hgW12).trans ha1; have hb2 := (hb13.cell (p := ⟨g, 2, none⟩) hgW12).trans ha2; have hb3 := (hb13.cell (p := ⟨g, 3, none⟩) hgW12).trans ha3; have HV13 := Lib.hid hv13; have HT13 := Lib.hid (HT12.out.below hb13 hzW12); have HB13 := Lib.hid (HB12.out.trans (hb13.mono HB12.out.size)); have hzW13 := hb13.size; clear hv13 hb13)
        | (go_at_call 25; refine (sameValue_any t (mkList l) _ _ _ _ _ _ _ HT13.out (Nat.le_trans hzW12 hzW13) HV13.out (Nat.le_refl _)).mono ?_; rintro e w14 ⟨rfl, hb14⟩; rw [HNE.out]; have hgW13 : g < w13.heap.size := Nat.lt_of_lt_of_le hgW (Nat.le_trans hzW12 hzW13); have hc0 := (hb14.cell (p := ⟨g, 0, none⟩) hgW13).trans hb0; have hc1 := (hb14.cell (p := ⟨g, 1, none⟩) hgW13).trans hb1; have hc2 := (hb14.cell (p := ⟨g, 2, none⟩) hgW13).trans hb2; have hc3 := (hb14.cell (p := ⟨g, 3, none⟩) hgW13).trans hb3; have HB14 := Lib.hid (HB13.out.trans (hb14.mono HB13.out.size)); clear hb14)); dsimp only))
      go_wp2_with fail
      go_ret
      exact ⟨rfl, HB14.out⟩

theorem spoilt_all (eD eM eR eS : Value) (aY : Addr) (hP : Ptrs eD eM eR eS) (l : List T) (cut : Int) (w : World) (lo hi : Nat) (p : Option Addr) (cap : Nat) (hall : RepAll w lo hi l p) (hlc : l.length ≤ cap) (hcap : l.length * 56 ≤ 140737488355328) (hhi : hi ≤ w.heap.size) (he : Env w eD eM eR eS aY) (hcut : I64 cut) :
    Calls Tryd.prog 7 #[.slice p l.length cap, .int .i64 cut] w fun e w' => e = .returned (.bool true) ∧ Below w.heap.size w w' := by
  cases h : fewRight l 12 with
  | false => exact spoilt_few eD eM eR eS _ hP l cut w lo hi p cap hall hcap hhi he h
  | true =>
    by_cases hfit : fits (mkList l) = 0
    · exact spoilt_main eD eM eR eS _ hP l cut w lo hi p cap hall hlc hcap hhi he hcut h hfit
    · exact spoilt_great eD eM eR eS _ hP l cut w lo hi p cap hall hlc hcap hhi he h hfit

end Go.Proofs.YtcinhndidkllbaaDoor
