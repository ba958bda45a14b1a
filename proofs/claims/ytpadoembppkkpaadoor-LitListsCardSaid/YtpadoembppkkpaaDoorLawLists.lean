/- The walk of the statement on lists' texts. -/
import Derived.Test.YtpadoembppkkpaaDoorList
import Derived.Test.YtpadoembppkkpaaDoorSeeAt
namespace Go.Proofs.YtpadoembppkkpaaDoor
open Go.RowKit
set_option maxRecDepth 100000

set_option maxHeartbeats 400000 in
theorem lists_few (eD eM eR eS : Value) (aY : Addr) (hP : Ptrs eD eM eR eS) (l : List T) (cut : Int) (w : World) (lo hi : Nat) (p : Option Addr) (cap : Nat) (hall : RepAll w lo hi l p) (hcap : l.length * 56 ≤ 140737488355328) (hhi : hi ≤ w.heap.size) (he : Env w eD eM eR eS aY) (h : fewRight l 12 = false) :
    Calls Tryd.prog 8 #[.slice p l.length cap, .int .i64 cut] w fun e w' => e = .returned (.bool true) ∧ Below w.heap.size w w' := by
  have HE := Lib.hid he; clear he
  have H := Lib.hid h; clear h
  go_enter Tryd.func8, Tryd.ntmps8
  go_wp2_with (first
    | (go_at_call 21; refine (first2_any eD eM eR eS aY hP _ HE.out).mono ?_; rintro e w1 ⟨rfl, hb1⟩)
    | (go_at_call 12; refine (wvalues_any l _ lo hi p cap 12 (hall.below hb1 hhi) (by have := hb1.size; omega) (by omega)).mono ?_; rintro e w2 ⟨rfl, hb2⟩; rw [H.out]))
  go_ret
  exact ⟨rfl, hb1.trans (hb2.mono hb1.size)⟩
set_option maxHeartbeats 400000 in
theorem lists_great (eD eM eR eS : Value) (aY : Addr) (hP : Ptrs eD eM eR eS) (l : List T) (cut : Int) (w : World) (lo hi : Nat) (p : Option Addr) (cap : Nat) (hall : RepAll w lo hi l p) (hlc : l.length ≤ cap) (hcap : l.length * 56 ≤ 140737488355328) (hhi : hi ≤ w.heap.size) (he : Env w eD eM eR eS aY) (h : fewRight l 12 = true) (hfit : fits (mkList l) ≠ 0) :
    Calls Tryd.prog 8 #[.slice p l.length cap, .int .i64 cut] w fun e w' => e = .returned (.bool true) ∧ Below w.heap.size w w' := by
  have hsz := few_sz h
  have HE := Lib.hid he; clear he
  have H := Lib.hid h; clear h
  have hF : (fits (mkList l) != 0) = true := by simpa using hfit
  go_enter Tryd.func8, Tryd.ntmps8
  go_wp2_with (first
    | (go_at_call 21; refine (first2_any eD eM eR eS aY hP _ HE.out).mono ?_; rintro e w1 ⟨rfl, hb1⟩)
    | (go_at_call 12; refine (wvalues_any l _ lo hi p cap 12 (hall.below hb1 hhi) (by have := hb1.size; omega) (by omega)).mono ?_; rintro e w2 ⟨rfl, hb2⟩; rw [H.out]; have hb12 := hb1.trans (hb2.mono hb1.size); have hz2 := hb12.size)
    | (go_at_call 38; refine (rL_any l _ lo hi p cap (hall.below hb12 hhi) hlc hcap (by omega)).mono ?_; rintro e w3 ⟨v3, rfl, hv3, hb3⟩; have HV3 := Lib.hid hv3; clear hv3)
    | (go_at_call 37; refine (fits_any (mkList l) _ _ _ _ HV3.out (Nat.le_refl _) hsz).mono ?_; rintro e w4 ⟨rfl, hb4⟩))
  go_ret
  exact ⟨rfl, (hb12.trans (hb3.mono hz2)).trans (hb4.mono (by have := hb3.size; omega))⟩

set_option maxHeartbeats 1000000 in
theorem lists_main (eD eM eR eS : Value) (ad : Nat → Addr) (hP : Ptrs eD eM eR eS) (l : List T) (cut : Int) (w : World) (lo hi : Nat) (p : Option Addr) (cap : Nat) (hall : RepAll w lo hi l p) (hlc : l.length ≤ cap) (hcap : l.length * 56 ≤ 140737488355328) (hhi : hi ≤ w.heap.size) (he : Env w eD eM eR eS (ad 10)) (hS : Sents w ad) (hcut : I64 cut) (h : fewRight l 12 = true) (hfit : fits (mkList l) = 0) :
    Calls Tryd.prog 8 #[.slice p l.length cap, .int .i64 cut] w fun e w' => e = .returned (.bool true) ∧ Below w.heap.size w w' := by
  have hsz := few_sz h
  obtain ⟨hok, hodd, hsz2, hit⟩ := list_ok hall h hfit
  have htl := tx_len _ hok
  have htx4 : tx (mkList l) = 123 :: (txs l ++ [125]) := tx4 0 ByteArray.empty l
  have hlen : (txs l).length + 2 ≤ 98304 := by rw [htx4] at htl; simp at htl; omega
  have HT4 := Lib.hid htx4
  have HOK := Lib.hid hok
  have HOD := Lib.hid hodd
  have HIT := Lib.hid hit
  have HE := Lib.hid he; clear he
  have HSS := Lib.hid hS; clear hS
  have H := Lib.hid h; clear h
  have HALL := Lib.hid hall; clear hall
  have HF := Lib.hid hfit
  have HCUT := Lib.hid hcut
  clear hok hodd hit htl hsz2 htx4 hfit hcut
  go_enter Tryd.func8, Tryd.ntmps8
  go_wp2_with (first
    | (go_at_call 21; refine (first2_any eD eM eR eS (ad 10) hP _ HE.out).mono ?_; rintro e w1 ⟨rfl, hb1⟩; have HB1 := Lib.hid hb1; clear hb1)
    | (go_at_call 12; refine (wvalues_any l _ lo hi p cap 12 (HALL.out.below HB1.out hhi) (by have := HB1.out.size; omega) (by omega)).mono ?_; rintro e w2 ⟨rfl, hb2⟩; rw [H.out]; have HB2 := Lib.hid (HB1.out.trans (hb2.mono HB1.out.size)); clear hb2)
    | (go_at_call 38; refine (rL_any l _ lo hi p cap (HALL.out.below HB2.out hhi) hlc hcap (by have := HB2.out.size; omega)).mono ?_; rintro e w3 ⟨v3, rfl, hv3, hb3⟩; have HV3 := Lib.hid hv3; have HB3 := Lib.hid (HB2.out.trans (hb3.mono HB2.out.size)); clear hv3 hb3)
    | (go_at_call 37; refine (fits_any (mkList l) _ _ _ _ HV3.out (Nat.le_refl _) hsz).mono ?_; rintro e w4 ⟨rfl, hb4⟩; rw [HF.out]; have HB4 := Lib.hid (HB3.out.trans (hb4.mono HB3.out.size)); clear hb4))
  go_loopw [6, 7] (fun sv i wr => ∃ (j : Nat) (S : ByteArray), j ≤ l.length ∧ i = .int .i64 j ∧ sv = .string S ∧ S.size ≤ 200000 ∧ Hid (S.data.toList = 123 :: txs (l.take j)) ∧ Hid (Below w.heap.size w wr)) (fun _ i _ => l.length - (intOf i).toNat)
  case atStart => exact ⟨0, ⟨#[123]⟩, Nat.zero_le _, rfl, rfl, by decide, Lib.hid rfl, HB4⟩
  case round =>
    obtain ⟨j, S, hj, rfl, rfl, hSz, HSD, HBR⟩ := hrel
    by_cases hjl : j < l.length
    · obtain ⟨b, off, k, n, s, ll, q, c, rfl, hlo, hhi2, hli, c0, c1, c2, c3, hrep⟩ := (HALL.out.below HBR.out hhi).item j hjl
      have hmem := HIT.out l[j] (List.getElem_mem hjl)
      have htk : l.take (j + 1) = l.take j ++ [l[j]] := List.take_succ_eq_append_getElem hjl
      have hsn := txs_snoc (l.take j) l[j]
      rw [← htk] at hsn
      have htl : (l.take j).length = j := by rw [List.length_take]; omega
      rw [htl] at hsn
      have hle := txs_take_le l j hjl
      generalize l[j] = t at *
      have HREP := Lib.hid hrep
      have HM := Lib.hid hmem.2
      have hbz := HBR.out.size
      have hSl : S.size = 1 + (txs (l.take j)).length := by have := congrArg List.length HSD.out; simp at this; omega
      obtain ⟨TX, hTX⟩ : ∃ TX : ByteArray, (⟨(tx t).toArray⟩ : ByteArray) = TX := ⟨_, rfl⟩
      have hTXl : TX.data.toList = tx t := by rw [← hTX]
      have HTX := Lib.hid hTX
      clear hrep hmem htk htl hli hTX
      by_cases hj0 : j = 0
      · subst hj0
        simp only [Nat.zero_mul, Nat.add_zero] at c0 c1 c2 c3
        have hE : txs (l.take (0 + 1)) = tx t := by rw [hsn, if_pos rfl]
        have hTs : TX.size ≤ 100000 := by have := congrArg List.length hTXl; simp at this; rw [hE] at hle; omega
        have hnew : (S ++ TX).data.toList = 123 :: txs (l.take (0 + 1)) := by rw [catL, HSD.out, hTXl, hE]; simp [txs]
        have hns : (S ++ TX).size ≤ 200000 := by rw [catS]; simp [txs] at hSl; omega
        have HNEW := Lib.hid hnew
        have HNS := Lib.hid hns
        clear hsn hle hE hSl hTXl hnew hns
        go_wp2_with (go_at_call 23; refine (text_any eD eM eR eS (ad 10) hP t _ lo hi _ HREP.out (by omega) (HE.out.below HBR.out) HM.out).mono ?_; rintro e w5 ⟨rfl, hb5⟩; rw [HTX.out]; have HB5 := Lib.hid (HBR.out.trans (hb5.mono hbz)); clear hb5)
        go_roundw
        case measure => simp [intOf]; omega
        case rel => exact ⟨0 + 1, S ++ TX, by omega, by go_num, rfl, HNS.out, HNEW, HB5⟩
      · have hj0' : 0 < j := by omega
        have hE : txs (l.take (j + 1)) = txs (l.take j) ++ (44 :: 32 :: tx t) := by rw [hsn, if_neg hj0]
        have hTs : TX.size ≤ 100000 := by have := congrArg List.length hTXl; simp at this; rw [hE] at hle; simp at hle; omega
        have e2 : (⟨#[44, 32]⟩ : ByteArray).size = 2 := rfl
        have hnew : (S ++ ⟨#[44, 32]⟩ ++ TX).data.toList = 123 :: txs (l.take (j + 1)) := by rw [catL, catL, HSD.out, hTXl, hE]; simp
        have hns : (S ++ ⟨#[44, 32]⟩ ++ TX).size ≤ 200000 := by rw [catS, catS]; have := congrArg List.length hTXl; simp at this; rw [hE] at hle; simp at hle; omega
        have HNEW := Lib.hid hnew
        have HNS := Lib.hid hns
        clear hsn hle hE hSl hTXl hnew hns e2
        go_wp2_with (go_at_call 23; refine (text_any eD eM eR eS (ad 10) hP t _ lo hi _ HREP.out (by omega) (HE.out.below HBR.out) HM.out).mono ?_; rintro e w5 ⟨rfl, hb5⟩; rw [HTX.out]; have HB5 := Lib.hid (HBR.out.trans (hb5.mono hbz)); clear hb5)
        go_roundw
        case measure => simp [intOf]; omega
        case rel => exact ⟨j + 1, S ++ ⟨#[44, 32]⟩ ++ TX, by omega, by go_num, rfl, HNS.out, HNEW, HB5⟩
    · have hje : j = l.length := by omega
      subst hje
      obtain ⟨X, hX⟩ : ∃ X : ByteArray, S ++ ⟨#[125]⟩ = X := ⟨_, rfl⟩
      have hXl : X.data.toList = tx (mkList l) := by rw [← hX, catL, HSD.out, HT4.out]; simp
      have HXT := Lib.hid (show (⟨(tx (mkList l)).toArray⟩ : ByteArray) = X from by rw [← hXl])
      have hXs : X.size ≤ 200000 ∧ 1 ≤ X.size := by
        have := congrArg List.length hXl
        rw [HT4.out] at this
        simp at this
        omega
      have HXL := Lib.hid hXl
      clear hXl
      have hXs1 := hXs.1
      have hXs2 := hXs.2
      clear hXs
      go_wp2_with (first
        | (go_at_call 13; refine (vL_any l _ lo hi p cap (HALL.out.below HBR.out hhi) hlc hcap (by have := HBR.out.size; omega)).mono ?_; rintro e w5 ⟨⟨v5, rfl, hv5, hb5⟩, _, _⟩; have HV5 := Lib.hid hv5; have HB5 := Lib.hid (HBR.out.trans (hb5.mono HBR.out.size)); clear hv5 hb5)
        | (go_at_call 23; refine (text_any eD eM eR eS (ad 10) hP (mkList l) _ _ _ _ HV5.out (Nat.le_refl _) (HE.out.below HB5.out) HOD.out).mono ?_; rintro e w6 ⟨rfl, hb6⟩; rw [HXT.out]; have HB6 := Lib.hid (HB5.out.trans (hb6.mono HB5.out.size)); clear hb6))
      refine (number_any cut (X.size : Int) _ HCUT.out (by omega) (by omega)).mono ?_
      rintro e w7 ⟨rfl, rfl⟩
      obtain ⟨K, hK, hKl⟩ : ∃ K : Nat, numB cut (X.size : Int) = (K : Int) ∧ K < X.size := by
        unfold numB
        have h1 := Int.emod_nonneg cut (b := (X.size : Int)) (by omega)
        have h2 := Int.emod_lt_of_pos cut (b := (X.size : Int)) (by omega)
        exact ⟨(cut % (X.size : Int)).toNat, by omega, by omega⟩
      rw [hK]
      clear hK
      go_wp2_with fail
      have hsl : (X.extract 0 K).data.toList = (tx (mkList l)).take K := by
        rw [← HXL.out]; simp
      have hss : (X.extract 0 K).size = K := by rw [ByteArray.size_extract]; omega
      have hgo : Go .val (X.extract 0 K).data.toList (.bad ((X.extract 0 K).data.toList.drop K)) := by
        have e : (X.extract 0 K).data.toList.drop K = [] := List.drop_of_length_le (by simp; omega)
        rw [e, hsl]
        exact cut_list HOK.out (by rw [← HXL.out]; simpa using hKl)
      refine (read_bad eD eM eR eS (ad 10) hP (X.extract 0 K) _ (by omega) (HE.out.below HB6.out) K (by omega) (.inl hgo)).mono ?_
      rintro e w8 ⟨hb8, b, rfl, hbl8, hbx⟩
      have HB8 := Lib.hid (HB6.out.trans (hb8.mono HB6.out.size))
      have HBX := Lib.hid (show w8.heap[b]? = some (.cells #[.int .i64 (K : Int), ev (ad 10)] 68 (0, 0)) from hbx)
      have sS := fun W h1 h2 => Lib.hid (seeSame_at ad 10 (by omega) b (K : Int) W h1 h2)
      have e111 : (101 : Int) + ((10 : Nat) : Int) = 111 := rfl
      rw [e111] at sS
      clear hgo hss hsl hb8 hbx e111
      go_wp2_with (first
        | (go_at_call 40; refine (placed_any 111 (K : Int) (by omega) _).mono ?_; rintro e w9 ⟨rfl, hb9⟩; have HB9 := Lib.hid ((HB8.out.alloc HB8.out.size _).trans (hb9.mono (by have := HB8.out.size; simp; omega))); have HBX9 := Lib.hid (heap_old (heap_alloc_ _ _ _ _ HBX.out) hb9); clear hb9)
        | (go_at_call 30; refine (sS _ (HSS.out.below HB9.out) HBX9.out).out.mono ?_; rintro e w10 ⟨rfl, hb10⟩; have HB10 := Lib.hid (HB9.out.trans (hb10.mono HB9.out.size)); clear hb10))
      go_ret
      exact ⟨rfl, HB10.out⟩

theorem lists_all (eD eM eR eS : Value) (ad : Nat → Addr) (hP : Ptrs eD eM eR eS) (l : List T) (cut : Int) (w : World) (lo hi : Nat) (p : Option Addr) (cap : Nat) (hall : RepAll w lo hi l p) (hlc : l.length ≤ cap) (hcap : l.length * 56 ≤ 140737488355328) (hhi : hi ≤ w.heap.size) (he : Env w eD eM eR eS (ad 10)) (hS : Sents w ad) (hcut : I64 cut) :
    Calls Tryd.prog 8 #[.slice p l.length cap, .int .i64 cut] w fun e w' => e = .returned (.bool true) ∧ Below w.heap.size w w' := by
  cases h : fewRight l 12 with
  | false => exact lists_few eD eM eR eS _ hP l cut w lo hi p cap hall hcap hhi he h
  | true =>
    by_cases hfit : fits (mkList l) = 0
    · exact lists_main eD eM eR eS ad hP l cut w lo hi p cap hall hlc hcap hhi he hS hcut h hfit
    · exact lists_great eD eM eR eS _ hP l cut w lo hi p cap hall hlc hcap hhi he h hfit

end Go.Proofs.YtpadoembppkkpaaDoor
