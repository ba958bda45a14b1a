/- The walk of the statement on replacing. -/
import Derived.Test.YtnlbibfjhobmjaaRep
import Derived.Test.YtnlbibfjhobmjaaRepN
import Derived.Laws.Concat
namespace Go.Proofs.Ytnlbibfjhobmjaa
open Go.RowKit
set_option maxRecDepth 100000
attribute [local go_sem ↓] run_string_add

abbrev sA : ByteArray := ⟨#[97]⟩
theorem sA_list : sA.data.toList = [97] := rfl
/-- What replacing 'a' gives. -/
theorem repA (s wi : ByteArray) (h : (rep [97] wi.data.toList s.data.toList).length < 4096) : ∃ t : ByteArray, repS s sA wi = t ∧ repC s sA wi = 0 ∧ t.data.toList = rep [97] wi.data.toList s.data.toList ∧ t.size = (rep [97] wi.data.toList s.data.toList).length := by
  refine ⟨_, rfl, ?_, ?_⟩
  · unfold repC; rw [if_neg (by decide), sA_list, topC_small h]
  · have e : repS s sA wi = ⟨(rep [97] wi.data.toList s.data.toList).toArray⟩ := by unfold repS; rw [if_neg (by decide), sA_list, topS_small h]
    rw [e]
    exact ⟨by simp, by rw [← len_list]⟩
theorem repA_big (s wi : ByteArray) (h : ¬ (rep [97] wi.data.toList s.data.toList).length < 4096) : repS s sA wi = ⟨#[]⟩ ∧ repC s sA wi = 14 := by
  constructor
  · unfold repS; rw [if_neg (by decide), sA_list, topS_big h]
  · unfold repC; rw [if_neg (by decide), sA_list, topC_big h]
def many (c : UInt8) (n : Nat) : ByteArray := ⟨(List.replicate n c).toArray⟩
theorem many_list (c : UInt8) (n : Nat) : (many c n).data.toList = List.replicate n c := by simp [many]
theorem many_size (c : UInt8) (n : Nat) : (many c n).size = n := by rw [← len_list, many_list]; simp
theorem many_snoc (c : UInt8) (n : Nat) : many c n ++ ⟨#[c]⟩ = many c (n + 1) := by
  apply ByteArray.ext; apply Array.ext'
  rw [show (many c n ++ ⟨#[c]⟩).data.toList = (many c n).data.toList ++ [c] by simp, many_list]
  rw [show (many c (n + 1)).data.toList = List.replicate (n + 1) c from many_list c (n + 1), List.replicate_succ']

set_option maxHeartbeats 4000000 in
theorem replaces_main (s : ByteArray) (n : Int) (w : World) (hs : s.size ≤ 200) (hn : I64 n) (hm : MaxL w) :
    Calls Try.prog 5 #[.string s, .int .i64 n] w fun e w' => e = .returned (.bool true) ∧ Below w.heap.size w w' := by
  have HM := Lib.hid hm
  have HN := Lib.hid hn
  clear hm hn
  have HMG := Lib.hid (show 0 < w.heap.size from by obtain ⟨m, h⟩ := HM.out; exact World.block_lt_of_cell? w (a := ⟨0, 0, none⟩) h)
  have hc := rep_one_len 97 [] s.data.toList
  have hcb := rep_one_len 97 [98, 99, 98] s.data.toList
  have hc1 : s.data.toList.count 97 ≤ s.data.toList.length := List.count_le_length
  rw [len_list] at hc hcb hc1
  simp only [List.length_nil, List.length_cons, Nat.mul_zero] at hc hcb
  obtain ⟨t, t1, t2, t3, t4⟩ := repA s ⟨#[]⟩ (by show (rep [97] [] _).length < 4096; omega)
  obtain ⟨u, u1, u2, u3, u4⟩ := repA s ⟨#[98, 99, 98]⟩ (by show (rep [97] [98, 99, 98] _).length < 4096; omega)
  obtain ⟨v, v1, v2, v3, v4⟩ := repA s ⟨#[97]⟩ (by show (rep [97] [97] _).length < 4096; rw [rep_one_self, len_list]; omega)
  have ev : v = s := by
    apply ByteArray.ext; apply Array.ext'
    rw [v3]; exact rep_one_self 97 _
  have T1 := Lib.hid t1; have T2 := Lib.hid t2; have U1 := Lib.hid u1; have U2 := Lib.hid u2; have V2 := Lib.hid v2
  have V1 := Lib.hid (v1.trans ev)
  have IT := Lib.hid (show Lib.index t.data.toList [97] = -1 from by rw [t3]; exact index_none _ _ (rep_one_mem _ _ (by simp) _))
  have IU := Lib.hid (show Lib.index u.data.toList [97] = -1 from by rw [u3]; exact index_none _ _ (rep_one_mem _ _ (by decide) _))
  have ht : t.size + s.data.toList.count 97 = s.size := by rw [t4]; exact hc
  have hu : u.size = s.size + 2 * s.data.toList.count 97 := by rw [u4]; have : (rep [97] (ByteArray.mk #[98, 99, 98]).data.toList s.data.toList).length = (rep [97] [98, 99, 98] s.data.toList).length := rfl; omega
  clear t1 t2 u1 u2 v1 v2 v3 v4 t3 t4 u3 u4 hc hcb ev
  generalize s.data.toList.count 97 = cnt at *
  obtain ⟨N, hNB, hN⟩ : ∃ N : Nat, numB n 3000 = (N : Int) ∧ N < 3000 := by
    have h1 := Int.emod_nonneg n (b := 3000) (by omega)
    have h2 := Int.emod_lt_of_pos n (b := 3000) (by omega)
    exact ⟨(n % 3000).toNat, by unfold numB; omega, by omega⟩
  have HNB := Lib.hid hNB; clear hNB
  have hd : decide ((200 : Int) < (s.size : Int)) = false := by simp; omega
  have hq : ((u.size : Int) - (s.size : Int) != 2 * ((s.size : Int) - (t.size : Int))) = false := by simp; omega
  go_enter Try.func5, Try.ntmps5
  go_wp2_with (first
    | (go_at_call 7; refine (first3_any _).mono ?_; rintro e w1 ⟨rfl, rfl⟩)
    | (go_at_call_of 9 (Value.string ⟨#[]⟩); refine (replace_any s sA ⟨#[]⟩ _ (by omega) (by decide) (by decide) HM.out).mono ?_; rintro e w2 ⟨rfl, hb2⟩; rw [T1.out, T2.out]; have HB2 := Lib.hid hb2; clear hb2)
    | (go_at_call_of 9 (Value.string ⟨#[98, 99, 98]⟩); refine (replace_any s sA ⟨#[98, 99, 98]⟩ _ (by omega) (by decide) (by decide) (HM.out.below HB2.out HMG.out)).mono ?_; rintro e w3 ⟨rfl, hb3⟩; rw [U1.out, U2.out]; have HB3 := Lib.hid (HB2.out.trans (hb3.mono HB2.out.size)); clear hb3)
    | (go_at_call_of 9 (Value.string s); refine (replace_any s sA sA _ (by omega) (by decide) (by decide) (HM.out.below HB3.out HMG.out)).mono ?_; rintro e w4 ⟨rfl, hb4⟩; rw [V1.out, V2.out]; have HB4 := Lib.hid (HB3.out.trans (hb4.mono HB3.out.size)); clear hb4)
    | (go_at_call_of 14 (Value.string t); refine (strIndex_any t sA (-1) _ (by omega) (HM.out.below HB4.out HMG.out) IT.out (by omega) (by omega)).mono ?_; rintro e w5 ⟨rfl, rfl⟩)
    | (go_at_call_of 14 (Value.string u); refine (strIndex_any u sA (-1) _ (by omega) (HM.out.below HB4.out HMG.out) IU.out (by omega) (by omega)).mono ?_; rintro e w5 ⟨rfl, rfl⟩)
    | (go_at_call 13; refine (number_any _ _ _ HN.out (by omega) (by omega)).mono ?_; rintro e w2 ⟨rfl, rfl⟩; rw [HNB.out]))
  clear HB2 HB3 T1 T2 U1 U2 V1 V2 IT IU hd hq ht hu hc1
  go_loopw [12, 13] (fun v i wr => ∃ j : Nat, j ≤ 40 ∧ v = .string (many 97 j) ∧ i = .int .i64 j ∧ Hid (Below w.heap.size w wr)) (fun _ i _ => 40 - (intOf i).toNat)
  case atStart => exact ⟨0, by omega, by rfl, rfl, HB4⟩
  case round =>
    obtain ⟨j, hj, rfl, rfl, hbel⟩ := hrel
    by_cases hlt : j < 40
    · have HS := Lib.hid (many_snoc 97 j)
      have hz : ((many 97 j).size : Int) ≤ 8388608 := by rw [many_size]; omega
      generalize many 97 j = L at *
      go_wp2
      go_roundw
      case measure => simp [intOf]; omega
      case rel => exact ⟨j + 1, by omega, by rw [← HS.out], by go_num, hbel⟩
    · obtain rfl : j = 40 := by omega
      go_wp2
      clear hj hlt
      have hNK : N / 10 ≤ 299 := by omega
      obtain ⟨W, hW, hWz⟩ : ∃ W, W = many 97 40 ∧ W.size = 40 := ⟨_, rfl, many_size _ _⟩
      rw [← hW]
      have HW := Lib.hid hW; clear hW
      go_loopw [14, 15] (fun v i wr2 => ∃ j : Nat, j ≤ N / 10 ∧ v = .string (many 120 j) ∧ i = .int .i64 j ∧ Hid (Below w.heap.size w wr2)) (fun _ i _ => N / 10 - (intOf i).toNat)
      case atStart => exact ⟨0, by omega, by rfl, rfl, hbel⟩
      case round =>
        clear hbel
        obtain ⟨j, hj, rfl, rfl, hbel⟩ := hrel
        by_cases hlt : j < N / 10
        · have HS := Lib.hid (many_snoc 120 j)
          have hz : ((many 120 j).size : Int) ≤ 8388608 := by rw [many_size]; omega
          generalize many 120 j = L at *
          go_wp2
          go_roundw
          case measure => simp [intOf]; omega
          case rel => exact ⟨j + 1, by omega, by rw [← HS.out], by go_num, hbel⟩
        · obtain rfl : j = N / 10 := by omega
          clear hj hlt
          have hXz := many_size 120 (N / 10)
          generalize hK : N / 10 = K at *
          generalize many 120 K = X at *
          have hlen : (rep [97] X.data.toList W.data.toList).length = 40 * X.size := by
            rw [HW.out, many_list, rep_one_all, len_list]
          by_cases hbig : 40 * X.size < 4096
          · obtain ⟨x, x1, x2, _, x4⟩ := repA W X (by rw [hlen]; exact hbig)
            rw [hlen] at x4
            have X1 := Lib.hid x1; have X2 := Lib.hid x2
            have HL := Lib.hid hlen
            clear x1 x2 hlen
            have d1 : decide ((4096 : Int) ≤ 40 * (X.size : Int)) = false := by simp; omega
            have d2 : ((x.size : Int) == 40 * (X.size : Int)) = true := by simp; omega
            go_wp2_with (go_at_call 9; refine (replace_any W sA X _ (by omega) (by decide) (by omega) (HM.out.below hbel.out HMG.out)).mono ?_; rintro e w2 ⟨rfl, hb2⟩; rw [X1.out, X2.out]; have HB2 := Lib.hid (hbel.out.trans (hb2.mono hbel.out.size)); clear hb2)
            go_ret
            exact ⟨rfl, HB2.out⟩
          · obtain ⟨x1, x2⟩ := repA_big W X (by rw [hlen]; exact hbig)
            have X1 := Lib.hid x1; have X2 := Lib.hid x2
            clear x1 x2 hlen
            have d1 : decide ((4096 : Int) ≤ 40 * (X.size : Int)) = true := by simp; omega
            go_wp2_with (go_at_call 9; refine (replace_any W sA X _ (by omega) (by decide) (by omega) (HM.out.below hbel.out HMG.out)).mono ?_; rintro e w2 ⟨rfl, hb2⟩; rw [X1.out, X2.out]; have HB2 := Lib.hid (hbel.out.trans (hb2.mono hbel.out.size)); clear hb2)
            go_ret
            exact ⟨rfl, HB2.out⟩
theorem replaces_all (s : ByteArray) (n : Int) (w : World) (hs : s.size ≤ 9223372036854775807) (hn : I64 n) (hm : MaxL w) :
    Calls Try.prog 5 #[.string s, .int .i64 n] w fun e w' => e = .returned (.bool true) ∧ Below w.heap.size w w' := by
  by_cases h : s.size ≤ 200
  · exact replaces_main s n w h hn hm
  · have hd1 : decide ((200 : Int) < (s.size : Int)) = true := by simp; omega
    clear h hn hm
    go_enter Try.func5, Try.ntmps5
    go_wp2_with (go_at_call 7; refine (first3_any _).mono ?_; rintro e w1 ⟨rfl, rfl⟩)
    go_ret
    exact ⟨rfl, Below.refl _ _⟩
end Go.Proofs.Ytnlbibfjhobmjaa
