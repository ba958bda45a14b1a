/- Package match: which words fit; the names of a verb. -/
import Derived.Test.YtcecgfijfnnpeaaDoorMs
namespace Go.Proofs.YtcecgfijfnnpeaaDoor.Mt
open Go.RowKit
set_option maxRecDepth 100000

theorem below_dn (w : World) (n : Nat) : Below w.heap.size w (w.drewN n) := ⟨rfl, rfl, rfl, Nat.le_refl _, fun _ _ => rfl⟩
theorem bytes_beq {x y : ByteArray} : (x.toList == y.toList) = (x.data.toList == y.data.toList) := by rw [Go.ByteArray.toList_eq, Go.ByteArray.toList_eq]
theorem data_app (A B : ByteArray) : (A ++ B).data.toList = A.data.toList ++ B.data.toList := by simp [ByteArray.data_append]
set_option maxHeartbeats 1000000 in
theorem fits_any (p s : ByteArray) (w : World) (hs : p.size ≤ 1000000) (hM : MaxL w) : Calls Tryd.prog 35 #[.string p, .string s] w fun e w' => e = .returned (.bool (fitsB p.data.toList s.data.toList)) ∧ Below w.heap.size w w' := by
  obtain ⟨m, hm⟩ := hM
  have hp : fitsB p.data.toList s.data.toList = (if (Lib.cut p.data.toList [42]).2.2 then Lib.hasPrefix s.data.toList (Lib.cut p.data.toList [42]).1 && ((Lib.cut p.data.toList [42]).2.1.isEmpty || Lib.hasPrefix ((Lib.cut p.data.toList [42]).1 ++ (Lib.cut p.data.toList [42]).2.1) s.data.toList) else s.data.toList == p.data.toList) := rfl
  have HC := Lib.hid (show Calls Tryd.prog 49 #[.string p, .string ⟨#[42]⟩] w fun e w' => e = .returned (.tuple #[.string ⟨(Lib.cut p.data.toList [42]).1.toArray⟩, .string ⟨(Lib.cut p.data.toList [42]).2.1.toArray⟩, .bool (Lib.cut p.data.toList [42]).2.2]) ∧ ∃ n, w' = w.drewN n from Tryd.strings_Cut p ⟨#[42]⟩ m w (by omega) hm)
  have hcl : (Lib.cut p.data.toList [42]).1.length + (Lib.cut p.data.toList [42]).2.1.length ≤ p.size := by
    have hl := len_data p
    rcases first_of p.data.toList 42 with h | ⟨a, b, h1, h2⟩
    · rw [cut_no _ _ h]; simp
    · rw [h1, cut_at _ _ _ h2]
      rw [h1, List.length_append, List.length_cons] at hl
      simp only; omega
  obtain ⟨A, hA⟩ : ∃ A : ByteArray, (⟨(Lib.cut p.data.toList [42]).1.toArray⟩ : ByteArray) = A := ⟨_, rfl⟩
  obtain ⟨B, hB⟩ : ∃ B : ByteArray, (⟨(Lib.cut p.data.toList [42]).2.1.toArray⟩ : ByteArray) = B := ⟨_, rfl⟩
  have hAd : A.data.toList = (Lib.cut p.data.toList [42]).1 := by rw [← hA]
  have hBd : B.data.toList = (Lib.cut p.data.toList [42]).2.1 := by rw [← hB]
  rw [hA, hB] at HC
  rw [← hAd, ← hBd] at hp hcl
  generalize (Lib.cut p.data.toList [42]).2.2 = st at HC hp
  rw [len_data, len_data] at hcl
  have hz : (A ++ B).size = A.size + B.size := by simp
  rw [← data_app] at hp
  have H1 := Lib.hid (fun w => Tryd.strings_HasPrefix (A ++ B) s w)
  have H2 := Lib.hid (fun w => Tryd.strings_HasPrefix s A w)
  have hq : (s.toList == p.toList) = (s.data.toList == p.data.toList) := bytes_beq
  have hbe := empty_iff B
  have hbe2 : B.data.toList.isEmpty = decide (B.size = 0) := by rw [← Go.ByteArray.toList_eq]; exact hbe
  rw [hbe2] at hp
  clear hA hB hAd hBd hbe2
  cases st with
  | false =>
    have HP := Lib.hid (hp.trans (if_neg (by simp)))
    have HQ := Lib.hid hq
    clear hp hq hbe
    go_enter Tryd.func35, Tryd.ntmps35
    go_wp2_with (go_at_call 49; refine HC.out.mono ?_; rintro e w2 ⟨rfl, n, rfl⟩)
    go_ret; exact ⟨by rw [HP.out, ← HQ.out]; rfl, below_dn _ _⟩
  | true =>
    have hp := hp.trans (if_pos rfl)
    by_cases hb : B.size = 0
    · have HP : Hid (fitsB p.data.toList s.data.toList = Lib.hasPrefix s.data.toList A.data.toList) := Lib.hid (by rw [hp, decide_eq_true hb]; simp)
      have he : B.toList.isEmpty = true := by rw [hbe, decide_eq_true hb]
      clear hp hq hbe hb hz hcl
      go_enter Tryd.func35, Tryd.ntmps35
      go_wp2_with (first
        | (go_at_call 49; refine HC.out.mono ?_; rintro e w2 ⟨rfl, n, rfl⟩)
        | (go_at_call 53; refine (H2.out _).mono ?_; rintro e w2 ⟨rfl, rfl⟩))
      go_ret; exact ⟨by rw [HP.out]; rfl, below_dn _ _⟩
    · rw [decide_eq_false hb, Bool.false_or] at hp
      have he : B.toList.isEmpty = false := by rw [hbe, decide_eq_false hb]
      clear hq hbe hb
      cases hx : Lib.hasPrefix (A ++ B).data.toList s.data.toList with
      | false =>
        have HP : Hid (fitsB p.data.toList s.data.toList = false) := Lib.hid (by rw [hp, hx]; simp)
        have H3 := Lib.hid (fun w => by have := H1.out w; rw [hx] at this; exact this)
        clear hp hx H1
        go_enter Tryd.func35, Tryd.ntmps35
        go_wp2_with (first
          | (go_at_call 49; refine HC.out.mono ?_; rintro e w2 ⟨rfl, n, rfl⟩)
          | (go_at_call 53; refine (H3.out _).mono ?_; rintro e w2 ⟨rfl, rfl⟩))
        go_ret; exact ⟨by rw [HP.out]; rfl, below_dn _ _⟩
      | true =>
        have HP : Hid (fitsB p.data.toList s.data.toList = Lib.hasPrefix s.data.toList A.data.toList) := Lib.hid (by rw [hp, hx]; simp)
        have H3 := Lib.hid (fun w => by have := H1.out w; rw [hx] at this; exact this)
        clear hp hx H1
        go_enter Tryd.func35, Tryd.ntmps35
        go_wp2_with (first
          | (go_at_call 49; refine HC.out.mono ?_; rintro e w2 ⟨rfl, n, rfl⟩)
          | (go_at_call 53; first | (with_reducible refine (H3.out _).mono ?_; rintro e w2 ⟨rfl, rfl⟩) | (with_reducible refine (H2.out _).mono ?_; rintro e w2 ⟨rfl, rfl⟩)))
        go_ret; exact ⟨by rw [HP.out]; rfl, below_dn _ _⟩

theorem split_small : ∀ (n : Nat) (l : Ls), l.length ≤ n → ∀ x ∈ Lib.split l [32], x.length ≤ l.length
  | n, l, hn, x, hx => by
    rcases first_of l 32 with h | ⟨a, b, h1, h2⟩
    · rw [split_no _ _ h] at hx; simp at hx; subst hx; exact Nat.le_refl _
    · rw [h1, split_at_ _ _ _ h2, List.mem_cons] at hx
      rw [h1, List.length_append, List.length_cons] at hn ⊢
      rcases hx with rfl | hx
      · omega
      · cases n with
        | zero => omega
        | succ n => have := split_small n b (by omega) x hx; omega
/-- What strings.Split lays. -/
theorem split_laid (s : ByteArray) (w : World) (hs : s.size ≤ 1000000) (hM : MaxL w) :
    Calls Tryd.prog 31 #[.string s, .string ⟨#[32]⟩] w fun e w' => (∃ (q : Option Addr) (c : Nat) (L : List ByteArray), e = .returned (.slice q L.length c) ∧ L.map (·.data.toList) = Lib.split s.data.toList [32] ∧ TRow w' w'.heap.size q L ∧ L.length ≤ 1000001 ∧ ∀ x ∈ L, x.size ≤ 1000000) ∧ Below w.heap.size w w' := by
  obtain ⟨m, hm⟩ := hM
  refine (Tryd.strings_Split s ⟨#[32]⟩ m w (by omega) hm (by decide)).mono ?_
  rintro e w' ⟨rfl, rfl⟩
  have hlen : (Lib.splitB ⟨#[32]⟩ 0 (Lib.countB s ⟨#[32]⟩) s).length = Lib.countB s ⟨#[32]⟩ + 1 := Lib.splitB_all ⟨#[32]⟩ (by decide) 0 _ s rfl
  have hle := Lib.countB_le ⟨#[32]⟩ (by decide) s.size s (Nat.le_refl _)
  have hd : (Lib.splitB ⟨#[32]⟩ 0 (Lib.countB s ⟨#[32]⟩) s).map (·.data.toList) = Lib.split s.data.toList [32] := Lib.splitB_data _ _ _ _
  generalize hL : Lib.splitB ⟨#[32]⟩ 0 (Lib.countB s ⟨#[32]⟩) s = L at *
  refine ⟨⟨_, _, L, by rw [← hlen], hd, .inr ⟨w.heap.size, 0, rfl, by simp, fun i hi => ?_⟩, by omega, fun x hx => ?_⟩, (Below.refl _ _).alloc (Nat.le_refl _) _⟩
  · rw [cell_of_row _ _ _ _ _ _ (heap_alloc_new w (.cells (L.map Value.string).toArray 9)), Nat.zero_add]
    simp [hi]
  · have := split_small _ s.data.toList (Nat.le_refl _) x.data.toList (by rw [← hd]; exact List.mem_map_of_mem hx)
    rw [len_data, len_data] at this; omega

set_option maxHeartbeats 2000000 in
theorem valid_any (s : ByteArray) (w : World) (hs : s.size ≤ 1000000) (hM : MaxL w) : Calls Tryd.prog 13 #[.string s] w fun e w' => e = .returned (.bool (validB s.data.toList)) ∧ Below w.heap.size w w' := by
  by_cases h64 : 64 < s.size
  · have HV : Hid (validB s.data.toList = false) := Lib.hid (by unfold validB; rw [len_data, decide_eq_false (by omega)]; rfl)
    have d1 : decide ((64 : Int) < (s.size : Int)) = true := by simp; omega
    go_enter Tryd.func13, Tryd.ntmps13
    go_wp2
    go_ret; exact ⟨by rw [HV.out]; rfl, Below.refl _ _⟩
  have d1 : decide ((64 : Int) < (s.size : Int)) = false := by simp; omega
  have HV : Hid (validB s.data.toList = (Lib.split s.data.toList [32]).all patB) := Lib.hid (by unfold validB; rw [len_data, decide_eq_true (by omega)]; rfl)
  have HS := Lib.hid (split_laid s w hs hM)
  have HM := Lib.hid hM; clear hM
  go_enter Tryd.func13, Tryd.ntmps13
  go_wp2_with (go_at_call 31; refine HS.out.mono ?_; rintro e w2 ⟨⟨q, c, L, rfl, hd, hr, hll, hz⟩, hb2⟩; have HB2 := Lib.hid hb2; have HR := Lib.hid hr; have HZ := Lib.hid hz; have HV2 := Lib.hid (HV.out.trans (congrArg (fun l => l.all patB) hd.symm)); clear hb2 hr hz hd)
  go_loopw [11] (fun i wr => ∃ j : Nat, j ≤ L.length ∧ i = .int .i64 j ∧ Hid ((L.map (·.data.toList)).all patB = ((L.drop j).map (·.data.toList)).all patB) ∧ Hid (Below w2.heap.size w2 wr)) (fun i _ => L.length - (intOf i).toNat)
  case atStart => exact ⟨0, Nat.zero_le _, rfl, Lib.hid rfl, Lib.hid (Below.refl _ _)⟩
  case round =>
    obtain ⟨j, hj, rfl, HA, HB⟩ := hrel
    by_cases hlt : j < L.length
    · obtain ⟨b, off, hp, hb, h0⟩ := (HR.out.below HB.out).at_ j hlt
      subst hp
      have HA1 := HA.out
      rw [List.drop_eq_getElem_cons hlt, List.map_cons, List.all_cons] at HA1
      have hbz := HB.out.size
      have HC := Lib.hid (isPattern_any L[j] wr (HZ.out _ (List.getElem_mem hlt)) ((HM.out.below HB2.out).below HB.out))
      cases hq : patB L[j].data.toList with
      | false =>
        have HF := Lib.hid (show validB s.data.toList = false from by rw [HV2.out, HA1, hq]; rfl)
        rw [hq] at HC
        clear HA1 HA hq HV2
        go_wp2_with (go_at_call 32; refine HC.out.mono ?_; rintro e w3 ⟨rfl, hb3⟩; have HB3 := Lib.hid (HB2.out.trans ((HB.out.trans (hb3.mono hbz)).mono HB2.out.size)); clear hb3)
        go_ret; exact ⟨by rw [HF.out]; rfl, HB3.out⟩
      | true =>
        rw [hq, Bool.true_and] at HA1
        have HA2 := Lib.hid HA1
        rw [hq] at HC
        clear HA1 HA hq
        go_wp2_with (go_at_call 32; refine HC.out.mono ?_; rintro e w3 ⟨rfl, hb3⟩; have HB3 := Lib.hid (HB.out.trans (hb3.mono hbz)); clear hb3)
        go_roundw
        case rel => exact ⟨j + 1, by omega, by go_num, HA2, HB3⟩
        case measure => simp [intOf]; omega
    · have hje : j = L.length := by omega
      have HF := Lib.hid (show validB s.data.toList = true from by rw [HV2.out, HA.out, hje, List.drop_length]; rfl)
      clear HA
      have HB3 := Lib.hid (HB2.out.trans (HB.out.mono HB2.out.size))
      go_wp2
      go_ret; exact ⟨by rw [HF.out]; rfl, HB3.out⟩

set_option maxHeartbeats 2000000 in
theorem verb_any (s t : ByteArray) (w : World) (hs : s.size ≤ 1000000) (hM : MaxL w) : Calls Tryd.prog 15 #[.string s, .string t] w fun e w' => e = .returned (.bool (verbB s.data.toList t.data.toList)) ∧ Below w.heap.size w w' := by
  have HVV := Lib.hid (valid_any s w hs hM)
  cases hv : validB s.data.toList with
  | false =>
    have HV : Hid (verbB s.data.toList t.data.toList = false) := Lib.hid (by unfold verbB; rw [hv]; rfl)
    rw [hv] at HVV
    clear hv
    go_enter Tryd.func15, Tryd.ntmps15
    go_wp2_with (go_at_call 13; refine HVV.out.mono ?_; rintro e w1 ⟨rfl, hb1⟩; have HB1 := Lib.hid hb1; clear hb1)
    go_ret; exact ⟨by rw [HV.out]; rfl, HB1.out⟩
  | true =>
  have HV : Hid (verbB s.data.toList t.data.toList = (Lib.split s.data.toList [32]).any (fun p => fitsB p t.data.toList)) := Lib.hid (by unfold verbB; rw [hv]; rfl)
  rw [hv] at HVV
  clear hv
  have HS := Lib.hid (fun (W : World) (h : MaxL W) => split_laid s W hs h)
  have HM := Lib.hid hM; clear hM
  go_enter Tryd.func15, Tryd.ntmps15
  go_wp2_with (first
    | (go_at_call 13; refine HVV.out.mono ?_; rintro e w1 ⟨rfl, hb1⟩; have HM1 := Lib.hid (HM.out.below hb1); have HB1 := Lib.hid hb1; clear hb1)
    | (go_at_call 31; refine (HS.out _ HM1.out).mono ?_; rintro e w2 ⟨⟨q, c, L, rfl, hd, hr, hll, hz⟩, hb2⟩; have HM2 := Lib.hid (HM1.out.below hb2); have HB2 := Lib.hid (HB1.out.trans (hb2.mono HB1.out.size)); have HR := Lib.hid hr; have HZ := Lib.hid hz; have HV2 := Lib.hid (HV.out.trans (congrArg (fun l => l.any (fun p => fitsB p t.data.toList)) hd.symm)); clear hb2 hr hz hd))
  go_loopw [13] (fun i wr => ∃ j : Nat, j ≤ L.length ∧ i = .int .i64 j ∧ Hid ((L.map (·.data.toList)).any (fun p => fitsB p t.data.toList) = ((L.drop j).map (·.data.toList)).any (fun p => fitsB p t.data.toList)) ∧ Hid (Below w2.heap.size w2 wr)) (fun i _ => L.length - (intOf i).toNat)
  case atStart => exact ⟨0, Nat.zero_le _, rfl, Lib.hid rfl, Lib.hid (Below.refl _ _)⟩
  case round =>
    obtain ⟨j, hj, rfl, HA, HB⟩ := hrel
    by_cases hlt : j < L.length
    · obtain ⟨b, off, hp, hb, h0⟩ := (HR.out.below HB.out).at_ j hlt
      subst hp
      have HA1 := HA.out
      rw [List.drop_eq_getElem_cons hlt, List.map_cons, List.any_cons] at HA1
      have hbz := HB.out.size
      have HC := Lib.hid (fits_any L[j] t wr (HZ.out _ (List.getElem_mem hlt)) (HM2.out.below HB.out))
      cases hq : fitsB L[j].data.toList t.data.toList with
      | true =>
        have HF := Lib.hid (show verbB s.data.toList t.data.toList = true from by rw [HV2.out, HA1, hq]; rfl)
        rw [hq] at HC
        clear HA1 HA hq HV2
        go_wp2_with (go_at_call 35; refine HC.out.mono ?_; rintro e w3 ⟨rfl, hb3⟩; have HB3 := Lib.hid (HB2.out.trans ((HB.out.trans (hb3.mono hbz)).mono HB2.out.size)); clear hb3)
        go_ret; exact ⟨by rw [HF.out]; rfl, HB3.out⟩
      | false =>
        rw [hq, Bool.false_or] at HA1
        have HA2 := Lib.hid HA1
        rw [hq] at HC
        clear HA1 HA hq
        go_wp2_with (go_at_call 35; refine HC.out.mono ?_; rintro e w3 ⟨rfl, hb3⟩; have HB3 := Lib.hid (HB.out.trans (hb3.mono hbz)); clear hb3)
        go_roundw
        case rel => exact ⟨j + 1, by omega, by go_num, HA2, HB3⟩
        case measure => simp [intOf]; omega
    · have hje : j = L.length := by omega
      have HF := Lib.hid (show verbB s.data.toList t.data.toList = false from by rw [HV2.out, HA.out, hje, List.drop_length]; rfl)
      clear HA
      have HB3 := Lib.hid (HB2.out.trans (HB.out.mono HB2.out.size))
      go_wp2
      go_ret; exact ⟨by rw [HF.out]; rfl, HB3.out⟩
end Go.Proofs.YtcecgfijfnnpeaaDoor.Mt
