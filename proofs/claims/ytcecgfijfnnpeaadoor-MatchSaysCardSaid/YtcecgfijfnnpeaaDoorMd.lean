/- The document's names of verbs: which may be; which words fit. -/
import Derived.Test.YtcecgfijfnnpeaaDoorMc
namespace Go.Proofs.YtcecgfijfnnpeaaDoor.Mt
open Go.RowKit
set_option maxRecDepth 100000

theorem pat_nil : patB [] = false := by decide +kernel
theorem valid_bad {l : Ls} (h : [] ∈ Lib.split l [32]) : validB l = false := by
  unfold validB
  have : (Lib.split l [32]).all patB = false := by rw [List.all_eq_false]; exact ⟨[], h, by rw [pat_nil]; simp⟩
  rw [this]; simp
set_option maxHeartbeats 1000000 in
theorem rvalid_any (s : ByteArray) (hs : s.size ≤ 100000) (w : World) : Calls Tryd.prog 14 #[.string s] w fun e w' => e = .returned (.bool (validB s.data.toList)) ∧ Below w.heap.size w w' := by
  by_cases h64 : 64 < s.size
  · have HV : Hid (validB s.data.toList = false) := Lib.hid (by unfold validB; rw [len_data, decide_eq_false (by omega)]; rfl)
    have d1 : decide ((64 : Int) < (s.size : Int)) = true := by simp; omega
    go_enter Tryd.func14, Tryd.ntmps14
    go_wp2
    go_ret; exact ⟨by rw [HV.out]; rfl, Below.refl _ _⟩
  have d1 : decide ((64 : Int) < (s.size : Int)) = false := by simp; omega
  have HV : Hid (validB s.data.toList = (Lib.split s.data.toList [32]).all patB) := Lib.hid (by unfold validB; rw [len_data, decide_eq_true (by omega)]; rfl)
  have HS := Lib.hid (parts_any s hs w)
  have HB0 := Lib.hid (fun h => valid_bad (l := s.data.toList) h)
  go_enter Tryd.func14, Tryd.ntmps14
  go_upto_region 3 with fail
  go_cut [3, 4] from 9 to 13 (fun v b wx => ∃ (q : Option Addr) (c : Nat) (L : List ByteArray) (is : Bool), v = .slice q L.length c ∧ b = .bool is ∧ Hid (validB s.data.toList = (is && (L.map (·.data.toList)).all patB)) ∧ Hid (TRow wx wx.heap.size q L) ∧ L.length ≤ 100001 ∧ Hid (∀ x ∈ L, x.size ≤ 1000000) ∧ Hid (Below w.heap.size w wx))
  case first =>
    go_wp2_with (go_at_call 33; refine HS.out.mono ?_; rintro e w2 ⟨h, hb2⟩; have HB2 := Lib.hid hb2; clear hb2; rcases h with ⟨q, c, L, rfl, hd, hr, hll, hz, _⟩ | ⟨rfl, hbad⟩)
    · go_meet
      exact ⟨q, c, L, true, rfl, rfl, Lib.hid (by rw [HV.out, hd]; rfl), Lib.hid hr, hll, Lib.hid hz, HB2⟩
    · go_meet
      exact ⟨none, 0, [], false, rfl, rfl, Lib.hid (HB0.out hbad), Lib.hid (.inl rfl), by simp, Lib.hid (by simp), HB2⟩
  rename World => w2
  obtain ⟨q, c, L, is, rfl, rfl, HV2, HR, hll, HZ, HB2⟩ := hcut
  go_wp2
  go_loopw [4, 5] (fun b i wr => ∃ (j : Nat) (tb : Bool), j ≤ L.length ∧ i = .int .i64 j ∧ b = .bool tb ∧ Hid (validB s.data.toList = (tb && ((L.drop j).map (·.data.toList)).all patB)) ∧ Hid (Below w2.heap.size w2 wr)) (fun _ i _ => L.length - (intOf i).toNat)
  case atStart => exact ⟨0, is, Nat.zero_le _, rfl, rfl, HV2, Lib.hid (Below.refl _ _)⟩
  case round =>
    obtain ⟨j, tb, hj, rfl, rfl, HA, HB⟩ := hrel
    by_cases hlt : j < L.length
    · obtain ⟨b, off, hp, hb, h0⟩ := (HR.out.below HB.out).at_ j hlt
      subst hp
      have HA1 := HA.out
      rw [List.drop_eq_getElem_cons hlt, List.map_cons, List.all_cons, ← Bool.and_assoc] at HA1
      have hbz := HB.out.size
      cases tb with
      | false =>
        have HA2 : Hid (validB s.data.toList = (false && ((L.drop (j + 1)).map (·.data.toList)).all patB)) := Lib.hid (by rw [HA1]; simp)
        clear HA1 HA
        go_wp2
        go_roundw
        case rel => exact ⟨j + 1, false, by omega, by go_num, rfl, HA2, HB⟩
        case measure => simp [intOf]; omega
      | true =>
        have HC := Lib.hid (pattern_any L[j] (HZ.out _ (List.getElem_mem hlt)) wr)
        rw [Bool.true_and] at HA1
        have HA2 := Lib.hid HA1
        generalize patB L[j].data.toList = pb at HC HA2
        clear HA1 HA
        go_wp2_with (go_at_call 34; refine HC.out.mono ?_; rintro e w3 ⟨rfl, hb3⟩; have HB3 := Lib.hid (HB.out.trans (hb3.mono hbz)); clear hb3)
        go_roundw
        case rel => exact ⟨j + 1, pb, by omega, by go_num, rfl, HA2, HB3⟩
        case measure => simp [intOf]; omega
    · have hje : j = L.length := by omega
      have HF := Lib.hid (show validB s.data.toList = tb from by rw [HA.out, hje, List.drop_length]; simp)
      clear HA
      have HB3 := Lib.hid (HB2.out.trans (HB.out.mono HB2.out.size))
      go_wp2
      go_ret; exact ⟨by rw [HF.out]; rfl, HB3.out⟩

set_option maxHeartbeats 1000000 in
theorem rverb_any (s t : ByteArray) (hs : s.size ≤ 100000) (w : World) : Calls Tryd.prog 16 #[.string s, .string t] w fun e w' => e = .returned (.bool (verbB s.data.toList t.data.toList)) ∧ Below w.heap.size w w' := by
  have HVV := Lib.hid (rvalid_any s hs w)
  cases hv : validB s.data.toList with
  | false =>
    have HV : Hid (verbB s.data.toList t.data.toList = false) := Lib.hid (by unfold verbB; rw [hv]; rfl)
    rw [hv] at HVV
    clear hv
    go_enter Tryd.func16, Tryd.ntmps16
    go_wp2_with (go_at_call 14; refine HVV.out.mono ?_; rintro e w1 ⟨rfl, hb1⟩; have HB1 := Lib.hid hb1; clear hb1)
    go_ret; exact ⟨by rw [HV.out]; rfl, HB1.out⟩
  | true =>
  have HV : Hid (verbB s.data.toList t.data.toList = (Lib.split s.data.toList [32]).any (fun p => fitsB p t.data.toList)) := Lib.hid (by unfold verbB; rw [hv]; rfl)
  have HNB : Hid ([] ∉ Lib.split s.data.toList [32]) := Lib.hid (fun h => by rw [valid_bad h] at hv; cases hv)
  rw [hv] at HVV
  clear hv
  have HS := Lib.hid (fun (W : World) => parts_any s hs W)
  go_enter Tryd.func16, Tryd.ntmps16
  go_wp2_with (first
    | (go_at_call 14; refine HVV.out.mono ?_; rintro e w1 ⟨rfl, hb1⟩; have HB1 := Lib.hid hb1; clear hb1)
    | (go_at_call 33; refine (HS.out _).mono ?_; rintro e w2 ⟨h, hb2⟩; obtain ⟨q, c, L, rfl, hd, hr, hll, hz, _⟩ : ∃ (q : Option Addr) (c : Nat) (L : List ByteArray), e = .returned (.tuple #[.slice q L.length c, .bool true]) ∧ L.map (·.data.toList) = Lib.split s.data.toList [32] ∧ TRow w2 w2.heap.size q L ∧ L.length ≤ 100001 ∧ (∀ x ∈ L, x.size ≤ 1000000) ∧ [] ∉ Lib.split s.data.toList [32] := (by rcases h with h | ⟨_, h⟩; exact h; exact absurd h HNB.out); have HB2 := Lib.hid (HB1.out.trans (hb2.mono HB1.out.size)); have HR := Lib.hid hr; have HZ := Lib.hid hz; have HV2 := Lib.hid (HV.out.trans (congrArg (fun l => l.any (fun p => fitsB p t.data.toList)) hd.symm)); clear h hb2 hr hz hd))
  go_loopw [7] (fun i wr => ∃ j : Nat, j ≤ L.length ∧ i = .int .i64 j ∧ Hid ((L.map (·.data.toList)).any (fun p => fitsB p t.data.toList) = ((L.drop j).map (·.data.toList)).any (fun p => fitsB p t.data.toList)) ∧ Hid (Below w2.heap.size w2 wr)) (fun i _ => L.length - (intOf i).toNat)
  case atStart => exact ⟨0, Nat.zero_le _, rfl, Lib.hid rfl, Lib.hid (Below.refl _ _)⟩
  case round =>
    obtain ⟨j, hj, rfl, HA, HB⟩ := hrel
    by_cases hlt : j < L.length
    · obtain ⟨b, off, hp, hb, h0⟩ := (HR.out.below HB.out).at_ j hlt
      subst hp
      have HA1 := HA.out
      rw [List.drop_eq_getElem_cons hlt, List.map_cons, List.any_cons] at HA1
      have hbz := HB.out.size
      have HC := Lib.hid (rfits_any L[j] t (HZ.out _ (List.getElem_mem hlt)) wr)
      cases hq : fitsB L[j].data.toList t.data.toList with
      | true =>
        have HF := Lib.hid (show verbB s.data.toList t.data.toList = true from by rw [HV2.out, HA1, hq]; rfl)
        rw [hq] at HC
        clear HA1 HA hq HV2
        go_wp2_with (go_at_call 36; refine HC.out.mono ?_; rintro e w3 ⟨rfl, hb3⟩; have HB3 := Lib.hid (HB2.out.trans ((HB.out.trans (hb3.mono hbz)).mono HB2.out.size)); clear hb3)
        go_ret; exact ⟨by rw [HF.out]; rfl, HB3.out⟩
      | false =>
        rw [hq, Bool.false_or] at HA1
        have HA2 := Lib.hid HA1
        rw [hq] at HC
        clear HA1 HA hq
        go_wp2_with (go_at_call 36; refine HC.out.mono ?_; rintro e w3 ⟨rfl, hb3⟩; have HB3 := Lib.hid (HB.out.trans (hb3.mono hbz)); clear hb3)
        go_roundw
        case rel => exact ⟨j + 1, by omega, by go_num, HA2, HB3⟩
        case measure => simp [intOf]; omega
    · have hje : j = L.length := by omega
      have HF := Lib.hid (show verbB s.data.toList t.data.toList = false from by rw [HV2.out, HA.out, hje, List.drop_length]; rfl)
      clear HA
      have HB3 := Lib.hid (HB2.out.trans (HB.out.mono HB2.out.size))
      go_wp2
      go_ret; exact ⟨by rw [HF.out]; rfl, HB3.out⟩
end Go.Proofs.YtcecgfijfnnpeaaDoor.Mt
