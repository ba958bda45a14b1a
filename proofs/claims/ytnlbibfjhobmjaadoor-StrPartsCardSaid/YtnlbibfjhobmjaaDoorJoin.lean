/- str.Join and the document's: what they answer of any texts. -/
import Derived.Test.YtnlbibfjhobmjaaDoorTop
import Derived.Test.YtnlbibfjhobmjaaDoorStrs
namespace Go.Proofs.YtnlbibfjhobmjaaDoor
open Go.RowKit
set_option maxRecDepth 100000

abbrev Lst (ss : List ByteArray) : List Bs := ss.map (fun s => s.data.toList)
def joinL (sep : ByteArray) (ss : List ByteArray) : Bs := joinT sep.data.toList (Lst ss)
theorem joinL_step (sep : ByteArray) (ss : List ByteArray) (j : Nat) (hj : j < ss.length) (h0 : 0 < j) : joinL sep (ss.take (j + 1)) = (joinL sep (ss.take j) ++ sep.data.toList) ++ (ss[j]).data.toList := by
  unfold joinL Lst
  rw [List.take_succ_eq_append_getElem hj, List.map_append, List.map_cons, List.map_nil]
  exact joinT_snoc _ _ _ (by intro h2; have := congrArg List.length h2; rw [List.length_map, List.length_take, List.length_nil] at this; omega)
theorem joinL_first (sep : ByteArray) (ss : List ByteArray) (hj : 0 < ss.length) : joinL sep (ss.take 1) = (ss[0]).data.toList := by
  unfold joinL Lst
  rw [List.take_succ_eq_append_getElem hj]
  simp [joinT]
theorem joinL_le (sep : ByteArray) (ss : List ByteArray) (j : Nat) (h : 0 < j) : (joinL sep (ss.take j)).length ≤ (joinL sep ss).length := by
  unfold joinL Lst
  rw [List.map_take]
  exact joinT_take_le _ _ _ h

set_option maxHeartbeats 4000000 in
theorem strJoin_any (sep : ByteArray) (ss : List ByteArray) (p : Option Addr) (cap : Nat) (w : World) (h : SRow w w.heap.size p ss) (hl : ss.length ≤ 1000000) (hsep : sep.size ≤ 1000000) (hss : ∀ s ∈ ss, s.size ≤ 1000000) :
    Calls Tryd.prog 21 #[.string sep, .slice p ss.length cap] w fun e w' => e = .returned (.tuple #[.string (topS (joinL sep ss)), .int .i64 (topC (joinL sep ss))]) ∧ Below w.heap.size w w' := by
  have HS := Lib.hid h; clear h
  have HSS := Lib.hid hss; clear hss
  have HF := Lib.hid (Lib.fresh_isBuilder 43 5 w)
  have HB0 := Lib.hid ((Below.refl w.heap.size w).alloc (Nat.le_refl _) (.cells #[.pointer none, .slice none 0 0] 43))
  generalize hR : joinL sep ss = R
  have HR := Lib.hid hR; clear hR
  go_enter Tryd.func21, Tryd.ntmps21
  go_wp2
  generalize w.alloc (.cells #[.pointer none, .slice none 0 0] 43) = W0 at *
  generalize hg : w.heap.size = g at *
  have HG := Lib.hid hg; clear hg
  go_loopw [11] (fun i wr => ∃ (j : Nat) (l : Bs), i = .int .i64 j ∧ j ≤ ss.length ∧ l.length < 4096 ∧ Hid (l = joinL sep (ss.take j)) ∧ Hid (Mk g g (Lib.byteCells l) wr) ∧ Hid (Below g w wr)) (fun i _ => ss.length - (intOf i).toNat)
  case atStart => exact ⟨0, [], rfl, Nat.zero_le _, by simp, rfl, HF.out, HB0⟩
  case round =>
    obtain ⟨j, l, rfl, hj, hl4, hrel, hmk, hbel⟩ := hrel
    have hsz : g ≤ wr.heap.size := by have := hbel.out.size; rw [HG.out] at this; exact this
    by_cases hlt : j < ss.length
    · obtain ⟨a, rfl, hc⟩ := (HS.out.below hbel.out).at_ j hlt
      have HLE := Lib.hid (joinL_le sep ss (j + 1) (by omega))
      have hsz1 := HSS.out ss[j] (List.getElem_mem hlt)
      rcases Nat.eq_zero_or_pos j with h0 | h0
      · subst h0
        have HST := Lib.hid (joinL_first sep ss hlt)
        have hl0 := Lib.hid (show l = [] from hrel.out)
        have hc' : wr.cell? a = some (.string ss[0]) := by simpa [Addr.add] using hc
        clear hc
        generalize ss[0] = s at *
        by_cases hf : l.length + s.size < 4096
        · have F1 := Lib.hid (fits_true hf)
          have HL3 := Lib.hid (show (l ++ s.data.toList).length < 4096 by rw [List.length_append, len_list]; exact hf)
          clear hf
          go_wp2_with (first
            | (go_at_call 30; refine (add_any g g l s _ hmk.out hl4 (by omega) hsz).mono ?_; rintro e w2 ⟨rfl, hm2, hb2⟩; rw [F1.out]; rw [F1.out, if_pos rfl] at hm2; have HM2 := Lib.hid hm2; have HB2 := Lib.hid hb2; clear hm2 hb2))
          go_roundw
          case measure => simp [intOf]; omega
          case rel => exact ⟨1, _, by go_num, by omega, HL3.out, by show _ = _; rw [HST.out, hl0.out]; rfl, HM2, hbel.out.trans HB2.out⟩
        · have F1 := Lib.hid (fits_false hf)
          have HL3 := Lib.hid hf
          clear hf
          go_wp2_with (first
            | (go_at_call 30; refine (add_any g g l s _ hmk.out hl4 (by omega) hsz).mono ?_; rintro e w2 ⟨rfl, hm2, hb2⟩; rw [F1.out]; have HB2 := Lib.hid hb2; clear hm2 hb2))
          go_ret2
          have hlen : ¬ R.length < 4096 := by
            have h3 := HL3.out
            have h4 := HLE.out
            rw [HST.out, HR.out] at h4
            rw [hl0.out] at h3
            simp only [List.length_nil, len_list] at h3 h4
            omega
          exact ⟨ret_two (by rw [topS_big hlen]) (by rw [topC_big hlen]), by rw [HG.out]; exact hbel.out.trans HB2.out⟩
      · have HST := Lib.hid (joinL_step sep ss j hlt h0)
        generalize ss[j] = s at *
        by_cases hf : l.length + sep.size < 4096
        · have F1 := Lib.hid (fits_true hf)
          have hl2 : (l ++ sep.data.toList).length < 4096 := by rw [List.length_append, len_list]; exact hf
          have HL2 := Lib.hid hl2
          by_cases hf2 : (l ++ sep.data.toList).length + s.size < 4096
          · have F2 := Lib.hid (fits_true hf2)
            have HL3 := Lib.hid (show ((l ++ sep.data.toList) ++ s.data.toList).length < 4096 by rw [List.length_append, len_list s]; exact hf2)
            clear hf hf2 hl2
            go_wp2_with (first
              | (go_at_call_of 30 (Value.string sep); refine (add_any g g l sep _ hmk.out hl4 (by omega) hsz).mono ?_; rintro e w2 ⟨rfl, hm2, hb2⟩; rw [F1.out]; rw [F1.out, if_pos rfl] at hm2; have HM2 := Lib.hid hm2; have HB2 := Lib.hid hb2; clear hm2 hb2)
              | (go_at_call_of 30 (Value.string s); refine (add_any g g _ s _ HM2.out HL2.out (by omega) (by have := HB2.out.size; omega)).mono ?_; rintro e w3 ⟨rfl, hm3, hb3⟩; rw [F2.out]; rw [F2.out, if_pos rfl] at hm3; have HM3 := Lib.hid hm3; have HB3 := Lib.hid hb3; clear hm3 hb3))
            go_roundw
            case measure => simp [intOf]; omega
            case rel => exact ⟨j + 1, _, by go_num, by omega, HL3.out, by show _ = _; rw [HST.out, ← hrel.out], HM3, hbel.out.trans (HB2.out.trans HB3.out)⟩
          · have F2 := Lib.hid (fits_false hf2)
            have HL3 := Lib.hid hf2
            clear hf hf2 hl2
            go_wp2_with (first
              | (go_at_call_of 30 (Value.string sep); refine (add_any g g l sep _ hmk.out hl4 (by omega) hsz).mono ?_; rintro e w2 ⟨rfl, hm2, hb2⟩; rw [F1.out]; rw [F1.out, if_pos rfl] at hm2; have HM2 := Lib.hid hm2; have HB2 := Lib.hid hb2; clear hm2 hb2)
              | (go_at_call_of 30 (Value.string s); refine (add_any g g _ s _ HM2.out HL2.out (by omega) (by have := HB2.out.size; omega)).mono ?_; rintro e w3 ⟨rfl, hm3, hb3⟩; rw [F2.out]; have HB3 := Lib.hid hb3; clear hm3 hb3))
            go_ret2
            have hlen : ¬ R.length < 4096 := by
              have h3 := HL3.out
              have h4 := HLE.out
              rw [HST.out, ← hrel.out, HR.out] at h4
              simp only [List.length_append, len_list] at h3 h4
              omega
            exact ⟨ret_two (by rw [topS_big hlen]) (by rw [topC_big hlen]), by rw [HG.out]; exact hbel.out.trans (HB2.out.trans HB3.out)⟩
        · have F1 := Lib.hid (fits_false hf)
          have HL3 := Lib.hid hf
          clear hf
          go_wp2_with (first
            | (go_at_call_of 30 (Value.string sep); refine (add_any g g l sep _ hmk.out hl4 (by omega) hsz).mono ?_; rintro e w2 ⟨rfl, hm2, hb2⟩; rw [F1.out]; have HB2 := Lib.hid hb2; clear hm2 hb2))
          go_ret2
          have hlen : ¬ R.length < 4096 := by
            have h3 := HL3.out
            have h4 := HLE.out
            rw [HST.out, ← hrel.out, HR.out] at h4
            simp only [List.length_append, len_list] at h3 h4
            omega
          exact ⟨ret_two (by rw [topS_big hlen]) (by rw [topC_big hlen]), by rw [HG.out]; exact hbel.out.trans HB2.out⟩
    · have hje : j = ss.length := by omega
      subst hje
      have hR2 : l = R := by rw [hrel.out, List.take_length, HR.out]
      have HR2 := Lib.hid hR2; clear hR2
      go_wp2_with (first
        | (go_at_call 31; refine (text_any g g _ _ hmk.out hsz).mono ?_; rintro e w3 ⟨rfl, hb3⟩; have HB3 := Lib.hid hb3; clear hb3))
      go_ret2
      exact ⟨ret_two (by rw [← HR2.out, topS_small hl4]) (by rw [← HR2.out, topC_small hl4]), by rw [HG.out]; exact hbel.out.trans HB3.out⟩
end Go.Proofs.YtnlbibfjhobmjaaDoor
