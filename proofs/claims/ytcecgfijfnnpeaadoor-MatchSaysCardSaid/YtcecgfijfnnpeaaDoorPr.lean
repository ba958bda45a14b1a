/- Package match: prepositions. -/
import Derived.Test.YtcecgfijfnnpeaaDoorMl
import Derived.Test.YtcecgfijfnnpeaaDoorTr
import Derived.Laws.Rows
import Derived.Deep.WholeRow
namespace Go.Proofs.YtcecgfijfnnpeaaDoor.Mt
open Go.RowKit
set_option maxRecDepth 100000

/-- The prepositions, rising. -/
def prepsB : List Ls := [[97, 98, 111, 117, 116], [97, 115], [97, 116], [98, 101, 104, 105, 110, 100], [98, 101, 115, 105, 100, 101], [102, 111, 114], [102, 114, 111, 109], [105, 110], [105, 110, 116, 111], [105, 115], [111, 102, 102], [111, 110], [111, 110, 116, 111], [111, 118, 101, 114], [116, 104, 114, 111, 117, 103, 104], [116, 111], [117, 110, 100, 101, 114], [117, 115, 105, 110, 103], [119, 105, 116, 104]]
def prepsL : List ByteArray := prepsB.map fun z => ⟨z.toArray⟩
def prepS (i : Nat) : ByteArray := ⟨(prepsB.getD i []).toArray⟩
def prepsA : Array Value := ⟨prepsB.map fun z => Value.string ⟨z.toArray⟩⟩
/-- The program's table of prepositions stands in its variable. -/
def PTab (w : World) : Prop := ∃ t fr, w.heap[0]? = some (.cells prepsA t fr)
theorem heap_lt1 {w : World} {g : Nat} {o : Obj} (h : w.heap[g]? = some o) : g < w.heap.size := by
  rcases Nat.lt_or_ge g w.heap.size with h1 | h1
  · exact h1
  · rw [Array.getElem?_eq_none h1] at h; cases h
theorem PTab.below {w w' : World} (h : PTab w) (hb : Below w.heap.size w w') : PTab w' := by
  obtain ⟨t, fr, h⟩ := h
  exact ⟨t, fr, (hb.block _ (heap_lt1 h)).trans h⟩
abbrev prepsV : Value := .agg #[.string (prepS 0), .string (prepS 1), .string (prepS 2), .string (prepS 3), .string (prepS 4), .string (prepS 5), .string (prepS 6), .string (prepS 7), .string (prepS 8), .string (prepS 9), .string (prepS 10), .string (prepS 11), .string (prepS 12), .string (prepS 13), .string (prepS 14), .string (prepS 15), .string (prepS 16), .string (prepS 17), .string (prepS 18)]
theorem idx_preps (w : World) (j : Nat) (hj : j < 19) : (Instr.index 53 prepsV (.int .i64 (j : Int))).run Tryd.prog w = .ok (.string (prepS j)) w := by
  have h : j = 0 ∨ j = 1 ∨ j = 2 ∨ j = 3 ∨ j = 4 ∨ j = 5 ∨ j = 6 ∨ j = 7 ∨ j = 8 ∨ j = 9 ∨ j = 10 ∨ j = 11 ∨ j = 12 ∨ j = 13 ∨ j = 14 ∨ j = 15 ∨ j = 16 ∨ j = 17 ∨ j = 18 := by omega
  rcases h with rfl | rfl | rfl | rfl | rfl | rfl | rfl | rfl | rfl | rfl | rfl | rfl | rfl | rfl | rfl | rfl | rfl | rfl | rfl
  all_goals simp [Instr.index, run_underlying Tryd.underlying53, asIntOf, go_sem, prepsV]
theorem ix_preps (W : World) (j : Nat) (h : j < 19) : (Instr.index 53 (.agg prepsA) (.int .i64 (j : Int))).run Tryd.prog W = .ok (.string (prepS j)) W := idx_preps W j h
theorem info_preps : (Tryd.prog.info? 53).map (·.size) = some prepsA.size := by kernel_rfl

def prepOf (w : Ls) : Option ByteArray := prepsL.find? (fun p => alikeB w p.data.toList)
def prepB : List ByteArray → Nat → Int × Int × ByteArray
  | [], _ => (-1, -1, ⟨#[]⟩)
  | w :: r, i => match prepOf w.data.toList with | some p => (i, i + 1, p) | none => prepB r (i + 1)
def prepV (r : Int × Int × ByteArray) : Value := .tuple #[.int .i64 r.1, .int .i64 r.2.1, .string r.2.2]
theorem preps_len : prepsL.length = 19 := rfl
theorem preps_at (j : Nat) (h : j < 19) : prepsL[j]'(by rw [preps_len]; exact h) = prepS j := by
  have : ∀ k : Fin 19, prepsL[k.val]'(by rw [preps_len]; exact k.isLt) = prepS k.val := by decide +kernel
  exact this ⟨j, h⟩
theorem prepS_small (j : Nat) (h : j < 19) : (prepS j).size ≤ 10 := by
  have : ∀ k : Fin 19, (prepS k.val).size ≤ 10 := by decide +kernel
  exact this ⟨j, h⟩
theorem find_step {w : Ls} {j : Nat} (h : j < 19) : (prepsL.drop j).find? (fun p => alikeB w p.data.toList) = if alikeB w (prepS j).data.toList then some (prepS j) else (prepsL.drop (j + 1)).find? (fun p => alikeB w p.data.toList) := by
  rw [List.drop_eq_getElem_cons (by rw [preps_len]; exact h), preps_at j h, List.find?_cons]
  cases alikeB w (prepS j).data.toList <;> rfl
theorem prepB_step {ss : List ByteArray} {j : Nat} (h : j < ss.length) : prepB (ss.drop j) j = match prepOf ss[j].data.toList with | some p => ((j : Int), (j : Int) + 1, p) | none => prepB (ss.drop (j + 1)) (j + 1) := by
  rw [List.drop_eq_getElem_cons h]; rfl

set_option maxHeartbeats 4000000 in
theorem prep_any (ss : List ByteArray) (q : Option Addr) (c : Nat) (w : World) (hT : PTab w) (h : TRow w w.heap.size q ss) (hl : ss.length ≤ 9000000000000000000) (hz : ∀ x ∈ ss, x.size ≤ 140737488355328) :
    Calls Tryd.prog 11 #[.slice q ss.length c] w fun e w' => e = .returned (prepV (prepB ss 0)) ∧ Dr w w' := by
  have H := Lib.hid h; clear h
  have HZ := Lib.hid hz; clear hz
  have HC := Lib.hid (fun (n s : ByteArray) (h1 : n.size ≤ 140737488355328) (h2 : s.size ≤ 140737488355328) (w : World) => alike_any n s h1 h2 w)
  obtain ⟨t, fr, hT⟩ := hT
  have HT := Lib.hid hT; clear hT
  go_enter Tryd.func11, Tryd.ntmps11
  go_wp2
  go_loopw [11] (fun i wr => ∃ j : Nat, j ≤ ss.length ∧ i = .int .i64 j ∧ Hid (prepB ss 0 = prepB (ss.drop j) j) ∧ Hid (Dr w wr)) (fun i _ => ss.length - (intOf i).toNat)
  case atStart => exact ⟨0, Nat.zero_le _, rfl, Lib.hid rfl, Lib.hid (Dr.refl _)⟩
  case round =>
    obtain ⟨j, hj, rfl, HA, HD⟩ := hrel
    by_cases hlt : j < ss.length
    · obtain ⟨b, off, hp, hb, h0⟩ := (H.out.below HD.out.below).at_ j hlt
      subst hp
      have HA1 := HA.out.trans (prepB_step hlt)
      have hsz := HZ.out _ (List.getElem_mem hlt)
      obtain ⟨s, hs⟩ : ∃ s, ss[j] = s := ⟨_, rfl⟩
      rw [hs] at h0 HA1 hsz
      have HA2 := Lib.hid HA1
      clear HA1 HA hs
      have htab : wr.heap[0]? = some (.cells prepsA t fr) := by obtain ⟨m, rfl⟩ := HD.out; exact HT.out
      have HS0 : Hid (prepOf s.data.toList = (prepsL.drop 0).find? (fun p => alikeB s.data.toList p.data.toList)) := Lib.hid rfl
      go_wp2_with (refine wpList_load_row rfl 53 _ rfl 0 rfl t _ fr _ htab Tryd.underlying53 rfl info_preps ?_)
      clear htab h0
      go_loopw [17] (fun k wx => ∃ i : Nat, i ≤ 19 ∧ k = .int .i64 i ∧ Hid (prepOf s.data.toList = (prepsL.drop i).find? (fun p => alikeB s.data.toList p.data.toList)) ∧ Hid (Dr w wx)) (fun k _ => 19 - (intOf k).toNat)
      case atStart => exact ⟨0, by omega, rfl, HS0, HD⟩
      case round =>
        obtain ⟨i, hi, rfl, HF, HD1⟩ := hrel
        by_cases hi19 : i < 19
        · have hidx : ∀ W : World, (Instr.index 53 (.agg prepsA) (.int .i64 (i : Int))).run Tryd.prog W = .ok (.string (prepS i)) W := fun W => ix_preps W i hi19
          have HC1 := Lib.hid (fun w => HC.out s (prepS i) hsz (by have := prepS_small i hi19; omega) w)
          have HF1 := HF.out.trans (find_step hi19)
          cases hq : alikeB s.data.toList (prepS i).data.toList with
          | true =>
            have HR := Lib.hid (show prepB ss 0 = ((j : Int), (j : Int) + 1, prepS i) from by rw [HA2.out, HF1, hq]; rfl)
            have HC2 := Lib.hid (fun w => by have := HC1.out w; rw [hq] at this; exact this)
            clear HC1 HF1 HF hq HA2
            go_wp2_with (go_at_call 30; refine (HC2.out _).mono ?_; rintro e w2 ⟨rfl, hd⟩; have HD2 := Lib.hid (HD1.out.trans hd); clear hd)
            go_ret3
            exact ⟨by rw [HR.out]; rfl, HD2.out⟩
          | false =>
            rw [hq] at HF1
            have HF2 : Hid (prepOf s.data.toList = (prepsL.drop (i + 1)).find? (fun p => alikeB s.data.toList p.data.toList)) := Lib.hid HF1
            have HC2 := Lib.hid (fun w => by have := HC1.out w; rw [hq] at this; exact this)
            clear HC1 HF1 HF hq
            go_wp2_with (go_at_call 30; refine (HC2.out _).mono ?_; rintro e w2 ⟨rfl, hd⟩; have HD2 := Lib.hid (HD1.out.trans hd); clear hd)
            go_roundw
            case rel => exact ⟨i + 1, by omega, by go_num, HF2, HD2⟩
            case measure => simp [intOf]; omega
        · have hie : i = 19 := by omega
          have HN : Hid (prepB ss 0 = prepB (ss.drop (j + 1)) (j + 1)) := Lib.hid (by rw [HA2.out, HF.out, hie]; rfl)
          subst hie
          clear HA2 HF
          go_wp2
          go_roundw
          case rel => exact ⟨j + 1, by omega, by go_num, HN, HD1⟩
          case measure => simp [intOf]; omega
    · have hje : j = ss.length := by omega
      have HR := Lib.hid (show prepB ss 0 = (-1, -1, ⟨#[]⟩) from by rw [HA.out, hje, List.drop_length]; rfl)
      clear HA
      go_wp2
      go_ret3
      exact ⟨by rw [HR.out]; rfl, HD.out⟩

set_option maxHeartbeats 1000000 in
theorem preps_any (w : World) (hT : PTab w) : Calls Tryd.prog 21 #[] w fun e w' => ∃ q, e = .returned (.slice q prepsL.length prepsL.length) ∧ TRow w' w'.heap.size q prepsL ∧ Below w.heap.size w w' := by
  obtain ⟨t, fr, hT⟩ := hT
  have hst := run_storeCells_new (P := Tryd.prog) w 53 #[.string ⟨#[]⟩, .string ⟨#[]⟩, .string ⟨#[]⟩, .string ⟨#[]⟩, .string ⟨#[]⟩, .string ⟨#[]⟩, .string ⟨#[]⟩, .string ⟨#[]⟩, .string ⟨#[]⟩, .string ⟨#[]⟩, .string ⟨#[]⟩, .string ⟨#[]⟩, .string ⟨#[]⟩, .string ⟨#[]⟩, .string ⟨#[]⟩, .string ⟨#[]⟩, .string ⟨#[]⟩, .string ⟨#[]⟩, .string ⟨#[]⟩] prepsA info_preps rfl (by decide +kernel)
  have HB := Lib.hid ((Below.refl w.heap.size w).alloc (Nat.le_refl _) (.cells prepsA 53))
  have HR : Hid (TRow (w.alloc (.cells prepsA 53)) (w.alloc (.cells prepsA 53)).heap.size (some ⟨w.heap.size, 0, none⟩) prepsL) := Lib.hid (.inr ⟨w.heap.size, 0, rfl, by simp, fun i hi => by
    rw [cell_of_row _ _ _ _ _ _ (heap_alloc_new w (.cells prepsA 53)), Nat.zero_add]
    have hi' : i < prepsB.length := by have := preps_len; have h2 : prepsL.length = prepsB.length := by unfold prepsL; rw [List.length_map]
                                       omega
    rw [show prepsA = (prepsB.map fun z => Value.string ⟨z.toArray⟩).toArray from rfl, List.getElem?_toArray, List.getElem?_map, List.getElem?_eq_getElem hi']
    simp [prepsL]⟩)
  go_enter Tryd.func21, Tryd.ntmps21
  go_wp2_with (refine wpList_load_row rfl 53 _ rfl 0 rfl t _ fr _ hT Tryd.underlying53 rfl info_preps ?_)
  go_ret
  exact ⟨_, rfl, HR.out, HB.out⟩
end Go.Proofs.YtcecgfijfnnpeaaDoor.Mt
