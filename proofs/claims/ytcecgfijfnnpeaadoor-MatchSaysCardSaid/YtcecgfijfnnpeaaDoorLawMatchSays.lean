/- The walk of the statement on all calls of package match. -/
import Derived.Test.YtcecgfijfnnpeaaDoorMd
import Derived.Test.YtcecgfijfnnpeaaDoorMg
import Derived.Test.YtcecgfijfnnpeaaDoorMf2
import Derived.Test.YtcecgfijfnnpeaaDoorMw
import Derived.Test.YtcecgfijfnnpeaaDoorPr
namespace Go.Proofs.YtcecgfijfnnpeaaDoor.Mt
open Go.RowKit
set_option maxRecDepth 100000

set_option maxHeartbeats 1000000 in
theorem sameTexts_any (ss : List ByteArray) (p p' : Option Addr) (c c' : Nat) (w : World) (h : TRow w w.heap.size p ss) (h' : TRow w w.heap.size p' ss) (hl : ss.length ≤ 1000000) :
    Calls Tryd.prog 20 #[.slice p ss.length c, .slice p' ss.length c'] w fun e w' => e = .returned (.bool true) ∧ Dr w w' := by
  have H := Lib.hid h
  have H' := Lib.hid h'
  have hne : ((ss.length : Int) != (ss.length : Int)) = false := by simp
  clear h h'
  go_enter Tryd.func20, Tryd.ntmps20
  go_wp2
  go_loopw [5] (fun i wr => ∃ j : Nat, j ≤ ss.length ∧ i = .int .i64 j ∧ Hid (Dr w wr)) (fun i _ => ss.length - (intOf i).toNat)
  case atStart => exact ⟨0, Nat.zero_le _, rfl, Lib.hid ⟨0, rfl⟩⟩
  case round =>
    obtain ⟨j, hj, rfl, HD⟩ := hrel
    obtain ⟨e0, e1⟩ := drew_cells HD.out
    by_cases hlt : j < ss.length
    · obtain ⟨b, off, hp, _, hc⟩ := H.out.at_ j hlt
      obtain ⟨b', off', hp', _, hc'⟩ := H'.out.at_ j hlt
      subst hp hp'
      have h0 := (e0 ⟨b, off + j, none⟩).trans hc
      have h0' := (e0 ⟨b', off' + j, none⟩).trans hc'
      obtain ⟨x, hx⟩ : ∃ x, x = ss[j] := ⟨_, rfl⟩
      rw [← hx] at h0 h0'
      have hxx : (x.toList == x.toList) = true := by simp
      clear hc hc' e0 e1 hx
      go_wp2
      go_quiet (fail)
      go_wp2
      go_roundw
      case rel => exact ⟨j + 1, by omega, by go_num, Lib.hid (drew_more HD.out _)⟩
      case measure => simp [intOf]; omega
    · go_wp2
      go_ret
      exact ⟨rfl, HD.out⟩


theorem same19_any (p p' : Option Addr) (c c' : Nat) (w : World) (h : TRow w w.heap.size p prepsL) (h' : TRow w w.heap.size p' prepsL) :
    Calls Tryd.prog 20 #[.slice p 19 c, .slice p' 19 c'] w fun e w' => e = .returned (.bool true) ∧ Go.Proofs.YtcecgfijfnnpeaaDoor.Dr w w' :=
  sameTexts_any prepsL p p' c c' w h h' (by rw [preps_len]; omega)
theorem preps19s_any (w : World) (hT : PTab w) : Calls Tryd.prog 21 #[] w fun e w' => ∃ q, e = .returned (.slice q 19 19) ∧ TRow w' w'.heap.size q prepsL ∧ Below w.heap.size w w' := preps_any w hT

set_option maxHeartbeats 1000000 in
theorem says_out (s t : ByteArray) (l : List Tg) (p : Option Addr) (c : Nat) (ws : List ByteArray) (q : Option Addr) (d : Nat) (w : World) (hG : GRow0 w w.heap.size p l ∧ l.length ≤ 9223372036854775807) (hW : TRow w w.heap.size q ws ∧ ws.length ≤ 9223372036854775807) (hM : MaxL w)
    (h : 100 < s.size ∨ 100 < t.size ∨ lightB l = false ∨ textsB ws 20 30 = false) :
    Calls Tryd.prog 3 #[.string s, .string t, .slice p l.length c, .slice q ws.length d] w fun e w' => e = .returned (.bool true) ∧ Below w.heap.size w w' := by
  have F := Lib.hid (first10_any w hM)
  have HL := Lib.hid (fun (W : World) (hb : Below w.heap.size w W) => light_any l p c W ((hG.1.below hb).grow hb.size) hG.2)
  have HX := Lib.hid (fun (W : World) (hb : Below w.heap.size w W) => texts_any ws q d _ 20 30 W (hW.1.below hb) hW.2)
  clear hM hG hW
  by_cases c1 : 100 < s.size
  · have d1 : decide ((100 : Int) < (s.size : Int)) = true := by simp; omega
    go_enter Tryd.func3, Tryd.ntmps3
    go_wp2_with (first
      | (go_at_call 8; refine F.out.mono ?_; rintro e w1 ⟨rfl, hb1⟩; have HB := Lib.hid hb1; clear hb1)
      | (go_at_call 9; refine (HL.out _ HB.out).mono ?_; rintro e wl ⟨rfl, rfl⟩)
      | (go_at_call 10; refine (HX.out _ HB.out).mono ?_; rintro e wl ⟨rfl, rfl⟩))
    go_ret; exact ⟨rfl, HB.out⟩
  have d1 : decide ((100 : Int) < (s.size : Int)) = false := by simp; omega
  by_cases c2 : 100 < t.size
  · have d2 : decide ((100 : Int) < (t.size : Int)) = true := by simp; omega
    go_enter Tryd.func3, Tryd.ntmps3
    go_wp2_with (first
      | (go_at_call 8; refine F.out.mono ?_; rintro e w1 ⟨rfl, hb1⟩; have HB := Lib.hid hb1; clear hb1)
      | (go_at_call 9; refine (HL.out _ HB.out).mono ?_; rintro e wl ⟨rfl, rfl⟩)
      | (go_at_call 10; refine (HX.out _ HB.out).mono ?_; rintro e wl ⟨rfl, rfl⟩))
    go_ret; exact ⟨rfl, HB.out⟩
  have d2 : decide ((100 : Int) < (t.size : Int)) = false := by simp; omega
  cases hl : lightB l with
  | false =>
    rw [hl] at HL
    clear h hl
    go_enter Tryd.func3, Tryd.ntmps3
    go_wp2_with (first
      | (go_at_call 8; refine F.out.mono ?_; rintro e w1 ⟨rfl, hb1⟩; have HB := Lib.hid hb1; clear hb1)
      | (go_at_call 9; refine (HL.out _ HB.out).mono ?_; rintro e wl ⟨rfl, rfl⟩)
      | (go_at_call 10; refine (HX.out _ HB.out).mono ?_; rintro e wl ⟨rfl, rfl⟩))
    go_ret; exact ⟨rfl, HB.out⟩
  | true =>
    have hx : textsB ws 20 30 = false := by
      rcases h with h | h | h | h
      · exact absurd h c1
      · exact absurd h c2
      · rw [hl] at h; cases h
      · exact h
    rw [hl] at HL
    rw [hx] at HX
    clear h hl hx
    go_enter Tryd.func3, Tryd.ntmps3
    go_wp2_with (first
      | (go_at_call 8; refine F.out.mono ?_; rintro e w1 ⟨rfl, hb1⟩; have HB := Lib.hid hb1; clear hb1)
      | (go_at_call 9; refine (HL.out _ HB.out).mono ?_; rintro e wl ⟨rfl, rfl⟩)
      | (go_at_call 10; refine (HX.out _ HB.out).mono ?_; rintro e wl ⟨rfl, rfl⟩))
    go_ret; exact ⟨rfl, HB.out⟩

set_option maxHeartbeats 2000000 in
theorem says_main (s t : ByteArray) (l : List Tg) (p : Option Addr) (c : Nat) (ws : List ByteArray) (q : Option Addr) (d : Nat) (w : World) (hG : GRow0 w w.heap.size p l ∧ l.length ≤ 9223372036854775807) (hW : TRow w w.heap.size q ws ∧ ws.length ≤ 9223372036854775807) (hM : MaxL w) (hN : NumV w) (hT : PTab w)
    (hs : s.size ≤ 100) (ht : t.size ≤ 100) (hl : lightB l = true) (hx : textsB ws 20 30 = true) :
    Calls Tryd.prog 3 #[.string s, .string t, .slice p l.length c, .slice q ws.length d] w fun e w' => e = .returned (.bool true) ∧ Below w.heap.size w w' := by
  have F := Lib.hid (first10_any w hM)
  have HL := Lib.hid (fun (W : World) (hb : Below w.heap.size w W) => by have := light_any l p c W ((hG.1.below hb).grow hb.size) hG.2; rw [hl] at this; exact this)
  have HX := Lib.hid (fun (W : World) (hb : Below w.heap.size w W) => by have := texts_any ws q d _ 20 30 W (hW.1.below hb) hW.2; rw [hx] at this; exact this)
  have d1 : decide ((100 : Int) < (s.size : Int)) = false := by simp; omega
  have d2 : decide ((100 : Int) < (t.size : Int)) = false := by simp; omega
  have hlb := (light_bounds hl).1
  have hGF := hG.1.full (light_bounds hl).2
  have hwl : ws.length ≤ 20 := by
    have := hx
    unfold textsB at this
    rw [Bool.and_eq_true, decide_eq_true_eq] at this
    omega
  have hws : ∀ x ∈ ws, x.size ≤ 140737488355328 := fun x hxm => by
    unfold textsB at hx
    rw [Bool.and_eq_true, List.all_eq_true] at hx
    have := hx.2 x hxm
    rw [decide_eq_true_eq] at this; omega
  obtain ⟨⟨pi, pj, ps⟩, hP⟩ : ∃ P, prepB ws 0 = P := ⟨_, rfl⟩
  have C1 : Hid (∀ W : World, Below w.heap.size w W → Calls Tryd.prog 11 #[.slice q ws.length d] W fun e w' => e = .returned (.tuple #[.int .i64 pi, .int .i64 pj, .string ps]) ∧ Dr W w') := Lib.hid (fun W hb => by have := prep_any ws q d W (hT.below hb) ((hW.1.below hb).grow hb.size) (by omega) hws; rw [hP] at this; exact this)
  have C2 : Hid (∀ W : World, Below w.heap.size w W → Calls Tryd.prog 12 #[.slice q ws.length d] W fun e w' => e = .returned (.tuple #[.int .i64 pi, .int .i64 pj, .string ps]) ∧ Below W.heap.size W w') := Lib.hid (fun W hb => by have := rPrep_any ws q d W ((hW.1.below hb).grow hb.size) (by omega) hws; rw [hP] at this; exact this)
  obtain ⟨vb, hvb⟩ : ∃ b, validB s.data.toList = b := ⟨_, rfl⟩
  obtain ⟨eb, heb⟩ : ∃ b, verbB s.data.toList t.data.toList = b := ⟨_, rfl⟩
  obtain ⟨ob, hob⟩ : ∃ b, objectB t.data.toList l = b := ⟨_, rfl⟩
  have C3 := Lib.hid (fun (W : World) (hb : Below w.heap.size w W) => by have := valid_any s W (by omega) (hM.below hb); rw [hvb] at this; exact this)
  have C4 := Lib.hid (fun (W : World) => by have := rvalid_any s (by omega) W; rw [hvb] at this; exact this)
  have C5 := Lib.hid (fun (W : World) (hb : Below w.heap.size w W) => by have := verb_any s t W (by omega) (hM.below hb); rw [heb] at this; exact this)
  have C6 := Lib.hid (fun (W : World) => by have := rverb_any s t (by omega) W; rw [heb] at this; exact this)
  have C7 := Lib.hid (fun (W : World) (hb : Below w.heap.size w W) => by have := object_any t l p c W (by omega) (hN.below hb) ((hGF.below hb).grow hb.size) (by omega); rw [hob] at this; exact this)
  have C8 := Lib.hid (fun (W : World) (hb : Below w.heap.size w W) => plain_any l p c W ((hGF.below hb).grow hb.size) (by omega))
  have C9 := Lib.hid (fun (W : World) (q' : Option Addr) (c' : Nat) (hg : GRow W W.heap.size q' l) => by have := robject_any t l q' c' W ht hg (by omega); rw [hob] at this; exact this)
  have C10 := Lib.hid (fun (W : World) (hb : Below w.heap.size w W) => preps19s_any W (hT.below hb))
  clear hM hN hT hG hW hl hx hP hvb heb hob hws hGF
  go_enter Tryd.func3, Tryd.ntmps3
  go_wp2_with (first
    | (go_at_call 8; refine F.out.mono ?_; rintro e w1 ⟨rfl, hb1⟩; have HB := Lib.hid hb1; clear hb1)
    | (go_at_call 9; refine (HL.out _ HB.out).mono ?_; rintro e wl ⟨rfl, rfl⟩)
    | (go_at_call 10; refine (HX.out _ HB.out).mono ?_; rintro e wl ⟨rfl, rfl⟩)
    | (go_at_call 11; refine (C1.out _ HB.out).mono ?_; rintro e w2 ⟨rfl, hb⟩; have HB := Lib.hid (HB.out.trans (hb.below.mono HB.out.size)); clear hb)
    | (go_at_call 12; refine (C2.out _ HB.out).mono ?_; rintro e w3 ⟨rfl, hb⟩; have HB := Lib.hid (HB.out.trans (hb.mono HB.out.size)); clear hb)
    | (go_at_call 13; refine (C3.out _ HB.out).mono ?_; rintro e w4 ⟨rfl, hb⟩; have HB := Lib.hid (HB.out.trans (hb.mono HB.out.size)); clear hb)
    | (go_at_call 14; refine (C4.out _).mono ?_; rintro e w5 ⟨rfl, hb⟩; have HB := Lib.hid (HB.out.trans (hb.mono HB.out.size)); clear hb)
    | (go_at_call 15; refine (C5.out _ HB.out).mono ?_; rintro e w6 ⟨rfl, hb⟩; have HB := Lib.hid (HB.out.trans (hb.mono HB.out.size)); clear hb)
    | (go_at_call 16; refine (C6.out _).mono ?_; rintro e w7 ⟨rfl, hb⟩; have HB := Lib.hid (HB.out.trans (hb.mono HB.out.size)); clear hb)
    | (go_at_call 17; refine (C7.out _ HB.out).mono ?_; rintro e w8 ⟨rfl, hb⟩; have HB := Lib.hid (HB.out.trans (hb.mono HB.out.size)); clear hb)
    | (go_at_call 19; refine (C8.out _ HB.out).mono ?_; rintro e w9 ⟨⟨q9, c9, rfl, hg9⟩, hb⟩; have HG9 := Lib.hid hg9; have HB := Lib.hid (HB.out.trans (hb.mono HB.out.size)); clear hb hg9)
    | (go_at_call 18; refine (C9.out _ _ _ HG9.out).mono ?_; rintro e w10 ⟨rfl, hb⟩; have HB := Lib.hid (HB.out.trans (hb.mono HB.out.size)); clear hb)
    | (go_at_call 21; refine (C10.out _ HB.out).mono ?_; rintro e w11 ⟨qa, rfl, hra, hb⟩; have HRA := Lib.hid hra; have HB := Lib.hid (HB.out.trans (hb.mono HB.out.size)); clear hb hra)
    | (go_at_call 22; refine (rPreps_any _).mono ?_; rintro e w12 ⟨qb, cb, rfl, hrb, hb⟩; have HRB := Lib.hid hrb; have HRA := Lib.hid ((HRA.out.below hb).grow hb.size); have HB := Lib.hid (HB.out.trans (hb.mono HB.out.size)); clear hb hrb)
    | (go_at_call 20; refine (same19_any _ _ _ _ _ HRA.out HRB.out).mono ?_; rintro e w13 ⟨rfl, hb⟩; have HB := Lib.hid (HB.out.trans ((drew_below hb).mono HB.out.size)); clear hb))
  go_ret; exact ⟨rfl, HB.out⟩

theorem says_all (s t : ByteArray) (l : List Tg) (p : Option Addr) (c : Nat) (ws : List ByteArray) (q : Option Addr) (d : Nat) (w : World) (hG : GRow0 w w.heap.size p l ∧ l.length ≤ 9223372036854775807) (hW : TRow w w.heap.size q ws ∧ ws.length ≤ 9223372036854775807) (hM : MaxL w) (hN : NumV w) (hT : PTab w) :
    Calls Tryd.prog 3 #[.string s, .string t, .slice p l.length c, .slice q ws.length d] w fun e w' => e = .returned (.bool true) ∧ Below w.heap.size w w' := by
  by_cases h : 100 < s.size ∨ 100 < t.size ∨ lightB l = false ∨ textsB ws 20 30 = false
  · exact says_out s t l p c ws q d w hG hW hM h
  · exact says_main s t l p c ws q d w hG hW hM hN hT (by omega) (by omega) (by cases hl : lightB l with | true => rfl | false => exact absurd (.inr (.inr (.inl hl))) h) (by cases hx : textsB ws 20 30 with | true => rfl | false => exact absurd (.inr (.inr (.inr hx))) h)
end Go.Proofs.YtcecgfijfnnpeaaDoor.Mt
