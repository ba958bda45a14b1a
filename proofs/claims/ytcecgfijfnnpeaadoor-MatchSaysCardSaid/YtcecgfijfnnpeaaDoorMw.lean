/- Package match: the thing that is meant. -/
import Derived.Test.YtcecgfijfnnpeaaDoorMu
import Derived.Test.YtcecgfijfnnpeaaDoorMr
namespace Go.Proofs.YtcecgfijfnnpeaaDoor.Mt
open Go.RowKit
set_option maxRecDepth 100000

theorem enters_obj : ∀ args w, (callFunc 39 args).run Tryd.prog w = .ok (.enter 39 args) w := enters_of Tryd.func39 (by kernel_rfl) rfl
set_option maxHeartbeats 1000000 in
theorem obj1_any (id n : Int) (v : Value) (g : Nat) (w : World) (h : w.cell? ⟨g, 0, none⟩ = some (.int .i64 n)) :
    Calls Tryd.prog 39 #[.agg #[.int .i64 id, v], .pointer (some ⟨g, 0, none⟩)] w fun e w' => e = .returned (.bool (id == n)) ∧ Below w.heap.size w w' := by
  have hlt := World.block_lt_of_cell? w _ h
  have H0 := Lib.hid ((Below.refl w.heap.size w).alloc (Nat.le_refl _) (.cells #[.int .i64 id, v] 41))
  have h1 := (H0.out.cell (p := ⟨g, 0, none⟩) hlt).trans h
  obtain ⟨x0, _⟩ := box2 w (.int .i64 id) v 41
  go_enter Tryd.func39, Tryd.ntmps39
  go_wp2
  go_ret; exact ⟨rfl, H0.out⟩
set_option maxHeartbeats 2000000 in
theorem index_any (l : List Tg) (p : Option Addr) (cap : Nat) (n : Int) (g : Nat) (w : World) (h : GRow w w.heap.size p l) (hl : l.length ≤ 4000000000000000000) (hg : w.cell? ⟨g, 0, none⟩ = some (.int .i64 n)) :
    Calls Tryd.prog 57 #[.slice p l.length cap, .func (.func 39) #[] #[.pointer (some ⟨g, 0, none⟩)]] w fun e w' => (∃ r : Int, e = .returned (.int .i64 r) ∧ decide (0 ≤ r) = l.any (fun t => t.1 == n)) ∧ Below w.heap.size w w' := by
  have H := Lib.hid h; clear h
  have HG := Lib.hid hg
  have HGL := Lib.hid (World.block_lt_of_cell? w _ hg)
  clear hg
  have ea := enters_obj
  go_enter Tryd.func57, Tryd.ntmps57
  go_wp2
  go_loopw [8] (fun i wr => ∃ j : Nat, j ≤ l.length ∧ i = .int .i64 j ∧ Hid (l.any (fun t => t.1 == n) = (l.drop j).any (fun t => t.1 == n)) ∧ Hid (Below w.heap.size w wr)) (fun i _ => l.length - (intOf i).toNat)
  case atStart => exact ⟨0, Nat.zero_le _, rfl, Lib.hid rfl, Lib.hid (Below.refl _ _)⟩
  case round =>
    obtain ⟨j, hj, rfl, HA, HB⟩ := hrel
    by_cases hlt : j < l.length
    · obtain ⟨b, off, q, c, hp, hb, _, h0, h1, _, _, _⟩ := (H.out.below HB.out).at_ j hlt
      subst hp
      have HA1 := HA.out
      rw [List.drop_eq_getElem_cons hlt, List.any_cons] at HA1
      have hbz := HB.out.size
      have HC := Lib.hid (obj1_any l[j].1 n (.slice q l[j].2.length c) g wr ((HB.out.cell (p := ⟨g, 0, none⟩) HGL.out).trans HG.out))
      obtain ⟨id, hid⟩ : ∃ id, l[j].1 = id := ⟨_, rfl⟩
      obtain ⟨m, hm⟩ : ∃ m, l[j].2.length = m := ⟨_, rfl⟩
      rw [hid] at h0 HA1 HC
      rw [hm] at h1 HC
      clear hid hm HA
      cases hq : (id == n) with
      | true =>
        have HF := Lib.hid (show l.any (fun t => t.1 == n) = true from by rw [HA1, hq]; rfl)
        rw [hq] at HC
        clear HA1 hq
        go_wp2_with (go_at_call 39; refine HC.out.mono ?_; rintro e w3 ⟨rfl, hb3⟩; have HB3 := Lib.hid (HB.out.trans (hb3.mono hbz)); clear hb3)
        go_ret; exact ⟨⟨j, rfl, by rw [HF.out]; simp⟩, HB3.out⟩
      | false =>
        rw [hq, Bool.false_or] at HA1
        have HA2 := Lib.hid HA1
        rw [hq] at HC
        clear HA1 hq
        go_wp2_with (go_at_call 39; refine HC.out.mono ?_; rintro e w3 ⟨rfl, hb3⟩; have HB3 := Lib.hid (HB.out.trans (hb3.mono hbz)); clear hb3)
        go_roundw
        case rel => exact ⟨j + 1, by omega, by go_num, HA2, HB3⟩
        case measure => simp [intOf]; omega
    · have hje : j = l.length := by omega
      have HF := Lib.hid (show l.any (fun t => t.1 == n) = false from by rw [HA.out, hje, List.drop_length]; rfl)
      clear HA
      go_wp2
      go_ret; exact ⟨⟨-1, rfl, by rw [HF.out]; rfl⟩, HB.out⟩
set_option maxHeartbeats 1000000 in
theorem contains_any (l : List Tg) (p : Option Addr) (cap : Nat) (n : Int) (g : Nat) (w : World) (h : GRow w w.heap.size p l) (hl : l.length ≤ 4000000000000000000) (hg : w.cell? ⟨g, 0, none⟩ = some (.int .i64 n)) :
    Calls Tryd.prog 38 #[.slice p l.length cap, .func (.func 39) #[] #[.pointer (some ⟨g, 0, none⟩)]] w fun e w' => e = .returned (.bool (l.any (fun t => t.1 == n))) ∧ Below w.heap.size w w' := by
  have HX := Lib.hid (index_any l p cap n g w h hl hg)
  clear h hg
  go_enter Tryd.func38, Tryd.ntmps38
  go_wp2_with (go_at_call 57; refine HX.out.mono ?_; rintro e w3 ⟨⟨r, rfl, hr⟩, hb3⟩; have HB3 := Lib.hid hb3; have HRR := Lib.hid hr; clear hb3 hr)
  go_ret; exact ⟨by rw [← HRR.out]; rfl, HB3.out⟩

set_option maxHeartbeats 4000000 in
theorem object_any (s : ByteArray) (l : List Tg) (p : Option Addr) (cap : Nat) (w : World) (hs : s.size ≤ 1000000) (hN : NumV w) (hG : GRow w w.heap.size p l) (hl : l.length ≤ 4000000000000000000) :
    Calls Tryd.prog 17 #[.string s, .slice p l.length cap] w fun e w' => e = .returned (.int .i64 (objectB s.data.toList l)) ∧ Below w.heap.size w w' := by
  have he := empty_iff s
  by_cases h0 : s.size = 0
  · have HO : Hid (objectB s.data.toList l = -1) := Lib.hid (by unfold objectB; rw [if_pos (List.eq_nil_of_length_eq_zero (by rw [len_data]; exact h0))])
    have hse : s.toList.isEmpty = true := by rw [he, decide_eq_true h0]
    clear he
    go_enter Tryd.func17, Tryd.ntmps17
    go_wp2
    go_ret; exact ⟨by rw [HO.out]; rfl, Below.refl _ _⟩
  have hse : s.toList.isEmpty = false := by rw [he, decide_eq_false h0]
  have hne : s.data.toList ≠ [] := fun e => h0 (by rw [← len_data, e]; rfl)
  have HNB := Lib.hid (number_any s hs w hN)
  have HG := Lib.hid hG
  have hO : objectB s.data.toList l = (match numO s.data.toList with
    | some n => if l.any (fun t => t.1 == n) then n else -3
    | none => match onlyB alikeB s.data.toList l none with
      | some x => x
      | none => match onlyB beginsB s.data.toList l none with
        | some x => x
        | none => -3) := by unfold objectB; exact if_neg hne
  clear he hne hG h0
  have hA : ∀ n : Int, ∀ W : World, (W.alloc (.cells #[.int .i64 n] 3)).cell? ⟨W.heap.size, 0, none⟩ = some (.int .i64 n) := fun n W => by
    rw [cell_of_row _ _ _ _ _ _ (heap_alloc_new W (.cells #[.int .i64 n] 3))]; rfl
  have HA := Lib.hid hA
  have HB0 := Lib.hid (fun (n : Int) (W : World) => (Below.refl W.heap.size W).alloc (Nat.le_refl _) (.cells #[.int .i64 n] 3))
  clear hA
  cases hq : numO s.data.toList with
  | some n =>
    rw [hq] at hO HNB
    have HNB : Hid (Calls Tryd.prog 37 #[.string s] w fun e w' => e = .returned (.tuple #[.int .i64 n, .bool true]) ∧ Below w.heap.size w w') := HNB
    cases ha : l.any (fun t => t.1 == n) with
    | true =>
      have HO : Hid (objectB s.data.toList l = n) := Lib.hid (hO.trans (if_pos ha))
      have HCF := Lib.hid (fun (W : World) (g : Nat) (h1 : GRow W W.heap.size p l) (h2 : W.cell? ⟨g, 0, none⟩ = some (.int .i64 n)) => by have := contains_any l p cap n g W h1 hl h2; rw [ha] at this; exact this)
      clear hO hq ha
      go_enter Tryd.func17, Tryd.ntmps17
      go_wp2_with (first
        | (go_at_call 37; refine HNB.out.mono ?_; rintro e w1 ⟨rfl, hb1⟩; have HB1 := Lib.hid (hb1.trans ((HB0.out n w1).mono hb1.size)); have y0 := HA.out n w1; have HW1 := Lib.hid (HG.out.below hb1); have hz1 := hb1.size; clear hb1)
        | (go_at_call 38; refine (HCF.out _ _ ((HG.out.below HB1.out).grow HB1.out.size) y0).mono ?_; rintro e w3 ⟨rfl, hb3⟩; have HB3 := Lib.hid (HB1.out.trans (hb3.mono HB1.out.size)); have y1 := (hb3.cell (p := ⟨w1.heap.size, 0, none⟩) (by simp)).trans y0; clear hb3))
      go_ret; exact ⟨by rw [HO.out]; rfl, HB3.out⟩
    | false =>
      have HO : Hid (objectB s.data.toList l = -3) := Lib.hid (hO.trans (if_neg (by rw [ha]; simp)))
      have HCF := Lib.hid (fun (W : World) (g : Nat) (h1 : GRow W W.heap.size p l) (h2 : W.cell? ⟨g, 0, none⟩ = some (.int .i64 n)) => by have := contains_any l p cap n g W h1 hl h2; rw [ha] at this; exact this)
      clear hO hq ha
      go_enter Tryd.func17, Tryd.ntmps17
      go_wp2_with (first
        | (go_at_call 37; refine HNB.out.mono ?_; rintro e w1 ⟨rfl, hb1⟩; have HB1 := Lib.hid (hb1.trans ((HB0.out n w1).mono hb1.size)); have y0 := HA.out n w1; clear hb1)
        | (go_at_call 38; refine (HCF.out _ _ ((HG.out.below HB1.out).grow HB1.out.size) y0).mono ?_; rintro e w3 ⟨rfl, hb3⟩; have HB3 := Lib.hid (HB1.out.trans (hb3.mono HB1.out.size)); clear hb3))
      go_ret; exact ⟨by rw [HO.out]; rfl, HB3.out⟩
  | none =>
    rw [hq] at hO HNB
    have HNB : Hid (Calls Tryd.prog 37 #[.string s] w fun e w' => e = .returned (.tuple #[.int .i64 0, .bool false]) ∧ Below w.heap.size w w') := HNB
    have HOA := Lib.hid (fun (W : World) (h1 : GRow W W.heap.size p l) => only_alike l p cap s W h1 hl (by omega))
    cases ha : onlyB alikeB s.data.toList l none with
    | some x =>
      have HO : Hid (objectB s.data.toList l = x) := Lib.hid (hO.trans (by rw [ha]))
      have HOA : Hid (∀ (W : World) (h1 : GRow W W.heap.size p l), Calls Tryd.prog 40 #[.slice p l.length cap, .string s, .func (.func 30) #[] #[]] W fun e w' => e = .returned (.tuple #[.int .i64 x, .bool true]) ∧ Below W.heap.size W w') := Lib.hid (fun W h1 => by have := HOA.out W h1; rw [ha] at this; exact this)
      clear hO hq ha
      go_enter Tryd.func17, Tryd.ntmps17
      go_wp2_with (first
        | (go_at_call 37; refine HNB.out.mono ?_; rintro e w1 ⟨rfl, hb1⟩; have HB1 := Lib.hid (hb1.trans ((HB0.out 0 w1).mono hb1.size)); clear hb1)
        | (go_at_call 40; refine (HOA.out _ ((HG.out.below HB1.out).grow HB1.out.size)).mono ?_; rintro e w3 ⟨rfl, hb3⟩; have HB3 := Lib.hid (HB1.out.trans (hb3.mono HB1.out.size)); clear hb3))
      go_ret; exact ⟨by rw [HO.out]; rfl, HB3.out⟩
    | none =>
      have HOA : Hid (∀ (W : World) (h1 : GRow W W.heap.size p l), Calls Tryd.prog 40 #[.slice p l.length cap, .string s, .func (.func 30) #[] #[]] W fun e w' => e = .returned (.tuple #[.int .i64 0, .bool false]) ∧ Below W.heap.size W w') := Lib.hid (fun W h1 => by have := HOA.out W h1; rw [ha] at this; exact this)
      have HOB := Lib.hid (fun (W : World) (h1 : GRow W W.heap.size p l) => only_begins l p cap s W h1 hl (by omega))
      rw [ha] at hO
      cases hb : onlyB beginsB s.data.toList l none with
      | some x =>
        have HO : Hid (objectB s.data.toList l = x) := Lib.hid (hO.trans (by rw [hb]))
        have HOB : Hid (∀ (W : World) (h1 : GRow W W.heap.size p l), Calls Tryd.prog 40 #[.slice p l.length cap, .string s, .func (.func 41) #[] #[]] W fun e w' => e = .returned (.tuple #[.int .i64 x, .bool true]) ∧ Below W.heap.size W w') := Lib.hid (fun W h1 => by have := HOB.out W h1; rw [hb] at this; exact this)
        clear hO hq ha hb
        go_enter Tryd.func17, Tryd.ntmps17
        go_wp2_with (first
          | (go_at_call 37; refine HNB.out.mono ?_; rintro e w1 ⟨rfl, hb1⟩; have HB1 := Lib.hid (hb1.trans ((HB0.out 0 w1).mono hb1.size)); clear hb1)
          | (go_at_call 40; (first | (with_reducible refine (HOA.out _ ((HG.out.below HB1.out).grow HB1.out.size)).mono ?_; rintro e w3 ⟨rfl, hb3⟩; have HB3 := Lib.hid (HB1.out.trans (hb3.mono HB1.out.size)); clear hb3) | (with_reducible refine (HOB.out _ ((HG.out.below HB3.out).grow HB3.out.size)).mono ?_; rintro e w4 ⟨rfl, hb4⟩; have HB4 := Lib.hid (HB3.out.trans (hb4.mono HB3.out.size)); clear hb4))))
        go_ret; exact ⟨by rw [HO.out]; rfl, HB4.out⟩
      | none =>
        have HO : Hid (objectB s.data.toList l = -3) := Lib.hid (hO.trans (by rw [hb]))
        have HOB : Hid (∀ (W : World) (h1 : GRow W W.heap.size p l), Calls Tryd.prog 40 #[.slice p l.length cap, .string s, .func (.func 41) #[] #[]] W fun e w' => e = .returned (.tuple #[.int .i64 0, .bool false]) ∧ Below W.heap.size W w') := Lib.hid (fun W h1 => by have := HOB.out W h1; rw [hb] at this; exact this)
        clear hO hq ha hb
        go_enter Tryd.func17, Tryd.ntmps17
        go_wp2_with (first
          | (go_at_call 37; refine HNB.out.mono ?_; rintro e w1 ⟨rfl, hb1⟩; have HB1 := Lib.hid (hb1.trans ((HB0.out 0 w1).mono hb1.size)); clear hb1)
          | (go_at_call 40; (first | (with_reducible refine (HOA.out _ ((HG.out.below HB1.out).grow HB1.out.size)).mono ?_; rintro e w3 ⟨rfl, hb3⟩; have HB3 := Lib.hid (HB1.out.trans (hb3.mono HB1.out.size)); clear hb3) | (with_reducible refine (HOB.out _ ((HG.out.below HB3.out).grow HB3.out.size)).mono ?_; rintro e w4 ⟨rfl, hb4⟩; have HB4 := Lib.hid (HB3.out.trans (hb4.mono HB3.out.size)); clear hb4))))
        go_ret; exact ⟨by rw [HO.out]; rfl, HB4.out⟩
end Go.Proofs.YtcecgfijfnnpeaaDoor.Mt
