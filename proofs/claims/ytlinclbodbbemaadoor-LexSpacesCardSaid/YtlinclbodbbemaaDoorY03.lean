/- The contract of the reader's numbers. -/
import Derived.Test.YtlinclbodbbemaaDoorY02
import Derived.Deep.RegionWith
namespace Go.Proofs.YtlinclbodbbemaaDoor
open Go.RowKit
set_option maxRecDepth 100000

/-- Where the reader of block g stands. -/
def rdPos (w : World) (g : Nat) : Nat := match w.cell? ⟨g, 1, none⟩ with | some (.int _ n) => n.toNat | _ => 0
theorem RdIs.rdPos {w : World} {g : Nat} {s : ByteArray} {x : Rd} (h : RdIs w g s x) : rdPos w g = x.pos := by
  unfold Go.Proofs.YtlinclbodbbemaaDoor.rdPos; rw [h.open.2.1]; simp

theorem pass_yes (s : ByteArray) (x : Rd) (g : Nat) (c : Int) (n : Nat) (hcn : c = (n : Int)) (hn : 0 < n) (w : World) (hx : RdIs w g s x) (hp : x.pos ≤ s.size) (hs : s.size ≤ 140737488355328) (h : hd n (s.data.toList.drop x.pos) = true) :
    Calls Tryd.prog 132 #[.pointer (some ⟨g, 0, none⟩), .int .u8 c] w fun e w' => e = .returned (.bool true) ∧ RdIs w' g s { x with pos := x.pos + 1 } ∧ But g w w' := by
  have := pass_any s x g c n hcn hn w hx hp hs
  rw [h] at this
  exact this
theorem pass_no (s : ByteArray) (x : Rd) (g : Nat) (c : Int) (n : Nat) (hcn : c = (n : Int)) (hn : 0 < n) (w : World) (hx : RdIs w g s x) (hp : x.pos ≤ s.size) (hs : s.size ≤ 140737488355328) (h : hd n (s.data.toList.drop x.pos) = false) :
    Calls Tryd.prog 132 #[.pointer (some ⟨g, 0, none⟩), .int .u8 c] w fun e w' => e = .returned (.bool false) ∧ RdIs w' g s x ∧ But g w w' := by
  have := pass_any s x g c n hcn hn w hx hp hs
  rw [h] at this
  exact this
theorem next_val (s : ByteArray) (x : Rd) (g : Nat) (w : World) (hx : RdIs w g s x) (hp : x.pos ≤ s.size) (c : Int) (hc : ((nx (s.data.toList.drop x.pos)).toNat : Int) = c) :
    Calls Tryd.prog 158 #[.pointer (some ⟨g, 0, none⟩)] w fun e w' => e = .returned (.int .u8 c) ∧ RdIs w' g s x ∧ But g w w' := by
  have := next_any s x g w hx hp
  rw [hc] at this
  exact this
theorem isDigit_int (b : UInt8) (c : Int) (hc : (b.toNat : Int) = c) (d : Bool) (hd : isD b = d) (w : World) :
    Calls Tryd.prog 169 #[.int .u8 c] w fun e w' => e = .returned (.bool d) ∧ w' = w := by
  subst hc hd; exact isDigit_any b w

theorem neg_u64 (n : Int) (h0 : 0 ≤ n) (h1 : n ≤ 9223372036854775808) : wrap64 (IntKind.u64.wrap (-n)) = -n := by
  have e : IntKind.u64.wrap (-n) = (-n) % 18446744073709551616 := rfl
  rw [e]; unfold wrap64; omega

def NumPost (s : ByteArray) (x : Rd) (g : Nat) (w : World) (q : Option Int × Bs) (e : Ending) (w' : World) : Prop :=
  ∃ p', p' ≤ s.size ∧ s.data.toList.drop p' = q.2 ∧ e = .returned (.tuple #[.int .i64 (q.1.getD 0), .bool q.1.isSome]) ∧ RdIs w' g s { x with pos := p' } ∧ But g w w'

set_option maxHeartbeats 1000000 in
theorem number_zero (s : ByteArray) (x : Rd) (g most : Nat) (m : Int) (w : World) (hx : RdIs w g s x) (hp : x.pos ≤ s.size) (hs : s.size ≤ 140737488355328) (h0 : hd 48 (s.data.toList.drop x.pos) = true) :
    Calls Tryd.prog 170 #[.pointer (some ⟨g, 0, none⟩), .int .u64 m] w (NumPost s x g w (numC most (s.data.toList.drop x.pos))) := by
  have hl := hd_lt h0
  have hq : numC most (s.data.toList.drop x.pos) = (some 0, s.data.toList.drop (x.pos + 1)) := by unfold numC; rw [if_pos h0, List.drop_drop]
  rw [hq]
  have HX := Lib.hid hx; clear hx
  have H0 := Lib.hid h0; clear h0 hq
  go_enter Tryd.func170, Tryd.ntmps170
  go_wp2_with (go_at_call 132; refine (pass_yes s x g _ 48 rfl (by omega) _ HX.out hp hs H0.out).mono ?_; rintro e w2 ⟨rfl, hx2, hb2⟩)
  go_ret2
  exact ⟨x.pos + 1, by omega, rfl, rfl, hx2, hb2⟩


set_option maxHeartbeats 4000000 in
theorem number_pos (s : ByteArray) (x : Rd) (g most : Nat) (m : Int) (w : World) (hx : RdIs w g s x) (hp : x.pos ≤ s.size) (hs : s.size ≤ 140737488355328) (hmm : (most : Int) = m) (hm0 : 9 ≤ m) (hm1 : m ≤ 9223372036854775807)
    (h0 : hd 48 (s.data.toList.drop x.pos) = false) (h4 : hd 45 (s.data.toList.drop x.pos) = false) :
    Calls Tryd.prog 170 #[.pointer (some ⟨g, 0, none⟩), .int .u64 m] w (NumPost s x g w (numU most 1 (s.data.toList.drop (x.pos)))) := by
  have HMM := Lib.hid hmm; clear hmm
  have HX := Lib.hid hx; clear hx
  have H0 := Lib.hid h0; clear h0
  have H45 := Lib.hid h4; clear h4
  have hP1 : (x).pos ≤ s.size := by show x.pos ≤ s.size; omega
  obtain ⟨b, hbb⟩ : ∃ b, b = nx (s.data.toList.drop (x.pos)) := ⟨_, rfl⟩
  obtain ⟨c, hc⟩ : ∃ c : Int, (b.toNat : Int) = c := ⟨_, rfl⟩
  have hcb : 0 ≤ c ∧ c < 256 := by have := b.toNat_lt; omega
  have HC := Lib.hid (show ((nx (s.data.toList.drop (x).pos)).toNat : Int) = c from by rw [← hc, hbb])
  have HCb := Lib.hid hc
  have hd48 : hd 48 (s.data.toList.drop (x.pos)) = decide (c = 48) := by rw [nx_hd (by omega), ← hbb, Bool.eq_iff_iff]; simp; omega
  have hdD' : hdD (s.data.toList.drop (x.pos)) = isD b := by rw [hbb, nx_isD]
  by_cases hbad : c = 48 ∨ isD b = false
  · have hq : numU most 1 (s.data.toList.drop (x.pos)) = (none, s.data.toList.drop (x.pos)) := by
      unfold numU; rw [if_pos]; rw [hd48, hdD']; rcases hbad with h | h <;> simp [h]
    rw [hq]
    clear hq hd48 hdD' hbb hc
    by_cases hz : c = 48
    · subst hz
      go_enter Tryd.func170, Tryd.ntmps170
      go_wp2_with (first
        | (go_at_call_of 132 (Value.int IntKind.u8 48); refine (pass_no s x g _ 48 rfl (by omega) _ HX.out hp hs H0.out).mono ?_; rintro e w1 ⟨rfl, hx1, hb1⟩; have HX1 := Lib.hid hx1)
        | (go_at_call_of 132 (Value.int IntKind.u8 45); refine (pass_no s x g _ 45 rfl (by omega) _ HX1.out hp hs H45.out).mono ?_; rintro e w2 ⟨rfl, hx2, hb2⟩; have HX2 := Lib.hid hx2)
        | (go_at_call 158; refine (next_val s _ g _ HX2.out hP1 _ HC.out).mono ?_; rintro e w3 ⟨rfl, hx3, hb3⟩))
      go_ret2
      exact ⟨x.pos, hP1, rfl, rfl, hx3, hb1.trans (hb2.trans hb3)⟩
    · have hD : isD b = false := by rcases hbad with h | h; exact absurd h hz; exact h
      have HD := Lib.hid hD; clear hD hbad
      go_enter Tryd.func170, Tryd.ntmps170
      go_wp2_with (first
        | (go_at_call_of 132 (Value.int IntKind.u8 48); refine (pass_no s x g _ 48 rfl (by omega) _ HX.out hp hs H0.out).mono ?_; rintro e w1 ⟨rfl, hx1, hb1⟩; have HX1 := Lib.hid hx1)
        | (go_at_call_of 132 (Value.int IntKind.u8 45); refine (pass_no s x g _ 45 rfl (by omega) _ HX1.out hp hs H45.out).mono ?_; rintro e w2 ⟨rfl, hx2, hb2⟩; have HX2 := Lib.hid hx2)
        | (go_at_call 158; refine (next_val s _ g _ HX2.out hP1 _ HC.out).mono ?_; rintro e w3 ⟨rfl, hx3, hb3⟩)
        | (go_at_call 169; refine (isDigit_int b _ HCb.out false HD.out _).mono ?_; rintro e w4 ⟨rfl, rfl⟩))
      go_ret2
      exact ⟨x.pos, hP1, rfl, rfl, hx3, hb1.trans (hb2.trans hb3)⟩
  · have hD : isD b = true := by cases h : isD b; exact absurd (.inr h) hbad; rfl
    have hz : ¬ c = 48 := fun h => hbad (.inl h)
    have hzb : (c == 48) = false := by simpa using hz
    have HQ := Lib.hid (show numU most 1 (s.data.toList.drop (x.pos)) = ((if (dig most 0 (s.data.toList.drop (x.pos))).1 then some (1 * ((dig most 0 (s.data.toList.drop (x.pos))).2.1 : Int)) else none), (dig most 0 (s.data.toList.drop (x.pos))).2.2) from by
      unfold numU; rw [if_neg]; rw [hd48, hdD', hD]; simp [hz])
    have HD := Lib.hid hD; clear hD hbad hd48 hdD' hbb hc
    go_enter Tryd.func170, Tryd.ntmps170
    go_wp2_with (first
      | (go_at_call_of 132 (Value.int IntKind.u8 48); refine (pass_no s x g _ 48 rfl (by omega) _ HX.out hp hs H0.out).mono ?_; rintro e w1 ⟨rfl, hx1, hb1⟩; have HX1 := Lib.hid hx1)
      | (go_at_call_of 132 (Value.int IntKind.u8 45); refine (pass_no s x g _ 45 rfl (by omega) _ HX1.out hp hs H45.out).mono ?_; rintro e w2 ⟨rfl, hx2, hb2⟩; have HX2 := Lib.hid hx2)
      | (go_at_call 158; refine (next_val s _ g _ HX2.out hP1 _ HC.out).mono ?_; rintro e w3 ⟨rfl, hx3, hb3⟩; have HX3 := Lib.hid hx3; have HB3 := Lib.hid (hb1.trans (hb2.trans hb3)))
      | (go_at_call 169; refine (isDigit_int b _ HCb.out true HD.out _).mono ?_; rintro e w4 ⟨rfl, rfl⟩))
    go_loopw [8] (fun i wr => ∃ (nI : Int) (n p : Nat), i = .int .u64 nI ∧ Hid ((n : Int) = nI) ∧ 0 ≤ nI ∧ nI ≤ m ∧ p ≤ s.size ∧ Hid (dig most 0 (s.data.toList.drop (x.pos)) = dig most n (s.data.toList.drop p)) ∧ Hid (RdIs wr g s { x with pos := p }) ∧ Hid (But g w wr)) (fun _ wr => s.size - rdPos wr g)
    case atStart => exact ⟨0, 0, x.pos, rfl, Lib.hid rfl, by omega, by omega, hP1, Lib.hid rfl, HX3, HB3⟩
    case round =>
      obtain ⟨nI, n, p, rfl, hn, hn0, hn1, hpp, hdig, hxr, hbr⟩ := hrel
      clear HX HX1 HX2 HX3 hx1 hx2 hx3 hb1 hb2 hb3 HB3 HC HCb HD
      obtain ⟨b, hbb⟩ : ∃ b, b = nx (s.data.toList.drop p) := ⟨_, rfl⟩
      obtain ⟨c, hc⟩ : ∃ c : Int, (b.toNat : Int) = c := ⟨_, rfl⟩
      have HC := Lib.hid (show ((nx (s.data.toList.drop p)).toNat : Int) = c from by rw [← hc, hbb])
      have HCb := Lib.hid hc
      have hdD' : hdD (s.data.toList.drop p) = isD b := by rw [hbb, nx_isD]
      by_cases hD : isD b = true
      · have hcd := isD_iff.1 hD
        have hcb : 48 ≤ c ∧ c ≤ 57 := by omega
        have hps : p < s.size := nx_drop (by rw [← hbb]; omega)
        have hdr : s.data.toList.drop p = b :: s.data.toList.drop (p + 1) := by
          have h' : p < s.data.toList.length := by simpa using hps
          rw [List.drop_eq_getElem_cons h'] at hbb ⊢; rw [hbb]; rfl
        have hbig : (((most - (b.toNat - 48)) / 10 < n) ↔ (m - (c - 48)) / 10 < nI) := by
          have := hn.out; have := HMM.out; omega
        have HDG := Lib.hid (show dig most n (s.data.toList.drop p) = if (m - (c - 48)) / 10 < nI then (false, n, s.data.toList.drop p) else dig most (n * 10 + (b.toNat - 48)) (s.data.toList.drop (p + 1)) from by
          rw [hdr, dig, if_pos hD]; by_cases hh : (most - (b.toNat - 48)) / 10 < n
          · rw [if_pos hh, if_pos (hbig.1 hh)]
          · rw [if_neg hh, if_neg (fun h => hh (hbig.2 h))])
        have HNB := Lib.hid (show ((n * 10 + (b.toNat - 48) : Nat) : Int) = nI * 10 + (c - 48) from by have := hn.out; omega)
        have HD := Lib.hid hD; clear hD hcd hdr hbig hdD' hbb hc
        by_cases hov : (m - (c - 48)) / 10 < nI
        · have HE := Lib.hid (hdig.out.trans (HDG.out.trans (if_pos hov)))
          go_wp2_with (first
            | (go_at_call 158; refine (next_val s _ g _ hxr.out hpp _ HC.out).mono ?_; rintro e w3 ⟨rfl, hx3, hb3⟩; have hxr := Lib.hid hx3; have hbr := Lib.hid (hbr.out.trans hb3))
            | (go_at_call 169; refine (isDigit_int b _ HCb.out true HD.out _).mono ?_; rintro e w4 ⟨rfl, rfl⟩))
          go_ret2
          exact ⟨p, hpp, by rw [HQ.out, HE.out], by rw [HQ.out, HE.out]; rfl, hxr.out, hbr.out⟩
        · have HE := Lib.hid (hdig.out.trans (HDG.out.trans (if_neg hov)))
          have hxr0 := hxr
          go_wp2_with (first
            | (go_at_call 158; refine (next_val s _ g _ hxr.out hpp _ HC.out).mono ?_; rintro e w3 ⟨rfl, hx3, hb3⟩; have hxr := Lib.hid hx3; have hbr := Lib.hid (hbr.out.trans hb3); obtain ⟨h0, h1, h2, h3, h4, h5, h6, h7, h8, hf, hlt⟩ := hx3.open)
            | (go_at_call 169; refine (isDigit_int b _ HCb.out true HD.out _).mono ?_; rintro e w4 ⟨rfl, rfl⟩))
          go_roundw
          case measure => rw [hxr0.out.rdPos, (hxr.out.setPos (p + 1) (by simp)).rdPos]; show s.size - (p + 1) < s.size - p; omega
          case rel => exact ⟨_, n * 10 + (b.toNat - 48), p + 1, rfl, HNB, by omega, by omega, by omega, HE, Lib.hid (hxr.out.setPos (p + 1) (by simp)), Lib.hid (hbr.out.setCell _ _)⟩
      · have hD' : isD b = false := by simpa using hD
        have HE := Lib.hid (hdig.out.trans (dig_stop (by rw [hdD', hD'])))
        have HD := Lib.hid hD'; clear hD hD' hdD' hbb hc
        go_wp2_with (first
          | (go_at_call 158; refine (next_val s _ g _ hxr.out hpp _ HC.out).mono ?_; rintro e w3 ⟨rfl, hx3, hb3⟩; have hxr := Lib.hid hx3; have hbr := Lib.hid (hbr.out.trans hb3))
          | (go_at_call 169; refine (isDigit_int b _ HCb.out false HD.out _).mono ?_; rintro e w4 ⟨rfl, rfl⟩))
        go_ret2
        have hz1 := hn.out
        exact ⟨p, hpp, by rw [HQ.out, HE.out], by rw [HQ.out, HE.out]; simp; omega, hxr.out, hbr.out⟩

set_option maxHeartbeats 4000000 in
theorem number_neg (s : ByteArray) (x : Rd) (g most : Nat) (m : Int) (w : World) (hx : RdIs w g s x) (hp : x.pos ≤ s.size) (hs : s.size ≤ 140737488355328) (hmm : (most : Int) = m) (hm0 : 9 ≤ m) (hm1 : m ≤ 9223372036854775807)
    (h0 : hd 48 (s.data.toList.drop x.pos) = false) (h4 : hd 45 (s.data.toList.drop x.pos) = true) :
    Calls Tryd.prog 170 #[.pointer (some ⟨g, 0, none⟩), .int .u64 m] w (NumPost s x g w (numU (most + 1) (-1) (s.data.toList.drop (x.pos + 1)))) := by
  have HMM := Lib.hid hmm; clear hmm
  have hj : x.pos < s.size := hd_lt h4
  have HX := Lib.hid hx; clear hx
  have H0 := Lib.hid h0; clear h0
  have H45 := Lib.hid h4; clear h4
  have hP1 : ({ x with pos := x.pos + 1 }).pos ≤ s.size := by show x.pos + 1 ≤ s.size; omega
  obtain ⟨b, hbb⟩ : ∃ b, b = nx (s.data.toList.drop (x.pos + 1)) := ⟨_, rfl⟩
  obtain ⟨c, hc⟩ : ∃ c : Int, (b.toNat : Int) = c := ⟨_, rfl⟩
  have hcb : 0 ≤ c ∧ c < 256 := by have := b.toNat_lt; omega
  have HC := Lib.hid (show ((nx (s.data.toList.drop ({ x with pos := x.pos + 1 }).pos)).toNat : Int) = c from by rw [← hc, hbb])
  have HCb := Lib.hid hc
  have hd48 : hd 48 (s.data.toList.drop (x.pos + 1)) = decide (c = 48) := by rw [nx_hd (by omega), ← hbb, Bool.eq_iff_iff]; simp; omega
  have hdD' : hdD (s.data.toList.drop (x.pos + 1)) = isD b := by rw [hbb, nx_isD]
  by_cases hbad : c = 48 ∨ isD b = false
  · have hq : numU (most + 1) (-1) (s.data.toList.drop (x.pos + 1)) = (none, s.data.toList.drop (x.pos + 1)) := by
      unfold numU; rw [if_pos]; rw [hd48, hdD']; rcases hbad with h | h <;> simp [h]
    rw [hq]
    clear hq hd48 hdD' hbb hc
    by_cases hz : c = 48
    · subst hz
      go_enter Tryd.func170, Tryd.ntmps170
      go_wp2_with (first
        | (go_at_call_of 132 (Value.int IntKind.u8 48); refine (pass_no s x g _ 48 rfl (by omega) _ HX.out hp hs H0.out).mono ?_; rintro e w1 ⟨rfl, hx1, hb1⟩; have HX1 := Lib.hid hx1)
        | (go_at_call_of 132 (Value.int IntKind.u8 45); refine (pass_yes s x g _ 45 rfl (by omega) _ HX1.out hp hs H45.out).mono ?_; rintro e w2 ⟨rfl, hx2, hb2⟩; have HX2 := Lib.hid hx2)
        | (go_at_call 158; refine (next_val s _ g _ HX2.out hP1 _ HC.out).mono ?_; rintro e w3 ⟨rfl, hx3, hb3⟩))
      go_ret2
      exact ⟨x.pos + 1, hP1, rfl, rfl, hx3, hb1.trans (hb2.trans hb3)⟩
    · have hD : isD b = false := by rcases hbad with h | h; exact absurd h hz; exact h
      have HD := Lib.hid hD; clear hD hbad
      go_enter Tryd.func170, Tryd.ntmps170
      go_wp2_with (first
        | (go_at_call_of 132 (Value.int IntKind.u8 48); refine (pass_no s x g _ 48 rfl (by omega) _ HX.out hp hs H0.out).mono ?_; rintro e w1 ⟨rfl, hx1, hb1⟩; have HX1 := Lib.hid hx1)
        | (go_at_call_of 132 (Value.int IntKind.u8 45); refine (pass_yes s x g _ 45 rfl (by omega) _ HX1.out hp hs H45.out).mono ?_; rintro e w2 ⟨rfl, hx2, hb2⟩; have HX2 := Lib.hid hx2)
        | (go_at_call 158; refine (next_val s _ g _ HX2.out hP1 _ HC.out).mono ?_; rintro e w3 ⟨rfl, hx3, hb3⟩)
        | (go_at_call 169; refine (isDigit_int b _ HCb.out false HD.out _).mono ?_; rintro e w4 ⟨rfl, rfl⟩))
      go_ret2
      exact ⟨x.pos + 1, hP1, rfl, rfl, hx3, hb1.trans (hb2.trans hb3)⟩
  · have hD : isD b = true := by cases h : isD b; exact absurd (.inr h) hbad; rfl
    have hz : ¬ c = 48 := fun h => hbad (.inl h)
    have hzb : (c == 48) = false := by simpa using hz
    have HQ := Lib.hid (show numU (most + 1) (-1) (s.data.toList.drop (x.pos + 1)) = ((if (dig (most + 1) 0 (s.data.toList.drop (x.pos + 1))).1 then some ((-1) * ((dig (most + 1) 0 (s.data.toList.drop (x.pos + 1))).2.1 : Int)) else none), (dig (most + 1) 0 (s.data.toList.drop (x.pos + 1))).2.2) from by
      unfold numU; rw [if_neg]; rw [hd48, hdD', hD]; simp [hz])
    have HD := Lib.hid hD; clear hD hbad hd48 hdD' hbb hc
    go_enter Tryd.func170, Tryd.ntmps170
    go_wp2_with (first
      | (go_at_call_of 132 (Value.int IntKind.u8 48); refine (pass_no s x g _ 48 rfl (by omega) _ HX.out hp hs H0.out).mono ?_; rintro e w1 ⟨rfl, hx1, hb1⟩; have HX1 := Lib.hid hx1)
      | (go_at_call_of 132 (Value.int IntKind.u8 45); refine (pass_yes s x g _ 45 rfl (by omega) _ HX1.out hp hs H45.out).mono ?_; rintro e w2 ⟨rfl, hx2, hb2⟩; have HX2 := Lib.hid hx2)
      | (go_at_call 158; refine (next_val s _ g _ HX2.out hP1 _ HC.out).mono ?_; rintro e w3 ⟨rfl, hx3, hb3⟩; have HX3 := Lib.hid hx3; have HB3 := Lib.hid (hb1.trans (hb2.trans hb3)))
      | (go_at_call 169; refine (isDigit_int b _ HCb.out true HD.out _).mono ?_; rintro e w4 ⟨rfl, rfl⟩))
    go_loopw [8] (fun i wr => ∃ (nI : Int) (n p : Nat), i = .int .u64 nI ∧ Hid ((n : Int) = nI) ∧ 0 ≤ nI ∧ nI ≤ (m + 1) ∧ p ≤ s.size ∧ Hid (dig (most + 1) 0 (s.data.toList.drop (x.pos + 1)) = dig (most + 1) n (s.data.toList.drop p)) ∧ Hid (RdIs wr g s { x with pos := p }) ∧ Hid (But g w wr)) (fun _ wr => s.size - rdPos wr g)
    case atStart => exact ⟨0, 0, x.pos + 1, rfl, Lib.hid rfl, by omega, by omega, hP1, Lib.hid rfl, HX3, HB3⟩
    case round =>
      obtain ⟨nI, n, p, rfl, hn, hn0, hn1, hpp, hdig, hxr, hbr⟩ := hrel
      clear HX HX1 HX2 HX3 hx1 hx2 hx3 hb1 hb2 hb3 HB3 HC HCb HD
      obtain ⟨b, hbb⟩ : ∃ b, b = nx (s.data.toList.drop p) := ⟨_, rfl⟩
      obtain ⟨c, hc⟩ : ∃ c : Int, (b.toNat : Int) = c := ⟨_, rfl⟩
      have HC := Lib.hid (show ((nx (s.data.toList.drop p)).toNat : Int) = c from by rw [← hc, hbb])
      have HCb := Lib.hid hc
      have hdD' : hdD (s.data.toList.drop p) = isD b := by rw [hbb, nx_isD]
      by_cases hD : isD b = true
      · have hcd := isD_iff.1 hD
        have hcb : 48 ≤ c ∧ c ≤ 57 := by omega
        have hps : p < s.size := nx_drop (by rw [← hbb]; omega)
        have hdr : s.data.toList.drop p = b :: s.data.toList.drop (p + 1) := by
          have h' : p < s.data.toList.length := by simpa using hps
          rw [List.drop_eq_getElem_cons h'] at hbb ⊢; rw [hbb]; rfl
        have hbig : ((((most + 1) - (b.toNat - 48)) / 10 < n) ↔ ((m + 1) - (c - 48)) / 10 < nI) := by
          have := hn.out; have := HMM.out; omega
        have HDG := Lib.hid (show dig (most + 1) n (s.data.toList.drop p) = if ((m + 1) - (c - 48)) / 10 < nI then (false, n, s.data.toList.drop p) else dig (most + 1) (n * 10 + (b.toNat - 48)) (s.data.toList.drop (p + 1)) from by
          rw [hdr, dig, if_pos hD]; by_cases hh : ((most + 1) - (b.toNat - 48)) / 10 < n
          · rw [if_pos hh, if_pos (hbig.1 hh)]
          · rw [if_neg hh, if_neg (fun h => hh (hbig.2 h))])
        have HNB := Lib.hid (show ((n * 10 + (b.toNat - 48) : Nat) : Int) = nI * 10 + (c - 48) from by have := hn.out; omega)
        have HD := Lib.hid hD; clear hD hcd hdr hbig hdD' hbb hc
        by_cases hov : ((m + 1) - (c - 48)) / 10 < nI
        · have HE := Lib.hid (hdig.out.trans (HDG.out.trans (if_pos hov)))
          go_wp2_with (first
            | (go_at_call 158; refine (next_val s _ g _ hxr.out hpp _ HC.out).mono ?_; rintro e w3 ⟨rfl, hx3, hb3⟩; have hxr := Lib.hid hx3; have hbr := Lib.hid (hbr.out.trans hb3))
            | (go_at_call 169; refine (isDigit_int b _ HCb.out true HD.out _).mono ?_; rintro e w4 ⟨rfl, rfl⟩))
          go_ret2
          exact ⟨p, hpp, by rw [HQ.out, HE.out], by rw [HQ.out, HE.out]; rfl, hxr.out, hbr.out⟩
        · have HE := Lib.hid (hdig.out.trans (HDG.out.trans (if_neg hov)))
          have hxr0 := hxr
          go_wp2_with (first
            | (go_at_call 158; refine (next_val s _ g _ hxr.out hpp _ HC.out).mono ?_; rintro e w3 ⟨rfl, hx3, hb3⟩; have hxr := Lib.hid hx3; have hbr := Lib.hid (hbr.out.trans hb3); obtain ⟨h0, h1, h2, h3, h4, h5, h6, h7, h8, hf, hlt⟩ := hx3.open)
            | (go_at_call 169; refine (isDigit_int b _ HCb.out true HD.out _).mono ?_; rintro e w4 ⟨rfl, rfl⟩))
          go_roundw
          case measure => rw [hxr0.out.rdPos, (hxr.out.setPos (p + 1) (by simp)).rdPos]; show s.size - (p + 1) < s.size - p; omega
          case rel => exact ⟨_, n * 10 + (b.toNat - 48), p + 1, rfl, HNB, by omega, by omega, by omega, HE, Lib.hid (hxr.out.setPos (p + 1) (by simp)), Lib.hid (hbr.out.setCell _ _)⟩
      · have hD' : isD b = false := by simpa using hD
        have HE := Lib.hid (hdig.out.trans (dig_stop (by rw [hdD', hD'])))
        have HD := Lib.hid hD'; clear hD hD' hdD' hbb hc
        go_wp2_with (first
          | (go_at_call 158; refine (next_val s _ g _ hxr.out hpp _ HC.out).mono ?_; rintro e w3 ⟨rfl, hx3, hb3⟩; have hxr := Lib.hid hx3; have hbr := Lib.hid (hbr.out.trans hb3))
          | (go_at_call 169; refine (isDigit_int b _ HCb.out false HD.out _).mono ?_; rintro e w4 ⟨rfl, rfl⟩))
        go_ret2
        have hz1 := hn.out
        have hz2 := neg_u64 nI hn0 (by omega)
        exact ⟨p, hpp, by rw [HQ.out, HE.out], by rw [HQ.out, HE.out]; simp; rw [hz2]; omega, hxr.out, hbr.out⟩

/-- A number is read as the plain one. -/
theorem rdNumber_any (s : ByteArray) (x : Rd) (g most : Nat) (m : Int) (w : World) (hx : RdIs w g s x) (hp : x.pos ≤ s.size) (hs : s.size ≤ 140737488355328) (hmm : (most : Int) = m) (hm0 : 9 ≤ m) (hm1 : m ≤ 9223372036854775807) :
    Calls Tryd.prog 170 #[.pointer (some ⟨g, 0, none⟩), .int .u64 m] w (NumPost s x g w (numC most (s.data.toList.drop x.pos))) := by
  by_cases h0 : hd 48 (s.data.toList.drop x.pos) = true
  · exact number_zero s x g most m w hx hp hs h0
  · have h0' : hd 48 (s.data.toList.drop x.pos) = false := by simpa using h0
    by_cases h4 : hd 45 (s.data.toList.drop x.pos) = true
    · have e : numC most (s.data.toList.drop x.pos) = numU (most + 1) (-1) (s.data.toList.drop (x.pos + 1)) := by unfold numC; rw [if_neg h0, if_pos h4, List.drop_drop]
      rw [e]
      exact number_neg s x g most m w hx hp hs hmm hm0 hm1 h0' h4
    · have h4' : hd 45 (s.data.toList.drop x.pos) = false := by simpa using h4
      have e : numC most (s.data.toList.drop x.pos) = numU most 1 (s.data.toList.drop x.pos) := by unfold numC; rw [if_neg h0, if_neg h4]
      rw [e]
      exact number_pos s x g most m w hx hp hs hmm hm0 hm1 h0' h4'

end Go.Proofs.YtlinclbodbbemaaDoor
