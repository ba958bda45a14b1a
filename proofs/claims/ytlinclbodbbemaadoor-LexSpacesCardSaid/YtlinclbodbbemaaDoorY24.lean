/- The reader's items: the beginnings of lists, and what is none. -/
import Derived.Test.YtlinclbodbbemaaDoorY23
namespace Go.Proofs.YtlinclbodbbemaaDoor
open Go.RowKit
set_option maxRecDepth 100000

theorem SimV.ne {sa st : List (List T)} {sk md : Nat} (h : SimV sa st sk md) (hs : sa ≠ []) : st ≠ [] := by
  have h1 := h.c
  intro e
  subst e
  rcases h.r with ⟨_, _, r⟩ | ⟨r, _⟩
  · exact hs r.symm
  · simp [cntS] at h1; omega
theorem InV.aft {w : World} {g : Nat} {s : ByteArray} {x : Rd} {sa : List (List T)} (h : InV w g s x sa) (hs : sa ≠ []) : InA w g s x sa (.mk 4 0 ByteArray.empty []) := by
  obtain ⟨st, frs, h1, h2⟩ := h
  have hne := h2.ne hs
  exact ⟨st, frs, .mk 4 0 ByteArray.empty [], h1, h2.aft hne, fun e => absurd e hne⟩

def ItemPost (s : ByteArray) (x : Rd) (g : Nat) (w : World) (sa : List (List T)) (e : Ending) (w' : World) : Prop :=
  (∃ x' : Rd, RunVal sa (s.data.toList.drop x.pos) (.bad (s.data.toList.drop x'.pos)) ∧ x'.pos ≤ s.size ∧ e = .returned (.bool false) ∧ RdIs w' g s x' ∧ Below g w w') ∨
  (∃ (sa' : List (List T)) (wa : T) (x' : Rd), e = .returned (.bool true) ∧ x.pos ≤ x'.pos ∧ x'.pos ≤ s.size ∧ sa'.length ≤ x'.pos ∧ InA w' g s x' sa' wa ∧ Below g w w' ∧ ∀ R, RunAft sa' wa (s.data.toList.drop x'.pos) R → RunVal sa (s.data.toList.drop x.pos) R)
theorem SingPost.ret {s : ByteArray} {x : Rd} {g : Nat} {w : World} {sa : List (List T)} {e : Ending} {w' : World} (h : SingPost s x g w sa e w') : ∃ b, e = .returned (.bool b) := by
  rcases h with ⟨_, _, _, h, _⟩ | ⟨_, _, _, _, h, _⟩
  · exact ⟨_, h⟩
  · exact ⟨_, h⟩
theorem ItemPost.ret {s : ByteArray} {x : Rd} {g : Nat} {w : World} {sa : List (List T)} {e : Ending} {w' : World} (h : ItemPost s x g w sa e w') : ∃ b, e = .returned (.bool b) := by
  rcases h with ⟨_, _, _, h, _⟩ | ⟨_, _, _, h, _⟩
  · exact ⟨_, h⟩
  · exact ⟨_, h⟩
theorem ItemPost.of_sing {s : ByteArray} {x x1 : Rd} {g : Nat} {w w1 : World} {sa sa1 : List (List T)} {e : Ending} {w' : World} (hb : Below g w w1) (hg : g ≤ g) (h0 : x.pos ≤ x1.pos) (hp1 : x1.pos ≤ s.size) (hl : sa1.length ≤ x1.pos)
    (h123 : hd 123 (s.data.toList.drop x1.pos) = false) (hrun : ∀ R, RunVal sa1 (s.data.toList.drop x1.pos) R → RunVal sa (s.data.toList.drop x.pos) R) (h : SingPost s x1 g w1 sa1 e w') : ItemPost s x g w sa e w' := by
  rcases h with ⟨p, h1, h2, h3, x', rfl, h5, h6⟩ | ⟨t, p, h1, h2, h3, x', rfl, h5, h6⟩
  · exact .inl ⟨x', hrun _ (run_one_bad h123 h1), h2, h3, h5, hb.trans (h6.mono hg)⟩
  · have hle : x1.pos ≤ x'.pos := by
      have := congrArg List.length (one_sound h1).1
      simp at this
      omega
    exact .inr ⟨_, t, x', h3, by omega, h2, by rw [addT_length]; omega, h5, hb.trans (h6.mono hg), fun R hR => hrun _ (run_one_ok h123 h1 hR)⟩

/-- What holds where a value may begin. -/
structure ItemRel (s : ByteArray) (x : Rd) (g : Nat) (w : World) (sa : List (List T)) (b : Bool) (wr : World) (x1 : Rd) (sa1 : List (List T)) : Prop where
  inv : InV wr g s x1 sa1
  p0 : x.pos ≤ x1.pos
  p1 : x1.pos ≤ s.size
  len : sa1.length ≤ x1.pos
  bel : Below g w wr
  ne : b = true → sa1 ≠ []
  r1 : (b = false ∨ hd 125 (s.data.toList.drop x1.pos) = false) → ∀ R, RunVal sa1 (s.data.toList.drop x1.pos) R → RunVal sa (s.data.toList.drop x.pos) R
  r2 : b = true → hd 125 (s.data.toList.drop x1.pos) = true → ∀ wh R, RunAft sa1 wh (s.data.toList.drop x1.pos) R → RunVal sa (s.data.toList.drop x.pos) R

theorem ItemRel.start {s : ByteArray} {x : Rd} {g : Nat} {w : World} {sa : List (List T)} (h : InV w g s x sa) (hp : x.pos ≤ s.size) (hl : sa.length ≤ x.pos) : ItemRel s x g w sa false w x sa :=
  ⟨h, Nat.le_refl _, hp, hl, Below.refl _ _, (fun e => by cases e), fun _ _ h => h, (fun e => by cases e)⟩
theorem drop_hd {s : ByteArray} {p n : Nat} (h : hd n (s.data.toList.drop p) = true) : s.data.toList.drop p = UInt8.ofNat n :: s.data.toList.drop (p + 1) := by
  have := hd_lit h
  rwa [List.drop_drop] at this
theorem ItemRel.next {s : ByteArray} {x : Rd} {g : Nat} {w wr w' : World} {sa : List (List T)} {b : Bool} {x1 x2 : Rd} {sa1 : List (List T)} (h : ItemRel s x g w sa b wr x1 sa1) (h123 : hd 123 (s.data.toList.drop x1.pos) = true)
    (hx2 : x2.pos = x1.pos + 1) (hi : InV w' g s x2 ([] :: sa1)) (hb : Below g wr w') : ItemRel s x g w sa true w' x2 ([] :: sa1) := by
  have hj := hd_lt h123
  have e := drop_hd h123
  have e' : s.data.toList.drop x1.pos = 123 :: s.data.toList.drop x2.pos := by rw [e, hx2]; rfl
  have h125 : hd 125 (s.data.toList.drop x1.pos) = false := by rw [e']; rfl
  have hp0 := h.p0
  have hl := h.len
  refine ⟨hi, by omega, by omega, by simp; omega, h.bel.trans hb, fun _ => by simp, ?_, ?_⟩
  · intro h2 R hR
    have h3 : hd 125 (s.data.toList.drop x2.pos) = false := by
      rcases h2 with h2 | h2
      · cases h2
      · exact h2
    refine h.r1 (.inr h125) R ?_
    rw [e']
    exact run_begin h3 hR
  · intro _ h2 wh R hR
    refine h.r1 (.inr h125) R ?_
    have e2 := drop_hd h2
    rw [e', e2]
    rw [e2] at hR
    exact run_empty hR

set_option maxHeartbeats 2000000 in
theorem item_any (s : ByteArray) (x : Rd) (g : Nat) (w : World) (sa : List (List T)) (hin : InV w g s x sa) (hp : x.pos ≤ s.size) (hl : sa.length ≤ x.pos) (hs : s.size ≤ 140737488355328) (hnm : Names w) (hng : 4 < g) :
    Calls Tryd.prog 130 #[.pointer (some ⟨g, 0, none⟩)] w (ItemPost s x g w sa) := by
  have HR0 := Lib.hid (ItemRel.start hin hp hl); clear hin
  have HN := Lib.hid hnm; clear hnm
  go_enter Tryd.func130, Tryd.ntmps130
  go_wp2
  go_loopw [3] (fun bg wr => ∃ (b : Bool) (x1 : Rd) (sa1 : List (List T)), bg = .bool b ∧ Hid (ItemRel s x g w sa b wr x1 sa1)) (fun _ wr => s.size - rdPos wr g)
  case atStart => exact ⟨false, x, sa, rfl, HR0⟩
  case round =>
    obtain ⟨b, x1, sa1, rfl, hr⟩ := hrel
    have hp1 := hr.out.p1
    have hl1 := hr.out.len
    have hng1 : Hid (Names wr) := HN.out.below hr.out.bel hng
    by_cases h123 : hd 123 (s.data.toList.drop x1.pos) = true
    · have H123 := Lib.hid h123
      have hj := hd_lt h123
      clear h123
      go_wp2_with (first
        | (go_at_call 132; refine (pass_yes s x1 g _ 123 rfl (by omega) _ hr.out.inv.rd hp1 hs H123.out).mono ?_; rintro e w2 ⟨rfl, hx2, hb2⟩; have HB2 := Lib.hid (but_below hb2 hr.out.inv.rd.lt); have HI2 := Lib.hid (hr.out.inv.but hb2 hx2); clear hx2 hb2)
        | (go_at_call 157; refine (begin_any s _ g _ sa1 HI2.out (by omega)).mono ?_; rintro e w3 ⟨rfl, x3, hx3, hi3, hb3⟩; have HX3 := Lib.hid hx3; have HB3 := Lib.hid (HB2.out.trans hb3); have HI3 := Lib.hid hi3; clear hx3 hi3 hb3))
      go_roundw
      case measure => rw [hr.out.inv.rd.rdPos, HI3.out.rd.rdPos, HX3.out]; show s.size - (x1.pos + 1) < s.size - x1.pos; omega
      case rel => exact ⟨true, x3, [] :: sa1, rfl, hr.out.next H123.out HX3.out HI3.out HB3.out⟩
    · have h123' := Bool.eq_false_iff.2 h123
      have H123 := Lib.hid h123'
      clear h123 h123'
      have sS := fun W hI hN => Lib.hid (single_any s x1 g W sa1 hI hp1 hs hN hng)
      cases b with
      | true =>
        obtain ⟨c, hc⟩ : ∃ c : Int, ((nx (s.data.toList.drop x1.pos)).toNat : Int) = c := ⟨_, rfl⟩
        have HC := Lib.hid hc
        by_cases h125 : hd 125 (s.data.toList.drop x1.pos) = true
        · have hc2 : c = 125 := by rw [nx_hd (by omega)] at h125; simp at h125; omega
          have H125 := Lib.hid h125
          clear h125 hc
          subst hc2
          go_wp2_with (first
            | (go_at_call 132; refine (pass_no s x1 g _ 123 rfl (by omega) _ hr.out.inv.rd hp1 hs H123.out).mono ?_; rintro e w2 ⟨rfl, hx2, hb2⟩; have HX2 := Lib.hid hx2; have HB2 := Lib.hid hb2; clear hx2 hb2)
            | (go_at_call 158; refine (next_val s x1 g _ HX2.out hp1 _ HC.out).mono ?_; rintro e w3 ⟨rfl, hx3, hb3⟩; have HX3 := Lib.hid hx3; have HB3 := Lib.hid (HB2.out.trans hb3); clear hx3 hb3))
          go_ret
          have hI := hr.out.inv.but (p := x1.pos) HB3.out HX3.out
          exact .inr ⟨sa1, _, x1, rfl, hr.out.p0, hp1, hl1, hI.aft (hr.out.ne rfl), hr.out.bel.trans (but_below HB3.out hr.out.inv.rd.lt), fun R hR => hr.out.r2 rfl H125.out _ R hR⟩
        · have hc2 : ¬ c = 125 := fun e => h125 (by rw [nx_hd (by omega)]; simp; omega)
          have hc3 : (c == 125) = false := by simpa using hc2
          have H125 := Lib.hid (Bool.eq_false_iff.2 h125)
          clear h125 hc
          go_wp2_with (first
            | (go_at_call 132; refine (pass_no s x1 g _ 123 rfl (by omega) _ hr.out.inv.rd hp1 hs H123.out).mono ?_; rintro e w2 ⟨rfl, hx2, hb2⟩; have HX2 := Lib.hid hx2; have HB2 := Lib.hid hb2; clear hx2 hb2)
            | (go_at_call 158; refine (next_val s x1 g _ HX2.out hp1 _ HC.out).mono ?_; rintro e w3 ⟨rfl, hx3, hb3⟩; have HI3 := Lib.hid (hr.out.inv.but (p := x1.pos) (HB2.out.trans hb3) hx3); have HB3 := Lib.hid (but_below (HB2.out.trans hb3) hr.out.inv.rd.lt); clear hx3 hb3)
            | (go_at_call 159; refine (sS _ HI3.out (hng1.out.below HB3.out hng)).out.mono ?_; intro e w4 hp4; obtain ⟨bb, rfl⟩ := hp4.ret; have HP4 := Lib.hid (ItemPost.of_sing (hr.out.bel.trans HB3.out) (Nat.le_refl _) hr.out.p0 hp1 hl1 H123.out (hr.out.r1 (.inr H125.out)) hp4); clear hp4))
          go_ret
          exact HP4.out
      | false =>
        go_wp2_with (first
          | (go_at_call 132; refine (pass_no s x1 g _ 123 rfl (by omega) _ hr.out.inv.rd hp1 hs H123.out).mono ?_; rintro e w2 ⟨rfl, hx2, hb2⟩; have HI3 := Lib.hid (hr.out.inv.but (p := x1.pos) hb2 hx2); have HB3 := Lib.hid (but_below hb2 hr.out.inv.rd.lt); clear hx2 hb2)
          | (go_at_call 159; refine (sS _ HI3.out (hng1.out.below HB3.out hng)).out.mono ?_; intro e w4 hp4; obtain ⟨bb, rfl⟩ := hp4.ret; have HP4 := Lib.hid (ItemPost.of_sing (hr.out.bel.trans HB3.out) (Nat.le_refl _) hr.out.p0 hp1 hl1 H123.out (hr.out.r1 (.inl rfl)) hp4); clear hp4))
        go_ret
        exact HP4.out

end Go.Proofs.YtlinclbodbbemaaDoor
