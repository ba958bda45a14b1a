/- The reader, whole. -/
import Derived.Test.YtlinclbodbbemaaDoorY24
import Derived.Deep.QuietTactic
import Derived.BigQuiet
namespace Go.Proofs.YtlinclbodbbemaaDoor
open Go.RowKit
set_option maxRecDepth 100000

/-- What reading the whole text comes to. -/
def AllPost (s : ByteArray) (g : Nat) (w : World) (e : Ending) (w' : World) : Prop :=
  ∃ x' : Rd, x'.pos ≤ s.size ∧ RdIs w' g s x' ∧ Below g w w' ∧
    ((e = .returned (.bool false) ∧ (Go .val s.data.toList (.bad (s.data.toList.drop x'.pos)) ∨ ∃ t, Go .val s.data.toList (.ok t (s.data.toList.drop x'.pos)) ∧ x'.pos < s.size)) ∨
      (e = .returned (.bool true) ∧ ∃ t, Go .val s.data.toList (.ok t []) ∧ InA w' g s x' [] t))

theorem runVal_nil {i : Bs} {R : Res} (h : RunVal [] i R) : Go .val i R := by
  obtain ⟨R1, h1, h2⟩ := h
  have e : R = R1 := h2
  rw [e]; exact h1

/-- What holds ahead of a value. -/
structure VRel (s : ByteArray) (g : Nat) (w wr : World) (x : Rd) (sa : List (List T)) : Prop where
  inv : InV wr g s x sa
  p1 : x.pos ≤ s.size
  len : sa.length ≤ x.pos
  bel : Below g w wr
  run : ∀ R, RunVal sa (s.data.toList.drop x.pos) R → Go .val s.data.toList R
/-- What holds behind a value. -/
structure ARel (s : ByteArray) (g : Nat) (w wr : World) (p0 : Nat) (x : Rd) (sa : List (List T)) (wa : T) : Prop where
  inv : InA wr g s x sa wa
  p0 : p0 ≤ x.pos
  p1 : x.pos ≤ s.size
  len : sa.length ≤ x.pos
  bel : Below g w wr
  run : ∀ R, RunAft sa wa (s.data.toList.drop x.pos) R → Go .val s.data.toList R

theorem InA.ov {w : World} {g : Nat} {s : ByteArray} {x : Rd} {sa : List (List T)} {wa : T} (h : InA w g s x sa wa) : ∃ lp n lc, x.ov = .slice lp n lc ∧ (n = 0 → sa = []) ∧ (0 < n → ∃ la sa', sa = la :: sa') := by
  obtain ⟨st, frs, wr, h1, h2, h3⟩ := h
  obtain ⟨lp, lc, e⟩ := h1.ov
  have hlen := h1.lev.length
  rw [List.length_reverse] at hlen
  refine ⟨lp, frs.length, lc, e, fun h0 => ?_, fun h0 => ?_⟩
  · have hs : st = [] := List.eq_nil_of_length_eq_zero (by omega)
    subst hs
    exact h2.done.1
  · have hs : st ≠ [] := fun e => by subst e; simp at hlen; omega
    have := (h2.next hs).2
    cases sa with
    | nil => exact absurd rfl this
    | cons la sa' => exact ⟨la, sa', rfl⟩
theorem InA.nextV {w : World} {g : Nat} {s : ByteArray} {x : Rd} {sa : List (List T)} {wa : T} (h : InA w g s x sa wa) (hn : ∀ lp n lc, x.ov = .slice lp n lc → 0 < n) : InV w g s x sa := by
  obtain ⟨st, frs, wr, h1, h2, h3⟩ := h
  obtain ⟨lp, lc, e⟩ := h1.ov
  have hlen := h1.lev.length
  rw [List.length_reverse] at hlen
  have h0 := hn _ _ _ e
  have hs : st ≠ [] := fun e => by subst e; simp at hlen; omega
  exact ⟨st, frs, h1, (h2.next hs).1⟩
/-- Ending a list, as the loop does it. -/
theorem endA_any (s : ByteArray) (x : Rd) (g : Nat) (w : World) (sa : List (List T)) (la : List T) (wa : T) (h : InA w g s x (la :: sa) wa) (hn : ∀ lp n lc, x.ov = .slice lp n lc → 0 < n) (hsa : sa.length ≤ 140737488355328) :
    Calls Tryd.prog 133 #[.pointer (some ⟨g, 0, none⟩)] w (EndPost s x g w sa la) := by
  obtain ⟨st, frs, wr, h1, h2, h3⟩ := h
  obtain ⟨lp, lc, e⟩ := h1.ov
  have hlen := h1.lev.length
  rw [List.length_reverse] at hlen
  have h0 := hn _ _ _ e
  have hs : st ≠ [] := fun e => by subst e; simp at hlen; omega
  exact end_any s x g w sa la wa st frs wr h1 h2 hs hsa
theorem inList_val (s : ByteArray) (x : Rd) (g : Nat) (p : Option Addr) (n c : Nat) (w : World) (hx : RdIs w g s x) (ho : x.ov = .slice p n c) (b : Bool) (hb : decide (0 < n) = b) :
    Calls Tryd.prog 131 #[.pointer (some ⟨g, 0, none⟩)] w fun e w' => e = .returned (.bool b) ∧ w = w' := by
  subst hb; exact (inList_any s x g p n c w hx ho).mono fun _ _ ⟨h1, h2⟩ => ⟨h1, h2.symm⟩

theorem VRel.item {s : ByteArray} {g : Nat} {w wr w' : World} {x x' : Rd} {sa sa' : List (List T)} {wa : T} (h : VRel s g w wr x sa) (h1 : x.pos ≤ x'.pos) (h2 : x'.pos ≤ s.size) (h3 : sa'.length ≤ x'.pos) (h4 : InA w' g s x' sa' wa) (h5 : Below g wr w')
    (h6 : ∀ R, RunAft sa' wa (s.data.toList.drop x'.pos) R → RunVal sa (s.data.toList.drop x.pos) R) : ARel s g w w' x.pos x' sa' wa :=
  ⟨h4, h1, h2, h3, h.bel.trans h5, fun R hR => h.run R (h6 R hR)⟩
theorem ARel.end_ {s : ByteArray} {g : Nat} {w wr w' : World} {p0 : Nat} {x x' : Rd} {sa : List (List T)} {la : List T} {wa : T} (h : ARel s g w wr p0 x (la :: sa) wa) (h125 : hd 125 (s.data.toList.drop x.pos) = true) (hx2 : x'.pos = x.pos + 1)
    (hi : InA w' g s x' (addT sa (.mk 4 0 ByteArray.empty la)) (.mk 4 0 ByteArray.empty la)) (hb : Below g wr w') : ARel s g w w' p0 x' (addT sa (.mk 4 0 ByteArray.empty la)) (.mk 4 0 ByteArray.empty la) := by
  have hj := hd_lt h125
  have hp0 := h.p0
  have hl := h.len
  simp at hl
  refine ⟨hi, by omega, by omega, by rw [addT_length]; omega, h.bel.trans hb, fun R hR => h.run R ?_⟩
  have e : s.data.toList.drop x.pos = 125 :: s.data.toList.drop x'.pos := by rw [drop_hd h125, hx2]; rfl
  rw [e]
  exact run_end hR
theorem ARel.next {s : ByteArray} {g : Nat} {w wr w' : World} {p0 : Nat} {x x' : Rd} {sa : List (List T)} {la : List T} {wa : T} (h : ARel s g w wr p0 x (la :: sa) wa) (h44 : hd 44 (s.data.toList.drop x.pos) = true) (h32 : hd 32 (s.data.toList.drop (x.pos + 1)) = true) (hx2 : x'.pos = x.pos + 2)
    (hi : InV w' g s x' (la :: sa)) (hb : Below g wr w') : VRel s g w w' x' (la :: sa) := by
  have hj := hd_lt h32
  have hl := h.len
  refine ⟨hi, by omega, by omega, h.bel.trans hb, fun R hR => h.run R ?_⟩
  have e : s.data.toList.drop x.pos = 44 :: 32 :: s.data.toList.drop x'.pos := by rw [drop_hd h44, drop_hd h32, hx2]; rfl
  rw [e]
  exact run_next hR

theorem ItemPost.yes {s : ByteArray} {x : Rd} {g : Nat} {w : World} {sa : List (List T)} {w' : World} (h : ItemPost s x g w sa (.returned (.bool true)) w') :
    ∃ (sa' : List (List T)) (wa : T) (x' : Rd), x.pos ≤ x'.pos ∧ x'.pos ≤ s.size ∧ sa'.length ≤ x'.pos ∧ InA w' g s x' sa' wa ∧ Below g w w' ∧ ∀ R, RunAft sa' wa (s.data.toList.drop x'.pos) R → RunVal sa (s.data.toList.drop x.pos) R := by
  rcases h with ⟨_, _, _, h, _⟩ | ⟨a, b, c, _, h⟩
  · cases h
  · exact ⟨a, b, c, h⟩
theorem ItemPost.no {s : ByteArray} {x : Rd} {g : Nat} {w : World} {sa : List (List T)} {w' : World} (h : ItemPost s x g w sa (.returned (.bool false)) w') :
    ∃ x' : Rd, RunVal sa (s.data.toList.drop x.pos) (.bad (s.data.toList.drop x'.pos)) ∧ x'.pos ≤ s.size ∧ RdIs w' g s x' ∧ Below g w w' := by
  rcases h with ⟨a, b, c, _, h⟩ | ⟨a, b, c, h, _⟩
  · exact ⟨a, b, c, h⟩
  · cases h

set_option maxHeartbeats 4000000 in
theorem all_any (s : ByteArray) (x : Rd) (g : Nat) (w : World) (hin : InV w g s x []) (hp : x.pos = 0) (hs : s.size ≤ 140737488355328) (hnm : Names w) (hng : 4 < g) :
    Calls Tryd.prog 98 #[.pointer (some ⟨g, 0, none⟩)] w (AllPost s g w) := by
  have HV0 := Lib.hid (show VRel s g w w x [] from ⟨hin, by omega, Nat.zero_le _, Below.refl _ _, fun R hR => by rw [hp] at hR; exact runVal_nil hR⟩); clear hin hp
  have HN := Lib.hid hnm; clear hnm
  go_enter Tryd.func98, Tryd.ntmps98
  go_wp2
  go_loopw [] (fun wr => ∃ (x1 : Rd) (sa1 : List (List T)), Hid (VRel s g w wr x1 sa1)) (fun wr => s.size - rdPos wr g)
  case atStart => exact ⟨x, [], HV0⟩
  case round =>
    obtain ⟨x1, sa1, hv⟩ := hrel
    have hrp := Lib.hid (hv.out.inv.rd.rdPos)
    have HN1 : Hid (Names wr) := HN.out.below hv.out.bel hng
    go_wp2_with (go_at_call 130; refine (item_any s x1 g _ sa1 hv.out.inv hv.out.p1 hv.out.len hs HN1.out hng).mono ?_; rintro e w2 hp2; obtain ⟨b, rfl⟩ := hp2.ret; have HP2 := Lib.hid hp2; clear hp2)
    · have hbt : b = true := by assumption
      subst hbt
      obtain ⟨sa2, wa2, x2, h1, h2, h3, h4, h5, h6⟩ := HP2.out.yes
      have HA := Lib.hid (hv.out.item h1 h2 h3 h4 h5 h6)
      clear h1 h2 h3 h4 h5 h6 HP2
      obtain ⟨wo, rfl⟩ : ∃ wo : World, wo = wr := ⟨_, rfl⟩
      go_loopw [] (fun wr => ∃ (x2 : Rd) (sa2 : List (List T)) (wa2 : T), Hid (ARel s g w wr x1.pos x2 sa2 wa2)) (fun wr => s.size - rdPos wr g)
      case atStart => exact ⟨x2, sa2, wa2, HA⟩
      case round =>
        obtain ⟨x3, sa3, wa3, ha⟩ := hrel
        have hp3 := ha.out.p1
        have hl3 := ha.out.len
        have hlt := ha.out.inv.rd.lt
        obtain ⟨lp, n, lc, hov, hn0, hn1⟩ := ha.out.inv.ov
        have HOV := Lib.hid hov
        by_cases hn : 0 < n
        · obtain ⟨la, sa4, rfl⟩ := hn1 hn
          have HNB := Lib.hid (show decide (0 < n) = true from by simpa using hn)
          have HNN := Lib.hid (show ∀ lp n lc, x3.ov = .slice lp n lc → 0 < n from fun lp' n' lc' e => by rw [hov] at e; injection e with _ e2 _; omega)
          clear hn0 hn1 hov
          have hll : sa4.length ≤ 140737488355328 := by simp at hl3; omega
          by_cases h125 : hd 125 (s.data.toList.drop x3.pos) = true
          · have H125 := Lib.hid h125
            have hj := hd_lt h125
            clear h125
            go_wp2_with (first
              | (go_at_call 131; refine (inList_val s x3 g lp n lc _ ha.out.inv.rd HOV.out true HNB.out).mono ?_; rintro e w4 ⟨rfl, rfl⟩)
              | (go_at_call 132; refine (pass_yes s x3 g _ 125 rfl (by omega) _ ha.out.inv.rd hp3 hs H125.out).mono ?_; rintro e w5 ⟨rfl, hx5, hb5⟩; have HB5 := Lib.hid (but_below hb5 hlt); have HI5 := Lib.hid (ha.out.inv.but hb5 hx5); clear hx5 hb5)
              | (go_at_call 133; refine (endA_any s _ g _ sa4 la wa3 HI5.out HNN.out hll).mono ?_; rintro e w6 ⟨rfl, x6, hx6, hi6, hb6⟩; have HX6 := Lib.hid hx6; have HI6 := Lib.hid hi6; have HB6 := Lib.hid (HB5.out.trans hb6); clear hx6 hi6 hb6))
            go_roundw
            case measure => rw [ha.out.inv.rd.rdPos, HI6.out.rd.rdPos, HX6.out]; show s.size - (x3.pos + 1) < s.size - x3.pos; omega
            case rel => exact ⟨x6, _, _, Lib.hid (ha.out.end_ H125.out HX6.out HI6.out HB6.out)⟩
          · have h125' := Bool.eq_false_iff.2 h125
            have H125 := Lib.hid h125'
            clear h125 h125'
            by_cases h44 : hd 44 (s.data.toList.drop x3.pos) = true
            · have H44 := Lib.hid h44
              have hj4 := hd_lt h44
              clear h44
              have hp4 : ({ x3 with pos := x3.pos + 1 }).pos ≤ s.size := by show x3.pos + 1 ≤ s.size; omega
              by_cases h32 : hd 32 (s.data.toList.drop (x3.pos + 1)) = true
              · have H32 := Lib.hid h32
                clear h32
                go_wp2_with (first
              | (go_at_call 131; first
                  | (refine (inList_val s _ g lp n lc _ HI5.out.rd HOV.out true HNB.out).mono ?_; rintro e w4 ⟨rfl, rfl⟩)
                  | (refine (inList_val s x3 g lp n lc _ ha.out.inv.rd HOV.out true HNB.out).mono ?_; rintro e w4 ⟨rfl, rfl⟩))
              | (go_at_call_of 132 (Value.int IntKind.u8 125); refine (pass_no s x3 g _ 125 rfl (by omega) _ ha.out.inv.rd hp3 hs H125.out).mono ?_; rintro e w5 ⟨rfl, hx5, hb5⟩; have HB5 := Lib.hid (but_below hb5 hlt); have HI5 := Lib.hid (ha.out.inv.but (p := x3.pos) hb5 hx5); clear hx5 hb5)
                  | (go_at_call_of 132 (Value.int IntKind.u8 44); refine (pass_yes s x3 g _ 44 rfl (by omega) _ HI5.out.rd hp3 hs H44.out).mono ?_; rintro e w6 ⟨rfl, hx6, hb6⟩; have HB6 := Lib.hid (HB5.out.trans (but_below hb6 HI5.out.rd.lt)); have HI6 := Lib.hid (HI5.out.but (p := x3.pos + 1) hb6 hx6); clear hx6 hb6)
                  | (go_at_call_of 132 (Value.int IntKind.u8 32); refine (pass_yes s { x3 with pos := x3.pos + 1 } g _ 32 rfl (by omega) _ HI6.out.rd hp4 hs H32.out).mono ?_; rintro e w7 ⟨rfl, hx7, hb7⟩; have HB7 := Lib.hid (HB6.out.trans (but_below hb7 HI6.out.rd.lt)); have HI7 := Lib.hid (HI6.out.but (p := x3.pos + 1 + 1) hb7 hx7); clear hx7 hb7))
                go_roundw
                case measure => rw [hrp.out, HI7.out.rd.rdPos]; have := ha.out.p0; have := hd_lt H32.out; show s.size - (x3.pos + 1 + 1) < s.size - x1.pos; omega
                case rel => exact ⟨_, _, Lib.hid (ha.out.next H44.out H32.out rfl (HI7.out.nextV HNN.out) HB7.out)⟩
              · have h32' := Bool.eq_false_iff.2 h32
                have H32 := Lib.hid h32'
                clear h32 h32'
                go_wp2_with (first
              | (go_at_call 131; first
                  | (refine (inList_val s _ g lp n lc _ HI5.out.rd HOV.out true HNB.out).mono ?_; rintro e w4 ⟨rfl, rfl⟩)
                  | (refine (inList_val s x3 g lp n lc _ ha.out.inv.rd HOV.out true HNB.out).mono ?_; rintro e w4 ⟨rfl, rfl⟩))
              | (go_at_call_of 132 (Value.int IntKind.u8 125); refine (pass_no s x3 g _ 125 rfl (by omega) _ ha.out.inv.rd hp3 hs H125.out).mono ?_; rintro e w5 ⟨rfl, hx5, hb5⟩; have HB5 := Lib.hid (but_below hb5 hlt); have HI5 := Lib.hid (ha.out.inv.but (p := x3.pos) hb5 hx5); clear hx5 hb5)
                  | (go_at_call_of 132 (Value.int IntKind.u8 44); refine (pass_yes s x3 g _ 44 rfl (by omega) _ HI5.out.rd hp3 hs H44.out).mono ?_; rintro e w6 ⟨rfl, hx6, hb6⟩; have HB6 := Lib.hid (HB5.out.trans (but_below hb6 HI5.out.rd.lt)); have HI6 := Lib.hid (HI5.out.but (p := x3.pos + 1) hb6 hx6); clear hx6 hb6)
                  | (go_at_call_of 132 (Value.int IntKind.u8 32); refine (pass_no s { x3 with pos := x3.pos + 1 } g _ 32 rfl (by omega) _ HI6.out.rd hp4 hs H32.out).mono ?_; rintro e w7 ⟨rfl, hx7, hb7⟩; have HB7 := Lib.hid (HB6.out.trans (but_below hb7 HI6.out.rd.lt)); have HX7 := Lib.hid hx7; clear hx7 hb7))
                go_ret
                have e3 : s.data.toList.drop x3.pos = 44 :: s.data.toList.drop (x3.pos + 1) := by rw [drop_hd H44.out]; rfl
                exact ⟨{ x3 with pos := x3.pos + 1 }, hp4, HX7.out, ha.out.bel.trans HB7.out, .inl ⟨rfl, .inl (ha.out.run _ (by rw [e3]; exact run_comma H32.out))⟩⟩
            · have h44' := Bool.eq_false_iff.2 h44
              have H44 := Lib.hid h44'
              clear h44 h44'
              go_wp2_with (first
              | (go_at_call 131; first
                  | (refine (inList_val s _ g lp n lc _ HI5.out.rd HOV.out true HNB.out).mono ?_; rintro e w4 ⟨rfl, rfl⟩)
                  | (refine (inList_val s x3 g lp n lc _ ha.out.inv.rd HOV.out true HNB.out).mono ?_; rintro e w4 ⟨rfl, rfl⟩))
              | (go_at_call_of 132 (Value.int IntKind.u8 125); refine (pass_no s x3 g _ 125 rfl (by omega) _ ha.out.inv.rd hp3 hs H125.out).mono ?_; rintro e w5 ⟨rfl, hx5, hb5⟩; have HB5 := Lib.hid (but_below hb5 hlt); have HI5 := Lib.hid (ha.out.inv.but (p := x3.pos) hb5 hx5); clear hx5 hb5)
                | (go_at_call_of 132 (Value.int IntKind.u8 44); refine (pass_no s x3 g _ 44 rfl (by omega) _ HI5.out.rd hp3 hs H44.out).mono ?_; rintro e w6 ⟨rfl, hx6, hb6⟩; have HB6 := Lib.hid (HB5.out.trans (but_below hb6 HI5.out.rd.lt)); have HX6 := Lib.hid hx6; clear hx6 hb6))
              go_ret
              exact ⟨x3, hp3, HX6.out, ha.out.bel.trans HB6.out, .inl ⟨rfl, .inl (ha.out.run _ (run_tail H125.out H44.out))⟩⟩
        · have hn00 : n = 0 := by omega
          subst hn00
          obtain rfl := hn0 rfl
          have HNB := Lib.hid (show decide (0 < 0) = false from by simp)
          clear hn1 hov hn
          obtain ⟨h0, h1, h2, h3, h4, h5, h6, h7, h8, hf, _⟩ := ha.out.inv.rd.open
          have HAD := Lib.hid (show ∀ R, R = Res.ok wa3 (s.data.toList.drop x3.pos) → Go .val s.data.toList R from fun R hR => ha.out.run R hR)
          by_cases he : x3.pos = s.size
          · have hbe : ((x3.pos : Int) == (s.size : Int)) = true := by simp; omega
            have HE := Lib.hid he
            clear he
            go_wp2_with (first
              | (go_at_call 131; refine (inList_val s x3 g lp 0 lc _ ha.out.inv.rd HOV.out false HNB.out).mono ?_; rintro e w4 ⟨rfl, rfl⟩)
              | go_quiet (fail))
            go_ret
            have hg := HAD.out _ rfl
            rw [List.drop_of_length_le (by rw [HE.out]; simp)] at hg
            exact ⟨x3, hp3, ha.out.inv.rd.drewN _, below_drewN ha.out.bel _, .inr ⟨rfl, wa3, hg, ha.out.inv.but (p := x3.pos) ((But.refl _ _).drewN _) (ha.out.inv.rd.drewN _)⟩⟩
          · have hbe : ((x3.pos : Int) == (s.size : Int)) = false := by simp; omega
            have HE := Lib.hid he
            clear he
            go_wp2_with (first
              | (go_at_call 131; refine (inList_val s x3 g lp 0 lc _ ha.out.inv.rd HOV.out false HNB.out).mono ?_; rintro e w4 ⟨rfl, rfl⟩)
              | go_quiet (fail))
            go_ret
            exact ⟨x3, hp3, ha.out.inv.rd.drewN _, below_drewN ha.out.bel _, .inl ⟨rfl, .inr ⟨wa3, HAD.out _ rfl, by have := HE.out; omega⟩⟩⟩
    · have hbf : b = false := by assumption
      subst hbf
      obtain ⟨x2, h1, h2, h3, h4⟩ := HP2.out.no
      go_ret
      exact ⟨x2, h2, h3, hv.out.bel.trans h4, .inl ⟨rfl, .inl (hv.out.run _ h1)⟩⟩

end Go.Proofs.YtlinclbodbbemaaDoor
