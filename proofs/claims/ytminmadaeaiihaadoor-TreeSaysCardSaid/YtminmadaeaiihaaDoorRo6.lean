/- The document's odd: what a Lit has; all. -/
import Derived.Test.YtminmadaeaiihaaDoorRo1
import Derived.Test.YtminmadaeaiihaaDoorRo2
import Derived.Test.YtminmadaeaiihaaDoorRo4
import Derived.Test.YtminmadaeaiihaaDoorRo5
import Derived.Deep.RegionHeld3
import Derived.Deep.RegionHeldLaw
import Derived.Deep.DeepCutAuto
namespace Go.Proofs.YtminmadaeaiihaaDoor
open Go.RowKit
set_option maxRecDepth 100000

set_option maxHeartbeats 8000000 in
/-- A Lit has nothing. -/
theorem rodd_f1 (o n : Int) (s : ByteArray) (v : T) (l : List Nd) (x : Value) (a : Int) (lp : Bool) (w : World) (lo hi : Nat) (hr : NRep w lo hi (.mk o n s v l) x) (hhi : hi ≤ w.heap.size) (ha : 0 ≤ a ∧ a ≤ 8) (hok : shapeBad o a lp s v l.length = false) (hnm : nameBad o s = false) (ih : ∀ t ∈ l, ROk t) (hn : o = 1) (hl0 : l.length = 0) :
    Calls Tryd.prog 51 #[x, .int .i64 (rp a), .bool lp] w fun e w' => e = .returned (fR (ckL l 0 o a (loopIn o lp) ((l.length : Int) - 1))) ∧ Below w.heap.size w w' := by
  obtain ⟨k, m, z, q, ql, qc, p, cap, rfl, hio, hin, hsz, hrv, hlc, hl112, hall⟩ := hr.open
  obtain ⟨e1, e2, e3, e4⟩ := rep_open hrv
  have HALL := Lib.hid hall
  have hll := len_cnt l
  have HO := Lib.hid (OB.start w (.cells #[.int .i64 o, .int .i64 n, .string s, .int .i64 k, .int .i64 m, .string z, .slice q ql qc, .slice p l.length cap] 40))
  have HSV := Lib.hid (fun W (hb : Below w.heap.size w W) => by
    have h := sameValue_any v zV W lo hi 0 0 _ _ (hrv.below hb hhi) (by have := hb.size; omega) (zV_rep W 0 0) (Nat.zero_le _)
    rw [eqV_zero] at h; exact h)
  have HRI := Lib.hid (fun W (hb : Below w.heap.size w W) => right_any v W lo hi _ (hrv.below hb hhi) (by have := hb.size; omega))
  have HNM := Lib.hid (fun W => rnamed_any o n s k m z q ql qc p l.length cap W hsz)
  have HST := Lib.hid (fun w => stands_any o a ha w)
  have HEN := Lib.hid (fun w => counts_any o l.length (by omega) w)
  have hw := v_ways (o := o) e1 e2
  obtain ⟨W1, hW1⟩ : ∃ W1, (w.alloc (.cells #[.int .i64 o, .int .i64 n, .string s, .int .i64 k, .int .i64 m, .string z, .slice q ql qc, .slice p l.length cap] 40)).alloc (.cells #[.int .i64 0, .bool false, .int .i64 0, .int .i64 0, .int .i64 0, .string ⟨#[]⟩, .slice none 0 0] 53) = W1 := ⟨_, rfl⟩
  rw [hW1] at HO
  obtain ⟨x0, x1, x2, x3, x4, x5, x6, x7, _⟩ := box8_in _ _ _ _ _ _ _ _ _ _ _ HO.out.nod
  have HSV1 := Lib.hid (HSV.out _ HO.out.bel)
  have HIH := Lib.hid ih
  clear ih
  have hb := hok
  rw [shape_parts o a lp s v l.length ha] at hb
  obtain ⟨N, hN⟩ : ∃ N, N = namedR o s := ⟨_, rfl⟩
  rw [← hN] at HNM hb
  obtain ⟨⟨⟨⟨hS, hE⟩, hV⟩, hN2⟩, hA⟩ : (((mayStandB o a true = true ∧ enoughB o l.length = true) ∧ rightV o v = true) ∧ (N == 2) = false) ∧ awayB o lp = false := by simpa only [Bool.or_eq_false_iff, Bool.not_eq_false'] using hb
  have hn1 := named_one o s
  rw [← hN] at hn1
  rw [hS] at HST
  rw [hE] at HEN
  rw [hV] at hw
  have hA3 : (o == 45) = true ∧ lp = true ∨ (o == 45) = false ∧ (o == 46) = true ∧ lp = true ∨ (o == 45) = false ∧ (o == 46) = false := by
    unfold awayB at hA
    cases h5 : (o == 45) <;> cases h6 : (o == 46) <;> cases lp <;> simp_all
  clear hr hrv hall HSV e1 e2 e3 e4 hok hN hS hE hb hA
  rw [hnm] at hn1
  clear hnm
  generalize rightV o v = V at *
  generalize rightB v = R at *
  generalize emptyV v = M at *
  have hw3 : ((o == 1) = true ∧ R = true ∧ (k != 4) = true ∧ (k != 0) = true) ∨ ((o == 1) = true ∧ R = true ∧ (k != 4) = true ∧ (k != 0) = false ∧ (m != -9223372036854775808) = true) ∨ ((o == 1) = false ∧ M = true) := by
    rcases hw with ⟨_, _, h⟩ | ⟨_, _, _, h⟩ | ⟨_, _, _, _, _, h⟩ | ⟨_, _, h⟩ | ⟨b1, h, b4, b0, _⟩ | ⟨b1, h, b4, b0, bm, _⟩ | ⟨b1, h, _⟩
    · cases h
    · cases h
    · cases h
    · cases h
    · exact .inl ⟨b1, h, b4, b0⟩
    · exact .inr (.inl ⟨b1, h, b4, b0, bm⟩)
    · exact .inr (.inr ⟨b1, h⟩)
  clear hw hV
  have HRP := Lib.hid (rp_ways a ha)
  have HL0 := Lib.hid hl0
  clear hl0
  obtain ⟨b42, b43, b44, b48, hlo⟩ := loop_one (o := o) (by simpa using hn) lp
  have hW : ((o == 1) = true ∧ R = true ∧ (k != 4) = true ∧ (k != 0) = true) ∨ ((o == 1) = true ∧ R = true ∧ (k != 4) = true ∧ (k != 0) = false ∧ (m != -9223372036854775808) = true) := by
    rcases hw3 with h | h | ⟨b1, _⟩
    · exact .inl h
    · exact .inr h
    · rw [hn] at b1; cases b1
  clear hn
  clear hw3
  go_enter Tryd.func51, Tryd.ntmps51
  rcases hW with ⟨b1, rfl, b4, b0⟩ | ⟨b1, rfl, b4, b0, bm⟩
  all_goals (focus (
    go_upto_region 5 with (first | (go_at_call 38; refine HSV1.out.mono ?_; rintro e w2 ⟨rfl, hb2⟩; have HO2 := Lib.hid (HO.out.step hb2); obtain ⟨y0, y1, y2, y3, y4, y5, y6, y7, _⟩ := box8_in _ _ _ _ _ _ _ _ _ _ _ HO2.out.nod; clear hb2) | (go_at_call 78; refine (HRI.out _ HO2.out.bel).mono ?_; rintro e w3 ⟨rfl, hb3⟩; have HO2 := Lib.hid (HO2.out.step hb3); obtain ⟨z0, z1, z2, z3, z4, z5, z6, z7, _⟩ := box8_in _ _ _ _ _ _ _ _ _ _ _ HO2.out.nod; clear hb3) | (go_at_call 79; refine (HNM.out _).mono ?_; rintro e w4 ⟨rfl, hb4⟩; have HO4 := Lib.hid (HO2.out.step hb4); obtain ⟨t0, t1, t2, t3, t4, t5, t6, t7, _⟩ := box8_in _ _ _ _ _ _ _ _ _ _ _ HO4.out.nod; clear hb4))
    clear HSV1 HRI HNM
    first | clear HO2 | skip
    rename World => w4
    go_cut [9] from 42 to 53 (fun c9 wx => c9 = .bool false ∧ wx = w4)
    case first =>
      rcases hA3 with ⟨h5, h6⟩ | ⟨h5, h6, h7⟩ | ⟨h5, h6⟩
      · subst h6; go_wp2; go_meet; exact ⟨rfl, rfl⟩
      · subst h7; go_wp2; go_meet; exact ⟨rfl, rfl⟩
      · go_wp2; go_meet; exact ⟨rfl, rfl⟩
    obtain ⟨rfl, rfl⟩ := hcut
    go_wp2_with (first | (go_at_call 80; refine (HST.out _).mono ?_; rintro e w5 ⟨rfl, rfl⟩) | (go_at_call 81; refine (HEN.out _).mono ?_; rintro e w5 ⟨rfl, rfl⟩))
    clear HST HEN hn1 hN2
    have HLO := Lib.hid hlo
    clear hlo
    go_loopw [10] (fun i wr => ∃ j : Nat, j ≤ l.length ∧ i = .int .i64 j ∧ Hid (OB w wr (.cells #[.int .i64 o, .int .i64 n, .string s, .int .i64 k, .int .i64 m, .string z, .slice q ql qc, .slice p l.length cap] 40)) ∧ Hid (ckL (l.drop j) j o a (loopIn o lp) ((l.length : Int) - 1) = ckL l 0 o a (loopIn o lp) ((l.length : Int) - 1))) (fun i _ => l.length - (intOf i).toNat)
    case atStart => exact ⟨0, Nat.zero_le _, rfl, HO4, Lib.hid rfl⟩
    case round =>
      obtain ⟨j, hj, rfl, HL, HD⟩ := hrel
      obtain ⟨y0, y1, y2, y3, y4, y5, y6, y7, _⟩ := box8_in _ _ _ _ _ _ _ _ _ _ _ HL.out.nod
      by_cases hlj : j < l.length
      · exact absurd hlj (by have := HL0.out; omega)
      · have hje : j = l.length := by omega
        have HR := Lib.hid (show fR (ckL l 0 o a (loopIn o lp) ((l.length : Int) - 1)) = fv 0 from by rw [← HD.out, hje, List.drop_length, ckL]; rfl)
        go_wp2_with (go_at_call 52; refine (none_any _).mono ?_; unfold fv; rintro e w6 ⟨rfl, hb6⟩; have HL2 := Lib.hid (HL.out.step hb6); obtain ⟨r0, r1, r2, r3, r4, r5, r6, hxf⟩ := box7_in _ _ _ _ _ _ _ _ _ _ HL2.out.flt; have hxf0 := hxf 0; have hxf1 := hxf 1; have hxf2 := hxf 2; have hxf3 := hxf 3; have hxf4 := hxf 4; have hxf5 := hxf 5; have hxf6 := hxf 6; clear hxf hb6)
        refine bodyPost_ret (v := fv 0) (by unfold fv; simp [results, Tryd.results51, go_sem, r0, r1, r2, r3, r4, r5, r6]) rfl ?_
        exact ⟨by rw [HR.out], below_set7 HL2.out.bel (Nat.le_succ _) _ _ _ _ _ _ _⟩))

theorem rodd_any : ∀ t : Nd, ROk t := by
  refine Nd.ind_ (fun o n s v l ih x a lp w lo hi hr hhi ha hcn => ?_)
  rw [cnt] at hcn
  rw [ckN]
  cases h1 : shapeBad o a lp s v l.length with
  | true => rw [if_pos rfl]; exact rodd_bad o n s v l x a lp w lo hi hr hhi ha h1
  | false =>
    rw [if_neg (by simp)]
    cases h2 : nameBad o s with
    | true => rw [if_pos rfl]; exact rodd_name o n s v l x a lp w lo hi hr hhi ha h1 h2
    | false =>
      rw [if_neg (by simp)]
      by_cases e1 : o = 1
      · have hl : l.length = 0 := by
          subst e1
          unfold shapeBad at h1
          simp only [Bool.or_eq_false_iff, Bool.not_eq_false'] at h1
          have h3 := h1.1.1.2
          unfold enoughB at h3
          rw [show boundsN 1 = ((0 : Int), (0 : Int)) from by decide] at h3
          simp only [Bool.and_eq_true, decide_eq_true_eq] at h3
          omega
        exact rodd_f1 o n s v l x a lp w lo hi hr hhi ha h1 h2 ih e1 hl
      by_cases e2 : o = 44 ∨ o = 48
      · exact rodd_f2 o n s v l x a lp w lo hi hr hhi ha (by omega) h1 h2 ih e1 e2
      by_cases e3 : o = 42 ∨ o = 43
      · exact rodd_f3 o n s v l x a lp w lo hi hr hhi ha (by omega) h1 h2 ih e1 e3
      exact rodd_f4 o n s v l x a lp w lo hi hr hhi ha (by omega) h1 h2 ih e1 (by omega)
end Go.Proofs.YtminmadaeaiihaaDoor
