/- The document's odd: a shape that may not be. -/
import Derived.Test.YtemkikjcjhmlaaaGreatDoorM16
import Derived.Deep.RegionHeld3
import Derived.Deep.RegionHeldLaw
import Derived.Deep.DeepCutAuto
namespace Go.Proofs.YtemkikjcjhmlaaaGreatDoor
open Go.RowKit
set_option maxRecDepth 100000

set_option maxHeartbeats 8000000 in
/-- A shape that may not be. -/
theorem rodd_bad (o n : Int) (s : ByteArray) (v : T) (l : List Nd) (x : Value) (a : Int) (lp : Bool) (w : World) (lo hi : Nat) (hr : NRep w lo hi (.mk o n s v l) x) (hhi : hi ≤ w.heap.size) (ha : 0 ≤ a ∧ a ≤ 8) (hbad : shapeBad o a lp s v l.length = true) :
    Calls Tryz.prog 17 #[x, .int .i64 (rp a), .bool lp] w fun e w' => e = .returned (fp 103 n) ∧ Below w.heap.size w w' := by
  obtain ⟨k, m, z, q, ql, qc, p, cap, rfl, hio, hin, hsz, hrv, hlc, hl112, hall⟩ := hr.open
  obtain ⟨e1, e2, e3, e4⟩ := rep_open hrv
  have HALL := Lib.hid hall
  have hll := len_cnt l
  have HO := Lib.hid (OB.start w (.cells #[.int .i64 o, .int .i64 n, .string s, .int .i64 k, .int .i64 m, .string z, .slice q ql qc, .slice p l.length cap] 33))
  have HSV := Lib.hid (fun W (hb : Below w.heap.size w W) => by
    have h := sameValue_any v zV W lo hi 0 0 _ _ (hrv.below hb hhi) (by have := hb.size; omega) (zV_rep W 0 0) (Nat.zero_le _)
    rw [eqV_zero] at h; exact h)
  have HRI := Lib.hid (fun W (hb : Below w.heap.size w W) => right_any v W lo hi _ (hrv.below hb hhi) (by have := hb.size; omega))
  have HNM := Lib.hid (fun W => rnamed_any o n s k m z q ql qc p l.length cap W hsz)
  have HST := Lib.hid (fun w => stands_any o a ha w)
  have HEN := Lib.hid (fun w => counts_any o l.length (by omega) w)
  have hw := v_ways (o := o) e1 e2
  obtain ⟨W1, hW1⟩ : ∃ W1, (w.alloc (.cells #[.int .i64 o, .int .i64 n, .string s, .int .i64 k, .int .i64 m, .string z, .slice q ql qc, .slice p l.length cap] 33)).alloc (.cells #[.int .i64 0, .bool false, .int .i64 0, .int .i64 0, .int .i64 0, .string ⟨#[]⟩, .slice none 0 0] 37) = W1 := ⟨_, rfl⟩
  rw [hW1] at HO
  obtain ⟨x0, x1, x2, x3, x4, x5, x6, x7, _⟩ := box8_in _ _ _ _ _ _ _ _ _ _ _ HO.out.nod
  have HSV1 := Lib.hid (HSV.out _ HO.out.bel)
  obtain ⟨A, hAe⟩ : ∃ A, A = awayB o lp := ⟨_, rfl⟩
  have hA : ((o == 45) = true ∧ Hid (A = !lp)) ∨ ((o == 45) = false ∧ (o == 46) = true ∧ Hid (A = !lp)) ∨ ((o == 45) = false ∧ (o == 46) = false ∧ Hid (A = false)) := by
    rw [hAe]
    unfold awayB
    cases (o == 45) <;> cases (o == 46) <;> simp [Hid]
  have hb := hbad
  rw [shape_parts o a lp s v l.length ha, ← hAe] at hb
  obtain ⟨N, hN⟩ : ∃ N, N = namedR o s := ⟨_, rfl⟩
  obtain ⟨S, hS⟩ : ∃ S, S = mayStandB o a true := ⟨_, rfl⟩
  obtain ⟨E, hE⟩ : ∃ E, E = enoughB o l.length := ⟨_, rfl⟩
  have HF := Lib.hid (show (True : Prop) from trivial)
  rw [← hN] at HNM hb
  rw [← hS] at HST hb
  rw [← hE] at HEN hb
  clear hr hrv hall HSV e1 e2 e3 e4 hbad hN hS hE hAe
  generalize rightV o v = V at *
  generalize rightB v = R at *
  generalize emptyV v = M at *
  go_enter Tryz.func17, Tryz.ntmps17
  rcases hw with ⟨b1, rfl, rfl⟩ | ⟨b1, rfl, b4, rfl⟩ | ⟨b1, rfl, b4, b0, bm, rfl⟩ | ⟨b1, rfl, rfl⟩ | ⟨b1, rfl, b4, b0, rfl⟩ | ⟨b1, rfl, b4, b0, bm, rfl⟩ | ⟨b1, rfl, rfl⟩
  · go_upto_region 5 with (first | (go_at_call 23; refine HSV1.out.mono ?_; rintro e w2 ⟨rfl, hb2⟩; have HO2 := Lib.hid (HO.out.step hb2); obtain ⟨y0, y1, y2, y3, y4, y5, y6, y7, _⟩ := box8_in _ _ _ _ _ _ _ _ _ _ _ HO2.out.nod; clear hb2) | (go_at_call 24; refine (HRI.out _ HO2.out.bel).mono ?_; rintro e w3 ⟨rfl, hb3⟩; have HO2 := Lib.hid (HO2.out.step hb3); obtain ⟨z0, z1, z2, z3, z4, z5, z6, z7, _⟩ := box8_in _ _ _ _ _ _ _ _ _ _ _ HO2.out.nod; clear hb3) | (go_at_call 25; refine (HNM.out _).mono ?_; rintro e w4 ⟨rfl, hb4⟩; have HO4 := Lib.hid (HO2.out.step hb4); obtain ⟨t0, t1, t2, t3, t4, t5, t6, t7, _⟩ := box8_in _ _ _ _ _ _ _ _ _ _ _ HO4.out.nod; clear hb4))
    clear HSV1 HRI HNM
    first | clear HO2 | skip
    rename World => w4
    go_cut [9] from 42 to 53 (fun c9 wx => c9 = .bool A ∧ wx = w4)
    case first =>
      rcases hA with ⟨h5, HA⟩ | ⟨h5, h6, HA⟩ | ⟨h5, h6, HA⟩
      all_goals go_wp2
      all_goals go_meet
      all_goals exact ⟨by rw [HA.out], rfl⟩
    obtain ⟨rfl, rfl⟩ := hcut
    clear hA
    cases S
    · clear hb
      go_wp2_with (first | (go_at_call 26; refine (HST.out _).mono ?_; rintro e w5 ⟨rfl, rfl⟩) | (go_at_call 27; refine (HEN.out _).mono ?_; rintro e w5 ⟨rfl, rfl⟩) | (go_at_call 28; refine (placed_any 103 n (by decide) _).mono ?_; unfold fp; rintro e w6 ⟨rfl, hb6⟩; have HO6 := Lib.hid (HO4.out.step hb6); obtain ⟨f0, f1, f2, f3, f4, f5, f6, hxf⟩ := box7_in _ _ _ _ _ _ _ _ _ _ HO6.out.flt; have hxf0 := hxf 0; have hxf1 := hxf 1; have hxf2 := hxf 2; have hxf3 := hxf 3; have hxf4 := hxf 4; have hxf5 := hxf 5; have hxf6 := hxf 6; clear hxf hb6))
      refine bodyPost_ret (v := fp 103 n) (by unfold fp; simp [results, Tryz.results17, go_sem, f0, f1, f2, f3, f4, f5, f6]) rfl ?_
      exact ⟨rfl, below_set7 HO6.out.bel (Nat.le_succ _) _ _ _ _ _ _ _⟩
    cases E
    · clear hb
      go_wp2_with (first | (go_at_call 26; refine (HST.out _).mono ?_; rintro e w5 ⟨rfl, rfl⟩) | (go_at_call 27; refine (HEN.out _).mono ?_; rintro e w5 ⟨rfl, rfl⟩) | (go_at_call 28; refine (placed_any 103 n (by decide) _).mono ?_; unfold fp; rintro e w6 ⟨rfl, hb6⟩; have HO6 := Lib.hid (HO4.out.step hb6); obtain ⟨f0, f1, f2, f3, f4, f5, f6, hxf⟩ := box7_in _ _ _ _ _ _ _ _ _ _ HO6.out.flt; have hxf0 := hxf 0; have hxf1 := hxf 1; have hxf2 := hxf 2; have hxf3 := hxf 3; have hxf4 := hxf 4; have hxf5 := hxf 5; have hxf6 := hxf 6; clear hxf hb6))
      refine bodyPost_ret (v := fp 103 n) (by unfold fp; simp [results, Tryz.results17, go_sem, f0, f1, f2, f3, f4, f5, f6]) rfl ?_
      exact ⟨rfl, below_set7 HO6.out.bel (Nat.le_succ _) _ _ _ _ _ _ _⟩
    clear hb
    go_wp2_with (first | (go_at_call 26; refine (HST.out _).mono ?_; rintro e w5 ⟨rfl, rfl⟩) | (go_at_call 27; refine (HEN.out _).mono ?_; rintro e w5 ⟨rfl, rfl⟩) | (go_at_call 28; refine (placed_any 103 n (by decide) _).mono ?_; unfold fp; rintro e w6 ⟨rfl, hb6⟩; have HO6 := Lib.hid (HO4.out.step hb6); obtain ⟨f0, f1, f2, f3, f4, f5, f6, hxf⟩ := box7_in _ _ _ _ _ _ _ _ _ _ HO6.out.flt; have hxf0 := hxf 0; have hxf1 := hxf 1; have hxf2 := hxf 2; have hxf3 := hxf 3; have hxf4 := hxf 4; have hxf5 := hxf 5; have hxf6 := hxf 6; clear hxf hb6))
    refine bodyPost_ret (v := fp 103 n) (by unfold fp; simp [results, Tryz.results17, go_sem, f0, f1, f2, f3, f4, f5, f6]) rfl ?_
    exact ⟨rfl, below_set7 HO6.out.bel (Nat.le_succ _) _ _ _ _ _ _ _⟩
  · go_upto_region 5 with (first | (go_at_call 23; refine HSV1.out.mono ?_; rintro e w2 ⟨rfl, hb2⟩; have HO2 := Lib.hid (HO.out.step hb2); obtain ⟨y0, y1, y2, y3, y4, y5, y6, y7, _⟩ := box8_in _ _ _ _ _ _ _ _ _ _ _ HO2.out.nod; clear hb2) | (go_at_call 24; refine (HRI.out _ HO2.out.bel).mono ?_; rintro e w3 ⟨rfl, hb3⟩; have HO2 := Lib.hid (HO2.out.step hb3); obtain ⟨z0, z1, z2, z3, z4, z5, z6, z7, _⟩ := box8_in _ _ _ _ _ _ _ _ _ _ _ HO2.out.nod; clear hb3) | (go_at_call 25; refine (HNM.out _).mono ?_; rintro e w4 ⟨rfl, hb4⟩; have HO4 := Lib.hid (HO2.out.step hb4); obtain ⟨t0, t1, t2, t3, t4, t5, t6, t7, _⟩ := box8_in _ _ _ _ _ _ _ _ _ _ _ HO4.out.nod; clear hb4))
    clear HSV1 HRI HNM
    first | clear HO2 | skip
    rename World => w4
    go_cut [9] from 42 to 53 (fun c9 wx => c9 = .bool A ∧ wx = w4)
    case first =>
      rcases hA with ⟨h5, HA⟩ | ⟨h5, h6, HA⟩ | ⟨h5, h6, HA⟩
      all_goals go_wp2
      all_goals go_meet
      all_goals exact ⟨by rw [HA.out], rfl⟩
    obtain ⟨rfl, rfl⟩ := hcut
    clear hA
    cases S
    · clear hb
      go_wp2_with (first | (go_at_call 26; refine (HST.out _).mono ?_; rintro e w5 ⟨rfl, rfl⟩) | (go_at_call 27; refine (HEN.out _).mono ?_; rintro e w5 ⟨rfl, rfl⟩) | (go_at_call 28; refine (placed_any 103 n (by decide) _).mono ?_; unfold fp; rintro e w6 ⟨rfl, hb6⟩; have HO6 := Lib.hid (HO4.out.step hb6); obtain ⟨f0, f1, f2, f3, f4, f5, f6, hxf⟩ := box7_in _ _ _ _ _ _ _ _ _ _ HO6.out.flt; have hxf0 := hxf 0; have hxf1 := hxf 1; have hxf2 := hxf 2; have hxf3 := hxf 3; have hxf4 := hxf 4; have hxf5 := hxf 5; have hxf6 := hxf 6; clear hxf hb6))
      refine bodyPost_ret (v := fp 103 n) (by unfold fp; simp [results, Tryz.results17, go_sem, f0, f1, f2, f3, f4, f5, f6]) rfl ?_
      exact ⟨rfl, below_set7 HO6.out.bel (Nat.le_succ _) _ _ _ _ _ _ _⟩
    cases E
    · clear hb
      go_wp2_with (first | (go_at_call 26; refine (HST.out _).mono ?_; rintro e w5 ⟨rfl, rfl⟩) | (go_at_call 27; refine (HEN.out _).mono ?_; rintro e w5 ⟨rfl, rfl⟩) | (go_at_call 28; refine (placed_any 103 n (by decide) _).mono ?_; unfold fp; rintro e w6 ⟨rfl, hb6⟩; have HO6 := Lib.hid (HO4.out.step hb6); obtain ⟨f0, f1, f2, f3, f4, f5, f6, hxf⟩ := box7_in _ _ _ _ _ _ _ _ _ _ HO6.out.flt; have hxf0 := hxf 0; have hxf1 := hxf 1; have hxf2 := hxf 2; have hxf3 := hxf 3; have hxf4 := hxf 4; have hxf5 := hxf 5; have hxf6 := hxf 6; clear hxf hb6))
      refine bodyPost_ret (v := fp 103 n) (by unfold fp; simp [results, Tryz.results17, go_sem, f0, f1, f2, f3, f4, f5, f6]) rfl ?_
      exact ⟨rfl, below_set7 HO6.out.bel (Nat.le_succ _) _ _ _ _ _ _ _⟩
    clear hb
    go_wp2_with (first | (go_at_call 26; refine (HST.out _).mono ?_; rintro e w5 ⟨rfl, rfl⟩) | (go_at_call 27; refine (HEN.out _).mono ?_; rintro e w5 ⟨rfl, rfl⟩) | (go_at_call 28; refine (placed_any 103 n (by decide) _).mono ?_; unfold fp; rintro e w6 ⟨rfl, hb6⟩; have HO6 := Lib.hid (HO4.out.step hb6); obtain ⟨f0, f1, f2, f3, f4, f5, f6, hxf⟩ := box7_in _ _ _ _ _ _ _ _ _ _ HO6.out.flt; have hxf0 := hxf 0; have hxf1 := hxf 1; have hxf2 := hxf 2; have hxf3 := hxf 3; have hxf4 := hxf 4; have hxf5 := hxf 5; have hxf6 := hxf 6; clear hxf hb6))
    refine bodyPost_ret (v := fp 103 n) (by unfold fp; simp [results, Tryz.results17, go_sem, f0, f1, f2, f3, f4, f5, f6]) rfl ?_
    exact ⟨rfl, below_set7 HO6.out.bel (Nat.le_succ _) _ _ _ _ _ _ _⟩
  · go_upto_region 5 with (first | (go_at_call 23; refine HSV1.out.mono ?_; rintro e w2 ⟨rfl, hb2⟩; have HO2 := Lib.hid (HO.out.step hb2); obtain ⟨y0, y1, y2, y3, y4, y5, y6, y7, _⟩ := box8_in _ _ _ _ _ _ _ _ _ _ _ HO2.out.nod; clear hb2) | (go_at_call 24; refine (HRI.out _ HO2.out.bel).mono ?_; rintro e w3 ⟨rfl, hb3⟩; have HO2 := Lib.hid (HO2.out.step hb3); obtain ⟨z0, z1, z2, z3, z4, z5, z6, z7, _⟩ := box8_in _ _ _ _ _ _ _ _ _ _ _ HO2.out.nod; clear hb3) | (go_at_call 25; refine (HNM.out _).mono ?_; rintro e w4 ⟨rfl, hb4⟩; have HO4 := Lib.hid (HO2.out.step hb4); obtain ⟨t0, t1, t2, t3, t4, t5, t6, t7, _⟩ := box8_in _ _ _ _ _ _ _ _ _ _ _ HO4.out.nod; clear hb4))
    clear HSV1 HRI HNM
    first | clear HO2 | skip
    rename World => w4
    go_cut [9] from 42 to 53 (fun c9 wx => c9 = .bool A ∧ wx = w4)
    case first =>
      rcases hA with ⟨h5, HA⟩ | ⟨h5, h6, HA⟩ | ⟨h5, h6, HA⟩
      all_goals go_wp2
      all_goals go_meet
      all_goals exact ⟨by rw [HA.out], rfl⟩
    obtain ⟨rfl, rfl⟩ := hcut
    clear hA
    cases S
    · clear hb
      go_wp2_with (first | (go_at_call 26; refine (HST.out _).mono ?_; rintro e w5 ⟨rfl, rfl⟩) | (go_at_call 27; refine (HEN.out _).mono ?_; rintro e w5 ⟨rfl, rfl⟩) | (go_at_call 28; refine (placed_any 103 n (by decide) _).mono ?_; unfold fp; rintro e w6 ⟨rfl, hb6⟩; have HO6 := Lib.hid (HO4.out.step hb6); obtain ⟨f0, f1, f2, f3, f4, f5, f6, hxf⟩ := box7_in _ _ _ _ _ _ _ _ _ _ HO6.out.flt; have hxf0 := hxf 0; have hxf1 := hxf 1; have hxf2 := hxf 2; have hxf3 := hxf 3; have hxf4 := hxf 4; have hxf5 := hxf 5; have hxf6 := hxf 6; clear hxf hb6))
      refine bodyPost_ret (v := fp 103 n) (by unfold fp; simp [results, Tryz.results17, go_sem, f0, f1, f2, f3, f4, f5, f6]) rfl ?_
      exact ⟨rfl, below_set7 HO6.out.bel (Nat.le_succ _) _ _ _ _ _ _ _⟩
    cases E
    · clear hb
      go_wp2_with (first | (go_at_call 26; refine (HST.out _).mono ?_; rintro e w5 ⟨rfl, rfl⟩) | (go_at_call 27; refine (HEN.out _).mono ?_; rintro e w5 ⟨rfl, rfl⟩) | (go_at_call 28; refine (placed_any 103 n (by decide) _).mono ?_; unfold fp; rintro e w6 ⟨rfl, hb6⟩; have HO6 := Lib.hid (HO4.out.step hb6); obtain ⟨f0, f1, f2, f3, f4, f5, f6, hxf⟩ := box7_in _ _ _ _ _ _ _ _ _ _ HO6.out.flt; have hxf0 := hxf 0; have hxf1 := hxf 1; have hxf2 := hxf 2; have hxf3 := hxf 3; have hxf4 := hxf 4; have hxf5 := hxf 5; have hxf6 := hxf 6; clear hxf hb6))
      refine bodyPost_ret (v := fp 103 n) (by unfold fp; simp [results, Tryz.results17, go_sem, f0, f1, f2, f3, f4, f5, f6]) rfl ?_
      exact ⟨rfl, below_set7 HO6.out.bel (Nat.le_succ _) _ _ _ _ _ _ _⟩
    clear hb
    go_wp2_with (first | (go_at_call 26; refine (HST.out _).mono ?_; rintro e w5 ⟨rfl, rfl⟩) | (go_at_call 27; refine (HEN.out _).mono ?_; rintro e w5 ⟨rfl, rfl⟩) | (go_at_call 28; refine (placed_any 103 n (by decide) _).mono ?_; unfold fp; rintro e w6 ⟨rfl, hb6⟩; have HO6 := Lib.hid (HO4.out.step hb6); obtain ⟨f0, f1, f2, f3, f4, f5, f6, hxf⟩ := box7_in _ _ _ _ _ _ _ _ _ _ HO6.out.flt; have hxf0 := hxf 0; have hxf1 := hxf 1; have hxf2 := hxf 2; have hxf3 := hxf 3; have hxf4 := hxf 4; have hxf5 := hxf 5; have hxf6 := hxf 6; clear hxf hb6))
    refine bodyPost_ret (v := fp 103 n) (by unfold fp; simp [results, Tryz.results17, go_sem, f0, f1, f2, f3, f4, f5, f6]) rfl ?_
    exact ⟨rfl, below_set7 HO6.out.bel (Nat.le_succ _) _ _ _ _ _ _ _⟩
  · go_upto_region 5 with (first | (go_at_call 23; refine HSV1.out.mono ?_; rintro e w2 ⟨rfl, hb2⟩; have HO2 := Lib.hid (HO.out.step hb2); obtain ⟨y0, y1, y2, y3, y4, y5, y6, y7, _⟩ := box8_in _ _ _ _ _ _ _ _ _ _ _ HO2.out.nod; clear hb2) | (go_at_call 24; refine (HRI.out _ HO2.out.bel).mono ?_; rintro e w3 ⟨rfl, hb3⟩; have HO2 := Lib.hid (HO2.out.step hb3); obtain ⟨z0, z1, z2, z3, z4, z5, z6, z7, _⟩ := box8_in _ _ _ _ _ _ _ _ _ _ _ HO2.out.nod; clear hb3) | (go_at_call 25; refine (HNM.out _).mono ?_; rintro e w4 ⟨rfl, hb4⟩; have HO4 := Lib.hid (HO2.out.step hb4); obtain ⟨t0, t1, t2, t3, t4, t5, t6, t7, _⟩ := box8_in _ _ _ _ _ _ _ _ _ _ _ HO4.out.nod; clear hb4))
    clear HSV1 HRI HNM
    first | clear HO2 | skip
    rename World => w4
    go_cut [9] from 42 to 53 (fun c9 wx => c9 = .bool A ∧ wx = w4)
    case first =>
      rcases hA with ⟨h5, HA⟩ | ⟨h5, h6, HA⟩ | ⟨h5, h6, HA⟩
      all_goals go_wp2
      all_goals go_meet
      all_goals exact ⟨by rw [HA.out], rfl⟩
    obtain ⟨rfl, rfl⟩ := hcut
    clear hA
    cases S
    · clear hb
      go_wp2_with (first | (go_at_call 26; refine (HST.out _).mono ?_; rintro e w5 ⟨rfl, rfl⟩) | (go_at_call 27; refine (HEN.out _).mono ?_; rintro e w5 ⟨rfl, rfl⟩) | (go_at_call 28; refine (placed_any 103 n (by decide) _).mono ?_; unfold fp; rintro e w6 ⟨rfl, hb6⟩; have HO6 := Lib.hid (HO4.out.step hb6); obtain ⟨f0, f1, f2, f3, f4, f5, f6, hxf⟩ := box7_in _ _ _ _ _ _ _ _ _ _ HO6.out.flt; have hxf0 := hxf 0; have hxf1 := hxf 1; have hxf2 := hxf 2; have hxf3 := hxf 3; have hxf4 := hxf 4; have hxf5 := hxf 5; have hxf6 := hxf 6; clear hxf hb6))
      refine bodyPost_ret (v := fp 103 n) (by unfold fp; simp [results, Tryz.results17, go_sem, f0, f1, f2, f3, f4, f5, f6]) rfl ?_
      exact ⟨rfl, below_set7 HO6.out.bel (Nat.le_succ _) _ _ _ _ _ _ _⟩
    cases E
    · clear hb
      go_wp2_with (first | (go_at_call 26; refine (HST.out _).mono ?_; rintro e w5 ⟨rfl, rfl⟩) | (go_at_call 27; refine (HEN.out _).mono ?_; rintro e w5 ⟨rfl, rfl⟩) | (go_at_call 28; refine (placed_any 103 n (by decide) _).mono ?_; unfold fp; rintro e w6 ⟨rfl, hb6⟩; have HO6 := Lib.hid (HO4.out.step hb6); obtain ⟨f0, f1, f2, f3, f4, f5, f6, hxf⟩ := box7_in _ _ _ _ _ _ _ _ _ _ HO6.out.flt; have hxf0 := hxf 0; have hxf1 := hxf 1; have hxf2 := hxf 2; have hxf3 := hxf 3; have hxf4 := hxf 4; have hxf5 := hxf 5; have hxf6 := hxf 6; clear hxf hb6))
      refine bodyPost_ret (v := fp 103 n) (by unfold fp; simp [results, Tryz.results17, go_sem, f0, f1, f2, f3, f4, f5, f6]) rfl ?_
      exact ⟨rfl, below_set7 HO6.out.bel (Nat.le_succ _) _ _ _ _ _ _ _⟩
    clear hb
    go_wp2_with (first | (go_at_call 26; refine (HST.out _).mono ?_; rintro e w5 ⟨rfl, rfl⟩) | (go_at_call 27; refine (HEN.out _).mono ?_; rintro e w5 ⟨rfl, rfl⟩) | (go_at_call 28; refine (placed_any 103 n (by decide) _).mono ?_; unfold fp; rintro e w6 ⟨rfl, hb6⟩; have HO6 := Lib.hid (HO4.out.step hb6); obtain ⟨f0, f1, f2, f3, f4, f5, f6, hxf⟩ := box7_in _ _ _ _ _ _ _ _ _ _ HO6.out.flt; have hxf0 := hxf 0; have hxf1 := hxf 1; have hxf2 := hxf 2; have hxf3 := hxf 3; have hxf4 := hxf 4; have hxf5 := hxf 5; have hxf6 := hxf 6; clear hxf hb6))
    refine bodyPost_ret (v := fp 103 n) (by unfold fp; simp [results, Tryz.results17, go_sem, f0, f1, f2, f3, f4, f5, f6]) rfl ?_
    exact ⟨rfl, below_set7 HO6.out.bel (Nat.le_succ _) _ _ _ _ _ _ _⟩
  · go_upto_region 5 with (first | (go_at_call 23; refine HSV1.out.mono ?_; rintro e w2 ⟨rfl, hb2⟩; have HO2 := Lib.hid (HO.out.step hb2); obtain ⟨y0, y1, y2, y3, y4, y5, y6, y7, _⟩ := box8_in _ _ _ _ _ _ _ _ _ _ _ HO2.out.nod; clear hb2) | (go_at_call 24; refine (HRI.out _ HO2.out.bel).mono ?_; rintro e w3 ⟨rfl, hb3⟩; have HO2 := Lib.hid (HO2.out.step hb3); obtain ⟨z0, z1, z2, z3, z4, z5, z6, z7, _⟩ := box8_in _ _ _ _ _ _ _ _ _ _ _ HO2.out.nod; clear hb3) | (go_at_call 25; refine (HNM.out _).mono ?_; rintro e w4 ⟨rfl, hb4⟩; have HO4 := Lib.hid (HO2.out.step hb4); obtain ⟨t0, t1, t2, t3, t4, t5, t6, t7, _⟩ := box8_in _ _ _ _ _ _ _ _ _ _ _ HO4.out.nod; clear hb4))
    clear HSV1 HRI HNM
    first | clear HO2 | skip
    rename World => w4
    go_cut [9] from 42 to 53 (fun c9 wx => c9 = .bool A ∧ wx = w4)
    case first =>
      rcases hA with ⟨h5, HA⟩ | ⟨h5, h6, HA⟩ | ⟨h5, h6, HA⟩
      all_goals go_wp2
      all_goals go_meet
      all_goals exact ⟨by rw [HA.out], rfl⟩
    obtain ⟨rfl, rfl⟩ := hcut
    clear hA
    cases S
    · clear hb
      go_wp2_with (first | (go_at_call 26; refine (HST.out _).mono ?_; rintro e w5 ⟨rfl, rfl⟩) | (go_at_call 27; refine (HEN.out _).mono ?_; rintro e w5 ⟨rfl, rfl⟩) | (go_at_call 28; refine (placed_any 103 n (by decide) _).mono ?_; unfold fp; rintro e w6 ⟨rfl, hb6⟩; have HO6 := Lib.hid (HO4.out.step hb6); obtain ⟨f0, f1, f2, f3, f4, f5, f6, hxf⟩ := box7_in _ _ _ _ _ _ _ _ _ _ HO6.out.flt; have hxf0 := hxf 0; have hxf1 := hxf 1; have hxf2 := hxf 2; have hxf3 := hxf 3; have hxf4 := hxf 4; have hxf5 := hxf 5; have hxf6 := hxf 6; clear hxf hb6))
      refine bodyPost_ret (v := fp 103 n) (by unfold fp; simp [results, Tryz.results17, go_sem, f0, f1, f2, f3, f4, f5, f6]) rfl ?_
      exact ⟨rfl, below_set7 HO6.out.bel (Nat.le_succ _) _ _ _ _ _ _ _⟩
    cases E
    · clear hb
      go_wp2_with (first | (go_at_call 26; refine (HST.out _).mono ?_; rintro e w5 ⟨rfl, rfl⟩) | (go_at_call 27; refine (HEN.out _).mono ?_; rintro e w5 ⟨rfl, rfl⟩) | (go_at_call 28; refine (placed_any 103 n (by decide) _).mono ?_; unfold fp; rintro e w6 ⟨rfl, hb6⟩; have HO6 := Lib.hid (HO4.out.step hb6); obtain ⟨f0, f1, f2, f3, f4, f5, f6, hxf⟩ := box7_in _ _ _ _ _ _ _ _ _ _ HO6.out.flt; have hxf0 := hxf 0; have hxf1 := hxf 1; have hxf2 := hxf 2; have hxf3 := hxf 3; have hxf4 := hxf 4; have hxf5 := hxf 5; have hxf6 := hxf 6; clear hxf hb6))
      refine bodyPost_ret (v := fp 103 n) (by unfold fp; simp [results, Tryz.results17, go_sem, f0, f1, f2, f3, f4, f5, f6]) rfl ?_
      exact ⟨rfl, below_set7 HO6.out.bel (Nat.le_succ _) _ _ _ _ _ _ _⟩
    cases hN2 : (N == 2)
    · have hA1 : A = true := by rw [hN2] at hb; simpa using hb
      subst hA1
      go_wp2_with (first | (go_at_call 26; refine (HST.out _).mono ?_; rintro e w5 ⟨rfl, rfl⟩) | (go_at_call 27; refine (HEN.out _).mono ?_; rintro e w5 ⟨rfl, rfl⟩) | (go_at_call 28; refine (placed_any 103 n (by decide) _).mono ?_; unfold fp; rintro e w6 ⟨rfl, hb6⟩; have HO6 := Lib.hid (HO4.out.step hb6); obtain ⟨f0, f1, f2, f3, f4, f5, f6, hxf⟩ := box7_in _ _ _ _ _ _ _ _ _ _ HO6.out.flt; have hxf0 := hxf 0; have hxf1 := hxf 1; have hxf2 := hxf 2; have hxf3 := hxf 3; have hxf4 := hxf 4; have hxf5 := hxf 5; have hxf6 := hxf 6; clear hxf hb6))
      refine bodyPost_ret (v := fp 103 n) (by unfold fp; simp [results, Tryz.results17, go_sem, f0, f1, f2, f3, f4, f5, f6]) rfl ?_
      exact ⟨rfl, below_set7 HO6.out.bel (Nat.le_succ _) _ _ _ _ _ _ _⟩
    clear hb
    go_wp2_with (first | (go_at_call 26; refine (HST.out _).mono ?_; rintro e w5 ⟨rfl, rfl⟩) | (go_at_call 27; refine (HEN.out _).mono ?_; rintro e w5 ⟨rfl, rfl⟩) | (go_at_call 28; refine (placed_any 103 n (by decide) _).mono ?_; unfold fp; rintro e w6 ⟨rfl, hb6⟩; have HO6 := Lib.hid (HO4.out.step hb6); obtain ⟨f0, f1, f2, f3, f4, f5, f6, hxf⟩ := box7_in _ _ _ _ _ _ _ _ _ _ HO6.out.flt; have hxf0 := hxf 0; have hxf1 := hxf 1; have hxf2 := hxf 2; have hxf3 := hxf 3; have hxf4 := hxf 4; have hxf5 := hxf 5; have hxf6 := hxf 6; clear hxf hb6))
    refine bodyPost_ret (v := fp 103 n) (by unfold fp; simp [results, Tryz.results17, go_sem, f0, f1, f2, f3, f4, f5, f6]) rfl ?_
    exact ⟨rfl, below_set7 HO6.out.bel (Nat.le_succ _) _ _ _ _ _ _ _⟩
  · go_upto_region 5 with (first | (go_at_call 23; refine HSV1.out.mono ?_; rintro e w2 ⟨rfl, hb2⟩; have HO2 := Lib.hid (HO.out.step hb2); obtain ⟨y0, y1, y2, y3, y4, y5, y6, y7, _⟩ := box8_in _ _ _ _ _ _ _ _ _ _ _ HO2.out.nod; clear hb2) | (go_at_call 24; refine (HRI.out _ HO2.out.bel).mono ?_; rintro e w3 ⟨rfl, hb3⟩; have HO2 := Lib.hid (HO2.out.step hb3); obtain ⟨z0, z1, z2, z3, z4, z5, z6, z7, _⟩ := box8_in _ _ _ _ _ _ _ _ _ _ _ HO2.out.nod; clear hb3) | (go_at_call 25; refine (HNM.out _).mono ?_; rintro e w4 ⟨rfl, hb4⟩; have HO4 := Lib.hid (HO2.out.step hb4); obtain ⟨t0, t1, t2, t3, t4, t5, t6, t7, _⟩ := box8_in _ _ _ _ _ _ _ _ _ _ _ HO4.out.nod; clear hb4))
    clear HSV1 HRI HNM
    first | clear HO2 | skip
    rename World => w4
    go_cut [9] from 42 to 53 (fun c9 wx => c9 = .bool A ∧ wx = w4)
    case first =>
      rcases hA with ⟨h5, HA⟩ | ⟨h5, h6, HA⟩ | ⟨h5, h6, HA⟩
      all_goals go_wp2
      all_goals go_meet
      all_goals exact ⟨by rw [HA.out], rfl⟩
    obtain ⟨rfl, rfl⟩ := hcut
    clear hA
    cases S
    · clear hb
      go_wp2_with (first | (go_at_call 26; refine (HST.out _).mono ?_; rintro e w5 ⟨rfl, rfl⟩) | (go_at_call 27; refine (HEN.out _).mono ?_; rintro e w5 ⟨rfl, rfl⟩) | (go_at_call 28; refine (placed_any 103 n (by decide) _).mono ?_; unfold fp; rintro e w6 ⟨rfl, hb6⟩; have HO6 := Lib.hid (HO4.out.step hb6); obtain ⟨f0, f1, f2, f3, f4, f5, f6, hxf⟩ := box7_in _ _ _ _ _ _ _ _ _ _ HO6.out.flt; have hxf0 := hxf 0; have hxf1 := hxf 1; have hxf2 := hxf 2; have hxf3 := hxf 3; have hxf4 := hxf 4; have hxf5 := hxf 5; have hxf6 := hxf 6; clear hxf hb6))
      refine bodyPost_ret (v := fp 103 n) (by unfold fp; simp [results, Tryz.results17, go_sem, f0, f1, f2, f3, f4, f5, f6]) rfl ?_
      exact ⟨rfl, below_set7 HO6.out.bel (Nat.le_succ _) _ _ _ _ _ _ _⟩
    cases E
    · clear hb
      go_wp2_with (first | (go_at_call 26; refine (HST.out _).mono ?_; rintro e w5 ⟨rfl, rfl⟩) | (go_at_call 27; refine (HEN.out _).mono ?_; rintro e w5 ⟨rfl, rfl⟩) | (go_at_call 28; refine (placed_any 103 n (by decide) _).mono ?_; unfold fp; rintro e w6 ⟨rfl, hb6⟩; have HO6 := Lib.hid (HO4.out.step hb6); obtain ⟨f0, f1, f2, f3, f4, f5, f6, hxf⟩ := box7_in _ _ _ _ _ _ _ _ _ _ HO6.out.flt; have hxf0 := hxf 0; have hxf1 := hxf 1; have hxf2 := hxf 2; have hxf3 := hxf 3; have hxf4 := hxf 4; have hxf5 := hxf 5; have hxf6 := hxf 6; clear hxf hb6))
      refine bodyPost_ret (v := fp 103 n) (by unfold fp; simp [results, Tryz.results17, go_sem, f0, f1, f2, f3, f4, f5, f6]) rfl ?_
      exact ⟨rfl, below_set7 HO6.out.bel (Nat.le_succ _) _ _ _ _ _ _ _⟩
    cases hN2 : (N == 2)
    · have hA1 : A = true := by rw [hN2] at hb; simpa using hb
      subst hA1
      go_wp2_with (first | (go_at_call 26; refine (HST.out _).mono ?_; rintro e w5 ⟨rfl, rfl⟩) | (go_at_call 27; refine (HEN.out _).mono ?_; rintro e w5 ⟨rfl, rfl⟩) | (go_at_call 28; refine (placed_any 103 n (by decide) _).mono ?_; unfold fp; rintro e w6 ⟨rfl, hb6⟩; have HO6 := Lib.hid (HO4.out.step hb6); obtain ⟨f0, f1, f2, f3, f4, f5, f6, hxf⟩ := box7_in _ _ _ _ _ _ _ _ _ _ HO6.out.flt; have hxf0 := hxf 0; have hxf1 := hxf 1; have hxf2 := hxf 2; have hxf3 := hxf 3; have hxf4 := hxf 4; have hxf5 := hxf 5; have hxf6 := hxf 6; clear hxf hb6))
      refine bodyPost_ret (v := fp 103 n) (by unfold fp; simp [results, Tryz.results17, go_sem, f0, f1, f2, f3, f4, f5, f6]) rfl ?_
      exact ⟨rfl, below_set7 HO6.out.bel (Nat.le_succ _) _ _ _ _ _ _ _⟩
    clear hb
    go_wp2_with (first | (go_at_call 26; refine (HST.out _).mono ?_; rintro e w5 ⟨rfl, rfl⟩) | (go_at_call 27; refine (HEN.out _).mono ?_; rintro e w5 ⟨rfl, rfl⟩) | (go_at_call 28; refine (placed_any 103 n (by decide) _).mono ?_; unfold fp; rintro e w6 ⟨rfl, hb6⟩; have HO6 := Lib.hid (HO4.out.step hb6); obtain ⟨f0, f1, f2, f3, f4, f5, f6, hxf⟩ := box7_in _ _ _ _ _ _ _ _ _ _ HO6.out.flt; have hxf0 := hxf 0; have hxf1 := hxf 1; have hxf2 := hxf 2; have hxf3 := hxf 3; have hxf4 := hxf 4; have hxf5 := hxf 5; have hxf6 := hxf 6; clear hxf hb6))
    refine bodyPost_ret (v := fp 103 n) (by unfold fp; simp [results, Tryz.results17, go_sem, f0, f1, f2, f3, f4, f5, f6]) rfl ?_
    exact ⟨rfl, below_set7 HO6.out.bel (Nat.le_succ _) _ _ _ _ _ _ _⟩
  · go_upto_region 5 with (first | (go_at_call 23; refine HSV1.out.mono ?_; rintro e w2 ⟨rfl, hb2⟩; have HO2 := Lib.hid (HO.out.step hb2); obtain ⟨y0, y1, y2, y3, y4, y5, y6, y7, _⟩ := box8_in _ _ _ _ _ _ _ _ _ _ _ HO2.out.nod; clear hb2) | (go_at_call 24; refine (HRI.out _ HO2.out.bel).mono ?_; rintro e w3 ⟨rfl, hb3⟩; have HO2 := Lib.hid (HO2.out.step hb3); obtain ⟨z0, z1, z2, z3, z4, z5, z6, z7, _⟩ := box8_in _ _ _ _ _ _ _ _ _ _ _ HO2.out.nod; clear hb3) | (go_at_call 25; refine (HNM.out _).mono ?_; rintro e w4 ⟨rfl, hb4⟩; have HO4 := Lib.hid (HO2.out.step hb4); obtain ⟨t0, t1, t2, t3, t4, t5, t6, t7, _⟩ := box8_in _ _ _ _ _ _ _ _ _ _ _ HO4.out.nod; clear hb4))
    clear HSV1 HRI HNM
    first | clear HO2 | skip
    rename World => w4
    go_cut [9] from 42 to 53 (fun c9 wx => c9 = .bool A ∧ wx = w4)
    case first =>
      rcases hA with ⟨h5, HA⟩ | ⟨h5, h6, HA⟩ | ⟨h5, h6, HA⟩
      all_goals go_wp2
      all_goals go_meet
      all_goals exact ⟨by rw [HA.out], rfl⟩
    obtain ⟨rfl, rfl⟩ := hcut
    clear hA
    cases S
    · clear hb
      go_wp2_with (first | (go_at_call 26; refine (HST.out _).mono ?_; rintro e w5 ⟨rfl, rfl⟩) | (go_at_call 27; refine (HEN.out _).mono ?_; rintro e w5 ⟨rfl, rfl⟩) | (go_at_call 28; refine (placed_any 103 n (by decide) _).mono ?_; unfold fp; rintro e w6 ⟨rfl, hb6⟩; have HO6 := Lib.hid (HO4.out.step hb6); obtain ⟨f0, f1, f2, f3, f4, f5, f6, hxf⟩ := box7_in _ _ _ _ _ _ _ _ _ _ HO6.out.flt; have hxf0 := hxf 0; have hxf1 := hxf 1; have hxf2 := hxf 2; have hxf3 := hxf 3; have hxf4 := hxf 4; have hxf5 := hxf 5; have hxf6 := hxf 6; clear hxf hb6))
      refine bodyPost_ret (v := fp 103 n) (by unfold fp; simp [results, Tryz.results17, go_sem, f0, f1, f2, f3, f4, f5, f6]) rfl ?_
      exact ⟨rfl, below_set7 HO6.out.bel (Nat.le_succ _) _ _ _ _ _ _ _⟩
    cases E
    · clear hb
      go_wp2_with (first | (go_at_call 26; refine (HST.out _).mono ?_; rintro e w5 ⟨rfl, rfl⟩) | (go_at_call 27; refine (HEN.out _).mono ?_; rintro e w5 ⟨rfl, rfl⟩) | (go_at_call 28; refine (placed_any 103 n (by decide) _).mono ?_; unfold fp; rintro e w6 ⟨rfl, hb6⟩; have HO6 := Lib.hid (HO4.out.step hb6); obtain ⟨f0, f1, f2, f3, f4, f5, f6, hxf⟩ := box7_in _ _ _ _ _ _ _ _ _ _ HO6.out.flt; have hxf0 := hxf 0; have hxf1 := hxf 1; have hxf2 := hxf 2; have hxf3 := hxf 3; have hxf4 := hxf 4; have hxf5 := hxf 5; have hxf6 := hxf 6; clear hxf hb6))
      refine bodyPost_ret (v := fp 103 n) (by unfold fp; simp [results, Tryz.results17, go_sem, f0, f1, f2, f3, f4, f5, f6]) rfl ?_
      exact ⟨rfl, below_set7 HO6.out.bel (Nat.le_succ _) _ _ _ _ _ _ _⟩
    cases hN2 : (N == 2)
    · have hA1 : A = true := by rw [hN2] at hb; simpa using hb
      subst hA1
      go_wp2_with (first | (go_at_call 26; refine (HST.out _).mono ?_; rintro e w5 ⟨rfl, rfl⟩) | (go_at_call 27; refine (HEN.out _).mono ?_; rintro e w5 ⟨rfl, rfl⟩) | (go_at_call 28; refine (placed_any 103 n (by decide) _).mono ?_; unfold fp; rintro e w6 ⟨rfl, hb6⟩; have HO6 := Lib.hid (HO4.out.step hb6); obtain ⟨f0, f1, f2, f3, f4, f5, f6, hxf⟩ := box7_in _ _ _ _ _ _ _ _ _ _ HO6.out.flt; have hxf0 := hxf 0; have hxf1 := hxf 1; have hxf2 := hxf 2; have hxf3 := hxf 3; have hxf4 := hxf 4; have hxf5 := hxf 5; have hxf6 := hxf 6; clear hxf hb6))
      refine bodyPost_ret (v := fp 103 n) (by unfold fp; simp [results, Tryz.results17, go_sem, f0, f1, f2, f3, f4, f5, f6]) rfl ?_
      exact ⟨rfl, below_set7 HO6.out.bel (Nat.le_succ _) _ _ _ _ _ _ _⟩
    clear hb
    go_wp2_with (first | (go_at_call 26; refine (HST.out _).mono ?_; rintro e w5 ⟨rfl, rfl⟩) | (go_at_call 27; refine (HEN.out _).mono ?_; rintro e w5 ⟨rfl, rfl⟩) | (go_at_call 28; refine (placed_any 103 n (by decide) _).mono ?_; unfold fp; rintro e w6 ⟨rfl, hb6⟩; have HO6 := Lib.hid (HO4.out.step hb6); obtain ⟨f0, f1, f2, f3, f4, f5, f6, hxf⟩ := box7_in _ _ _ _ _ _ _ _ _ _ HO6.out.flt; have hxf0 := hxf 0; have hxf1 := hxf 1; have hxf2 := hxf 2; have hxf3 := hxf 3; have hxf4 := hxf 4; have hxf5 := hxf 5; have hxf6 := hxf 6; clear hxf hb6))
    refine bodyPost_ret (v := fp 103 n) (by unfold fp; simp [results, Tryz.results17, go_sem, f0, f1, f2, f3, f4, f5, f6]) rfl ?_
    exact ⟨rfl, below_set7 HO6.out.bel (Nat.le_succ _) _ _ _ _ _ _ _⟩
end Go.Proofs.YtemkikjcjhmlaaaGreatDoor
