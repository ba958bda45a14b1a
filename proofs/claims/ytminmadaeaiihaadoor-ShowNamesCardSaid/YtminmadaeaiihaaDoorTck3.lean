/- tree.check: what a node has. -/
import Derived.Test.YtminmadaeaiihaaDoorTck2
import Derived.Deep.RegionHeldLaw
namespace Go.Proofs.YtminmadaeaiihaaDoor
open Go.RowKit
set_option maxRecDepth 100000

set_option maxHeartbeats 8000000 in
/-- A node that may be: what it has. -/
theorem check_fine (ad : Nat → Addr) (o n : Int) (s : ByteArray) (v : T) (l : List Nd) (ih : ∀ t ∈ l, CkOk ad t) (x : Value) (at_ : Int) (lp : Bool) (w : World) (lo hi : Nat) (hr : NRep w lo hi (.mk o n s v l) x) (hhi : hi ≤ w.heap.size) (hcn : cntAll l ≤ 1000000000) (hS : Sn w ad) (hok : shapeBad o at_ lp s v l.length = false) (hnm : nameBad o s = false) :
    Calls Tryd.prog 75 #[x, .int .i64 at_, .bool lp] w (CkPost ad (ckL l 0 o at_ (loopIn o lp) ((l.length : Int) - 1)) w) := by
  have HIH := Lib.hid ih
  clear ih
  obtain ⟨k, m, z, q, ql, qc, p, cap, rfl, hio, hin, hsz, hrv, hlc, hl112, hall⟩ := hr.open
  have HALL := Lib.hid hall
  have hll := len_cnt l
  have HB := Lib.hid ((Below.refl w.heap.size w).alloc (Nat.le_refl _) (.cells #[.int .i64 o, .int .i64 n, .string s, .int .i64 k, .int .i64 m, .string z, .slice q ql qc, .slice p l.length cap] 40))
  have HX := Lib.hid (heap_alloc_new w (.cells #[.int .i64 o, .int .i64 n, .string s, .int .i64 k, .int .i64 m, .string z, .slice q ql qc, .slice p l.length cap] 40))
  have HS := Lib.hid (fun W (hb : Below w.heap.size w W) => hS.below hb)
  unfold shapeBad at hok
  simp only [Bool.or_eq_false_iff, Bool.not_eq_false', Bool.and_eq_false_iff] at hok
  obtain ⟨⟨⟨hms, hen⟩, hri⟩, hsn⟩ := hok
  unfold nameBad at hnm
  have HMS := Lib.hid (fun w => by have := mayStand_any o at_ lp w; rw [hms] at this; exact this)
  have HEN := Lib.hid (fun w => by have := hasEnough_any o n s k m z q ql qc p l.length cap w; rw [hen] at this; exact this)
  have HRI := Lib.hid (fun W (hb : Below w.heap.size w W) => by
    have := hasRight_any ad o n s v l _ W lo hi (hr.below hb hhi) (by have := hb.size; omega) (hS.below hb)
    rw [hri] at this; exact this)
  have hse := CkOk_name s
  obtain ⟨sz, hszb⟩ : ∃ sz, sz = (s.size == 0) := ⟨_, rfl⟩
  obtain ⟨nd, hnd⟩ : ∃ nd, nd = isNamedB o := ⟨_, rfl⟩
  obtain ⟨nm, hnmB⟩ : ∃ nm, nm = isNameB s := ⟨_, rfl⟩
  have HND := Lib.hid (show ∀ w, Calls Tryd.prog 107 #[.int .i64 o] w fun e w' => e = .returned (.bool nd) ∧ w' = w from fun w => hnd ▸ isNamed_any o w)
  have HIN := Lib.hid (show ∀ w, Calls Tryd.prog 108 #[.string s] w fun e w' => e = .returned (.bool nm) ∧ w' = w from fun w => hnmB ▸ isName_any s hsz w)
  have hw := fine_ways (lp := lp) hsn hnm
  rw [← hszb, ← hnd, ← hnmB] at hw
  rw [← hszb] at hse
  clear hr hS hrv hall hio hin hms hen hri hsn hnd hnmB hnm hszb
  go_enter Tryd.func75, Tryd.ntmps75
  rcases hw with ⟨rfl, rfl, b42, b43, (⟨b44, b48, hlo⟩ | ⟨b44, b48, hlo⟩ | ⟨b44, b48, hlo⟩)⟩ | ⟨rfl, rfl, rfl, b44, b48, (⟨b42, b43, hlo⟩ | ⟨b42, b43, hlo⟩ | ⟨b42, b43, hlo⟩)⟩ | ⟨rfl, rfl, b50, rfl, b42, b43, b44, b48, hlo⟩
  all_goals (focus (
    rw [hlo]
    have HLO := Lib.hid hlo
    clear hlo
    go_wp2_with (first
        | (go_at_call 104; refine (HMS.out _).mono ?_; rintro e w2 ⟨rfl, rfl⟩)
        | (go_at_call 105; refine (HEN.out _).mono ?_; rintro e w3 ⟨rfl, hb3⟩; have HB3 := Lib.hid (HB.out.trans (hb3.mono HB.out.size)); have HX3 := Lib.hid (heap_old HX.out hb3); obtain ⟨x0, x1, x2, x3, x4, x5, x6, x7, _⟩ := box8_in _ _ _ _ _ _ _ _ _ _ _ HX3.out; clear hb3)
        | (go_at_call 106; refine (HRI.out _ HB3.out).mono ?_; rintro e w4 ⟨rfl, hb4⟩; have HB4 := Lib.hid (HB3.out.trans (hb4.mono HB3.out.size)); have HX4 := Lib.hid (heap_old HX3.out hb4); obtain ⟨y0, y1, y2, y3, y4, y5, y6, y7, _⟩ := box8_in _ _ _ _ _ _ _ _ _ _ _ HX4.out; clear hb4)
        | (go_at_call 107; refine (HND.out _).mono ?_; rintro e w5 ⟨rfl, rfl⟩)
        | (go_at_call 108; refine (HIN.out _).mono ?_; rintro e w5 ⟨rfl, rfl⟩))
    clear x0 x1 x2 x3 x4 x5 x6 x7 y0 y1 y2 y3 y4 y5 y6 y7 HX HX3 HB3 HMS HEN HRI HND HIN
    go_loopw [80] (fun i wr => ∃ j : Nat, j ≤ l.length ∧ i = .int .i64 j ∧ Hid (CkLoop w w.heap.size (.cells #[.int .i64 o, .int .i64 n, .string s, .int .i64 k, .int .i64 m, .string z, .slice q ql qc, .slice p l.length cap] 40) wr) ∧ Hid (ckL (l.drop j) j o at_ (loopIn o lp) ((l.length : Int) - 1) = ckL l 0 o at_ (loopIn o lp) ((l.length : Int) - 1))) (fun i _ => l.length - (intOf i).toNat)
    case atStart => exact ⟨0, Nat.zero_le _, rfl, Lib.hid ⟨HB4.out, HX4.out⟩, Lib.hid rfl⟩
    case round =>
      obtain ⟨j, hj, rfl, hL, hD⟩ := hrel
      by_cases hlj : j < l.length
      · have hallr := HALL.out.below hL.out.bel hhi
        obtain ⟨b, off, o', n', s', v', ll, k', m', z', q', ql', qc', r', c', hp, _, hbhi, hli, h0, h1, h2, h3, h4, h5, h6, h7, hrep⟩ := hallr.item j hlj
        have hmem : l[j] ∈ l := List.getElem_mem hlj
        have hcm := cntAll_mem hmem
        have hih := HIH.out _ hmem
        have hwr := hL.out.bel.size
        have hgw := heap_lt hL.out.box
        obtain ⟨y0, y1, y2, y3, y4, y5, y6, y7, _⟩ := box8_in _ _ _ _ _ _ _ _ _ _ _ hL.out.box
        have HPL := Lib.hid (fun W => placeIn_any o n s k m z q ql qc p l.length cap at_ j W (by omega))
        have HDR := Lib.hid (ckL_drop l j hlj o at_ (loopIn o lp) ((l.length : Int) - 1))
        have HC := Lib.hid (fun W (hb : Below wr.heap.size wr W) => hih _ (placeInN o at_ j ((l.length : Int) - 1)) (loopIn o lp) W lo hi (hrep.below hb (by omega)) (by have := hb.size; omega) (by omega) (HS.out _ (hL.out.bel.trans (hb.mono hwr))))
        rw [HLO.out] at HC HDR
        have hbw : b < wr.heap.size := by omega
        have HD := hD
        have HL := hL
        subst hp
        clear hallr hrep hih hmem hcm hL hD
        obtain ⟨P, hP⟩ : ∃ P, P = placeInN o at_ j ((l.length : Int) - 1) := ⟨_, rfl⟩
        rw [← hP] at HC HDR HPL
        clear hP
        have HBW := Lib.hid ((Below.refl wr.heap.size wr).alloc (Nat.le_refl _) (.cells #[.int .i64 o', .int .i64 n', .string s', .int .i64 k', .int .i64 m', .string z', .slice q' ql' qc', .slice r' ll.length c'] 40))
        cases hres : ckN l[j] P _ with
        | none =>
          rw [hres] at HC HDR
          clear hli hres
          go_upto_region 15 with fail
          have HX8 := Lib.hid (heap_alloc_new wr (.cells #[.int .i64 o', .int .i64 n', .string s', .int .i64 k', .int .i64 m', .string z', .slice q' ql' qc', .slice r' ll.length c'] 40))
          have HX3' := Lib.hid (heap_old HL.out.box HBW.out)
          have HBL := Lib.hid (HL.out.bel.trans (HBW.out.mono hwr))
          have HC2 := Lib.hid (fun W (hb : Below (wr.alloc (.cells #[.int .i64 o', .int .i64 n', .string s', .int .i64 k', .int .i64 m', .string z', .slice q' ql' qc', .slice r' ll.length c'] 40)).heap.size (wr.alloc (.cells #[.int .i64 o', .int .i64 n', .string s', .int .i64 k', .int .i64 m', .string z', .slice q' ql' qc', .slice r' ll.length c'] 40)) W) => HC.out W (HBW.out.trans (hb.mono HBW.out.size)))
          clear HC
          obtain ⟨g8, hg8⟩ : ∃ g8, g8 = wr.heap.size := ⟨_, rfl⟩
          generalize wr.alloc (.cells #[.int .i64 o', .int .i64 n', .string s', .int .i64 k', .int .i64 m', .string z', .slice q' ql' qc', .slice r' ll.length c'] 40) = W1 at *
          rw [← hg8] at *
          obtain ⟨z0, z1, z2, z3, z4, z5, z6, z7, _⟩ := box8_in _ _ _ _ _ _ _ _ _ _ _ HX8.out
          obtain ⟨t0, t1, t2, t3, t4, t5, t6, t7, _⟩ := box8_in _ _ _ _ _ _ _ _ _ _ _ HX3'.out
          have hg8W := heap_lt HX8.out
          have hgwW := heap_lt HX3'.out
          clear h0 h1 h2 h3 h4 h5 h6 h7 y0 y1 y2 y3 y4 y5 y6 y7
          have HSF : Hid (∀ W', Below W1.heap.size W1 W' → W'.cell? ⟨g8, 0, none⟩ = some (.int .i64 o') ∧ W'.cell? ⟨g8, 1, none⟩ = some (.int .i64 n') ∧ W'.cell? ⟨g8, 2, none⟩ = some (.string s') ∧ W'.cell? ⟨g8, 3, none⟩ = some (.int .i64 k') ∧ W'.cell? ⟨g8, 4, none⟩ = some (.int .i64 m') ∧ W'.cell? ⟨g8, 5, none⟩ = some (.string z') ∧ W'.cell? ⟨g8, 6, none⟩ = some (.slice q' ql' qc') ∧ W'.cell? ⟨g8, 7, none⟩ = some (.slice r' ll.length c') ∧
              W'.cell? ⟨w.heap.size, 0, none⟩ = some (.int .i64 o) ∧ W'.cell? ⟨w.heap.size, 1, none⟩ = some (.int .i64 n) ∧ W'.cell? ⟨w.heap.size, 2, none⟩ = some (.string s) ∧ W'.cell? ⟨w.heap.size, 3, none⟩ = some (.int .i64 k) ∧ W'.cell? ⟨w.heap.size, 4, none⟩ = some (.int .i64 m) ∧ W'.cell? ⟨w.heap.size, 5, none⟩ = some (.string z) ∧ W'.cell? ⟨w.heap.size, 6, none⟩ = some (.slice q ql qc) ∧ W'.cell? ⟨w.heap.size, 7, none⟩ = some (.slice (some ⟨b, off, none⟩) l.length cap)) := Lib.hid fun W' hb =>
            ⟨(hb.cell (p := ⟨g8, 0, none⟩) hg8W).trans z0, (hb.cell (p := ⟨g8, 1, none⟩) hg8W).trans z1, (hb.cell (p := ⟨g8, 2, none⟩) hg8W).trans z2, (hb.cell (p := ⟨g8, 3, none⟩) hg8W).trans z3, (hb.cell (p := ⟨g8, 4, none⟩) hg8W).trans z4, (hb.cell (p := ⟨g8, 5, none⟩) hg8W).trans z5, (hb.cell (p := ⟨g8, 6, none⟩) hg8W).trans z6, (hb.cell (p := ⟨g8, 7, none⟩) hg8W).trans z7,
             (hb.cell (p := ⟨w.heap.size, 0, none⟩) hgwW).trans t0, (hb.cell (p := ⟨w.heap.size, 1, none⟩) hgwW).trans t1, (hb.cell (p := ⟨w.heap.size, 2, none⟩) hgwW).trans t2, (hb.cell (p := ⟨w.heap.size, 3, none⟩) hgwW).trans t3, (hb.cell (p := ⟨w.heap.size, 4, none⟩) hgwW).trans t4, (hb.cell (p := ⟨w.heap.size, 5, none⟩) hgwW).trans t5, (hb.cell (p := ⟨w.heap.size, 6, none⟩) hgwW).trans t6, (hb.cell (p := ⟨w.heap.size, 7, none⟩) hgwW).trans t7⟩
          have HD4 := Lib.hid (Below.refl W1.heap.size W1)
          have HD5 := Lib.hid ((Below.refl W1.heap.size W1).drew)
          clear z0 z1 z2 z3 z4 z5 z6 z7 t0 t1 t2 t3 t4 t5 t6 t7
          obtain ⟨e0, e1, e2, e3, e4, e5, e6, e7, f0, f1, f2, f3, f4, f5, f6, f7⟩ := HSF.out _ HD5.out
          go_region_held3 (fun W' => W'.cell? ⟨g8, 0, none⟩ = some (.int .i64 o') ∧ W'.cell? ⟨g8, 1, none⟩ = some (.int .i64 n') ∧ W'.cell? ⟨g8, 2, none⟩ = some (.string s') ∧ W'.cell? ⟨g8, 3, none⟩ = some (.int .i64 k') ∧ W'.cell? ⟨g8, 4, none⟩ = some (.int .i64 m') ∧ W'.cell? ⟨g8, 5, none⟩ = some (.string z') ∧ W'.cell? ⟨g8, 6, none⟩ = some (.slice q' ql' qc') ∧ W'.cell? ⟨g8, 7, none⟩ = some (.slice r' ll.length c') ∧
              W'.cell? ⟨w.heap.size, 0, none⟩ = some (.int .i64 o) ∧ W'.cell? ⟨w.heap.size, 1, none⟩ = some (.int .i64 n) ∧ W'.cell? ⟨w.heap.size, 2, none⟩ = some (.string s) ∧ W'.cell? ⟨w.heap.size, 3, none⟩ = some (.int .i64 k) ∧ W'.cell? ⟨w.heap.size, 4, none⟩ = some (.int .i64 m) ∧ W'.cell? ⟨w.heap.size, 5, none⟩ = some (.string z) ∧ W'.cell? ⟨w.heap.size, 6, none⟩ = some (.slice q ql qc) ∧ W'.cell? ⟨w.heap.size, 7, none⟩ = some (.slice (some ⟨b, off, none⟩) l.length cap)) (first | with_reducible exact HSF.out _ HD5.out | with_reducible exact HSF.out _ HD6.out | with_reducible exact HSF.out _ HD7.out | with_reducible exact HSF.out _ HD4.out | (go_show; fail)) (first
            | (go_at_call 109; (with_reducible refine (HPL.out _).mono ?_); rintro e w6 ⟨rfl, hb6⟩; have HD6 := Lib.hid (HD5.out.trans (hb6.mono HD5.out.size)); obtain ⟨a0, a1, a2, a3, a4, a5, a6, a7, c0, c1, c2, c3, c4, c5, c6, c7⟩ := HSF.out _ HD6.out; clear hb6)
            | (go_at_call 75; (with_reducible refine (HC2.out _ HD6.out).mono ?_); rintro e w7 ⟨hb7, rfl⟩; have HD7 := Lib.hid (HD6.out.trans (hb7.mono HD6.out.size)); clear hb7))
          go_wp2_with fail
          go_roundw
          case rel =>
            refine ⟨j + 1, by omega, by go_num, Lib.hid ⟨HBL.out.trans (HD7.out.mono HBL.out.size), heap_old HX3'.out HD7.out⟩, Lib.hid ?_⟩
            have h1 := HDR.out
            have h2 := HD.out
            rw [HLO.out] at h2 ⊢
            exact h1.symm.trans h2
          case measure => simp [intOf]; omega
        | some f =>
          obtain ⟨fl, fk⟩ := f
          rw [hres] at HC HDR
          clear hli hres
          go_upto_region 15 with fail
          have HX8 := Lib.hid (heap_alloc_new wr (.cells #[.int .i64 o', .int .i64 n', .string s', .int .i64 k', .int .i64 m', .string z', .slice q' ql' qc', .slice r' ll.length c'] 40))
          have HX3' := Lib.hid (heap_old HL.out.box HBW.out)
          have HBL := Lib.hid (HL.out.bel.trans (HBW.out.mono hwr))
          have HC2 := Lib.hid (fun W (hb : Below (wr.alloc (.cells #[.int .i64 o', .int .i64 n', .string s', .int .i64 k', .int .i64 m', .string z', .slice q' ql' qc', .slice r' ll.length c'] 40)).heap.size (wr.alloc (.cells #[.int .i64 o', .int .i64 n', .string s', .int .i64 k', .int .i64 m', .string z', .slice q' ql' qc', .slice r' ll.length c'] 40)) W) => HC.out W (HBW.out.trans (hb.mono HBW.out.size)))
          clear HC
          obtain ⟨g8, hg8⟩ : ∃ g8, g8 = wr.heap.size := ⟨_, rfl⟩
          generalize wr.alloc (.cells #[.int .i64 o', .int .i64 n', .string s', .int .i64 k', .int .i64 m', .string z', .slice q' ql' qc', .slice r' ll.length c'] 40) = W1 at *
          rw [← hg8] at *
          obtain ⟨z0, z1, z2, z3, z4, z5, z6, z7, _⟩ := box8_in _ _ _ _ _ _ _ _ _ _ _ HX8.out
          obtain ⟨t0, t1, t2, t3, t4, t5, t6, t7, _⟩ := box8_in _ _ _ _ _ _ _ _ _ _ _ HX3'.out
          have hg8W := heap_lt HX8.out
          have hgwW := heap_lt HX3'.out
          clear h0 h1 h2 h3 h4 h5 h6 h7 y0 y1 y2 y3 y4 y5 y6 y7
          have HSF : Hid (∀ W', Below W1.heap.size W1 W' → W'.cell? ⟨g8, 0, none⟩ = some (.int .i64 o') ∧ W'.cell? ⟨g8, 1, none⟩ = some (.int .i64 n') ∧ W'.cell? ⟨g8, 2, none⟩ = some (.string s') ∧ W'.cell? ⟨g8, 3, none⟩ = some (.int .i64 k') ∧ W'.cell? ⟨g8, 4, none⟩ = some (.int .i64 m') ∧ W'.cell? ⟨g8, 5, none⟩ = some (.string z') ∧ W'.cell? ⟨g8, 6, none⟩ = some (.slice q' ql' qc') ∧ W'.cell? ⟨g8, 7, none⟩ = some (.slice r' ll.length c') ∧
              W'.cell? ⟨w.heap.size, 0, none⟩ = some (.int .i64 o) ∧ W'.cell? ⟨w.heap.size, 1, none⟩ = some (.int .i64 n) ∧ W'.cell? ⟨w.heap.size, 2, none⟩ = some (.string s) ∧ W'.cell? ⟨w.heap.size, 3, none⟩ = some (.int .i64 k) ∧ W'.cell? ⟨w.heap.size, 4, none⟩ = some (.int .i64 m) ∧ W'.cell? ⟨w.heap.size, 5, none⟩ = some (.string z) ∧ W'.cell? ⟨w.heap.size, 6, none⟩ = some (.slice q ql qc) ∧ W'.cell? ⟨w.heap.size, 7, none⟩ = some (.slice (some ⟨b, off, none⟩) l.length cap)) := Lib.hid fun W' hb =>
            ⟨(hb.cell (p := ⟨g8, 0, none⟩) hg8W).trans z0, (hb.cell (p := ⟨g8, 1, none⟩) hg8W).trans z1, (hb.cell (p := ⟨g8, 2, none⟩) hg8W).trans z2, (hb.cell (p := ⟨g8, 3, none⟩) hg8W).trans z3, (hb.cell (p := ⟨g8, 4, none⟩) hg8W).trans z4, (hb.cell (p := ⟨g8, 5, none⟩) hg8W).trans z5, (hb.cell (p := ⟨g8, 6, none⟩) hg8W).trans z6, (hb.cell (p := ⟨g8, 7, none⟩) hg8W).trans z7,
             (hb.cell (p := ⟨w.heap.size, 0, none⟩) hgwW).trans t0, (hb.cell (p := ⟨w.heap.size, 1, none⟩) hgwW).trans t1, (hb.cell (p := ⟨w.heap.size, 2, none⟩) hgwW).trans t2, (hb.cell (p := ⟨w.heap.size, 3, none⟩) hgwW).trans t3, (hb.cell (p := ⟨w.heap.size, 4, none⟩) hgwW).trans t4, (hb.cell (p := ⟨w.heap.size, 5, none⟩) hgwW).trans t5, (hb.cell (p := ⟨w.heap.size, 6, none⟩) hgwW).trans t6, (hb.cell (p := ⟨w.heap.size, 7, none⟩) hgwW).trans t7⟩
          have HD4 := Lib.hid (Below.refl W1.heap.size W1)
          have HD5 := Lib.hid ((Below.refl W1.heap.size W1).drew)
          clear z0 z1 z2 z3 z4 z5 z6 z7 t0 t1 t2 t3 t4 t5 t6 t7
          obtain ⟨e0, e1, e2, e3, e4, e5, e6, e7, f0, f1, f2, f3, f4, f5, f6, f7⟩ := HSF.out _ HD5.out
          go_region_held3 (fun W' => W'.cell? ⟨g8, 0, none⟩ = some (.int .i64 o') ∧ W'.cell? ⟨g8, 1, none⟩ = some (.int .i64 n') ∧ W'.cell? ⟨g8, 2, none⟩ = some (.string s') ∧ W'.cell? ⟨g8, 3, none⟩ = some (.int .i64 k') ∧ W'.cell? ⟨g8, 4, none⟩ = some (.int .i64 m') ∧ W'.cell? ⟨g8, 5, none⟩ = some (.string z') ∧ W'.cell? ⟨g8, 6, none⟩ = some (.slice q' ql' qc') ∧ W'.cell? ⟨g8, 7, none⟩ = some (.slice r' ll.length c') ∧
              W'.cell? ⟨w.heap.size, 0, none⟩ = some (.int .i64 o) ∧ W'.cell? ⟨w.heap.size, 1, none⟩ = some (.int .i64 n) ∧ W'.cell? ⟨w.heap.size, 2, none⟩ = some (.string s) ∧ W'.cell? ⟨w.heap.size, 3, none⟩ = some (.int .i64 k) ∧ W'.cell? ⟨w.heap.size, 4, none⟩ = some (.int .i64 m) ∧ W'.cell? ⟨w.heap.size, 5, none⟩ = some (.string z) ∧ W'.cell? ⟨w.heap.size, 6, none⟩ = some (.slice q ql qc) ∧ W'.cell? ⟨w.heap.size, 7, none⟩ = some (.slice (some ⟨b, off, none⟩) l.length cap)) (first | with_reducible exact HSF.out _ HD5.out | with_reducible exact HSF.out _ HD6.out | with_reducible exact HSF.out _ HD7.out | with_reducible exact HSF.out _ HD4.out | (go_show; fail)) (first
            | (go_at_call 109; (with_reducible refine (HPL.out _).mono ?_); rintro e w6 ⟨rfl, hb6⟩; have HD6 := Lib.hid (HD5.out.trans (hb6.mono HD5.out.size)); obtain ⟨a0, a1, a2, a3, a4, a5, a6, a7, c0, c1, c2, c3, c4, c5, c6, c7⟩ := HSF.out _ HD6.out; clear hb6)
            | (go_at_call 75; (with_reducible refine (HC2.out _ HD6.out).mono ?_); rintro e w7 ⟨hb7, bk, rfl, hbk, hx7⟩; have HD7 := Lib.hid (HD6.out.trans (hb7.mono HD6.out.size)); have HX7 := Lib.hid hx7; have HBK := Lib.hid (Nat.le_trans HD6.out.size hbk); clear hb7 hbk hx7))
          have HF := Lib.hid (show ckL l 0 o at_ _ ((l.length : Int) - 1) = some (fl, fk) from by
            have h1 := HDR.out
            have h2 := HD.out
            rw [HLO.out] at h2
            exact h2.symm.trans h1)
          go_wp2_with fail
          go_ret
          rw [HF.out]
          exact ⟨HBL.out.trans (HD7.out.mono HBL.out.size), bk, rfl, Nat.le_trans HBL.out.size HBK.out, HX7.out⟩
      · have hje : j = l.length := by omega
        subst hje
        have HD := Lib.hid (show ckL l 0 o at_ (loopIn o lp) ((l.length : Int) - 1) = none from by rw [← hD.out, List.drop_length, ckL])
        rw [HLO.out] at HD
        go_wp2
        go_ret
        exact ⟨hL.out.bel, by rw [HD.out]; rfl⟩))
end Go.Proofs.YtminmadaeaiihaaDoor
