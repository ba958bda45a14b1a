/- tree.check: what a node has. tree.Count, tree.moreThan. tree.valid, Valid, Expr. Nodes that are made: rows of nodes in the making; the statements' first. The document's plain copy of nodes. What is light: inglenookworld.few and Small; a right value is light. What is light, of nodes: inglenookworld.nodes, Nodes. Contracts of val's order, of the list comparison that it uses, and of Same. The order of values is one: it turns round, it has no circles. -/
import Derived.Test.YtemkikjcjhmlaaaGreatDoorM07
import Derived.Deep.RegionHeldLaw
import Derived.Test.YtemkikjcjhmlaaaGreatDoorM03
import Derived.Deep.RegionHeld3
import Derived.Handy
import Derived.Test.YtemkikjcjhmlaaaGreatDoorM00
import Derived.Test.YtemkikjcjhmlaaaGreatDoorM04
import Derived.Sort.Statements
namespace Go.Proofs.YtemkikjcjhmlaaaGreatDoor
open Go.RowKit
set_option maxRecDepth 100000

set_option maxHeartbeats 8000000 in
/-- A node that may be: what it has. -/
theorem check_fine (ad : Nat → Addr) (o n : Int) (s : ByteArray) (v : T) (l : List Nd) (ih : ∀ t ∈ l, CkOk ad t) (x : Value) (at_ : Int) (lp : Bool) (w : World) (lo hi : Nat) (hr : NRep w lo hi (.mk o n s v l) x) (hhi : hi ≤ w.heap.size) (hcn : cntAll l ≤ 1000000000) (hS : Sn w ad) (hok : shapeBad o at_ lp s v l.length = false) (hnm : nameBad o s = false) :
    Calls Tryz.prog 32 #[x, .int .i64 at_, .bool lp] w (CkPost ad (ckL l 0 o at_ (loopIn o lp) ((l.length : Int) - 1)) w) := by
  have HIH := Lib.hid ih
  clear ih
  obtain ⟨k, m, z, q, ql, qc, p, cap, rfl, hio, hin, hsz, hrv, hlc, hl112, hall⟩ := hr.open
  have HALL := Lib.hid hall
  have hll := len_cnt l
  have HB := Lib.hid ((Below.refl w.heap.size w).alloc (Nat.le_refl _) (.cells #[.int .i64 o, .int .i64 n, .string s, .int .i64 k, .int .i64 m, .string z, .slice q ql qc, .slice p l.length cap] 33))
  have HX := Lib.hid (heap_alloc_new w (.cells #[.int .i64 o, .int .i64 n, .string s, .int .i64 k, .int .i64 m, .string z, .slice q ql qc, .slice p l.length cap] 33))
  have HS := Lib.hid (fun W (hb : Below w.heap.size w W) => hS.below hb)
  unfold shapeBad at hok
  simp only [Bool.or_eq_false_iff, Bool.not_eq_false', Bool.and_eq_false_iff] at hok
  obtain ⟨⟨⟨hms, hen⟩, hri⟩, hsn⟩ := hok
  unfold nameBad at hnm
  have HMS := Lib.hid (fun w => by have := mayStand_any o at_ lp w; rw [hms] at this; exact this)
  have HEN := Lib.hid (fun w => by have := hasEnough_any o n s k m z q ql qc p l.length cap w; rw [hen] at this; exact this)
  have HRI := Lib.hid (fun W (hb : Below w.heap.size w W) => by
    have := hasRight_any ad o n s v l _ W lo hi (hr.below hb hhi) (by have := hb.size; omega) (hS.below hb)
    rw [hri] at this; exact this)
  have hse := CkOk_name s
  obtain ⟨sz, hszb⟩ : ∃ sz, sz = (s.size == 0) := ⟨_, rfl⟩
  obtain ⟨nd, hnd⟩ : ∃ nd, nd = isNamedB o := ⟨_, rfl⟩
  obtain ⟨nm, hnmB⟩ : ∃ nm, nm = isNameB s := ⟨_, rfl⟩
  have HND := Lib.hid (show ∀ w, Calls Tryz.prog 54 #[.int .i64 o] w fun e w' => e = .returned (.bool nd) ∧ w' = w from fun w => hnd ▸ isNamed_any o w)
  have HIN := Lib.hid (show ∀ w, Calls Tryz.prog 55 #[.string s] w fun e w' => e = .returned (.bool nm) ∧ w' = w from fun w => hnmB ▸ isName_any s hsz w)
  have hw := fine_ways (lp := lp) hsn hnm
  rw [← hszb, ← hnd, ← hnmB] at hw
  rw [← hszb] at hse
  clear hr hS hrv hall hio hin hms hen hri hsn hnd hnmB hnm hszb
  go_enter Tryz.func32, Tryz.ntmps32
  rcases hw with ⟨rfl, rfl, b42, b43, (⟨b44, b48, hlo⟩ | ⟨b44, b48, hlo⟩ | ⟨b44, b48, hlo⟩)⟩ | ⟨rfl, rfl, rfl, b44, b48, (⟨b42, b43, hlo⟩ | ⟨b42, b43, hlo⟩ | ⟨b42, b43, hlo⟩)⟩ | ⟨rfl, rfl, b50, rfl, b42, b43, b44, b48, hlo⟩
  all_goals (focus (
    rw [hlo]
    have HLO := Lib.hid hlo
    clear hlo
    go_wp2_with (first
        | (go_at_call 51; refine (HMS.out _).mono ?_; rintro e w2 ⟨rfl, rfl⟩)
        | (go_at_call 52; refine (HEN.out _).mono ?_; rintro e w3 ⟨rfl, hb3⟩; have HB3 := Lib.hid (HB.out.trans (hb3.mono HB.out.size)); have HX3 := Lib.hid (heap_old HX.out hb3); obtain ⟨x0, x1, x2, x3, x4, x5, x6, x7, _⟩ := box8_in _ _ _ _ _ _ _ _ _ _ _ HX3.out; clear hb3)
        | (go_at_call 53; refine (HRI.out _ HB3.out).mono ?_; rintro e w4 ⟨rfl, hb4⟩; have HB4 := Lib.hid (HB3.out.trans (hb4.mono HB3.out.size)); have HX4 := Lib.hid (heap_old HX3.out hb4); obtain ⟨y0, y1, y2, y3, y4, y5, y6, y7, _⟩ := box8_in _ _ _ _ _ _ _ _ _ _ _ HX4.out; clear hb4)
        | (go_at_call 54; refine (HND.out _).mono ?_; rintro e w5 ⟨rfl, rfl⟩)
        | (go_at_call 55; refine (HIN.out _).mono ?_; rintro e w5 ⟨rfl, rfl⟩))
    clear x0 x1 x2 x3 x4 x5 x6 x7 y0 y1 y2 y3 y4 y5 y6 y7 HX HX3 HB3 HMS HEN HRI HND HIN
    go_loopw [80] (fun i wr => ∃ j : Nat, j ≤ l.length ∧ i = .int .i64 j ∧ Hid (CkLoop w w.heap.size (.cells #[.int .i64 o, .int .i64 n, .string s, .int .i64 k, .int .i64 m, .string z, .slice q ql qc, .slice p l.length cap] 33) wr) ∧ Hid (ckL (l.drop j) j o at_ (loopIn o lp) ((l.length : Int) - 1) = ckL l 0 o at_ (loopIn o lp) ((l.length : Int) - 1))) (fun i _ => l.length - (intOf i).toNat)
    case atStart => exact ⟨0, Nat.zero_le _, rfl, Lib.hid ⟨HB4.out, HX4.out⟩, Lib.hid rfl⟩
    case round =>
      obtain ⟨j, hj, rfl, hL, hD⟩ := hrel
      by_cases hlj : j < l.length
      · have hallr := HALL.out.below hL.out.bel hhi
        obtain ⟨b, off, o', n', s', v', ll, k', m', z', q', ql', qc', r', c', hp, _, hbhi, hli, h0, h1, h2, h3, h4, h5, h6, h7, hrep⟩ := hallr.item j hlj
        have hmem : l[j] ∈ l := List.getElem_mem hlj
        have hcm := cntAll_mem hmem
        have hih := HIH.out _ hmem
        have hwr := hL.out.bel.size
        have hgw := heap_lt hL.out.box
        obtain ⟨y0, y1, y2, y3, y4, y5, y6, y7, _⟩ := box8_in _ _ _ _ _ _ _ _ _ _ _ hL.out.box
        have HPL := Lib.hid (fun W => placeIn_any o n s k m z q ql qc p l.length cap at_ j W (by omega))
        have HDR := Lib.hid (ckL_drop l j hlj o at_ (loopIn o lp) ((l.length : Int) - 1))
        have HC := Lib.hid (fun W (hb : Below wr.heap.size wr W) => hih _ (placeInN o at_ j ((l.length : Int) - 1)) (loopIn o lp) W lo hi (hrep.below hb (by omega)) (by have := hb.size; omega) (by omega) (HS.out _ (hL.out.bel.trans (hb.mono hwr))))
        rw [HLO.out] at HC HDR
        have hbw : b < wr.heap.size := by omega
        have HD := hD
        have HL := hL
        subst hp
        clear hallr hrep hih hmem hcm hL hD
        obtain ⟨P, hP⟩ : ∃ P, P = placeInN o at_ j ((l.length : Int) - 1) := ⟨_, rfl⟩
        rw [← hP] at HC HDR HPL
        clear hP
        have HBW := Lib.hid ((Below.refl wr.heap.size wr).alloc (Nat.le_refl _) (.cells #[.int .i64 o', .int .i64 n', .string s', .int .i64 k', .int .i64 m', .string z', .slice q' ql' qc', .slice r' ll.length c'] 33))
        cases hres : ckN l[j] P _ with
        | none =>
          rw [hres] at HC HDR
          clear hli hres
          go_upto_region 15 with fail
          have HX8 := Lib.hid (heap_alloc_new wr (.cells #[.int .i64 o', .int .i64 n', .string s', .int .i64 k', .int .i64 m', .string z', .slice q' ql' qc', .slice r' ll.length c'] 33))
          have HX3' := Lib.hid (heap_old HL.out.box HBW.out)
          have HBL := Lib.hid (HL.out.bel.trans (HBW.out.mono hwr))
          have HC2 := Lib.hid (fun W (hb : Below (wr.alloc (.cells #[.int .i64 o', .int .i64 n', .string s', .int .i64 k', .int .i64 m', .string z', .slice q' ql' qc', .slice r' ll.length c'] 33)).heap.size (wr.alloc (.cells #[.int .i64 o', .int .i64 n', .string s', .int .i64 k', .int .i64 m', .string z', .slice q' ql' qc', .slice r' ll.length c'] 33)) W) => HC.out W (HBW.out.trans (hb.mono HBW.out.size)))
          clear HC
          obtain ⟨g8, hg8⟩ : ∃ g8, g8 = wr.heap.size := ⟨_, rfl⟩
          generalize wr.alloc (.cells #[.int .i64 o', .int .i64 n', .string s', .int .i64 k', .int .i64 m', .string z', .slice q' ql' qc', .slice r' ll.length c'] 33) = W1 at *
          rw [← hg8] at *
          obtain ⟨z0, z1, z2, z3, z4, z5, z6, z7, _⟩ := box8_in _ _ _ _ _ _ _ _ _ _ _ HX8.out
          obtain ⟨t0, t1, t2, t3, t4, t5, t6, t7, _⟩ := box8_in _ _ _ _ _ _ _ _ _ _ _ HX3'.out
          have hg8W := heap_lt HX8.out
          have hgwW := heap_lt HX3'.out
          clear h0 h1 h2 h3 h4 h5 h6 h7 y0 y1 y2 y3 y4 y5 y6 y7
          have HSF : Hid (∀ W', Below W1.heap.size W1 W' → W'.cell? ⟨g8, 0, none⟩ = some (.int .i64 o') ∧ W'.cell? ⟨g8, 1, none⟩ = some (.int .i64 n') ∧ W'.cell? ⟨g8, 2, none⟩ = some (.string s') ∧ W'.cell? ⟨g8, 3, none⟩ = some (.int .i64 k') ∧ W'.cell? ⟨g8, 4, none⟩ = some (.int .i64 m') ∧ W'.cell? ⟨g8, 5, none⟩ = some (.string z') ∧ W'.cell? ⟨g8, 6, none⟩ = some (.slice q' ql' qc') ∧ W'.cell? ⟨g8, 7, none⟩ = some (.slice r' ll.length c') ∧
              W'.cell? ⟨w.heap.size, 0, none⟩ = some (.int .i64 o) ∧ W'.cell? ⟨w.heap.size, 1, none⟩ = some (.int .i64 n) ∧ W'.cell? ⟨w.heap.size, 2, none⟩ = some (.string s) ∧ W'.cell? ⟨w.heap.size, 3, none⟩ = some (.int .i64 k) ∧ W'.cell? ⟨w.heap.size, 4, none⟩ = some (.int .i64 m) ∧ W'.cell? ⟨w.heap.size, 5, none⟩ = some (.string z) ∧ W'.cell? ⟨w.heap.size, 6, none⟩ = some (.slice q ql qc) ∧ W'.cell? ⟨w.heap.size, 7, none⟩ = some (.slice (some ⟨b, off, none⟩) l.length cap)) := Lib.hid fun W' hb =>
            ⟨(hb.cell (p := ⟨g8, 0, none⟩) hg8W).trans z0, (hb.cell (p := ⟨g8, 1, none⟩) hg8W).trans z1, (hb.cell (p := ⟨g8, 2, none⟩) hg8W).trans z2, (hb.cell (p := ⟨g8, 3, none⟩) hg8W).trans z3, (hb.cell (p := ⟨g8, 4, none⟩) hg8W).trans z4, (hb.cell (p := ⟨g8, 5, none⟩) hg8W).trans z5, (hb.cell (p := ⟨g8, 6, none⟩) hg8W).trans z6, (hb.cell (p := ⟨g8, 7, none⟩) hg8W).trans z7,
             (hb.cell (p := ⟨w.heap.size, 0, none⟩) hgwW).trans t0, (hb.cell (p := ⟨w.heap.size, 1, none⟩) hgwW).trans t1, (hb.cell (p := ⟨w.heap.size, 2, none⟩) hgwW).trans t2, (hb.cell (p := ⟨w.heap.size, 3, none⟩) hgwW).trans t3, (hb.cell (p := ⟨w.heap.size, 4, none⟩) hgwW).trans t4, (hb.cell (p := ⟨w.heap.size, 5, none⟩) hgwW).trans t5, (hb.cell (p := ⟨w.heap.size, 6, none⟩) hgwW).trans t6, (hb.cell (p := ⟨w.heap.size, 7, none⟩) hgwW).trans t7⟩
          have HD4 := Lib.hid (Below.refl W1.heap.size W1)
          have HD5 := Lib.hid ((Below.refl W1.heap.size W1).drew)
          clear z0 z1 z2 z3 z4 z5 z6 z7 t0 t1 t2 t3 t4 t5 t6 t7
          obtain ⟨e0, e1, e2, e3, e4, e5, e6, e7, f0, f1, f2, f3, f4, f5, f6, f7⟩ := HSF.out _ HD5.out
          go_region_held3 (fun W' => W'.cell? ⟨g8, 0, none⟩ = some (.int .i64 o') ∧ W'.cell? ⟨g8, 1, none⟩ = some (.int .i64 n') ∧ W'.cell? ⟨g8, 2, none⟩ = some (.string s') ∧ W'.cell? ⟨g8, 3, none⟩ = some (.int .i64 k') ∧ W'.cell? ⟨g8, 4, none⟩ = some (.int .i64 m') ∧ W'.cell? ⟨g8, 5, none⟩ = some (.string z') ∧ W'.cell? ⟨g8, 6, none⟩ = some (.slice q' ql' qc') ∧ W'.cell? ⟨g8, 7, none⟩ = some (.slice r' ll.length c') ∧
              W'.cell? ⟨w.heap.size, 0, none⟩ = some (.int .i64 o) ∧ W'.cell? ⟨w.heap.size, 1, none⟩ = some (.int .i64 n) ∧ W'.cell? ⟨w.heap.size, 2, none⟩ = some (.string s) ∧ W'.cell? ⟨w.heap.size, 3, none⟩ = some (.int .i64 k) ∧ W'.cell? ⟨w.heap.size, 4, none⟩ = some (.int .i64 m) ∧ W'.cell? ⟨w.heap.size, 5, none⟩ = some (.string z) ∧ W'.cell? ⟨w.heap.size, 6, none⟩ = some (.slice q ql qc) ∧ W'.cell? ⟨w.heap.size, 7, none⟩ = some (.slice (some ⟨b, off, none⟩) l.length cap)) (first | with_reducible exact HSF.out _ HD5.out | with_reducible exact HSF.out _ HD6.out | with_reducible exact HSF.out _ HD7.out | with_reducible exact HSF.out _ HD4.out | (go_show; fail)) (first
            | (go_at_call 56; (with_reducible refine (HPL.out _).mono ?_); rintro e w6 ⟨rfl, hb6⟩; have HD6 := Lib.hid (HD5.out.trans (hb6.mono HD5.out.size)); obtain ⟨a0, a1, a2, a3, a4, a5, a6, a7, c0, c1, c2, c3, c4, c5, c6, c7⟩ := HSF.out _ HD6.out; clear hb6)
            | (go_at_call 32; (with_reducible refine (HC2.out _ HD6.out).mono ?_); rintro e w7 ⟨hb7, rfl⟩; have HD7 := Lib.hid (HD6.out.trans (hb7.mono HD6.out.size)); clear hb7))
          go_wp2_with fail
          go_roundw
          case rel =>
            refine ⟨j + 1, by omega, by go_num, Lib.hid ⟨HBL.out.trans (HD7.out.mono HBL.out.size), heap_old HX3'.out HD7.out⟩, Lib.hid ?_⟩
            have h1 := HDR.out
            have h2 := HD.out
            rw [HLO.out] at h2 ⊢
            exact h1.symm.trans h2
          case measure => simp [intOf]; omega
        | some f =>
          obtain ⟨fl, fk⟩ := f
          rw [hres] at HC HDR
          clear hli hres
          go_upto_region 15 with fail
          have HX8 := Lib.hid (heap_alloc_new wr (.cells #[.int .i64 o', .int .i64 n', .string s', .int .i64 k', .int .i64 m', .string z', .slice q' ql' qc', .slice r' ll.length c'] 33))
          have HX3' := Lib.hid (heap_old HL.out.box HBW.out)
          have HBL := Lib.hid (HL.out.bel.trans (HBW.out.mono hwr))
          have HC2 := Lib.hid (fun W (hb : Below (wr.alloc (.cells #[.int .i64 o', .int .i64 n', .string s', .int .i64 k', .int .i64 m', .string z', .slice q' ql' qc', .slice r' ll.length c'] 33)).heap.size (wr.alloc (.cells #[.int .i64 o', .int .i64 n', .string s', .int .i64 k', .int .i64 m', .string z', .slice q' ql' qc', .slice r' ll.length c'] 33)) W) => HC.out W (HBW.out.trans (hb.mono HBW.out.size)))
          clear HC
          obtain ⟨g8, hg8⟩ : ∃ g8, g8 = wr.heap.size := ⟨_, rfl⟩
          generalize wr.alloc (.cells #[.int .i64 o', .int .i64 n', .string s', .int .i64 k', .int .i64 m', .string z', .slice q' ql' qc', .slice r' ll.length c'] 33) = W1 at *
          rw [← hg8] at *
          obtain ⟨z0, z1, z2, z3, z4, z5, z6, z7, _⟩ := box8_in _ _ _ _ _ _ _ _ _ _ _ HX8.out
          obtain ⟨t0, t1, t2, t3, t4, t5, t6, t7, _⟩ := box8_in _ _ _ _ _ _ _ _ _ _ _ HX3'.out
          have hg8W := heap_lt HX8.out
          have hgwW := heap_lt HX3'.out
          clear h0 h1 h2 h3 h4 h5 h6 h7 y0 y1 y2 y3 y4 y5 y6 y7
          have HSF : Hid (∀ W', Below W1.heap.size W1 W' → W'.cell? ⟨g8, 0, none⟩ = some (.int .i64 o') ∧ W'.cell? ⟨g8, 1, none⟩ = some (.int .i64 n') ∧ W'.cell? ⟨g8, 2, none⟩ = some (.string s') ∧ W'.cell? ⟨g8, 3, none⟩ = some (.int .i64 k') ∧ W'.cell? ⟨g8, 4, none⟩ = some (.int .i64 m') ∧ W'.cell? ⟨g8, 5, none⟩ = some (.string z') ∧ W'.cell? ⟨g8, 6, none⟩ = some (.slice q' ql' qc') ∧ W'.cell? ⟨g8, 7, none⟩ = some (.slice r' ll.length c') ∧
              W'.cell? ⟨w.heap.size, 0, none⟩ = some (.int .i64 o) ∧ W'.cell? ⟨w.heap.size, 1, none⟩ = some (.int .i64 n) ∧ W'.cell? ⟨w.heap.size, 2, none⟩ = some (.string s) ∧ W'.cell? ⟨w.heap.size, 3, none⟩ = some (.int .i64 k) ∧ W'.cell? ⟨w.heap.size, 4, none⟩ = some (.int .i64 m) ∧ W'.cell? ⟨w.heap.size, 5, none⟩ = some (.string z) ∧ W'.cell? ⟨w.heap.size, 6, none⟩ = some (.slice q ql qc) ∧ W'.cell? ⟨w.heap.size, 7, none⟩ = some (.slice (some ⟨b, off, none⟩) l.length cap)) := Lib.hid fun W' hb =>
            ⟨(hb.cell (p := ⟨g8, 0, none⟩) hg8W).trans z0, (hb.cell (p := ⟨g8, 1, none⟩) hg8W).trans z1, (hb.cell (p := ⟨g8, 2, none⟩) hg8W).trans z2, (hb.cell (p := ⟨g8, 3, none⟩) hg8W).trans z3, (hb.cell (p := ⟨g8, 4, none⟩) hg8W).trans z4, (hb.cell (p := ⟨g8, 5, none⟩) hg8W).trans z5, (hb.cell (p := ⟨g8, 6, none⟩) hg8W).trans z6, (hb.cell (p := ⟨g8, 7, none⟩) hg8W).trans z7,
             (hb.cell (p := ⟨w.heap.size, 0, none⟩) hgwW).trans t0, (hb.cell (p := ⟨w.heap.size, 1, none⟩) hgwW).trans t1, (hb.cell (p := ⟨w.heap.size, 2, none⟩) hgwW).trans t2, (hb.cell (p := ⟨w.heap.size, 3, none⟩) hgwW).trans t3, (hb.cell (p := ⟨w.heap.size, 4, none⟩) hgwW).trans t4, (hb.cell (p := ⟨w.heap.size, 5, none⟩) hgwW).trans t5, (hb.cell (p := ⟨w.heap.size, 6, none⟩) hgwW).trans t6, (hb.cell (p := ⟨w.heap.size, 7, none⟩) hgwW).trans t7⟩
          have HD4 := Lib.hid (Below.refl W1.heap.size W1)
          have HD5 := Lib.hid ((Below.refl W1.heap.size W1).drew)
          clear z0 z1 z2 z3 z4 z5 z6 z7 t0 t1 t2 t3 t4 t5 t6 t7
          obtain ⟨e0, e1, e2, e3, e4, e5, e6, e7, f0, f1, f2, f3, f4, f5, f6, f7⟩ := HSF.out _ HD5.out
          go_region_held3 (fun W' => W'.cell? ⟨g8, 0, none⟩ = some (.int .i64 o') ∧ W'.cell? ⟨g8, 1, none⟩ = some (.int .i64 n') ∧ W'.cell? ⟨g8, 2, none⟩ = some (.string s') ∧ W'.cell? ⟨g8, 3, none⟩ = some (.int .i64 k') ∧ W'.cell? ⟨g8, 4, none⟩ = some (.int .i64 m') ∧ W'.cell? ⟨g8, 5, none⟩ = some (.string z') ∧ W'.cell? ⟨g8, 6, none⟩ = some (.slice q' ql' qc') ∧ W'.cell? ⟨g8, 7, none⟩ = some (.slice r' ll.length c') ∧
              W'.cell? ⟨w.heap.size, 0, none⟩ = some (.int .i64 o) ∧ W'.cell? ⟨w.heap.size, 1, none⟩ = some (.int .i64 n) ∧ W'.cell? ⟨w.heap.size, 2, none⟩ = some (.string s) ∧ W'.cell? ⟨w.heap.size, 3, none⟩ = some (.int .i64 k) ∧ W'.cell? ⟨w.heap.size, 4, none⟩ = some (.int .i64 m) ∧ W'.cell? ⟨w.heap.size, 5, none⟩ = some (.string z) ∧ W'.cell? ⟨w.heap.size, 6, none⟩ = some (.slice q ql qc) ∧ W'.cell? ⟨w.heap.size, 7, none⟩ = some (.slice (some ⟨b, off, none⟩) l.length cap)) (first | with_reducible exact HSF.out _ HD5.out | with_reducible exact HSF.out _ HD6.out | with_reducible exact HSF.out _ HD7.out | with_reducible exact HSF.out _ HD4.out | (go_show; fail)) (first
            | (go_at_call 56; (with_reducible refine (HPL.out _).mono ?_); rintro e w6 ⟨rfl, hb6⟩; have HD6 := Lib.hid (HD5.out.trans (hb6.mono HD5.out.size)); obtain ⟨a0, a1, a2, a3, a4, a5, a6, a7, c0, c1, c2, c3, c4, c5, c6, c7⟩ := HSF.out _ HD6.out; clear hb6)
            | (go_at_call 32; (with_reducible refine (HC2.out _ HD6.out).mono ?_); rintro e w7 ⟨hb7, bk, rfl, hbk, hx7⟩; have HD7 := Lib.hid (HD6.out.trans (hb7.mono HD6.out.size)); have HX7 := Lib.hid hx7; have HBK := Lib.hid (Nat.le_trans HD6.out.size hbk); clear hb7 hbk hx7))
          have HF := Lib.hid (show ckL l 0 o at_ _ ((l.length : Int) - 1) = some (fl, fk) from by
            have h1 := HDR.out
            have h2 := HD.out
            rw [HLO.out] at h2
            exact h2.symm.trans h1)
          go_wp2_with fail
          go_ret
          rw [HF.out]
          exact ⟨HBL.out.trans (HD7.out.mono HBL.out.size), bk, rfl, Nat.le_trans HBL.out.size HBK.out, HX7.out⟩
      · have hje : j = l.length := by omega
        subst hje
        have HD := Lib.hid (show ckL l 0 o at_ (loopIn o lp) ((l.length : Int) - 1) = none from by rw [← hD.out, List.drop_length, ckL])
        rw [HLO.out] at HD
        go_wp2
        go_ret
        exact ⟨hL.out.bel, by rw [HD.out]; rfl⟩))
end Go.Proofs.YtemkikjcjhmlaaaGreatDoor

namespace Go.Proofs.YtemkikjcjhmlaaaGreatDoor
open Go.RowKit
set_option maxRecDepth 100000
attribute [local go_sem] Oper.semAt_some

theorem heap_setN {X : World} {g : Nat} {v v' : Value} {t : TypeId} (h : X.heap[g]? = some (.cells #[v] t (0, 0))) : (X.setCell ⟨g, 0, none⟩ v').heap[g]? = some (.cells #[v'] t (0, 0)) := by
  simp [World.setCell, Array.getElem?_modify, h]
theorem heap_setO {X : World} {g b : Nat} {v : Value} (h : b ≠ g) : (X.setCell ⟨g, 0, none⟩ v).heap[b]? = X.heap[b]? := Below.heap_setCell _ _ _ _ h
theorem KwA.step {W0 X Y : World} {lo hi B len cap s : Nat} {p : Option Addr} (h : KwA W0 lo hi B p len cap X) (hh : hi ≤ s) (hB : B < s) (hb : Below s X Y) : KwA W0 lo hi B p len cap Y :=
  ⟨⟨Nat.le_trans h.1.1 hb.size, fun a h1 h2 => (hb.cell (by omega)).trans (h.1.2 a h1 h2)⟩, (hb.block _ hB).trans h.2⟩
theorem KwA.set {W0 X : World} {lo hi B len cap g : Nat} {p : Option Addr} (h : KwA W0 lo hi B p len cap X) (hg : hi ≤ g) (hB : B ≠ g) (v : Value) : KwA W0 lo hi B p len cap (X.setCell ⟨g, 0, none⟩ v) :=
  ⟨⟨by simpa using h.1.1, fun a h1 h2 => (World.cell?_setCell_other X ⟨g, 0, none⟩ a v (fun e => by subst e; simp at h2; omega)).trans (h.1.2 a h1 h2)⟩, (heap_setO hB).trans h.2⟩

/-- What the rounds find: the box of the count, the walk's box, the nodes. -/
structure ICn (w : World) (lo hi : Nat) (p : Option Addr) (len cap : Nat) (j : Nat) (X : World) : Prop where
  bel : Below w.heap.size w X
  bc : X.heap[w.heap.size]? = some (.cells #[.int .i64 (j : Int)] 3 (0, 0))
  kw : KwA w lo hi (w.heap.size + 1) p len cap X

/-- What the rounds find where it is asked whether there are more than so many. -/
structure IMt (w : World) (lo hi : Nat) (p : Option Addr) (len cap : Nat) (most : Nat) (j : Nat) (X : World) : Prop where
  bel : Below w.heap.size w X
  bm : X.heap[w.heap.size]? = some (.cells #[.int .i64 (most : Int)] 3 (0, 0))
  br : X.heap[w.heap.size + 1]? = some (.cells #[.bool false] 4 (0, 0))
  bc : X.heap[w.heap.size + 2]? = some (.cells #[.int .i64 (j : Int)] 3 (0, 0))
  kw : KwA w lo hi (w.heap.size + 3) p len cap X
  le : j ≤ most
theorem IMt.step {w X Y : World} {lo hi : Nat} {p : Option Addr} {len cap most j s : Nat} (h : IMt w lo hi p len cap most j X) (hhi : hi ≤ w.heap.size) (hs : s = w.heap.size + 4) (hb : Below s X Y) : IMt w lo hi p len cap most j Y :=
  ⟨h.bel.trans (hb.mono (by omega)), (hb.block _ (by omega)).trans h.bm, (hb.block _ (by omega)).trans h.br, (hb.block _ (by omega)).trans h.bc, h.kw.step (by omega) (by omega) hb, h.le⟩

set_option maxHeartbeats 1000000 in
theorem moreThan_any (most : Nat) (hm : most ≤ 1000000000) (L : List Nd) (w : World) (lo hi : Nat) (p : Option Addr) (cap : Nat) (hall : NAll w lo hi L p) (hhi : hi ≤ w.heap.size) (hlc : L.length ≤ cap) (hcap : L.length * 112 ≤ 140737488355328) :
    Calls Tryz.prog 30 #[.int .i64 (most : Int), .slice p L.length cap] w fun e w' => e = .returned (.bool (decide (most < cntAll L))) ∧ Below w.heap.size w w' := by
  have HA := Lib.hid hall
  clear hall
  refine (callsIn_wide (n := 8)).1 ?_
  refine callsIn_of_wp_marks Tryz.func30 rfl trivial ?_ rfl
  simp only [Tryz.ntmps30, List.size_toArray, List.length_cons, List.length_nil, Nat.reduceAdd, Nat.reduceSub, Array.replicate_succ, Array.replicate_zero, List.push_toArray, List.append_toArray, List.nil_append, List.cons_append]
  gi_wp2_with (refine ⟨trivial, ?_⟩; gi_at_call 50; refine (callsIn_wide.2 (all_any p L.length cap _)).mono ?_; rintro e w1 ⟨rfl, hw1⟩; have HW1 := Lib.hid hw1; clear hw1)
  have hz1 : w1.heap.size = w.heap.size + 4 := by rw [HW1.out]; simp
  have HI0 : Hid (IMt w lo hi p L.length cap most 0 w1) := by
    have e := HW1.out
    have hb : Below w.heap.size w w1 := by rw [e]; exact ((((Below.refl _ w).alloc (Nat.le_refl _) _).alloc (by simp) _).alloc (by simp; omega) _).alloc (by simp; omega) _
    refine ⟨hb, ?_, ?_, ?_, ⟨⟨by omega, fun a _ h2 => hb.cell (by omega)⟩, ?_⟩, Nat.zero_le _⟩
    · rw [e]; exact heap_alloc_ _ _ _ _ (heap_alloc_ _ _ _ _ (heap_alloc_ _ _ _ _ (heap_alloc_new w _)))
    · rw [e]; refine heap_alloc_ _ _ _ _ (heap_alloc_ _ _ _ _ ?_)
      have h := heap_alloc_new (w.alloc (.cells #[.int .i64 (most : Int)] 3)) (.cells #[.bool false] 4)
      rw [World.size_alloc] at h
      exact h
    · rw [e]; refine heap_alloc_ _ _ _ _ ?_
      have h := heap_alloc_new ((w.alloc (.cells #[.int .i64 (most : Int)] 3)).alloc (.cells #[.bool false] 4)) (.cells #[.int .i64 0] 3)
      rw [World.size_alloc, World.size_alloc] at h
      exact h
    · rw [e]
      have h := heap_alloc_new (((w.alloc (.cells #[.int .i64 (most : Int)] 3)).alloc (.cells #[.bool false] 4)).alloc (.cells #[.int .i64 0] 3)) (.cells #[.slice p L.length cap] 22)
      rw [World.size_alloc, World.size_alloc, World.size_alloc] at h
      simpa using h
  refine range_keeps rfl (by omega) (gf := 73) (lb := #[.pointer (some ⟨w.heap.size + 3, 0, none⟩)]) rfl trivial (enters_of Tryz.func73 (by kernel_rfl) rfl) (all_hands _ L w (w.heap.size + 3) lo hi p cap HA.out hlc hcap) (fun j xs b X h => by obtain ⟨_, _, rfl, _⟩ := h; rfl)
    (IMt w lo hi p L.length cap most) (fun c X => c = .ret ∧ most < cntAll L ∧ Below w.heap.size w X ∧ X.heap[w.heap.size + 1]? = some (.cells #[.bool true] 4 (0, 0)))
    (fun j X Y h hb => h.step hhi hz1 hb) (fun _ X Y h hb => ⟨h.1, h.2.1, h.2.2.1.trans (hb.mono (by omega)), (hb.block _ (by omega)).trans h.2.2.2⟩) (fun j X h => h.kw) HI0.out ?round ?done ?stop
  case round =>
    intro j xs b X hj hI hH hsb hlt
    obtain ⟨_, v, rfl, _⟩ := hH
    have HIX := Lib.hid hI
    clear hI
    gi_wp2
    refine ⟨KeptK.refl _ _, fun r => ?_⟩
    have HIP : Hid (IMt w lo hi p L.length cap most j (X.putObj (w1.heap.size + 1) (.loop r))) := HIX.out.step hhi hz1 (putObj_belowK X (B := w1.heap.size) (l := w1.heap.size + 1) (by omega) hlt (.loop r))
    generalize X.putObj (w1.heap.size + 1) (.loop r) = P at *
    obtain ⟨xc0, xcf⟩ := cell_oneN _ _ _ _ HIP.out.bc
    obtain ⟨xm0, xmf⟩ := cell_oneN _ _ _ _ HIP.out.bm
    obtain ⟨xr0, xrf⟩ := cell_oneN _ _ _ _ HIP.out.br
    have hle := HIP.out.le
    have hjN : (j : Int) ≤ 1000000000 := by omega
    by_cases hjm : j < most
    · have hgt : decide ((most : Int) < (j : Int) + 1) = false := by simp; omega
      gi_wp2
      refine ⟨KeptK.setCell _ _ (by show w.heap.size + 2 < _; omega) _, HIP.out.bel.setCell (by show w.heap.size ≤ w.heap.size + 2; omega) _, (heap_setO (by omega)).trans HIP.out.bm, (heap_setO (by omega)).trans HIP.out.br, ?_, HIP.out.kw.set (by omega) (by omega) _, by omega⟩
      have := heap_setN (v' := .int .i64 ((j : Int) + 1)) HIP.out.bc
      simpa using this
    · have hgt : decide ((most : Int) < (j : Int) + 1) = true := by simp; omega
      gi_wp2
      refine ⟨(KeptK.setCell _ _ (by show w.heap.size + 2 < _; omega) _).trans (KeptK.setCell _ _ (by show w.heap.size + 1 < _; omega) _), rfl, by omega, (HIP.out.bel.setCell (by show w.heap.size ≤ w.heap.size + 2; omega) _).setCell (by show w.heap.size ≤ w.heap.size + 1; omega) _, ?_⟩
      exact heap_setN ((heap_setO (by omega)).trans HIP.out.br)
  case done =>
    intro Z hI hD
    have HIZ := Lib.hid hI
    have HDZ := Lib.hid hD
    obtain ⟨xr0, xrf⟩ := cell_oneN _ _ _ _ hI.br
    have hle := hI.le
    clear hI hD
    gi_wp2
    refine ⟨by simp, .inl ⟨_, _, rfl, run_takeDeferred ((heap_setO (by omega)).trans HDZ.out), ?_⟩⟩
    have hb := heap_setN (v' := .bool false) HIZ.out.br
    have hb2 : ((Z.setCell ⟨w.heap.size + 1, 0, none⟩ (.bool false)).putObj w1.heap.size (.deferred none)).heap[w.heap.size + 1]? = some (.cells #[.bool false] 4 (0, 0)) := (World.putObj_heap_other (by omega)).trans hb
    obtain ⟨r40, _⟩ := cell_oneN _ _ _ _ hb2
    have hd : decide (most < cntAll L) = false := by simp; omega
    exact ⟨.bool false, by simp [results, Tryz.results30, go_sem, r40], by rw [hd], (HIZ.out.bel.setCell (by show w.heap.size ≤ w.heap.size + 1; omega) _).trans (putObj_belowK _ (by omega) (by simpa using heap_ltN HDZ.out) _)⟩
  case stop =>
    rintro c Z ⟨rfl, hlt, hbel, hbr⟩ hD
    have HDZ := Lib.hid hD
    have HB := Lib.hid hbel
    have HR := Lib.hid hbr
    clear hD hbel hbr
    gi_wp2
    refine ⟨by simp, .inl ⟨_, _, rfl, run_takeDeferred HDZ.out, ?_⟩⟩
    have hb2 : (Z.putObj w1.heap.size (.deferred none)).heap[w.heap.size + 1]? = some (.cells #[.bool true] 4 (0, 0)) := (World.putObj_heap_other (by omega)).trans HR.out
    obtain ⟨r40, _⟩ := cell_oneN _ _ _ _ hb2
    have hd : decide (most < cntAll L) = true := by simp; omega
    exact ⟨.bool true, by simp [results, Tryz.results30, go_sem, r40], by rw [hd], HB.out.trans (putObj_belowK _ (by omega) (heap_ltN HDZ.out) _)⟩
end Go.Proofs.YtemkikjcjhmlaaaGreatDoor

namespace Go.Proofs.YtemkikjcjhmlaaaGreatDoor
open Go.RowKit
set_option maxRecDepth 100000

theorem check_any (ad : Nat → Addr) : ∀ t, CkOk ad t := Nd.ind_ (fun o n s v l ih => by
  intro x at_ lp w lo hi hr hhi hcn hS
  simp only [cnt] at hcn
  rw [ckN]
  cases h1 : shapeBad o at_ lp s v l.length with
  | true => rw [if_pos rfl]; exact check_shape ad o n s v l x at_ lp w lo hi hr hhi hS h1
  | false =>
    rw [if_neg (by simp)]
    cases h2 : nameBad o s with
    | true => rw [if_pos rfl]; exact check_name ad o n s v l x at_ lp w lo hi hr hhi hS h1 h2
    | false => rw [if_neg (by simp)]; exact check_fine ad o n s v l ih x at_ lp w lo hi hr hhi (by omega) hS h1 h2)

/-- A fault: none, one without a line, one with a line. -/
inductive Flt where
  | ok
  | bare (k : Nat)
  | at_ (n : Int) (k : Nat)
def firstF : List Nd → Int → Flt
  | [], _ => .ok
  | t :: r, a => match ckN t a false with
    | some f => .at_ f.1 f.2
    | none => firstF r a
def vldF (l : List Nd) (a : Int) : Flt := if 4096 < cntAll l then .bare 3 else if 40 < dpNAll l then .bare 11 else firstF l a
def VPost (ad : Nat → Addr) (r : Flt) (w : World) (e : Ending) (w' : World) : Prop :=
  Below w.heap.size w w' ∧ match r with
    | .ok => e = .returned .nilIface
    | .bare k => e = .returned (ev (ad k))
    | .at_ n k => ∃ bk, e = .returned (.iface 86 (.pointer (some ⟨bk, 0, none⟩))) ∧ w.heap.size ≤ bk ∧ w'.heap[bk]? = some (.cells #[.int .i64 n, ev (ad k)] 88 (0, 0))
theorem firstF_drop (l : List Nd) (j : Nat) (h : j < l.length) (a : Int) : firstF (l.drop j) a = match ckN l[j] a false with
    | some f => .at_ f.1 f.2
    | none => firstF (l.drop (j + 1)) a := by
  rw [List.drop_eq_getElem_cons h, firstF]

set_option maxHeartbeats 2000000 in
theorem valid_at (ad : Nat → Addr) (L : List Nd) (a : Int) (w : World) (lo hi : Nat) (p : Option Addr) (cap : Nat) (hall : NAll w lo hi L p) (hhi : hi ≤ w.heap.size) (hlc : L.length ≤ cap) (hcap : L.length * 112 ≤ 140737488355328) (hS : Sn w ad) :
    Calls Tryz.prog 19 #[.slice p L.length cap, .int .i64 a] w (VPost ad (vldF L a) w) := by
  have HA := Lib.hid hall
  have HS := Lib.hid (fun W (hb : Below w.heap.size w W) => hS.below hb)
  have HM := Lib.hid (fun (W : World) (hb : Below w.heap.size w W) => moreThan_any 4096 (by omega) L W lo hi p cap (hall.below hb hhi) (by have := hb.size; omega) hlc hcap)
  have hll := len_cnt L
  have HW := Lib.hid (Below.refl w.heap.size w)
  clear hall hS
  by_cases h1 : 4096 < cntAll L
  · have HF := Lib.hid (show vldF L a = .bare 3 from by unfold vldF; rw [if_pos h1])
    have HM1 := Lib.hid (by have := HM.out w HW.out; rw [decide_eq_true h1] at this; exact this)
    clear h1 HM hll
    go_enter Tryz.func19, Tryz.ntmps19
    go_wp2_with (go_at_call 30; refine HM1.out.mono ?_; rintro e w2 ⟨rfl, hb2⟩; have HB2 := Lib.hid hb2; have v3 := many_var (HS.out _ hb2); clear hb2)
    go_ret
    rw [HF.out]
    exact ⟨HB2.out, rfl⟩
  have HM1 := Lib.hid (by have := HM.out w HW.out; rw [decide_eq_false h1] at this; exact this)
  have HD := Lib.hid (fun (W : World) (hb : Below w.heap.size w W) => deep_any L W lo hi p cap (HA.out.below hb hhi) (by have := hb.size; omega) hlc hcap (by omega))
  have hdl := dpNAll_le L
  by_cases h2 : 40 < dpNAll L
  · have HF := Lib.hid (show vldF L a = .bare 11 from by unfold vldF; rw [if_neg h1, if_pos h2])
    have h2i : (40 : Int) < (dpNAll L : Int) := by omega
    clear h1 HM hll h2 hdl
    go_enter Tryz.func19, Tryz.ntmps19
    go_wp2_with (first
      | (go_at_call 30; refine HM1.out.mono ?_; rintro e w2 ⟨rfl, hb2⟩; have HB2 := Lib.hid hb2; clear hb2)
      | (go_at_call 31; refine (HD.out _ HB2.out).mono ?_; rintro e w3 ⟨rfl, hb3⟩; have HB3 := Lib.hid (HB2.out.trans (hb3.mono HB2.out.size)); have v3 := deep_var (HS.out _ HB3.out); clear hb3))
    go_ret
    rw [HF.out]
    exact ⟨HB3.out, rfl⟩
  have HF := Lib.hid (show vldF L a = firstF L a from by unfold vldF; rw [if_neg h1, if_neg h2])
  have h2i : ¬ (40 : Int) < (dpNAll L : Int) := by omega
  have hl9 : L.length ≤ 4096 := by omega
  have hc9 : cntAll L ≤ 4096 := by omega
  rw [HF.out]
  clear h1 HM hll h2 hdl
  go_enter Tryz.func19, Tryz.ntmps19
  go_wp2_with (first
    | (go_at_call 30; refine HM1.out.mono ?_; rintro e w2 ⟨rfl, hb2⟩; have HB2 := Lib.hid hb2; clear hb2)
    | (go_at_call 31; refine (HD.out _ HB2.out).mono ?_; rintro e w3 ⟨rfl, hb3⟩; have HB3 := Lib.hid (HB2.out.trans (hb3.mono HB2.out.size)); clear hb3))
  clear h2i HM1 HD HB2 HF
  go_loopw [17] (fun i wr => ∃ j : Nat, j ≤ L.length ∧ i = .int .i64 j ∧ Hid (Below w.heap.size w wr) ∧ Hid (firstF (L.drop j) a = firstF L a)) (fun i _ => L.length - (intOf i).toNat)
  case atStart => exact ⟨0, Nat.zero_le _, rfl, HB3, Lib.hid rfl⟩
  case round =>
    obtain ⟨j, hj, rfl, HL, HD⟩ := hrel
    by_cases hlj : j < L.length
    · have hallr := HA.out.below HL.out hhi
      have hwr := HL.out.size
      obtain ⟨b, off, o, n, s, v, ll, k, m, z, q, ql, qc, r, c, hp, _, hbhi, hli, h0, h1, h2, h3, h4, h5, h6, h7, hrep⟩ := hallr.item j hlj
      have hmem : L[j] ∈ L := List.getElem_mem hlj
      have hcm := cntAll_mem hmem
      have HBW := Lib.hid ((Below.refl wr.heap.size wr).alloc (Nat.le_refl _) (.cells #[.int .i64 o, .int .i64 n, .string s, .int .i64 k, .int .i64 m, .string z, .slice q ql qc, .slice r ll.length c] 33))
      have HBL := Lib.hid (HL.out.trans (HBW.out.mono hwr))
      have HC := Lib.hid (check_any ad L[j] _ a false _ lo hi (hrep.below HBW.out (by omega)) (by have := HBW.out.size; omega) (by omega) (HS.out _ HBL.out))
      have HDR := Lib.hid (firstF_drop L j hlj a)
      have hbw : b < wr.heap.size := by omega
      subst hp
      clear hallr hrep hmem hcm hli
      cases hres : ckN L[j] a false with
      | none =>
        rw [hres] at HC HDR
        clear hres
        go_wp2_with (go_at_call 32; refine HC.out.mono ?_; rintro e w7 ⟨hb7, rfl⟩; have HB7 := Lib.hid (HBL.out.trans (hb7.mono HBL.out.size)); clear hb7)
        go_roundw
        case rel => exact ⟨j + 1, by omega, by go_num, HB7, Lib.hid (HDR.out.symm.trans HD.out)⟩
        case measure => simp [intOf]; omega
      | some f =>
        obtain ⟨fl, fk⟩ := f
        rw [hres] at HC HDR
        clear hres
        have HF := Lib.hid (show firstF L a = .at_ fl fk from HD.out.symm.trans HDR.out)
        go_wp2_with (go_at_call 32; refine HC.out.mono ?_; rintro e w7 ⟨hb7, bk, rfl, hbk, hx7⟩; have HB7 := Lib.hid (HBL.out.trans (hb7.mono HBL.out.size)); have HX7 := Lib.hid hx7; have HBK := Lib.hid (Nat.le_trans HBL.out.size hbk); clear hb7 hbk hx7)
        go_ret
        rw [HF.out]
        exact ⟨HB7.out, bk, rfl, HBK.out, HX7.out⟩
    · have hje : j = L.length := by omega
      have HF := Lib.hid (show firstF L a = .ok from by rw [← HD.out, hje, List.drop_length, firstF])
      go_wp2
      go_ret
      rw [HF.out]
      exact ⟨HL.out, rfl⟩

set_option maxHeartbeats 400000 in
theorem tvalid_any (ad : Nat → Addr) (L : List Nd) (w : World) (lo hi : Nat) (p : Option Addr) (cap : Nat) (hall : NAll w lo hi L p) (hhi : hi ≤ w.heap.size) (hlc : L.length ≤ cap) (hcap : L.length * 112 ≤ 140737488355328) (hS : Sn w ad) :
    Calls Tryz.prog 10 #[.slice p L.length cap] w (VPost ad (vldF L 0) w) := by
  have HC := Lib.hid (valid_at ad L 0 w lo hi p cap hall hhi hlc hcap hS)
  clear hall hS
  go_enter Tryz.func10, Tryz.ntmps10
  have key : ∀ e w', VPost ad (vldF L 0) w e w' → ∃ v, e = .returned v := fun e w' h => by
    obtain ⟨_, h⟩ := h
    cases hr : vldF L 0 <;> rw [hr] at h
    · exact ⟨_, h⟩
    · exact ⟨_, h⟩
    · obtain ⟨_, h, _⟩ := h; exact ⟨_, h⟩
  go_wp2_with (go_at_call 19; refine HC.out.mono ?_; intro e w2 h2; obtain ⟨v2, rfl⟩ := key _ _ h2; have H2 := Lib.hid h2; clear h2)
  go_ret
  exact H2.out

/-- One node, in a row of its own. -/
theorem one_row {w : World} {lo hi : Nat} {o n k m : Int} {s z : ByteArray} {v : T} {l : List Nd} {q r : Option Addr} {ql qc len c : Nat} (h : NRep w lo hi (.mk o n s v l) (.agg #[.int .i64 o, .int .i64 n, .string s, .int .i64 k, .int .i64 m, .string z, .slice q ql qc, .slice r len c])) (g : Nat) (t : TypeId) (hg : hi ≤ g) (hgl : lo ≤ g)
    (hb : w.heap[g]? = some (.cells #[.int .i64 o, .int .i64 n, .string s, .int .i64 k, .int .i64 m, .string z, .slice q ql qc, .slice r len c] t (0, 0))) : NAll w lo (g + 1) [.mk o n s v l] (some ⟨g, 0, none⟩) := by
  obtain ⟨x0, x1, x2, x3, x4, x5, x6, x7, _⟩ := box8_in _ _ _ _ _ _ _ _ _ _ _ hb
  have hadd : ∀ j, (⟨g, 0, none⟩ : Addr).add j = ⟨g, j, none⟩ := fun j => by unfold Addr.add; split <;> simp_all
  unfold NAll
  refine ⟨⟨g, 0, none⟩, _, _, _, _, _, _, _, _, rfl, hgl, Nat.lt_succ_self _, x0, ?_, ?_, ?_, ?_, ?_, ?_, ?_, h.wide (Nat.le_refl _) (by omega), NAll.nil _ _ _ _⟩
  all_goals (rw [hadd]; assumption)

set_option maxHeartbeats 1000000 in
theorem texpr_any (ad : Nat → Addr) (t : Nd) (x : Value) (w : World) (lo hi : Nat) (hr : NRep w lo hi t x) (hlo : lo ≤ w.heap.size) (hhi : hi ≤ w.heap.size) (hS : Sn w ad) :
    Calls Tryz.prog 102 #[x] w (VPost ad (vldF [t] 3) w) := by
  obtain ⟨o, n, s, v, l⟩ := t
  obtain ⟨k, m, z, q, ql, qc, p, cap, rfl, _⟩ := hr.open
  have HB := Lib.hid ((Below.refl w.heap.size w).alloc (Nat.le_refl _) (.cells #[.int .i64 o, .int .i64 n, .string s, .int .i64 k, .int .i64 m, .string z, .slice q ql qc, .slice p l.length cap] 33))
  have HS := Lib.hid (fun W (hb : Below w.heap.size w W) => hS.below hb)
  have HC := Lib.hid (fun (W : World) (g : Nat) (tt : TypeId) (hb : Below w.heap.size w W) (hg : w.heap.size ≤ g) (hx : W.heap[g]? = some (.cells #[.int .i64 o, .int .i64 n, .string s, .int .i64 k, .int .i64 m, .string z, .slice q ql qc, .slice p l.length cap] tt (0, 0))) =>
    valid_at ad [.mk o n s v l] 3 W lo (g + 1) (some ⟨g, 0, none⟩) 1 (one_row (hr.below hb hhi) g tt (by omega) (by omega) hx) (heap_lt hx) (by simp) (by simp) (hS.below hb))
  clear hr hS
  have key : ∀ W e w', VPost ad (vldF [.mk o n s v l] 3) W e w' → ∃ v, e = .returned v := fun W e w' h => by
    obtain ⟨_, h⟩ := h
    cases hr : vldF [.mk o n s v l] 3 <;> rw [hr] at h
    · exact ⟨_, h⟩
    · exact ⟨_, h⟩
    · obtain ⟨_, h, _⟩ := h; exact ⟨_, h⟩
  have fin : ∀ (W : World) e w', Below w.heap.size w W → VPost ad (vldF [.mk o n s v l] 3) W e w' → VPost ad (vldF [.mk o n s v l] 3) w e w' := fun W e w' hb h => by
    obtain ⟨h1, h2⟩ := h
    refine ⟨hb.trans (h1.mono hb.size), ?_⟩
    cases hr : vldF [.mk o n s v l] 3 <;> rw [hr] at h2
    · exact h2
    · exact h2
    · obtain ⟨bk, h3, h4, h5⟩ := h2; exact ⟨bk, h3, Nat.le_trans hb.size h4, h5⟩
  go_enter Tryz.func102, Tryz.ntmps102
  have HB2 := Lib.hid (HB.out.alloc HB.out.size (.cells #[.int .i64 o, .int .i64 n, .string s, .int .i64 k, .int .i64 m, .string z, .slice q ql qc, .slice p l.length cap] 33))
  have hx2 := heap_alloc_new (w.alloc (.cells #[.int .i64 o, .int .i64 n, .string s, .int .i64 k, .int .i64 m, .string z, .slice q ql qc, .slice p l.length cap] 33)) (.cells #[.int .i64 o, .int .i64 n, .string s, .int .i64 k, .int .i64 m, .string z, .slice q ql qc, .slice p l.length cap] 33)
  rw [World.size_alloc] at hx2
  have HC2 := Lib.hid (HC.out _ (w.heap.size + 1) _ HB2.out (by omega) hx2)
  clear hx2 HC
  go_wp2_with (go_at_call 19; refine HC2.out.mono ?_; intro e w2 h2; obtain ⟨v2, rfl⟩ := key _ _ _ h2; have H2 := Lib.hid (fin _ _ _ HB2.out h2); clear h2)
  go_ret
  exact H2.out
end Go.Proofs.YtemkikjcjhmlaaaGreatDoor

namespace Go.Proofs.YtemkikjcjhmlaaaGreatDoor
open Go.RowKit
set_option maxRecDepth 100000

theorem NAll.of {w : World} {lo hi b : Nat} (hlo : lo ≤ b) (hhi : b < hi) : ∀ (l : List Nd) (off : Nat), (∀ i (h : i < l.length), ∃ c0 c1 c2 c3 c4 c5 c6 c7, w.cell? ⟨b, off + i * 8, none⟩ = some c0 ∧ w.cell? ⟨b, off + i * 8 + 1, none⟩ = some c1 ∧ w.cell? ⟨b, off + i * 8 + 2, none⟩ = some c2 ∧ w.cell? ⟨b, off + i * 8 + 3, none⟩ = some c3 ∧
      w.cell? ⟨b, off + i * 8 + 4, none⟩ = some c4 ∧ w.cell? ⟨b, off + i * 8 + 5, none⟩ = some c5 ∧ w.cell? ⟨b, off + i * 8 + 6, none⟩ = some c6 ∧ w.cell? ⟨b, off + i * 8 + 7, none⟩ = some c7 ∧ NRep w lo hi l[i] (.agg #[c0, c1, c2, c3, c4, c5, c6, c7])) →
    NAll w lo hi l (some ⟨b, off, none⟩)
  | [], _, _ => NAll.nil _ _ _ _
  | t :: r, off, h => by
    unfold NAll
    obtain ⟨c0, c1, c2, c3, c4, c5, c6, c7, e0, e1, e2, e3, e4, e5, e6, e7, hr⟩ := h 0 (by simp)
    have hadd : ∀ n, Addr.add ⟨b, off, none⟩ n = ⟨b, off + n, none⟩ := by
      intro n; unfold Addr.add; split
      · rename_i h; subst h; rfl
      · rfl
    refine ⟨⟨b, off, none⟩, c0, c1, c2, c3, c4, c5, c6, c7, rfl, hlo, hhi, by simpa using e0, by rw [hadd]; simpa using e1, by rw [hadd]; simpa using e2, by rw [hadd]; simpa using e3, by rw [hadd]; simpa using e4, by rw [hadd]; simpa using e5, by rw [hadd]; simpa using e6, by rw [hadd]; simpa using e7, hr, ?_⟩
    rw [hadd]
    refine NAll.of hlo hhi r (off + 8) (fun i hi => ?_)
    obtain ⟨d0, d1, d2, d3, d4, d5, d6, d7, f0, f1, f2, f3, f4, f5, f6, f7, hr'⟩ := h (i + 1) (by simpa using hi)
    refine ⟨d0, d1, d2, d3, d4, d5, d6, d7, ?_, ?_, ?_, ?_, ?_, ?_, ?_, ?_, by simpa using hr'⟩
    · rw [← f0]; congr 2; omega
    · rw [← f1]; congr 2; omega
    · rw [← f2]; congr 2; omega
    · rw [← f3]; congr 2; omega
    · rw [← f4]; congr 2; omega
    · rw [← f5]; congr 2; omega
    · rw [← f6]; congr 2; omega
    · rw [← f7]; congr 2; omega

/-- Eight cells stored in a row. -/
abbrev set8 (W : World) (g o : Nat) (c0 c1 c2 c3 c4 c5 c6 c7 : Value) : World :=
  (((((((W.setCell ⟨g, o, none⟩ c0).setCell ⟨g, o + 1, none⟩ c1).setCell ⟨g, o + 2, none⟩ c2).setCell ⟨g, o + 3, none⟩ c3).setCell ⟨g, o + 4, none⟩ c4).setCell ⟨g, o + 5, none⟩ c5).setCell ⟨g, o + 6, none⟩ c6).setCell ⟨g, o + 7, none⟩ c7
theorem below_set8 {B g o : Nat} {a w : World} (h : Below B a w) (hg : B ≤ g) (c0 c1 c2 c3 c4 c5 c6 c7 : Value) : Below B a (set8 w g o c0 c1 c2 c3 c4 c5 c6 c7) :=
  (((((((h.setCell hg c0).setCell hg c1).setCell hg c2).setCell hg c3).setCell hg c4).setCell hg c5).setCell hg c6).setCell hg c7
theorem heap_set8 {W : World} {g b : Nat} (h : b ≠ g) (o : Nat) (c0 c1 c2 c3 c4 c5 c6 c7 : Value) : (set8 W g o c0 c1 c2 c3 c4 c5 c6 c7).heap[b]? = W.heap[b]? := by
  unfold set8
  rw [Below.heap_setCell _ _ _ _ h, Below.heap_setCell _ _ _ _ h, Below.heap_setCell _ _ _ _ h, Below.heap_setCell _ _ _ _ h, Below.heap_setCell _ _ _ _ h, Below.heap_setCell _ _ _ _ h, Below.heap_setCell _ _ _ _ h, Below.heap_setCell _ _ _ _ h]
theorem size_set8 (W : World) (g o : Nat) (c0 c1 c2 c3 c4 c5 c6 c7 : Value) : (set8 W g o c0 c1 c2 c3 c4 c5 c6 c7).heap.size = W.heap.size := by unfold set8; simp
/-- A box of eight cells, stored anew. -/
theorem heap_set8_box {W : World} {g : Nat} {d0 d1 d2 d3 d4 d5 d6 d7 : Value} {t : TypeId} (h : W.heap[g]? = some (.cells #[d0, d1, d2, d3, d4, d5, d6, d7] t (0, 0))) (c0 c1 c2 c3 c4 c5 c6 c7 : Value) :
    (set8 W g 0 c0 c1 c2 c3 c4 c5 c6 c7).heap[g]? = some (.cells #[c0, c1, c2, c3, c4, c5, c6, c7] t (0, 0)) := by
  have hset : ∀ (w : World) (c : Array Value) (o : Nat) (u : Value), w.heap[g]? = some (.cells c t (0, 0)) → (w.setCell ⟨g, o, none⟩ u).heap[g]? = some (.cells (c.setIfInBounds o u) t (0, 0)) := by
    intro w c o u hw
    simp [World.setCell, Array.getElem?_modify, hw]
  have k := hset _ _ 7 c7 (hset _ _ 6 c6 (hset _ _ 5 c5 (hset _ _ 4 c4 (hset _ _ 3 c3 (hset _ _ 2 c2 (hset _ _ 1 c1 (hset _ _ 0 c0 h)))))))
  simpa using k
theorem NRep.keep8 {W : World} {lo hi g o : Nat} {t : Nd} {v : Value} (h : NRep W lo hi t v) (hg : g < lo ∨ hi ≤ g) (c0 c1 c2 c3 c4 c5 c6 c7 : Value) : NRep (set8 W g o c0 c1 c2 c3 c4 c5 c6 c7) lo hi t v :=
  (((((((h.setCell hg c0).setCell hg c1).setCell hg c2).setCell hg c3).setCell hg c4).setCell hg c5).setCell hg c6).setCell hg c7

/-- A row of nodes in the making: the first j of them stand. -/
def NPart (wr : World) (bo : Nat) (l : List Nd) (j : Nat) : Prop := ∃ cs : Array Value, wr.heap[bo]? = some (.cells cs 33 (0, 0)) ∧ cs.size = l.length * 8 ∧
  ∀ i (h : i < l.length), i < j → ∃ c0 c1 c2 c3 c4 c5 c6 c7, cs[i * 8]? = some c0 ∧ cs[i * 8 + 1]? = some c1 ∧ cs[i * 8 + 2]? = some c2 ∧ cs[i * 8 + 3]? = some c3 ∧ cs[i * 8 + 4]? = some c4 ∧ cs[i * 8 + 5]? = some c5 ∧ cs[i * 8 + 6]? = some c6 ∧ cs[i * 8 + 7]? = some c7 ∧ NRep wr (bo + 1) wr.heap.size l[i] (.agg #[c0, c1, c2, c3, c4, c5, c6, c7])
theorem NPart.lt {wr : World} {bo : Nat} {l : List Nd} {j : Nat} (h : NPart wr bo l j) : bo < wr.heap.size := by
  obtain ⟨cs, h1, _⟩ := h; exact heap_lt h1
theorem NPart.start (w : World) (cs : Array Value) (l : List Nd) (h : cs.size = l.length * 8) : NPart (w.alloc (.cells cs 33)) w.heap.size l 0 :=
  ⟨cs, heap_alloc_new w _, h, fun i _ hi => absurd hi (by omega)⟩
theorem NPart.below {wr w' : World} {bo : Nat} {l : List Nd} {j : Nat} (h : NPart wr bo l j) (hb : Below wr.heap.size wr w') : NPart w' bo l j := by
  have hlt := h.lt
  obtain ⟨cs, h1, h2, h3⟩ := h
  refine ⟨cs, (hb.block _ hlt).trans h1, h2, fun i hi hj => ?_⟩
  obtain ⟨c0, c1, c2, c3, c4, c5, c6, c7, e0, e1, e2, e3, e4, e5, e6, e7, hr⟩ := h3 i hi hj
  exact ⟨c0, c1, c2, c3, c4, c5, c6, c7, e0, e1, e2, e3, e4, e5, e6, e7, hr.keep (Nat.le_refl _) hb.size (fun p _ hp => hb.cell hp)⟩
theorem NPart.room {wr : World} {bo : Nat} {l : List Nd} {j : Nat} (h : NPart wr bo l j) (i : Nat) (hi : i < l.length) :
    (∃ u, wr.cell? ⟨bo, i * 8, none⟩ = some u) ∧ (∃ u, wr.cell? ⟨bo, i * 8 + 1, none⟩ = some u) ∧ (∃ u, wr.cell? ⟨bo, i * 8 + 2, none⟩ = some u) ∧ (∃ u, wr.cell? ⟨bo, i * 8 + 3, none⟩ = some u) ∧ (∃ u, wr.cell? ⟨bo, i * 8 + 4, none⟩ = some u) ∧ (∃ u, wr.cell? ⟨bo, i * 8 + 5, none⟩ = some u) ∧ (∃ u, wr.cell? ⟨bo, i * 8 + 6, none⟩ = some u) ∧ (∃ u, wr.cell? ⟨bo, i * 8 + 7, none⟩ = some u) ∧ ∀ o, wr.frozen? ⟨bo, o, none⟩ = false := by
  obtain ⟨cs, h1, h2, _⟩ := h
  have hc : ∀ o, wr.cell? ⟨bo, o, none⟩ = cs[o]? := fun o => cell_of_row _ _ o _ _ _ h1
  have hsm : ∀ o, o < l.length * 8 → ∃ u, wr.cell? ⟨bo, o, none⟩ = some u := fun o ho => ⟨cs[o]'(by omega), by rw [hc]; exact Array.getElem?_eq_getElem (by omega)⟩
  exact ⟨hsm _ (by omega), hsm _ (by omega), hsm _ (by omega), hsm _ (by omega), hsm _ (by omega), hsm _ (by omega), hsm _ (by omega), hsm _ (by omega), fun o => by simp [World.frozen?, h1]⟩
theorem NPart.step {wr : World} {bo : Nat} {l : List Nd} {j : Nat} (h : NPart wr bo l j) (hj : j < l.length) (c0 c1 c2 c3 c4 c5 c6 c7 : Value) (hr : NRep wr (bo + 1) wr.heap.size l[j] (.agg #[c0, c1, c2, c3, c4, c5, c6, c7])) :
    NPart (set8 wr bo (j * 8) c0 c1 c2 c3 c4 c5 c6 c7) bo l (j + 1) := by
  obtain ⟨cs, h1, h2, h3⟩ := h
  have hset : ∀ (w : World) (c : Array Value) (o : Nat) (u : Value), w.heap[bo]? = some (.cells c 33 (0, 0)) → (w.setCell ⟨bo, o, none⟩ u).heap[bo]? = some (.cells (c.setIfInBounds o u) 33 (0, 0)) := by
    intro w c o u hw
    simp [World.setCell, Array.getElem?_modify, hw]
  have k7 := hset _ _ (j * 8 + 7) c7 (hset _ _ (j * 8 + 6) c6 (hset _ _ (j * 8 + 5) c5 (hset _ _ (j * 8 + 4) c4 (hset _ _ (j * 8 + 3) c3 (hset _ _ (j * 8 + 2) c2 (hset _ _ (j * 8 + 1) c1 (hset _ _ (j * 8) c0 h1)))))))
  have hsz : (set8 wr bo (j * 8) c0 c1 c2 c3 c4 c5 c6 c7).heap.size = wr.heap.size := size_set8 _ _ _ _ _ _ _ _ _ _ _
  refine ⟨_, k7, by simpa using h2, fun i hi hij => ?_⟩
  rw [hsz]
  by_cases hij' : i = j
  · subst hij'
    refine ⟨c0, c1, c2, c3, c4, c5, c6, c7, ?_, ?_, ?_, ?_, ?_, ?_, ?_, ?_, hr.keep8 (Or.inl (by omega)) _ _ _ _ _ _ _ _⟩ <;> simp [Array.getElem?_setIfInBounds] <;> omega
  · obtain ⟨d0, d1, d2, d3, d4, d5, d6, d7, e0, e1, e2, e3, e4, e5, e6, e7, hr'⟩ := h3 i hi (by omega)
    have hne : ∀ (c : Array Value) (m : Nat) (u d : Value), m / 8 ≠ j → c[m]? = some d → ∀ r, r < 8 → (c.setIfInBounds (j * 8 + r) u)[m]? = some d := fun c m u d hm hd r hr => by
      rw [Array.getElem?_setIfInBounds_ne (by omega)]; exact hd
    have hall : ∀ (m : Nat) (d : Value), m / 8 ≠ j → cs[m]? = some d → ((((((((cs.setIfInBounds (j * 8) c0).setIfInBounds (j * 8 + 1) c1).setIfInBounds (j * 8 + 2) c2).setIfInBounds (j * 8 + 3) c3).setIfInBounds (j * 8 + 4) c4).setIfInBounds (j * 8 + 5) c5).setIfInBounds (j * 8 + 6) c6).setIfInBounds (j * 8 + 7) c7)[m]? = some d := fun m d hm hd =>
      hne _ m _ d hm (hne _ m _ d hm (hne _ m _ d hm (hne _ m _ d hm (hne _ m _ d hm (hne _ m _ d hm (hne _ m _ d hm (hne _ m _ d hm hd 0 (by omega)) 1 (by omega)) 2 (by omega)) 3 (by omega)) 4 (by omega)) 5 (by omega)) 6 (by omega)) 7 (by omega)
    exact ⟨d0, d1, d2, d3, d4, d5, d6, d7, hall _ _ (by omega) e0, hall _ _ (by omega) e1, hall _ _ (by omega) e2, hall _ _ (by omega) e3, hall _ _ (by omega) e4, hall _ _ (by omega) e5, hall _ _ (by omega) e6, hall _ _ (by omega) e7, hr'.keep8 (Or.inl (by omega)) _ _ _ _ _ _ _ _⟩
theorem NPart.done {wr : World} {bo : Nat} {l : List Nd} (h : NPart wr bo l l.length) : NAll wr bo wr.heap.size l (some ⟨bo, 0, none⟩) := by
  have hlt := h.lt
  obtain ⟨cs, h1, h2, h3⟩ := h
  refine NAll.of (Nat.le_refl _) hlt l 0 (fun i hi => ?_)
  obtain ⟨c0, c1, c2, c3, c4, c5, c6, c7, e0, e1, e2, e3, e4, e5, e6, e7, hr⟩ := h3 i hi hi
  have hc : ∀ o, wr.cell? ⟨bo, o, none⟩ = cs[o]? := fun o => cell_of_row _ _ o _ _ _ h1
  refine ⟨c0, c1, c2, c3, c4, c5, c6, c7, ?_, ?_, ?_, ?_, ?_, ?_, ?_, ?_, hr.wide (by omega) (Nat.le_refl _)⟩ <;> (rw [hc, Nat.zero_add]; assumption)

/-- Nothing. -/
abbrev zV : T := .mk 0 0 ⟨#[]⟩ []
theorem zV_rep (w : World) (lo hi : Nat) : Rep w lo hi zV (.agg #[.int .i64 0, .int .i64 0, .string ⟨#[]⟩, .slice none 0 0]) := by
  unfold Rep
  exact ⟨none, 0, rfl, by unfold I64; omega, by unfold I64; omega, by show (0 : Nat) ≤ _; omega, Nat.le_refl _, by simp, by unfold RepAll; trivial⟩
/-- A node with no name, of no value. -/
theorem NRep.mk_ {w : World} {lo hi : Nat} {o n : Int} {l : List Nd} {p : Option Addr} {cap : Nat} (ho : I64 o) (hn : I64 n) (h1 : l.length ≤ cap) (h2 : l.length * 112 ≤ 140737488355328) (h3 : NAll w lo hi l p) :
    NRep w lo hi (.mk o n ⟨#[]⟩ zV l) (.agg #[.int .i64 o, .int .i64 n, .string ⟨#[]⟩, .int .i64 0, .int .i64 0, .string ⟨#[]⟩, .slice none 0 0, .slice p l.length cap]) := by
  unfold NRep
  exact ⟨0, 0, ⟨#[]⟩, none, 0, 0, p, cap, rfl, ho, hn, by show (0 : Nat) ≤ _; omega, zV_rep _ _ _, h1, h2, h3⟩

end Go.Proofs.YtemkikjcjhmlaaaGreatDoor

namespace Go.Proofs.YtemkikjcjhmlaaaGreatDoor
open Go.RowKit
set_option maxRecDepth 100000

def NewN (w : World) (t : Nd) (e : Ending) (w' : World) : Prop := ∃ x, e = .returned x ∧ NRep w' w.heap.size w'.heap.size t x ∧ Below w.heap.size w w'
def NewNs (w : World) (l : List Nd) (e : Ending) (w' : World) : Prop := ∃ q c, e = .returned (.slice q l.length c) ∧ l.length ≤ c ∧ NAll w' w.heap.size w'.heap.size l q ∧ Below w.heap.size w w'
theorem Tryz.info_N : (Tryz.prog.info? 33).map (fun i => (i.zero, i.size, i.bytes)) = some (some (.agg #[.int .i64 0, .int .i64 0, .string ⟨#[]⟩, .int .i64 0, .int .i64 0, .string ⟨#[]⟩, .slice none 0 0, .slice none 0 0]), 8, 112) := by kernel_rfl
theorem nrep_form {w : World} {lo hi : Nat} {t : Nd} {x : Value} (h : NRep w lo hi t x) : ∃ (o n : Int) (s : ByteArray) (k m : Int) (z : ByteArray) (q : Option Addr) (ql qc : Nat) (r : Option Addr) (lc c : Nat), x = .agg #[.int .i64 o, .int .i64 n, .string s, .int .i64 k, .int .i64 m, .string z, .slice q ql qc, .slice r lc c] := by
  obtain ⟨o, n, s, v, l⟩ := t
  obtain ⟨k, m, z, q, ql, qc, p, cap, rfl, _⟩ := h.open
  exact ⟨_, _, _, _, _, _, _, _, _, _, _, _, rfl⟩
theorem held8 {a b c d e f g h r : Prop} (H : a ∧ b ∧ c ∧ d ∧ e ∧ f ∧ g ∧ h ∧ r) : a ∧ b ∧ c ∧ d ∧ e ∧ f ∧ g ∧ h := by
  obtain ⟨h1, h2, h3, h4, h5, h6, h7, h8, _⟩ := H; exact ⟨h1, h2, h3, h4, h5, h6, h7, h8⟩
end Go.Proofs.YtemkikjcjhmlaaaGreatDoor

namespace Go.Proofs.YtemkikjcjhmlaaaGreatDoor
open Go.RowKit

mutual
/-- How many are left of so many items; below 0: more. -/
def fewT : T → Int → Int → Int
  | .mk _ _ s l, left, deep => if left - 1 - (s.size : Int) / 16 < 0 ∨ 60 < deep then -1 else fewAll l (left - 1 - (s.size : Int) / 16) (deep + 1)
def fewAll : List T → Int → Int → Int
  | [], left, _ => left
  | t :: r, left, deep => if fewT t left deep < 0 then -1 else fewAll r (fewT t left deep) deep
end
theorem fewAll_drop (l : List T) (j : Nat) (h : j < l.length) (y d : Int) : fewAll (l.drop j) y d = if fewT l[j] y d < 0 then -1 else fewAll (l.drop (j + 1)) (fewT l[j] y d) d := by
  rw [List.drop_eq_getElem_cons h, fewAll]
theorem few_le : ∀ (t : T) (y d : Int), 0 ≤ y → fewT t y d ≤ y := by
  refine T.ind_ (fun k n s l ih y d hy => ?_)
  have hall : ∀ (l : List T), (∀ t ∈ l, ∀ (y d : Int), 0 ≤ y → fewT t y d ≤ y) → ∀ (y d : Int), 0 ≤ y → fewAll l y d ≤ y := by
    intro l
    induction l with
    | nil => intro _ y d _; rw [fewAll]; omega
    | cons x r ihr =>
      intro h y d hy
      rw [fewAll]
      have h1 := h x (by simp) y d hy
      split
      · omega
      · have h2 := ihr (fun t ht => h t (by simp [ht])) (fewT x y d) d (by omega)
        omega
  rw [fewT]
  split
  · omega
  · have := hall l ih (y - 1 - (s.size : Int) / 16) (d + 1) (by omega)
    omega

def FewAt (t : T) : Prop := ∀ (w : World) (lo hi : Nat) (v : Value) (y d : Int), Rep w lo hi t v → hi ≤ w.heap.size → 0 ≤ y → y ≤ 6000 → 0 ≤ d → d ≤ 61 →
  Calls Tryz.prog 21 #[v, .int .i64 y, .int .i64 d] w fun e w' => e = .returned (.int .i64 (fewT t y d)) ∧ Below w.heap.size w w'

set_option maxHeartbeats 1000000 in
theorem few_any : ∀ t, FewAt t := by
  refine T.ind_ (fun k n s l ih w lo hi v y d hr hhi hy0 hy1 hd0 hd1 => ?_)
  unfold Rep at hr
  obtain ⟨p, cap, rfl, hk, hn, hs, hlc, hcap, hall⟩ := hr
  have H := Lib.hid ih; clear ih
  have HALL := Lib.hid hall; clear hall
  by_cases hc : y - 1 - (s.size : Int) / 16 < 0
  · have hO := Lib.hid (show fewT (.mk k n s l) y d = -1 from by rw [fewT, if_pos (Or.inl hc)])
    go_enter Tryz.func21, Tryz.ntmps21
    go_wp2
    all_goals
      go_ret
      exact ⟨ret_int hO.out.symm, by go_grown⟩
  by_cases hd : 60 < d
  · have hO := Lib.hid (show fewT (.mk k n s l) y d = -1 from by rw [fewT, if_pos (Or.inr hd)])
    go_enter Tryz.func21, Tryz.ntmps21
    go_wp2
    all_goals
      go_ret
      exact ⟨ret_int hO.out.symm, by go_grown⟩
  have hO := Lib.hid (show fewT (.mk k n s l) y d = fewAll l (y - 1 - (s.size : Int) / 16) (d + 1) from by rw [fewT, if_neg (by omega)])
  have hq : y - 1 - (s.size : Int) / 16 ≤ 6000 := by omega
  go_enter Tryz.func21, Tryz.ntmps21
  go_wp2
  have hb4 := (box4 w (.int .i64 k) (.int .i64 n) (.string s) (.slice p l.length cap) 31).2.2.2
  generalize hW1 : w.alloc (.cells #[.int .i64 k, .int .i64 n, .string s, .slice p l.length cap] 31) = W1 at hb4
  have hWb : Below w.heap.size w W1 := by subst hW1; exact (Below.refl _ _).alloc (Nat.le_refl _) _
  have hWs : W1.heap.size = w.heap.size + 1 := by subst hW1; simp
  clear hW1
  go_loopw [1, 7] (fun o i wr => ∃ (j : Nat) (x : Int), j ≤ l.length ∧ i = .int .i64 j ∧ o = .int .i64 x ∧ 0 ≤ x ∧ x ≤ 6000 ∧ Hid (fewAll l (y - 1 - (s.size : Int) / 16) (d + 1) = fewAll (l.drop j) x (d + 1)) ∧ Below W1.heap.size W1 wr) (fun _ i _ => l.length - (intOf i).toNat)
  case atStart => exact ⟨0, _, Nat.zero_le _, rfl, rfl, by omega, hq, rfl, Below.refl _ _⟩
  case round =>
    obtain ⟨j, x, hj, rfl, rfl, hx0, hx1, HO, hbr⟩ := hrel
    have hbox : wr.cell? ⟨w.heap.size, 3, none⟩ = some (.slice p l.length cap) := (hbr.cell (p := ⟨w.heap.size, 3, none⟩) (by rw [hWs]; exact Nat.lt_succ_self _)).trans hb4
    have hz := hbr.size
    by_cases hlt : j < l.length
    · obtain ⟨b, off, k1, n1, s1, l1, q1, cc1, rfl, _, hbhi, hli, h0, h1, h2, h3, hrep⟩ := (HALL.out.below (hWb.trans (hbr.mono (by omega))) hhi).item j hlt
      have hA0 := fewAll_drop l j hlt x (d + 1)
      rw [hli] at hA0
      have hAA := Lib.hid (HO.out.trans hA0); clear hA0
      have hlj : l[j] ∈ l := List.getElem_mem hlt
      rw [hli] at hlj hrep
      have hle := few_le (.mk k1 n1 s1 l1) x (d + 1) hx0
      have hWb2 := Lib.hid hWb
      clear hli HO hWb
      go_wp2_with (go_at_call 21; refine (H.out _ hlj _ lo hi _ x (d + 1) hrep (by omega) hx0 hx1 (by omega) (by omega)).mono ?_; rintro e w2 ⟨rfl, hb2⟩; obtain ⟨hc2, hf2⟩ := below_bcell hb2)
      · have h : fewT (.mk k1 n1 s1 l1) x (d + 1) < 0 := by assumption
        go_ret
        refine ⟨ret_int ?_, ?_⟩
        · rw [hO.out, hAA.out, if_pos h]
        · exact hWb2.out.trans ((hbr.trans (hb2.mono hz)).mono (by omega))
      · have h : 0 ≤ fewT (.mk k1 n1 s1 l1) x (d + 1) := by omega
        go_roundw
        case rel =>
          refine ⟨j + 1, _, by omega, by go_num, rfl, h, by omega, ?_, hbr.trans (hb2.mono hz)⟩
          show _ = _
          rw [hAA.out, if_neg (by omega)]
        case measure => simp [intOf]; omega
    · have hjl : j = l.length := by omega
      subst hjl
      go_wp2
      go_ret
      refine ⟨ret_int ?_, hWb.trans (hbr.mono (by omega))⟩
      rw [hO.out, HO.out, List.drop_length, fewAll]

end Go.Proofs.YtemkikjcjhmlaaaGreatDoor

namespace Go.Proofs.YtemkikjcjhmlaaaGreatDoor
open Go.RowKit
set_option maxRecDepth 100000

mutual
/-- How many nodes are left of so many; below 0: more. -/
def ndN : Nd → Int → Int → Int
  | .mk _ _ s v l, left, deep => if left - 1 - (s.size : Int) / 16 < 0 ∨ 60 < deep then -1 else if fewT v (left - 1 - (s.size : Int) / 16) 0 < 0 then -1 else if ndAll l (fewT v (left - 1 - (s.size : Int) / 16) 0) (deep + 1) < 0 then -1 else ndAll l (fewT v (left - 1 - (s.size : Int) / 16) 0) (deep + 1)
def ndAll : List Nd → Int → Int → Int
  | [], left, _ => left
  | t :: r, left, deep => if ndN t left deep < 0 then -1 else ndAll r (ndN t left deep) deep
end
theorem ndAll_drop (l : List Nd) (j : Nat) (h : j < l.length) (y d : Int) : ndAll (l.drop j) y d = if ndN l[j] y d < 0 then -1 else ndAll (l.drop (j + 1)) (ndN l[j] y d) d := by
  rw [List.drop_eq_getElem_cons h, ndAll]
/-- What is left, with what was counted, is no more than there was. -/
theorem ndAll_cnt_of (l : List Nd) (H : ∀ t ∈ l, ∀ (y d : Int), 0 ≤ y → 0 ≤ ndN t y d → ndN t y d + (cnt t : Int) ≤ y) : ∀ (y d : Int), 0 ≤ y → 0 ≤ ndAll l y d → ndAll l y d + (cntAll l : Int) ≤ y := by
  induction l with
  | nil => intro y d _ _; rw [ndAll, cntAll]; omega
  | cons x r ihr =>
    intro y d hy h
    rw [ndAll] at h ⊢
    by_cases hx : ndN x y d < 0
    · rw [if_pos hx] at h; omega
    · rw [if_neg hx] at h ⊢
      have h1 := H x (by simp) y d hy (by omega)
      have h2 := ihr (fun t ht => H t (by simp [ht])) (ndN x y d) d (by omega) h
      rw [cntAll]; omega
theorem ndN_cnt : ∀ (t : Nd) (y d : Int), 0 ≤ y → 0 ≤ ndN t y d → ndN t y d + (cnt t : Int) ≤ y := by
  refine Nd.ind_ (fun o n s v l ih y d hy h => ?_)
  rw [ndN] at h ⊢
  by_cases h1 : y - 1 - (s.size : Int) / 16 < 0 ∨ 60 < d
  · rw [if_pos h1] at h; omega
  rw [if_neg h1] at h ⊢
  have hf := few_le v (y - 1 - (s.size : Int) / 16) 0 (by omega)
  by_cases h2 : fewT v (y - 1 - (s.size : Int) / 16) 0 < 0
  · rw [if_pos h2] at h; omega
  rw [if_neg h2] at h ⊢
  by_cases h3 : ndAll l (fewT v (y - 1 - (s.size : Int) / 16) 0) (d + 1) < 0
  · rw [if_pos h3] at h; omega
  rw [if_neg h3] at h ⊢
  have h4 := ndAll_cnt_of l ih _ (d + 1) (by omega) h
  rw [cnt]; omega
theorem ndAll_cnt (l : List Nd) (y d : Int) (hy : 0 ≤ y) (h : 0 ≤ ndAll l y d) : ndAll l y d + (cntAll l : Int) ≤ y := ndAll_cnt_of l (fun t _ => ndN_cnt t) y d hy h
theorem ndAll_neg : ∀ (l : List Nd) (y d : Int), ndAll l y d < 0 → 0 ≤ y → ndAll l y d = -1
  | [], y, d, h, hy => by rw [ndAll] at h; omega
  | x :: r, y, d, h, hy => by
    rw [ndAll] at h ⊢
    by_cases hx : ndN x y d < 0
    · rw [if_pos hx]
    · rw [if_neg hx] at h ⊢; exact ndAll_neg r _ d h (by omega)

theorem ndN_b1 {o n : Int} {s : ByteArray} {v : T} {l : List Nd} {x d : Int} (h : x - 1 - (s.size : Int) / 16 < 0 ∨ 60 < d) : ndN (.mk o n s v l) x d = -1 := by rw [ndN, if_pos h]
theorem ndN_b2 {o n : Int} {s : ByteArray} {v : T} {l : List Nd} {x d : Int} (h1 : ¬ (x - 1 - (s.size : Int) / 16 < 0 ∨ 60 < d)) (h : fewT v (x - 1 - (s.size : Int) / 16) 0 < 0) : ndN (.mk o n s v l) x d = -1 := by rw [ndN, if_neg h1, if_pos h]
theorem ndN_b3 {o n : Int} {s : ByteArray} {v : T} {l : List Nd} {x d : Int} (h1 : ¬ (x - 1 - (s.size : Int) / 16 < 0 ∨ 60 < d)) (h2 : ¬ fewT v (x - 1 - (s.size : Int) / 16) 0 < 0) (h : ndAll l (fewT v (x - 1 - (s.size : Int) / 16) 0) (d + 1) < 0) : ndN (.mk o n s v l) x d = -1 := by rw [ndN, if_neg h1, if_neg h2, if_pos h]
theorem ndN_ok {o n : Int} {s : ByteArray} {v : T} {l : List Nd} {x d : Int} (h1 : ¬ (x - 1 - (s.size : Int) / 16 < 0 ∨ 60 < d)) (h2 : ¬ fewT v (x - 1 - (s.size : Int) / 16) 0 < 0) (h : ¬ ndAll l (fewT v (x - 1 - (s.size : Int) / 16) 0) (d + 1) < 0) : ndN (.mk o n s v l) x d = ndAll l (fewT v (x - 1 - (s.size : Int) / 16) 0) (d + 1) := by rw [ndN, if_neg h1, if_neg h2, if_neg h]

def NdsOk (L : List Nd) : Prop := ∀ (w : World) (lo hi : Nat) (p : Option Addr) (cap : Nat) (y d : Int), NAll w lo hi L p → L.length ≤ cap → L.length * 112 ≤ 140737488355328 → hi ≤ w.heap.size → 0 ≤ y → y ≤ 6000 → 0 ≤ d → d ≤ 61 →
  Calls Tryz.prog 13 #[.slice p L.length cap, .int .i64 y, .int .i64 d] w fun e w' => e = .returned (.int .i64 (ndAll L y d)) ∧ Below w.heap.size w w'

set_option maxHeartbeats 1000000 in
theorem nds_of (L : List Nd) (ih : ∀ t ∈ L, NdsOk t.l) : NdsOk L := by
  intro w lo hi p cap y d hall hlc hcap hhi hy0 hy1 hd0 hd1
  have HIH := Lib.hid ih
  have HALL := Lib.hid hall
  clear ih hall
  go_enter Tryz.func13, Tryz.ntmps13
  go_wp2
  go_loopw [1, 7] (fun o i wr => ∃ (j : Nat) (x : Int), j ≤ L.length ∧ i = .int .i64 j ∧ o = .int .i64 x ∧ 0 ≤ x ∧ x ≤ 6000 ∧ Hid (ndAll L y d = ndAll (L.drop j) x d) ∧ Hid (Below w.heap.size w wr)) (fun _ i _ => L.length - (intOf i).toNat)
  case atStart => exact ⟨0, _, Nat.zero_le _, rfl, rfl, hy0, hy1, rfl, Below.refl _ _⟩
  case round =>
    obtain ⟨j, x, hj, rfl, rfl, hx0, hx1, HO, HBR⟩ := hrel
    have hz := HBR.out.size
    by_cases hlt : j < L.length
    · obtain ⟨b, off, o, n, s, v, ll, k, m, z, q, ql, qc, r, c, hp, _, hbhi, hli, h0, h1, h2, h3, h4, h5, h6, h7, hrep⟩ := (HALL.out.below HBR.out hhi).item j hlt
      have hA0 := ndAll_drop L j hlt x d
      have hih := HIH.out _ (List.getElem_mem hlt)
      rw [hli] at hA0 hrep hih
      simp only [Nd.l] at hih
      have hAA := Lib.hid (HO.out.trans hA0)
      obtain ⟨_, _, e1, erep, e2, e3, e4⟩ := hrep.parts
      have hbw : b < wr.heap.size := by omega
      subst hp
      clear hA0 hli HO hrep
      by_cases hc : x - 1 - (s.size : Int) / 16 < 0
      · have HF := Lib.hid (show ndAll L y d = -1 from by rw [hAA.out, ndN_b1 (.inl hc)]; rfl)
        clear hih erep e4 hAA
        go_wp2
        all_goals
          go_ret
          exact ⟨ret_int HF.out.symm, HBR.out⟩
      by_cases hd : 60 < d
      · have HF := Lib.hid (show ndAll L y d = -1 from by rw [hAA.out, ndN_b1 (.inr hd)]; rfl)
        clear hih erep e4 hAA
        go_wp2
        all_goals
          go_ret
          exact ⟨ret_int HF.out.symm, HBR.out⟩
      obtain ⟨y1, hy1e⟩ : ∃ y1, y1 = x - 1 - (s.size : Int) / 16 := ⟨_, rfl⟩
      have hle := few_le v y1 0 (by omega)
      have HV := Lib.hid (few_any v wr lo hi _ y1 0 erep (by omega) (by omega) (by omega) (by omega) (by omega))
      by_cases hf : fewT v y1 0 < 0
      · have HF := Lib.hid (show ndAll L y d = -1 from by rw [hAA.out, ndN_b2 (by omega) (hy1e ▸ hf)]; rfl)
        clear hih erep e4 hAA
        rw [hy1e] at HV hf
        go_wp2_with (go_at_call 21; refine HV.out.mono ?_; rintro e w2 ⟨rfl, hb2⟩; have HB2 := Lib.hid (HBR.out.trans (hb2.mono hz)); clear hb2)
        go_ret
        exact ⟨ret_int HF.out.symm, HB2.out⟩
      obtain ⟨y2, hy2e⟩ : ∃ y2, y2 = fewT v y1 0 := ⟨_, rfl⟩
      have HN := Lib.hid (fun (w2 : World) (hb2 : Below wr.heap.size wr w2) => hih w2 lo hi r c y2 (d + 1) (e4.below hb2 (by omega)) e2 e3 (by have := hb2.size; omega) (by omega) (by omega) (by omega) (by omega))
      by_cases hn : ndAll ll y2 (d + 1) < 0
      · have HF := Lib.hid (show ndAll L y d = -1 from by rw [hAA.out, ndN_b3 (by omega) (hy1e ▸ hf) (by rw [← hy1e, ← hy2e]; exact hn)]; rfl)
        clear hih erep e4 hAA
        rw [hy1e] at HV
        rw [hy1e] at hy2e
        rw [hy2e] at HN hn
        rw [hy1e] at hf
        go_wp2_with (first
          | (go_at_call 21; refine HV.out.mono ?_; rintro e w2 ⟨rfl, hb2⟩; have HB2 := Lib.hid (HBR.out.trans (hb2.mono hz)); have HN2 := Lib.hid (HN.out _ hb2); have h7w := (hb2.cell (p := ⟨b, off + j * 8 + 7, none⟩) hbw).trans h7; clear hb2)
          | (go_at_call 13; refine HN2.out.mono ?_; rintro e w3 ⟨rfl, hb3⟩; have HB3 := Lib.hid (HB2.out.trans (hb3.mono HB2.out.size)); clear hb3))
        go_ret
        exact ⟨ret_int HF.out.symm, HB3.out⟩
      · have hcn := ndAll_cnt ll y2 (d + 1) (by omega) (by omega)
        obtain ⟨y3, hy3e⟩ : ∃ y3, y3 = ndAll ll y2 (d + 1) := ⟨_, rfl⟩
        have HF := Lib.hid (show ndAll L y d = ndAll (L.drop (j + 1)) y3 d from by rw [hAA.out, ndN_ok (by omega) (hy1e ▸ hf) (by rw [← hy1e, ← hy2e]; exact hn), ← hy1e, ← hy2e, ← hy3e, if_neg (by rw [hy3e]; exact hn)])
        rw [← hy3e] at hn hcn
        have HN' := Lib.hid (fun w2 hb2 => by have := HN.out w2 hb2; rw [← hy3e] at this; exact this)
        have HV' := Lib.hid (by have := HV.out; rw [← hy2e] at this; rw [hy1e] at this; exact this)
        have hy2f : ¬ y2 < 0 := by omega
        have hy3b : y3 ≤ 6000 := by omega
        clear hih erep e4 hAA HN HV hy1e hy2e hy3e hf hcn
        go_wp2_with (first
          | (go_at_call 21; refine HV'.out.mono ?_; rintro e w2 ⟨rfl, hb2⟩; have HB2 := Lib.hid (HBR.out.trans (hb2.mono hz)); have HN2 := Lib.hid (HN'.out _ hb2); have h7w := (hb2.cell (p := ⟨b, off + j * 8 + 7, none⟩) hbw).trans h7; clear hb2)
          | (go_at_call 13; refine HN2.out.mono ?_; rintro e w3 ⟨rfl, hb3⟩; have HB3 := Lib.hid (HB2.out.trans (hb3.mono HB2.out.size)); clear hb3))
        go_roundw
        case rel => exact ⟨j + 1, y3, by omega, by go_num, rfl, by omega, hy3b, HF, HB3⟩
        case measure => simp [intOf]; omega
    · have hjl : j = L.length := by omega
      have HF := Lib.hid (show ndAll L y d = x from by rw [HO.out, hjl, List.drop_length, ndAll])
      go_wp2
      go_ret
      exact ⟨ret_int HF.out.symm, HBR.out⟩
theorem nds_any (L : List Nd) : NdsOk L := by
  have key : ∀ t : Nd, NdsOk t.l := Nd.ind_ (fun o n s v l ih => nds_of l ih)
  exact nds_of L (fun t _ => key t)

set_option maxHeartbeats 400000 in
theorem wNodes_any (L : List Nd) (most : Int) (hm0 : 0 ≤ most) (hm1 : most ≤ 6000) (w : World) (lo hi : Nat) (p : Option Addr) (cap : Nat) (hall : NAll w lo hi L p) (hlc : L.length ≤ cap) (hcap : L.length * 112 ≤ 140737488355328) (hhi : hi ≤ w.heap.size) :
    Calls Tryz.prog 8 #[.slice p L.length cap, .int .i64 most] w fun e w' => e = .returned (.bool (decide (0 ≤ ndAll L most 0))) ∧ Below w.heap.size w w' := by
  have HC := Lib.hid (nds_any L w lo hi p cap most 0 hall hlc hcap hhi hm0 hm1 (by omega) (by omega))
  clear hall
  go_enter Tryz.func8, Tryz.ntmps8
  go_wp2_with (go_at_call 13; refine HC.out.mono ?_; rintro e w2 ⟨rfl, hb2⟩)
  go_ret
  exact ⟨rfl, hb2⟩
end Go.Proofs.YtemkikjcjhmlaaaGreatDoor

namespace Go.Proofs.YtemkikjcjhmlaaaGreatDoor
open Go.RowKit

mutual
/-- The order of two values: below 0, 0, above 0. -/
def ord : T → T → Int
  | .mk k n s l, .mk k' n' s' l' => if k ≠ k' then cmpI k k' else if k = 2 then Lib.compareBytes s.data.toList s'.data.toList else if k = 4 then ordAll l l' else cmpI n n'
def ordAll : List T → List T → Int
  | [], [] => 0
  | [], _ :: _ => -1
  | _ :: _, [] => 1
  | t :: r, t' :: r' => if ord t t' ≠ 0 then ord t t' else ordAll r r'
end

theorem ordAll_drop (l l' : List T) (j : Nat) (h : j < l.length) (h' : j < l'.length) : ordAll (l.drop j) (l'.drop j) = if ord l[j] l'[j] ≠ 0 then ord l[j] l'[j] else ordAll (l.drop (j + 1)) (l'.drop (j + 1)) := by
  rw [List.drop_eq_getElem_cons h, List.drop_eq_getElem_cons h', ordAll]

/-- Same, in Bool's words. -/
def sameB (t t' : T) : Bool := ord t t' == 0
end Go.Proofs.YtemkikjcjhmlaaaGreatDoor

namespace Go.Proofs.YtemkikjcjhmlaaaGreatDoor

/-- No circle: all three are 0, or there is one above and one below. -/
def C3 (p q r : Int) : Prop := ¬(p ≤ 0 ∧ q ≤ 0 ∧ r ≤ 0 ∧ (p < 0 ∨ q < 0 ∨ r < 0)) ∧ ¬(0 ≤ p ∧ 0 ≤ q ∧ 0 ≤ r ∧ (0 < p ∨ 0 < q ∨ 0 < r))
theorem C3.lex {p q r p' q' r' : Int} (h : C3 p q r) (h' : p = 0 → q = 0 → r = 0 → C3 p' q' r') : C3 (if p ≠ 0 then p else p') (if q ≠ 0 then q else q') (if r ≠ 0 then r else r') := by
  by_cases e : p = 0 ∧ q = 0 ∧ r = 0
  · obtain ⟨e1, e2, e3⟩ := e
    subst e1 e2 e3
    simpa using h' rfl rfl rfl
  · unfold C3 at h ⊢
    by_cases e1 : p = 0 <;> by_cases e2 : q = 0 <;> by_cases e3 : r = 0 <;> simp only [e1, e2, e3, ne_eq, not_true_eq_false, not_false_eq_true, if_true, if_false] <;> omega
theorem cmpI_ne (a b : Int) : cmpI a b ≠ 0 ↔ a ≠ b := by
  unfold cmpI
  by_cases h1 : a < b
  · rw [if_pos h1]; omega
  · rw [if_neg h1]
    by_cases h2 : b < a
    · rw [if_pos h2]; omega
    · rw [if_neg h2]; omega
theorem cmpI_anti (a b : Int) : cmpI b a = -cmpI a b := by unfold cmpI; repeat' split <;> omega
theorem cmpI_c3 (a b c : Int) : C3 (cmpI a b) (cmpI b c) (cmpI c a) := by
  unfold cmpI C3
  by_cases h1 : a < b <;> by_cases h2 : b < a <;> by_cases h3 : b < c <;> by_cases h4 : c < b <;> by_cases h5 : c < a <;> by_cases h6 : a < c <;> simp only [h1, h2, h3, h4, h5, h6, if_true, if_false] <;> omega
theorem cmpI_zero {a b : Int} (h : cmpI a b = 0) : a = b := by
  by_cases e : a = b
  · exact e
  · exact absurd h ((cmpI_ne a b).2 e)

def cmpB (a b : UInt8) : Int := cmpI a.toNat b.toNat
theorem compareBytes_cons (a b : UInt8) (x y : List UInt8) : Lib.compareBytes (a :: x) (b :: y) = if cmpB a b ≠ 0 then cmpB a b else Lib.compareBytes x y := by
  rw [Lib.compareBytes]; unfold cmpB cmpI
  simp only [UInt8.lt_iff_toNat_lt]
  by_cases h1 : a.toNat < b.toNat
  · have h1' : (a.toNat : Int) < b.toNat := by omega
    simp [h1, h1']
  · by_cases h2 : b.toNat < a.toNat
    · have h1' : ¬ (a.toNat : Int) < b.toNat := by omega
      have h2' : (b.toNat : Int) < a.toNat := by omega
      simp [h1, h2, h1', h2']
    · have h1' : ¬ (a.toNat : Int) < b.toNat := by omega
      have h2' : ¬ (b.toNat : Int) < a.toNat := by omega
      simp [h1, h2, h1', h2']
theorem bytes_anti : ∀ x y : List UInt8, Lib.compareBytes y x = -Lib.compareBytes x y
  | [], [] => rfl
  | [], _ :: _ => rfl
  | _ :: _, [] => rfl
  | a :: x, b :: y => by
    rw [compareBytes_cons, compareBytes_cons, bytes_anti x y]
    have := cmpI_anti a.toNat b.toNat
    unfold cmpB
    rw [this]
    by_cases h : cmpI a.toNat b.toNat = 0
    · simp [h]
    · rw [if_pos (by omega), if_pos h]
theorem bytes_c3 : ∀ x y z : List UInt8, C3 (Lib.compareBytes x y) (Lib.compareBytes y z) (Lib.compareBytes z x)
  | [], [], [] => by simp [Lib.compareBytes, C3]
  | [], [], _ :: _ => by simp [Lib.compareBytes, C3]
  | [], _ :: _, [] => by simp [Lib.compareBytes, C3]
  | _ :: _, [], [] => by simp [Lib.compareBytes, C3]
  | [], _ :: _, _ :: _ => by simp only [Lib.compareBytes, C3]; omega
  | _ :: _, [], _ :: _ => by simp only [Lib.compareBytes, C3]; omega
  | _ :: _, _ :: _, [] => by simp only [Lib.compareBytes, C3]; omega
  | a :: x, b :: y, c :: z => by
    rw [compareBytes_cons, compareBytes_cons, compareBytes_cons]
    exact C3.lex (cmpI_c3 _ _ _) (fun _ _ _ => bytes_c3 x y z)
theorem bytes_zero : ∀ x y : List UInt8, Lib.compareBytes x y = 0 → x = y
  | [], [], _ => rfl
  | [], _ :: _, h => by simp [Lib.compareBytes] at h
  | _ :: _, [], h => by simp [Lib.compareBytes] at h
  | a :: x, b :: y, h => by
    rw [compareBytes_cons] at h
    by_cases e : cmpB a b = 0
    · rw [if_neg (by omega)] at h
      have h1 := cmpI_zero e
      rw [bytes_zero x y h, show a = b from UInt8.toNat_inj.1 (by omega)]
    · rw [if_pos e] at h; exact absurd h e

/-- Behind the kind. -/
def ord2 (k : Int) (n : Int) (s : ByteArray) (l : List T) (n' : Int) (s' : ByteArray) (l' : List T) : Int := if k = 2 then Lib.compareBytes s.data.toList s'.data.toList else if k = 4 then ordAll l l' else cmpI n n'
theorem ord_mk (k n : Int) (s : ByteArray) (l : List T) (k' n' : Int) (s' : ByteArray) (l' : List T) : ord (.mk k n s l) (.mk k' n' s' l') = if cmpI k k' ≠ 0 then cmpI k k' else ord2 k n s l n' s' l' := by
  rw [ord]
  by_cases h : k = k'
  · have e : cmpI k k' = 0 := by
      by_cases e : cmpI k k' = 0
      · exact e
      · exact absurd h ((cmpI_ne _ _).1 e)
    rw [if_neg (c := k ≠ k') (fun hn => hn h), if_neg (c := cmpI k k' ≠ 0) (fun hn => hn e)]; rfl
  · rw [if_pos h, if_pos ((cmpI_ne _ _).2 h)]
theorem ordAll_cons (x y : T) (a b : List T) : ordAll (x :: a) (y :: b) = if ord x y ≠ 0 then ord x y else ordAll a b := by rw [ordAll]
theorem ordAll_anti : ∀ (a b : List T), (∀ x ∈ a, ∀ y, ord y x = -ord x y) → ordAll b a = -ordAll a b
  | [], [], _ => by simp [ordAll]
  | [], _ :: _, _ => by simp [ordAll]
  | _ :: _, [], _ => by simp [ordAll]
  | x :: a, y :: b, h => by
    rw [ordAll_cons, ordAll_cons, h x (by simp) y, ordAll_anti a b (fun t ht => h t (by simp [ht]))]
    by_cases e : ord x y = 0
    · simp [e]
    · rw [if_pos (by omega), if_pos e]
theorem ord_anti : ∀ x y : T, ord y x = -ord x y := by
  refine T.ind_ (fun k n s l ih y => ?_)
  match y with
  | .mk k' n' s' l' =>
    rw [ord_mk, ord_mk, cmpI_anti k k']
    by_cases e : cmpI k k' = 0
    · have hk := cmpI_zero e
      subst hk
      rw [if_neg (by omega), if_neg (by omega)]
      unfold ord2
      by_cases h2 : k = 2
      · rw [if_pos h2, if_pos h2]; exact bytes_anti _ _
      · rw [if_neg h2, if_neg h2]
        by_cases h4 : k = 4
        · rw [if_pos h4, if_pos h4]; exact ordAll_anti l l' ih
        · rw [if_neg h4, if_neg h4]; exact cmpI_anti _ _
    · rw [if_pos (by omega), if_pos e]
theorem ordAll_c3 : ∀ (a b c : List T), (∀ x ∈ a, ∀ y z, C3 (ord x y) (ord y z) (ord z x)) → C3 (ordAll a b) (ordAll b c) (ordAll c a)
  | [], [], [], _ => by simp [ordAll, C3]
  | [], [], _ :: _, _ => by simp [ordAll, C3]
  | [], _ :: _, [], _ => by simp [ordAll, C3]
  | _ :: _, [], [], _ => by simp [ordAll, C3]
  | [], y :: b, z :: c, _ => by
    have e1 : ordAll [] (y :: b) = -1 := by simp [ordAll]
    have e2 : ordAll (z :: c) [] = 1 := by simp [ordAll]
    rw [e1, e2]; unfold C3; omega
  | x :: a, [], z :: c, _ => by
    have e1 : ordAll (x :: a) [] = 1 := by simp [ordAll]
    have e2 : ordAll [] (z :: c) = -1 := by simp [ordAll]
    rw [e1, e2]; unfold C3; omega
  | x :: a, y :: b, [], _ => by
    have e1 : ordAll (y :: b) [] = 1 := by simp [ordAll]
    have e2 : ordAll [] (x :: a) = -1 := by simp [ordAll]
    rw [e1, e2]; unfold C3; omega
  | x :: a, y :: b, z :: c, h => by
    rw [ordAll_cons, ordAll_cons, ordAll_cons]
    exact C3.lex (h x (by simp) y z) (fun _ _ _ => ordAll_c3 a b c (fun t ht => h t (by simp [ht])))
theorem ord_c3 : ∀ x y z : T, C3 (ord x y) (ord y z) (ord z x) := by
  refine T.ind_ (fun k n s l ih y z => ?_)
  match y, z with
  | .mk k' n' s' l', .mk k'' n'' s'' l'' =>
    rw [ord_mk, ord_mk, ord_mk]
    refine C3.lex (cmpI_c3 _ _ _) (fun e1 e2 _ => ?_)
    have hk := cmpI_zero e1
    have hk2 := cmpI_zero e2
    subst hk; subst hk2
    unfold ord2
    by_cases h2 : k = 2
    · simp only [if_pos h2]; exact bytes_c3 _ _ _
    · simp only [if_neg h2]
      by_cases h4 : k = 4
      · simp only [if_pos h4]; exact ordAll_c3 l l' l'' ih
      · simp only [if_neg h4]; exact cmpI_c3 _ _ _
theorem ord_refl0 (x : T) : ord x x = 0 := by have := ord_anti x x; omega
/-- 'Ahead of' is a strict weak order. -/
theorem ord_swo {α : Type} [Inhabited α] (f : α → T) : Sort.SWO (fun x y => decide (ord (f x) (f y) < 0)) where
  irrefl := fun x => by simp [ord_refl0]
  trans := fun x y z h1 h2 => by
    simp only [decide_eq_true_eq] at *
    have h3 := ord_c3 (f x) (f y) (f z)
    have h4 := ord_anti (f x) (f z)
    unfold C3 at h3; omega
  ntrans := fun x y z h1 h2 => by
    simp only [decide_eq_false_iff_not, Int.not_lt] at *
    have h3 := ord_c3 (f x) (f y) (f z)
    have h4 := ord_anti (f x) (f z)
    unfold C3 at h3; omega
end Go.Proofs.YtemkikjcjhmlaaaGreatDoor
