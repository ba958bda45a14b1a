/- The document's odd: what a While, or a Fork, has. -/
import Derived.Test.YtemkikjcjhmlaaaGreatDoorM31
import Derived.Deep.RegionHeld3
import Derived.Deep.RegionHeldLaw
import Derived.Deep.DeepCutAuto
namespace Go.Proofs.YtemkikjcjhmlaaaGreatDoor
open Go.RowKit
set_option maxRecDepth 100000

set_option maxHeartbeats 8000000 in
/-- What a While, or a Fork, has. -/
theorem rodd_f2 (o n : Int) (s : ByteArray) (v : T) (l : List Nd) (x : Value) (a : Int) (lp : Bool) (w : World) (lo hi : Nat) (hr : NRep w lo hi (.mk o n s v l) x) (hhi : hi ≤ w.heap.size) (ha : 0 ≤ a ∧ a ≤ 8) (hcn : cntAll l ≤ 1000000000) (hok : shapeBad o a lp s v l.length = false) (hnm : nameBad o s = false) (ih : ∀ t ∈ l, ROk t) (hn : o ≠ 1) (hn2 : o = 44 ∨ o = 48) :
    Calls Tryz.prog 17 #[x, .int .i64 (rp a), .bool lp] w fun e w' => e = .returned (fR (ckL l 0 o a (loopIn o lp) ((l.length : Int) - 1))) ∧ Below w.heap.size w w' := by
  obtain ⟨k, m, z, q, ql, qc, p, cap, rfl, hio, hin, hsz, hrv, hlc, hl112, hall⟩ := hr.open
  obtain ⟨e1, e2, e3, e4⟩ := rep_open hrv
  have HALL := Lib.hid hall
  have hll := len_cnt l
  have HO := Lib.hid (OB.start w (.cells #[.int .i64 o, .int .i64 n, .string s, .int .i64 k, .int .i64 m, .string z, .slice q ql qc, .slice p l.length cap] 33))
  have HSV := Lib.hid (fun W (hb : Below w.heap.size w W) => by
    have h := sameValue_any v zV W lo hi 0 0 _ _ (hrv.below hb hhi) (by have := hb.size; omega) (zV_rep W 0 0) (Nat.zero_le _)
    rw [eqV_zero] at h; exact h)
  have HRI := Lib.hid (fun W (hb : Below w.heap.size w W) => right_any v W lo hi _ (hrv.below hb hhi) (by have := hb.size; omega))
  have HNM := Lib.hid (fun W => rnamed_any o n s k m z q ql qc p l.length cap W hsz)
  have HST := Lib.hid (fun w => stands_any o a ha w)
  have HEN := Lib.hid (fun w => counts_any o l.length (by omega) w)
  have hw := v_ways (o := o) e1 e2
  obtain ⟨W1, hW1⟩ : ∃ W1, (w.alloc (.cells #[.int .i64 o, .int .i64 n, .string s, .int .i64 k, .int .i64 m, .string z, .slice q ql qc, .slice p l.length cap] 33)).alloc (.cells #[.int .i64 0, .bool false, .int .i64 0, .int .i64 0, .int .i64 0, .string ⟨#[]⟩, .slice none 0 0] 37) = W1 := ⟨_, rfl⟩
  rw [hW1] at HO
  obtain ⟨x0, x1, x2, x3, x4, x5, x6, x7, _⟩ := box8_in _ _ _ _ _ _ _ _ _ _ _ HO.out.nod
  have HSV1 := Lib.hid (HSV.out _ HO.out.bel)
  have HIH := Lib.hid ih
  clear ih
  have hb := hok
  rw [shape_parts o a lp s v l.length ha] at hb
  obtain ⟨N, hN⟩ : ∃ N, N = namedR o s := ⟨_, rfl⟩
  rw [← hN] at HNM hb
  obtain ⟨⟨⟨⟨hS, hE⟩, hV⟩, hN2⟩, hA⟩ : (((mayStandB o a true = true ∧ enoughB o l.length = true) ∧ rightV o v = true) ∧ (N == 2) = false) ∧ awayB o lp = false := by simpa only [Bool.or_eq_false_iff, Bool.not_eq_false'] using hb
  have hn1 := named_one o s
  rw [← hN] at hn1
  rw [hS] at HST
  rw [hE] at HEN
  rw [hV] at hw
  have hA3 : (o == 45) = true ∧ lp = true ∨ (o == 45) = false ∧ (o == 46) = true ∧ lp = true ∨ (o == 45) = false ∧ (o == 46) = false := by
    unfold awayB at hA
    cases h5 : (o == 45) <;> cases h6 : (o == 46) <;> cases lp <;> simp_all
  clear hr hrv hall HSV e1 e2 e3 e4 hok hN hS hE hb hA
  rw [hnm] at hn1
  clear hnm
  generalize rightV o v = V at *
  generalize rightB v = R at *
  generalize emptyV v = M at *
  have hw3 : ((o == 1) = true ∧ R = true ∧ (k != 4) = true ∧ (k != 0) = true) ∨ ((o == 1) = true ∧ R = true ∧ (k != 4) = true ∧ (k != 0) = false ∧ (m != -9223372036854775808) = true) ∨ ((o == 1) = false ∧ M = true) := by
    rcases hw with ⟨_, _, h⟩ | ⟨_, _, _, h⟩ | ⟨_, _, _, _, _, h⟩ | ⟨_, _, h⟩ | ⟨b1, h, b4, b0, _⟩ | ⟨b1, h, b4, b0, bm, _⟩ | ⟨b1, h, _⟩
    · cases h
    · cases h
    · cases h
    · cases h
    · exact .inl ⟨b1, h, b4, b0⟩
    · exact .inr (.inl ⟨b1, h, b4, b0, bm⟩)
    · exact .inr (.inr ⟨b1, h⟩)
  clear hw hV
  have HRP := Lib.hid (rp_ways a ha)
  have h1 : (o == 1) = false ∧ M = true := by
    rcases hw3 with ⟨b1, _⟩ | ⟨b1, _⟩ | h
    · exact absurd (by simpa using b1) hn
    · exact absurd (by simpa using b1) hn
    · exact h
  obtain ⟨b1, rfl⟩ := h1
  have hW : ((o == 42) = false ∧ (o == 43) = false ∧ (o == 44) = true ∧ (o == 48) = false ∧ loopIn o lp = true) ∨ ((o == 42) = false ∧ (o == 43) = false ∧ (o == 44) = false ∧ (o == 48) = true ∧ loopIn o lp = false) := by
    rcases hn2 with h | h
    · subst h; exact .inl ⟨rfl, rfl, rfl, rfl, rfl⟩
    · subst h; exact .inr ⟨rfl, rfl, rfl, rfl, rfl⟩
  clear hn hn2
  clear hw3
  go_enter Tryz.func17, Tryz.ntmps17
  rcases hW with ⟨b42, b43, b44, b48, hlo⟩ | ⟨b42, b43, b44, b48, hlo⟩
  all_goals (focus (
    go_upto_region 5 with (first | (go_at_call 23; refine HSV1.out.mono ?_; rintro e w2 ⟨rfl, hb2⟩; have HO2 := Lib.hid (HO.out.step hb2); obtain ⟨y0, y1, y2, y3, y4, y5, y6, y7, _⟩ := box8_in _ _ _ _ _ _ _ _ _ _ _ HO2.out.nod; clear hb2) | (go_at_call 24; refine (HRI.out _ HO2.out.bel).mono ?_; rintro e w3 ⟨rfl, hb3⟩; have HO2 := Lib.hid (HO2.out.step hb3); obtain ⟨z0, z1, z2, z3, z4, z5, z6, z7, _⟩ := box8_in _ _ _ _ _ _ _ _ _ _ _ HO2.out.nod; clear hb3) | (go_at_call 25; refine (HNM.out _).mono ?_; rintro e w4 ⟨rfl, hb4⟩; have HO4 := Lib.hid (HO2.out.step hb4); obtain ⟨t0, t1, t2, t3, t4, t5, t6, t7, _⟩ := box8_in _ _ _ _ _ _ _ _ _ _ _ HO4.out.nod; clear hb4))
    clear HSV1 HRI HNM
    first | clear HO2 | skip
    rename World => w4
    go_cut [9] from 42 to 53 (fun c9 wx => c9 = .bool false ∧ wx = w4)
    case first =>
      rcases hA3 with ⟨h5, h6⟩ | ⟨h5, h6, h7⟩ | ⟨h5, h6⟩
      · subst h6; go_wp2; go_meet; exact ⟨rfl, rfl⟩
      · subst h7; go_wp2; go_meet; exact ⟨rfl, rfl⟩
      · go_wp2; go_meet; exact ⟨rfl, rfl⟩
    obtain ⟨rfl, rfl⟩ := hcut
    go_wp2_with (first | (go_at_call 26; refine (HST.out _).mono ?_; rintro e w5 ⟨rfl, rfl⟩) | (go_at_call 27; refine (HEN.out _).mono ?_; rintro e w5 ⟨rfl, rfl⟩))
    clear HST HEN hn1 hN2
    have HLO := Lib.hid hlo
    clear hlo
    go_loopw [10] (fun i wr => ∃ j : Nat, j ≤ l.length ∧ i = .int .i64 j ∧ Hid (OB w wr (.cells #[.int .i64 o, .int .i64 n, .string s, .int .i64 k, .int .i64 m, .string z, .slice q ql qc, .slice p l.length cap] 33)) ∧ Hid (ckL (l.drop j) j o a (loopIn o lp) ((l.length : Int) - 1) = ckL l 0 o a (loopIn o lp) ((l.length : Int) - 1))) (fun i _ => l.length - (intOf i).toNat)
    case atStart => exact ⟨0, Nat.zero_le _, rfl, HO4, Lib.hid rfl⟩
    case round =>
      obtain ⟨j, hj, rfl, HL, HD⟩ := hrel
      obtain ⟨y0, y1, y2, y3, y4, y5, y6, y7, _⟩ := box8_in _ _ _ _ _ _ _ _ _ _ _ HL.out.nod
      by_cases hlj : j < l.length
      · obtain ⟨b, off, o', n', s', v', ll, k', m', z', q', ql', qc', r', c', hp, _, hbhi, hli, h0, h1, h2, h3, h4, h5, h6, h7, hrep⟩ := (HALL.out.below HL.out.bel hhi).item j hlj
        have hmem : l[j] ∈ l := List.getElem_mem hlj
        have hcm := cntAll_mem hmem
        have hwr := HL.out.bel.size
        have hgw := heap_lt HL.out.nod
        have hgw1 := heap_lt HL.out.flt
        have HPL := Lib.hid (fun W => rplace_at o n s k m z q ql qc p l.length cap a (rp a) j W (by omega) hlj HRP.out)
        obtain ⟨P, hP⟩ : ∃ P, P = placeInN o a j ((l.length : Int) - 1) := ⟨_, rfl⟩
        have HC := Lib.hid (fun W (hb : Below wr.heap.size wr W) => HIH.out _ hmem _ P (loopIn o lp) W lo hi (hrep.below hb (by omega)) (by have := hb.size; omega) (by rw [hP]; exact placeIn_range _ _ _ _) (by omega))
        have HDR := Lib.hid (ckL_drop l j hlj o a (loopIn o lp) ((l.length : Int) - 1))
        rw [← hP] at HPL HDR
        have hbw : b < wr.heap.size := by omega
        subst hp
        clear hrep hmem hcm hP hli
        obtain ⟨F, hF⟩ : ∃ F, F = ckN l[j] P (loopIn o lp) := ⟨_, rfl⟩
        rw [← hF] at HC HDR
        rw [HLO.out] at HC
        clear hF
        obtain ⟨f0, f1, f2, hf⟩ : ∃ f0 f1 f2, fR F = .agg #[.int .i64 f0, .bool f1, .int .i64 f2, .int .i64 0, .int .i64 0, .string ByteArray.empty, .slice none 0 0] := by
          cases F with
          | none => exact ⟨_, _, _, rfl⟩
          | some f => exact ⟨_, _, _, rfl⟩
        have hF0 := Lib.hid (show (F = none ∧ f0 = 0) ∨ (f0 ≠ 0 ∧ ∃ fl fk, F = some (fl, fk)) from by
          cases F with
          | none => unfold fR fv at hf; injection hf with hf; left; refine ⟨rfl, ?_⟩; simp at hf; exact hf.1.symm
          | some f =>
            right
            unfold fR fp at hf; injection hf with hf; simp at hf
            exact ⟨by have := hf.1; omega, f.1, f.2, rfl⟩)
        rw [hf] at HC
        have HF := Lib.hid hf
        clear hf
        have HD5 := Lib.hid ((Below.refl wr.heap.size wr).drew)
        have HD5a := Lib.hid (HD5.out.alloc HD5.out.size (.cells #[.int .i64 0, .bool false, .int .i64 0, .int .i64 0, .int .i64 0, .string ⟨#[]⟩, .slice none 0 0] 37))
        have HD5b := Lib.hid (((Below.refl wr.heap.size wr).alloc (Nat.le_refl _) (.cells #[.int .i64 0, .bool false, .int .i64 0, .int .i64 0, .int .i64 0, .string ⟨#[]⟩, .slice none 0 0] 37)).drew)
        have HGa := Lib.hid (show (wr.drew.alloc (.cells #[.int .i64 0, .bool false, .int .i64 0, .int .i64 0, .int .i64 0, .string ⟨#[]⟩, .slice none 0 0] 37)).heap[wr.heap.size]? = some (.cells #[.int .i64 0, .bool false, .int .i64 0, .int .i64 0, .int .i64 0, .string ⟨#[]⟩, .slice none 0 0] 37) from heap_alloc_new wr.drew (.cells #[.int .i64 0, .bool false, .int .i64 0, .int .i64 0, .int .i64 0, .string ⟨#[]⟩, .slice none 0 0] 37))
        have HGb := Lib.hid (show ((wr.alloc (.cells #[.int .i64 0, .bool false, .int .i64 0, .int .i64 0, .int .i64 0, .string ⟨#[]⟩, .slice none 0 0] 37)).drew).heap[wr.heap.size]? = some (.cells #[.int .i64 0, .bool false, .int .i64 0, .int .i64 0, .int .i64 0, .string ⟨#[]⟩, .slice none 0 0] 37) from heap_alloc_new wr (.cells #[.int .i64 0, .bool false, .int .i64 0, .int .i64 0, .int .i64 0, .string ⟨#[]⟩, .slice none 0 0] 37))
        have HSF : Hid (∀ W', Below wr.heap.size wr W' → W'.cell? ⟨b, off + j * 8, none⟩ = some (.int .i64 o') ∧ W'.cell? ⟨b, off + j * 8 + 1, none⟩ = some (.int .i64 n') ∧ W'.cell? ⟨b, off + j * 8 + 2, none⟩ = some (.string s') ∧ W'.cell? ⟨b, off + j * 8 + 3, none⟩ = some (.int .i64 k') ∧ W'.cell? ⟨b, off + j * 8 + 4, none⟩ = some (.int .i64 m') ∧ W'.cell? ⟨b, off + j * 8 + 5, none⟩ = some (.string z') ∧ W'.cell? ⟨b, off + j * 8 + 6, none⟩ = some (.slice q' ql' qc') ∧ W'.cell? ⟨b, off + j * 8 + 7, none⟩ = some (.slice r' ll.length c') ∧ W'.cell? ⟨w.heap.size, 0, none⟩ = some (.int .i64 o) ∧ W'.cell? ⟨w.heap.size, 1, none⟩ = some (.int .i64 n) ∧ W'.cell? ⟨w.heap.size, 2, none⟩ = some (.string s) ∧ W'.cell? ⟨w.heap.size, 3, none⟩ = some (.int .i64 k) ∧ W'.cell? ⟨w.heap.size, 4, none⟩ = some (.int .i64 m) ∧ W'.cell? ⟨w.heap.size, 5, none⟩ = some (.string z) ∧ W'.cell? ⟨w.heap.size, 6, none⟩ = some (.slice q ql qc) ∧ W'.cell? ⟨w.heap.size, 7, none⟩ = some (.slice (some ⟨b, off, none⟩) l.length cap)) := Lib.hid fun W' hb => ⟨(hb.cell (p := ⟨b, off + j * 8, none⟩) hbw).trans h0, (hb.cell (p := ⟨b, off + j * 8 + 1, none⟩) hbw).trans h1, (hb.cell (p := ⟨b, off + j * 8 + 2, none⟩) hbw).trans h2, (hb.cell (p := ⟨b, off + j * 8 + 3, none⟩) hbw).trans h3, (hb.cell (p := ⟨b, off + j * 8 + 4, none⟩) hbw).trans h4, (hb.cell (p := ⟨b, off + j * 8 + 5, none⟩) hbw).trans h5, (hb.cell (p := ⟨b, off + j * 8 + 6, none⟩) hbw).trans h6, (hb.cell (p := ⟨b, off + j * 8 + 7, none⟩) hbw).trans h7, (hb.cell (p := ⟨w.heap.size, 0, none⟩) hgw).trans y0, (hb.cell (p := ⟨w.heap.size, 1, none⟩) hgw).trans y1, (hb.cell (p := ⟨w.heap.size, 2, none⟩) hgw).trans y2, (hb.cell (p := ⟨w.heap.size, 3, none⟩) hgw).trans y3, (hb.cell (p := ⟨w.heap.size, 4, none⟩) hgw).trans y4, (hb.cell (p := ⟨w.heap.size, 5, none⟩) hgw).trans y5, (hb.cell (p := ⟨w.heap.size, 6, none⟩) hgw).trans y6, (hb.cell (p := ⟨w.heap.size, 7, none⟩) hgw).trans y7⟩
        obtain ⟨d0, d1, d2, d3, d4, d5, d6, d7, e0, e1, e2, e3, e4, e5, e6, e7⟩ := HSF.out _ HD5.out
        go_upto_region 20 with fail
        go_cut [11] from 102 to 112 (fun c wx => ∃ g, c = .pointer (some ⟨g, 0, none⟩) ∧ Hid (FB wr wx g (.int .i64 f0) (.bool f1) (.int .i64 f2) (.int .i64 0) (.int .i64 0) (.string ByteArray.empty) (.slice none 0 0)))
        case first =>
          go_region_held3 (fun W' => W'.cell? ⟨b, off + j * 8, none⟩ = some (.int .i64 o') ∧ W'.cell? ⟨b, off + j * 8 + 1, none⟩ = some (.int .i64 n') ∧ W'.cell? ⟨b, off + j * 8 + 2, none⟩ = some (.string s') ∧ W'.cell? ⟨b, off + j * 8 + 3, none⟩ = some (.int .i64 k') ∧ W'.cell? ⟨b, off + j * 8 + 4, none⟩ = some (.int .i64 m') ∧ W'.cell? ⟨b, off + j * 8 + 5, none⟩ = some (.string z') ∧ W'.cell? ⟨b, off + j * 8 + 6, none⟩ = some (.slice q' ql' qc') ∧ W'.cell? ⟨b, off + j * 8 + 7, none⟩ = some (.slice r' ll.length c') ∧ W'.cell? ⟨w.heap.size, 0, none⟩ = some (.int .i64 o) ∧ W'.cell? ⟨w.heap.size, 1, none⟩ = some (.int .i64 n) ∧ W'.cell? ⟨w.heap.size, 2, none⟩ = some (.string s) ∧ W'.cell? ⟨w.heap.size, 3, none⟩ = some (.int .i64 k) ∧ W'.cell? ⟨w.heap.size, 4, none⟩ = some (.int .i64 m) ∧ W'.cell? ⟨w.heap.size, 5, none⟩ = some (.string z) ∧ W'.cell? ⟨w.heap.size, 6, none⟩ = some (.slice q ql qc) ∧ W'.cell? ⟨w.heap.size, 7, none⟩ = some (.slice (some ⟨b, off, none⟩) l.length cap)) (first | with_reducible exact HSF.out _ HD5.out | with_reducible exact HSF.out _ HD5a.out | with_reducible exact HSF.out _ HD5b.out | with_reducible exact HSF.out _ HD6.out | with_reducible exact HSF.out _ (HD6.out.alloc HD6.out.size _) | with_reducible exact HSF.out _ HD7.out | with_reducible exact HSF.out _ (HD7.out.alloc HD7.out.size _) | with_reducible exact HSF.out _ (below_set7 (HD7.out.alloc HD7.out.size _) HD7.out.size _ _ _ _ _ _ _) | with_reducible exact HSF.out _ (below_set7 HD7.out (Nat.le_refl _) _ _ _ _ _ _ _) | with_reducible exact HSF.out _ (below_set7 HD7.out HD6.out.size _ _ _ _ _ _ _) | (go_show; fail)) (first
            | (go_at_call 29; (with_reducible refine (HPL.out _).mono ?_); rintro e w6 ⟨rfl, hb6⟩; have HD6 := Lib.hid (show Below wr.heap.size wr w6 from (by first | with_reducible exact HD5.out.trans (hb6.mono HD5.out.size) | with_reducible exact HD5a.out.trans (hb6.mono HD5a.out.size) | with_reducible exact HD5b.out.trans (hb6.mono HD5b.out.size))); obtain ⟨a0, a1, a2, a3, a4, a5, a6, a7, c0, c1, c2, c3, c4, c5, c6, c7⟩ := HSF.out _ HD6.out; have HB6 := Lib.hid hb6; clear hb6)
            | (go_at_call 17; (first | with_reducible refine (HC.out _ HD6.out).mono ?_ | with_reducible refine (HC.out _ (HD6.out.alloc HD6.out.size _)).mono ?_); rintro e w7 ⟨rfl, hb7⟩; have HD7 := Lib.hid (show Below wr.heap.size wr w7 from (by first | with_reducible exact HD6.out.trans (hb7.mono HD6.out.size) | with_reducible exact (HD6.out.alloc HD6.out.size _).trans (hb7.mono (HD6.out.alloc HD6.out.size _).size))); (first | (have HG7 := Lib.hid (heap_old (heap_alloc_new w6 (.cells #[.int .i64 0, .bool false, .int .i64 0, .int .i64 0, .int .i64 0, .string ⟨#[]⟩, .slice none 0 0] 37)) hb7); obtain ⟨g0, g1, g2, g3, g4, g5, g6, hgf⟩ := box7_in w7 _ _ _ _ _ _ _ _ _ HG7.out; have hgf0 := hgf 0; have hgf1 := hgf 1; have hgf2 := hgf 2; have hgf3 := hgf 3; have hgf4 := hgf 4; have hgf5 := hgf 5; have hgf6 := hgf 6; clear hgf) | (have HG7 := Lib.hid (heap_old (heap_old HGa.out HB6.out) hb7); obtain ⟨g0, g1, g2, g3, g4, g5, g6, hgf⟩ := box7_in w7 _ _ _ _ _ _ _ _ _ HG7.out; have hgf0 := hgf 0; have hgf1 := hgf 1; have hgf2 := hgf 2; have hgf3 := hgf 3; have hgf4 := hgf 4; have hgf5 := hgf 5; have hgf6 := hgf 6; clear hgf) | (have HG7 := Lib.hid (heap_old (heap_old HGb.out HB6.out) hb7); obtain ⟨g0, g1, g2, g3, g4, g5, g6, hgf⟩ := box7_in w7 _ _ _ _ _ _ _ _ _ HG7.out; have hgf0 := hgf 0; have hgf1 := hgf 1; have hgf2 := hgf 2; have hgf3 := hgf 3; have hgf4 := hgf 4; have hgf5 := hgf 5; have hgf6 := hgf 6; clear hgf) | skip); clear hb7))
          all_goals go_wp2
          all_goals go_meet
          all_goals first
            | with_reducible exact ⟨_, rfl, Lib.hid ⟨HD7.out.alloc HD7.out.size _, HD7.out.size, heap_alloc_new w7 _⟩⟩
            | with_reducible exact ⟨_, rfl, Lib.hid ⟨below_set7 HD7.out HD6.out.size _ _ _ _ _ _ _, HD6.out.size, heap_set7_box HG7.out _ _ _ _ _ _ _⟩⟩
            | with_reducible exact ⟨_, rfl, Lib.hid ⟨below_set7 HD7.out (Nat.le_refl _) _ _ _ _ _ _ _, Nat.le_refl _, heap_set7_box HG7.out _ _ _ _ _ _ _⟩⟩
        obtain ⟨g, rfl, HFB⟩ := hcut
        rename World => wx
        clear HC HPL HSF HD5 HD5a HD5b HGa HGb h0 h1 h2 h3 h4 h5 h6 h7 y0 y1 y2 y3 y4 y5 y6 y7 d0 d1 d2 d3 d4 d5 d6 d7 e0 e1 e2 e3 e4 e5 e6 e7
        have HL2 := Lib.hid (HL.out.step HFB.out.bel)
        obtain ⟨p0, p1, p2, p3, p4, p5, p6, _⟩ := box7_in wx g _ _ _ _ _ _ _ _ HFB.out.box
        rcases hF0.out with ⟨hFn, hf0⟩ | ⟨hf0, fl, fk, hFs⟩
        · subst hf0
          rw [hFn] at HDR
          go_wp2
          go_roundw
          case rel => exact ⟨j + 1, by omega, by go_num, HL2, Lib.hid (HDR.out.symm.trans HD.out)⟩
          case measure => simp [intOf]; omega
        · have hb0 : (f0 != 0) = true := by simpa using hf0
          rw [hFs] at HDR
          have HR := Lib.hid (show fR (ckL l 0 o a (loopIn o lp) ((l.length : Int) - 1)) = .agg #[.int .i64 f0, .bool f1, .int .i64 f2, .int .i64 0, .int .i64 0, .string ByteArray.empty, .slice none 0 0] from by
            rw [← HD.out, HDR.out]
            have := HF.out
            rw [hFs] at this; exact this)
          clear hf0
          obtain ⟨r0, r1, r2, r3, r4, r5, r6, hxf⟩ := box7_in _ _ _ _ _ _ _ _ _ _ HL2.out.flt
          have hxf0 := hxf 0; have hxf1 := hxf 1; have hxf2 := hxf 2; have hxf3 := hxf 3; have hxf4 := hxf 4; have hxf5 := hxf 5; have hxf6 := hxf 6; clear hxf
          go_wp2
          refine bodyPost_ret (v := .agg #[.int .i64 f0, .bool f1, .int .i64 f2, .int .i64 0, .int .i64 0, .string ByteArray.empty, .slice none 0 0]) (by simp [results, Tryz.results17, go_sem, r0, r1, r2, r3, r4, r5, r6]) rfl ?_
          exact ⟨by rw [HR.out], below_set7 HL2.out.bel (Nat.le_succ _) _ _ _ _ _ _ _⟩
      · have hje : j = l.length := by omega
        have HR := Lib.hid (show fR (ckL l 0 o a (loopIn o lp) ((l.length : Int) - 1)) = fv 0 from by rw [← HD.out, hje, List.drop_length, ckL]; rfl)
        go_wp2_with (go_at_call 18; refine (none_any _).mono ?_; unfold fv; rintro e w6 ⟨rfl, hb6⟩; have HL2 := Lib.hid (HL.out.step hb6); obtain ⟨r0, r1, r2, r3, r4, r5, r6, hxf⟩ := box7_in _ _ _ _ _ _ _ _ _ _ HL2.out.flt; have hxf0 := hxf 0; have hxf1 := hxf 1; have hxf2 := hxf 2; have hxf3 := hxf 3; have hxf4 := hxf 4; have hxf5 := hxf 5; have hxf6 := hxf 6; clear hxf hb6)
        refine bodyPost_ret (v := fv 0) (by unfold fv; simp [results, Tryz.results17, go_sem, r0, r1, r2, r3, r4, r5, r6]) rfl ?_
        exact ⟨by rw [HR.out], below_set7 HL2.out.bel (Nat.le_succ _) _ _ _ _ _ _ _⟩))
end Go.Proofs.YtemkikjcjhmlaaaGreatDoor
