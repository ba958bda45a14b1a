/- The writer of package show: whole, a case. Printed by gen_whole2.py. -/
import Derived.Test.YtemkikjcjhmlaaaGreatDoorM14
namespace Go.Proofs.YtemkikjcjhmlaaaGreatDoor.Sh
open Go.RowKit
set_option maxRecDepth 100000

theorem NAll.dropN {w : World} {lo hi : Nat} : ∀ (k : Nat) (l : List Nd) (p : Option Addr), NAll w lo hi l p → k < l.length → NAll w lo hi (l.drop k) (p.map (·.add (k * 8)))
  | 0, l, p, h, _ => by
    have e : p.map (·.add (0 * 8)) = p := by cases p with | none => rfl | some a => simp [Nat.zero_mul, add_zero]
    rw [e]; exact h
  | k + 1, [], _, _, hk => absurd hk (by simp)
  | k + 1, t :: r, p, h, hk => by
    unfold NAll at h
    obtain ⟨a, c0, c1, c2, c3, c4, c5, c6, c7, rfl, _, _, _, _, _, _, _, _, _, _, _, hr⟩ := h
    have := NAll.dropN k r (some (a.add 8)) hr (by simpa using hk)
    rw [List.drop_succ_cons]
    have e : (some (a.add 8)).map (fun x : Addr => x.add (k * 8)) = (some a).map (fun x : Addr => x.add ((k + 1) * 8)) := by
      simp only [Option.map_some, add_add]
      rw [show 8 + k * 8 = (k + 1) * 8 from by omega]
    rw [← e]; exact this
theorem nslice_tail (p : Option Addr) (l : List Nd) (cap k : Nat) (h : k ≤ l.length) (hc : l.length ≤ cap) (lo hi : Nat) (w : World) (hr : NAll w lo hi l p) : ∃ q, (∀ W : World, (Instr.sliceAt 22 (.slice p l.length cap) (some (.int .i64 (k : Int))) none none).run Tryz.prog W = .ok (.slice q (l.length - k) (cap - k)) W) ∧ NAll w lo hi (l.drop k) q := by
  have h2 : (k : Int) ≤ (l.length : Int) := by omega
  have ht := Tryz.underlying22
  refine ⟨if cap = k then p else p.map (·.add (k * 8)), fun W => ?_, ?_⟩
  · simp only [Instr.sliceAt, Instr.slice, run_underlying ht, Instr.sliceBounds, Instr.sliceBound, asIntOf, Sem.run_bind, Sem.run_pure, Result.andThen]
    simp [go_sem, h2]
  · by_cases hk : k = l.length
    · rw [List.drop_of_length_le (by omega)]; exact NAll.nil _ _ _ _
    · rw [if_neg (by omega)]
      exact NAll.dropN k l p hr (by omega)
set_option maxHeartbeats 4000000 in
theorem whole_call (ad : Nat → Addr) (eD eM eR eS : Value) (n : Int) (s : ByteArray) (v : T) (t1 t2 : Nd) (rest : List Nd) (hw1 : WOk ad eD eM eR eS t1) (hw2 : WOk ad eD eM eR eS t2) (hwr : ∀ t ∈ rest, WOk ad eD eM eR eS t) (hrl : rest.length ≤ 1000000) : WOk ad eD eM eR eS (.mk 23 n s v (t1 :: t2 :: rest)) := by
  intro B b kk X w lo hi x hr hlo hhi hBw h hc hlen
  obtain ⟨k, m, z, q, ql, qc, r, c, rfl, _, _, hsz, hv, hlc, hl112, hall⟩ := hr.open
  obtain ⟨W1, hW1⟩ : ∃ W1, W1 = w.alloc (.cells #[.int .i64 23, .int .i64 n, .string s, .int .i64 k, .int .i64 m, .string z, .slice q ql qc, .slice r (t1 :: t2 :: rest).length c] 33) := ⟨_, rfl⟩
  have hb0 : Below w.heap.size w W1 := hW1 ▸ (Below.refl w.heap.size w).alloc (Nat.le_refl _) _
  have HX : Hid (W1.heap[w.heap.size]? = some (.cells #[.int .i64 23, .int .i64 n, .string s, .int .i64 k, .int .i64 m, .string z, .slice q ql qc, .slice r (t1 :: t2 :: rest).length c] 33 (0, 0))) := hW1 ▸ heap_alloc_new w _
  have HW := Lib.hid (h.below hb0)
  have hB1 : B ≤ W1.heap.size := Nat.le_trans hBw hb0.size
  have HB := Lib.hid (hb0.mono hBw)
  have HK : Hid (Kp b w W1) := Kp.of_below hb0
  have HV := Lib.hid (fun W (hb : Below B w W) => hv.below hb hhi)
  have HALL := Lib.hid (fun W (hb : Below B w W) => hall.below hb hhi)
  have HC := Lib.hid hc
  obtain ⟨g, hg⟩ : ∃ g, g = w.heap.size := ⟨_, rfl⟩
  have hgb : g ≠ b := by have := h.lt; omega
  rw [← hg] at HX
  have hgl : g < W1.heap.size := ltW HX.out
  clear hr hc h hb0 hv
  obtain ⟨x0, x1, x2, x3, x4, x5, x6, x7, _⟩ := box8s _ g _ _ _ _ _ _ _ _ _ HX.out
  obtain ⟨bi, off, o1, n1, s1, v1, l1, k1, m1, z1, q1, ql1, qc1, r1, c1, hp1, _, hbh, hli1, y0, y1, y2, y3, y4, y5, y6, y7, hr1⟩ := hall.item 0 (by simp)
  obtain ⟨bj, ofj, o2, n2, s2, v2, l2, k2, m2, z2, q2, ql2, qc2, r2, c2, hp2, _, _, hli2, u0, u1, u2, u3, u4, u5, u6, u7, hr2⟩ := hall.item 1 (by simp)
  rw [hp1] at hp2
  injection hp2 with hp2
  injection hp2 with e1 e2 _
  subst e1 e2
  have hp1' := hp1
  subst hp1
  have hbB : bi < B := by omega
  have HR1 := Lib.hid (fun W (hb : Below B w W) => (show NRep w lo hi t1 _ from hr1).below hb hhi)
  have HR2 := Lib.hid (fun W (hb : Below B w W) => (show NRep w lo hi t2 _ from hr2).below hb hhi)
  simp only [Nat.zero_mul, Nat.add_zero, Nat.one_mul] at y0 y1 y2 y3 y4 y5 y6 y7 u0 u1 u2 u3 u4 u5 u6 u7
  clear hr1 hr2 hli1 hli2
  have HE := Lib.hid (show wT (.mk 23 n s v (t1 :: t2 :: rest)) = parB (looseN t1) (wT t1) ++ [58] ++ nmT t2 (wT t2) ++ s.data.toList ++ [40] ++ joinS [44, 32] (wAll rest) ++ [41] from by rw [wT]; rfl)
  have hds : s.data.toList.length = s.size := Array.length_toList ..
  rw [HE.out] at hlen
  simp only [List.length_append, List.length_singleton, hds] at hlen
  have HEX := Lib.hid (show X ++ wT (.mk 23 n s v (t1 :: t2 :: rest)) = (((((X ++ parB (looseN t1) (wT t1)) ++ (⟨#[58]⟩ : ByteArray).data.toList) ++ nmT t2 (wT t2)) ++ (s.data.toList ++ (⟨#[40]⟩ : ByteArray).data.toList)) ++ joinS (⟨#[44, 32]⟩ : ByteArray).data.toList (wAll rest)) ++ (⟨#[41]⟩ : ByteArray).data.toList from by rw [HE.out]; simp)
  have HW2 := Lib.hid hw2
  have HWR := Lib.hid hwr
  have HP1 := Lib.hid (part_any ad eD eM eR eS t1 hw1 B b kk X W1 lo hi _ (HR1.out _ HB.out) hlo hhi hB1 HW.out (HC.out.on HB.out) (by omega))
  have yy0 := (HB.out.cell (p := ⟨bi, off, none⟩) hbB).trans y0
  have yy1 := (HB.out.cell (p := ⟨bi, off + 1, none⟩) hbB).trans y1
  have yy2 := (HB.out.cell (p := ⟨bi, off + 2, none⟩) hbB).trans y2
  have yy3 := (HB.out.cell (p := ⟨bi, off + 3, none⟩) hbB).trans y3
  have yy4 := (HB.out.cell (p := ⟨bi, off + 4, none⟩) hbB).trans y4
  have yy5 := (HB.out.cell (p := ⟨bi, off + 5, none⟩) hbB).trans y5
  have yy6 := (HB.out.cell (p := ⟨bi, off + 6, none⟩) hbB).trans y6
  have yy7 := (HB.out.cell (p := ⟨bi, off + 7, none⟩) hbB).trans y7
  obtain ⟨q9, hsl, hdr⟩ := nslice_tail (some ⟨bi, off, none⟩) (t1 :: t2 :: rest) c 2 (by simp) hlc lo hi w hall
  have HDR := Lib.hid (fun W (hb : Below B w W) => (show NAll w lo hi rest q9 from hdr).below hb hhi)
  have hN2 : rest.length + 1 + 1 - 2 = rest.length := by omega
  simp only [List.length_cons] at x7 HX hW1 hsl
  rw [hN2] at hsl
  have hsl2 : ∀ W : World, (Instr.sliceAt 22 (.slice (some ⟨bi, off, none⟩) (rest.length + 1 + 1) c) (some (.int .i64 2)) none none).run Tryz.prog W = .ok (.slice q9 rest.length (c - 2)) W := hsl
  clear hsl
  clear hw1 hw2 hwr hall HALL HV hdr hN2
  go_enter Tryz.func36, Tryz.ntmps36
  go_upto_region 1 with fail
  try simp only [List.length_cons]
  rw [← hW1, ← hg]
  clear hW1 hg
  go_wp2_with (first
    | (go_at_call 62; (with_reducible refine HP1.out.mono ?_); rintro e w2 ⟨rfl, h2, hb2, hk2⟩; have HB2 := Lib.hid (HB.out.trans hb2); have HK2 := Lib.hid (HK.out.trans hk2); have HX2 := Lib.hid (hk2 g _ _ (by decide) hgb HX.out); have hs2 := Nat.le_trans hB1 hb2.size; have HP2 := Lib.hid (put1_any B b kk _ ⟨#[58]⟩ w2 h2 (by rw [List.length_append]; show X.length + _ + 1 ≤ _; omega) hs2); clear h2 hb2 hk2)
    | (go_at_call 37; (with_reducible refine HP2.out.mono ?_); rintro e w3 ⟨rfl, h3, hb3, hk3⟩; have HB3 := Lib.hid (HB2.out.trans hb3); have HK3 := Lib.hid (HK2.out.trans hk3); have HX3 := Lib.hid (hk3 g _ _ (by decide) hgb HX2.out); obtain ⟨a0, a1, a2, a3, a4, a5, a6, a7, _⟩ := box8s _ g _ _ _ _ _ _ _ _ _ HX3.out; have uu0 := (HB3.out.cell (p := ⟨bi, off + 8, none⟩) hbB).trans u0; have uu1 := (HB3.out.cell (p := ⟨bi, off + 8 + 1, none⟩) hbB).trans u1; have uu2 := (HB3.out.cell (p := ⟨bi, off + 8 + 2, none⟩) hbB).trans u2; have uu3 := (HB3.out.cell (p := ⟨bi, off + 8 + 3, none⟩) hbB).trans u3; have uu4 := (HB3.out.cell (p := ⟨bi, off + 8 + 4, none⟩) hbB).trans u4; have uu5 := (HB3.out.cell (p := ⟨bi, off + 8 + 5, none⟩) hbB).trans u5; have uu6 := (HB3.out.cell (p := ⟨bi, off + 8 + 6, none⟩) hbB).trans u6; have uu7 := (HB3.out.cell (p := ⟨bi, off + 8 + 7, none⟩) hbB).trans u7; have hs3 := Nat.le_trans hs2 hb3.size; have HP3 := Lib.hid (shName_any ad eD eM eR eS t2 HW2.out B b kk _ w3 lo hi _ (HR2.out _ HB3.out) hlo hhi hs3 h3 (HC.out.on HB3.out) (by rw [List.length_append, List.length_append]; show X.length + _ + 1 + _ ≤ _; omega)); clear h3 hb3 hk3)
    | (go_at_call 64; (with_reducible refine HP3.out.mono ?_); rintro e w4 ⟨rfl, h4, hb4, hk4⟩; have HB4 := Lib.hid (HB3.out.trans hb4); have HK4 := Lib.hid (HK3.out.trans hk4); have HX4 := Lib.hid (hk4 g _ _ (by decide) hgb HX3.out); obtain ⟨d0, d1, d2, d3, d4, d5, d6, d7, _⟩ := box8s _ g _ _ _ _ _ _ _ _ _ HX4.out; have hs4 := Nat.le_trans hs3 hb4.size; have HP4 := Lib.hid (put2_any B b kk _ s ⟨#[40]⟩ w4 h4 (by rw [List.length_append, List.length_append, List.length_append]; show X.length + _ + 1 + _ + s.size + 1 ≤ _; omega) hs4); clear h4 hb4 hk4)
    | (go_at_call 37; (with_reducible refine HP4.out.mono ?_); rintro e w5 ⟨rfl, h5, hb5, hk5⟩; have HB5 := Lib.hid (HB4.out.trans hb5); have HK5 := Lib.hid (HK4.out.trans hk5); have hs5 := Nat.le_trans hs4 hb5.size; have HP5 := Lib.hid (shList_any ad eD eM eR eS rest HWR.out ⟨#[44, 32]⟩ B b kk _ w5 lo hi q9 (c - 2) (HDR.out _ HB5.out) hrl hlo hhi hs5 h5 (HC.out.on HB5.out) (by simp only [List.length_append, hds]; show X.length + _ + 1 + _ + (s.size + 1) + (joinS [44, 32] (wAll rest)).length ≤ _; omega)); clear h5 hb5 hk5)
    | (go_at_call 39; (with_reducible refine HP5.out.mono ?_); rintro e w6 ⟨rfl, h6, hb6, hk6⟩; have HB6 := Lib.hid (HB5.out.trans hb6); have HK6 := Lib.hid (HK5.out.trans hk6); have hs6 := Nat.le_trans hs5 hb6.size; have HP6 := Lib.hid (put1_any B b kk _ ⟨#[41]⟩ w6 h6 (by simp only [List.length_append, hds]; show X.length + _ + 1 + _ + (s.size + 1) + (joinS [44, 32] (wAll rest)).length + 1 ≤ _; omega) hs6); clear h6 hb6 hk6)
    | (go_at_call 37; (with_reducible refine HP6.out.mono ?_); rintro e w7 ⟨rfl, h7, hb7, hk7⟩; have H7 := Lib.hid h7; have HB7 := Lib.hid (HB6.out.trans hb7); have HK7 := Lib.hid (HK6.out.trans hk7); clear h7 hb7 hk7))
  go_end0
  exact ⟨rfl, by rw [HEX.out]; exact H7.out, HB7.out, HK7.out⟩
end Go.Proofs.YtemkikjcjhmlaaaGreatDoor.Sh
