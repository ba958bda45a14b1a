/- The writer of package show: more cases. Printed by gen_whole4.py. -/
import Derived.Test.YtemkikjcjhmlaaaGreatDoorM14
import Derived.Test.YtemkikjcjhmlaaaGreatDoorM16
namespace Go.Proofs.YtemkikjcjhmlaaaGreatDoor.Sh
open Go.RowKit
set_option maxRecDepth 100000

set_option maxHeartbeats 4000000 in
theorem whole_neg_false (ad : Nat → Addr) (eD eM eR eS : Value) (n : Int) (s : ByteArray) (v : T) (t1 : Nd) (hw1 : WOk ad eD eM eR eS t1) (hd1 : DOk t1) (hL : looseN t1 = false) : WOk ad eD eM eR eS (.mk 3 n s v [t1]) := by
  intro B b kk X w lo hi x hr hlo hhi hBw h hc hlen
  obtain ⟨k, m, z, q, ql, qc, r, c, rfl, _, _, hsz, hv, hlc, hl112, hall⟩ := hr.open
  obtain ⟨W1, hW1⟩ : ∃ W1, W1 = w.alloc (.cells #[.int .i64 3, .int .i64 n, .string s, .int .i64 k, .int .i64 m, .string z, .slice q ql qc, .slice r [t1].length c] 33) := ⟨_, rfl⟩
  have hb0 : Below w.heap.size w W1 := hW1 ▸ (Below.refl w.heap.size w).alloc (Nat.le_refl _) _
  have HX : Hid (W1.heap[w.heap.size]? = some (.cells #[.int .i64 3, .int .i64 n, .string s, .int .i64 k, .int .i64 m, .string z, .slice q ql qc, .slice r [t1].length c] 33 (0, 0))) := hW1 ▸ heap_alloc_new w _
  have HW := Lib.hid (h.below hb0)
  have hB1 : B ≤ W1.heap.size := Nat.le_trans hBw hb0.size
  have HB := Lib.hid (hb0.mono hBw)
  have HK : Hid (Kp b w W1) := Kp.of_below hb0
  have HV := Lib.hid (fun W (hb : Below B w W) => hv.below hb hhi)
  have HALL := Lib.hid (fun W (hb : Below B w W) => hall.below hb hhi)
  have HC := Lib.hid hc
  obtain ⟨g, hg⟩ : ∃ g, g = w.heap.size := ⟨_, rfl⟩
  have hgb : g ≠ b := by have := h.lt; omega
  rw [← hg] at HX
  have hgl : g < W1.heap.size := ltW HX.out
  clear hr hc h hb0 hv
  obtain ⟨x0, x1, x2, x3, x4, x5, x6, x7, _⟩ := box8s _ g _ _ _ _ _ _ _ _ _ HX.out
  obtain ⟨bi, off, o0, n0, s0, v0, l0, k0, m0, z0, q0, ql0, qc0, r0, c0, hp0, _, hbh0, hli0, y00, y01, y02, y03, y04, y05, y06, y07, hr0⟩ := hall.item 0 (by simp)
  subst hp0
  have hbB : bi < B := by omega
  have HR0 := Lib.hid (fun W (hb : Below B w W) => (show NRep w lo hi t1 _ from hr0).below hb hhi)
  simp only [Nat.zero_mul, Nat.add_zero] at y00 y01 y02 y03 y04 y05 y06 y07
  clear hr0 hli0
  have HE := Lib.hid (show wT (.mk 3 n s v [t1]) = [45] ++ parB (digN t1) (wT t1) from by
    rw [wT]
    show [45] ++ parB (looseN t1 || digN t1) (wT t1) = _
    rw [hL]; rfl)
  rw [HE.out, List.length_append] at hlen
  simp only [List.length_singleton] at hlen
  have HEX := Lib.hid (show X ++ wT (.mk 3 n s v [t1]) = (X ++ (⟨#[45]⟩ : ByteArray).data.toList) ++ parB (digN t1) (wT t1) from by rw [HE.out]; simp)
  have HW1 := Lib.hid hw1
  have HD := Lib.hid hd1
  have HLO := Lib.hid (fun W (hb : Below B w W) => by have := isLoose_any t1 _ W lo hi (HR0.out W hb); rw [hL] at this; exact this)
  have HP1 := Lib.hid (put1_any B b kk X ⟨#[45]⟩ W1 HW.out (by show X.length + 1 ≤ _; omega) hB1)
  have HSF : Hid (∀ W', Below B w W' → W'.heap[g]? = some (.cells #[.int .i64 3, .int .i64 n, .string s, .int .i64 k, .int .i64 m, .string z, .slice q ql qc, .slice (some ⟨bi, off, none⟩) 1 c] 33 (0, 0)) → W'.cell? ⟨g, 7, none⟩ = some (.slice (some ⟨bi, off, none⟩) 1 c) ∧ W'.cell? ⟨bi, off, none⟩ = some (.int .i64 o0) ∧ W'.cell? ⟨bi, off + 1, none⟩ = some (.int .i64 n0) ∧ W'.cell? ⟨bi, off + 2, none⟩ = some (.string s0) ∧ W'.cell? ⟨bi, off + 3, none⟩ = some (.int .i64 k0) ∧ W'.cell? ⟨bi, off + 4, none⟩ = some (.int .i64 m0) ∧ W'.cell? ⟨bi, off + 5, none⟩ = some (.string z0) ∧ W'.cell? ⟨bi, off + 6, none⟩ = some (.slice q0 ql0 qc0) ∧ W'.cell? ⟨bi, off + 7, none⟩ = some (.slice r0 l0.length c0)) := Lib.hid fun W' hb hx => ⟨(box8s _ g _ _ _ _ _ _ _ _ _ hx).2.2.2.2.2.2.2.1, (hb.cell (p := ⟨bi, off, none⟩) hbB).trans y00, (hb.cell (p := ⟨bi, off + 1, none⟩) hbB).trans y01, (hb.cell (p := ⟨bi, off + 2, none⟩) hbB).trans y02, (hb.cell (p := ⟨bi, off + 3, none⟩) hbB).trans y03, (hb.cell (p := ⟨bi, off + 4, none⟩) hbB).trans y04, (hb.cell (p := ⟨bi, off + 5, none⟩) hbB).trans y05, (hb.cell (p := ⟨bi, off + 6, none⟩) hbB).trans y06, (hb.cell (p := ⟨bi, off + 7, none⟩) hbB).trans y07⟩
  clear hw1 hd1 hall HALL HV hL
  clear y00 y01 y02 y03 y04 y05 y06 y07
  simp only [List.length_cons, List.length_nil, Nat.zero_add] at x7 HX hW1
  go_enter Tryz.func36, Tryz.ntmps36
  go_upto_region 1 with fail
  try simp only [List.length_cons, List.length_nil, Nat.zero_add, Nat.reduceAdd]
  rw [← hW1, ← hg]
  clear hW1 hg
  go_upto_region 21 with (go_at_call 37; (with_reducible refine HP1.out.mono ?_); rintro e w2 ⟨rfl, h2, hb2, hk2⟩; have HB2 := Lib.hid (HB.out.trans hb2); have HK2 := Lib.hid (HK.out.trans hk2); have HX2 := Lib.hid (hk2 g _ _ (by decide) hgb HX.out); have hs2 := Nat.le_trans hB1 hb2.size; have H2 := Lib.hid h2; have hg2 : g < w2.heap.size := ltW HX2.out; clear h2 hb2 hk2)
  have HL2 := Lib.hid (HLO.out w2.drew HB2.out.drew)
  have HB2d := Lib.hid (HB2.out.drew)
  have HX2d : Hid (w2.drew.heap[g]? = some (.cells #[.int .i64 3, .int .i64 n, .string s, .int .i64 k, .int .i64 m, .string z, .slice q ql qc, .slice (some ⟨bi, off, none⟩) 1 c] 33 (0, 0))) := HX2
  obtain ⟨f2, e20, e21, e22, e23, e24, e25, e26, e27⟩ := HSF.out _ HB2d.out HX2d.out
  go_region_held3 (fun W' => W'.cell? ⟨g, 7, none⟩ = some (.slice (some ⟨bi, off, none⟩) 1 c) ∧ W'.cell? ⟨bi, off, none⟩ = some (.int .i64 o0) ∧ W'.cell? ⟨bi, off + 1, none⟩ = some (.int .i64 n0) ∧ W'.cell? ⟨bi, off + 2, none⟩ = some (.string s0) ∧ W'.cell? ⟨bi, off + 3, none⟩ = some (.int .i64 k0) ∧ W'.cell? ⟨bi, off + 4, none⟩ = some (.int .i64 m0) ∧ W'.cell? ⟨bi, off + 5, none⟩ = some (.string z0) ∧ W'.cell? ⟨bi, off + 6, none⟩ = some (.slice q0 ql0 qc0) ∧ W'.cell? ⟨bi, off + 7, none⟩ = some (.slice r0 l0.length c0)) (first | with_reducible exact HSF.out _ HB2d.out HX2d.out | with_reducible exact HSF.out _ HB3.out HX3.out | with_reducible exact HSF.out _ HB4.out HX4.out | with_reducible exact HSF.out _ HB5.out HX5.out | with_reducible exact HSF.out _ HB2.out HX2.out | (go_show; fail)) (first
    | (go_at_call 60; (with_reducible refine HL2.out.mono ?_); rintro e w3 ⟨rfl, hb3x⟩; have hb3 : Below w2.heap.size w2 w3 := (Below.refl _ w2).drew.trans hb3x; have hb3m := hb3.mono hs2; have HB3 := Lib.hid (HB2.out.trans hb3m); have HK3 := Lib.hid (HK2.out.trans (Kp.of_below hb3)); have HX3 := Lib.hid ((hb3.block _ hg2).trans HX2.out); have hg3 : g < w3.heap.size := ltW HX3.out; have hs3 := Nat.le_trans hs2 hb3.size; have H3 := Lib.hid (H2.out.below hb3); obtain ⟨f3, e30, e31, e32, e33, e34, e35, e36, e37⟩ := HSF.out _ HB3.out HX3.out; clear hb3m; have HD3 := Lib.hid (HD.out w3 lo hi _ (HR0.out _ HB3.out) (Nat.le_trans hhi hs3)); clear hb3x hb3)
    | (go_at_call 61; (with_reducible refine HD3.out.mono ?_); rintro e w4 ⟨rfl, hb4⟩; have hb4m := hb4.mono hs3; have HB4 := Lib.hid (HB3.out.trans hb4m); have HK4 := Lib.hid (HK3.out.trans (Kp.of_below hb4)); have HX4 := Lib.hid ((hb4.block _ hg3).trans HX3.out); have hg4 : g < w4.heap.size := ltW HX4.out; have hs4 := Nat.le_trans hs3 hb4.size; have H4 := Lib.hid (H3.out.below hb4); obtain ⟨f4, e40, e41, e42, e43, e44, e45, e46, e47⟩ := HSF.out _ HB4.out HX4.out; clear hb4m; have HBR := Lib.hid (bracket_any ad eD eM eR eS t1 HW1.out (digN t1) B b kk _ w4 lo hi _ (HR0.out _ HB4.out) hlo hhi hs4 H4.out (HC.out.on HB4.out) (by rw [List.length_append]; show X.length + 1 + _ ≤ _; omega)); clear hb4)
    | (go_at_call 59; (with_reducible refine HBR.out.mono ?_); rintro e w5 ⟨rfl, h5, hb5, hk5⟩; have H5 := Lib.hid h5; have HB5 := Lib.hid (HB4.out.trans hb5); have HK5 := Lib.hid (HK4.out.trans hk5); have HX5 := Lib.hid (hk5 g _ _ (by decide) hgb HX4.out); clear h5 hb5 hk5))
  go_wp2_with fail
  go_end0
  exact ⟨rfl, by rw [HEX.out]; exact H5.out, HB5.out, HK5.out⟩
end Go.Proofs.YtemkikjcjhmlaaaGreatDoor.Sh
