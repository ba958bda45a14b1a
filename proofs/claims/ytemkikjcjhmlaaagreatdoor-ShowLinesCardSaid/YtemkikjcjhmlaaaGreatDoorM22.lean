/- The writer of package show: more cases. Printed by gen_whole4.py. -/
import Derived.Test.YtemkikjcjhmlaaaGreatDoorM14
namespace Go.Proofs.YtemkikjcjhmlaaaGreatDoor.Sh
open Go.RowKit
set_option maxRecDepth 100000

/-- codes, and catch, as whole. -/
def CodOk (ad : Nat → Addr) (eD eM eR eS : Value) (t : Nd) : Prop := ∀ (B b : Nat) (k : Int) (X : List UInt8) (w : World) (lo hi : Nat) (x : Value), NRep w lo hi t x → lo ≤ B → hi ≤ B → B ≤ w.heap.size → Wr B b k X w → Ctx ad eD eM eR eS B w → X.length + (cT t).length ≤ 70368744177664 →
  Calls Tryz.prog 68 #[.pointer (some ⟨b, 0, none⟩), x] w (WPost B b k (X ++ cT t) w)
def CatOk (ad : Nat → Addr) (eD eM eR eS : Value) (t : Nd) : Prop := ∀ (B b : Nat) (k : Int) (X : List UInt8) (w : World) (lo hi : Nat) (x : Value), NRep w lo hi t x → lo ≤ B → hi ≤ B → B ≤ w.heap.size → Wr B b k X w → Ctx ad eD eM eR eS B w → X.length + (wT t).length ≤ 70368744177664 →
  Calls Tryz.prog 66 #[.pointer (some ⟨b, 0, none⟩), x] w (WPost B b k (X ++ wT t) w)
set_option maxHeartbeats 4000000 in
theorem codes_nil (ad : Nat → Addr) (eD eM eR eS : Value) (o n : Int) (s : ByteArray) (v : T) : CodOk ad eD eM eR eS (.mk o n s v []) := by
  intro B b kk X w lo hi x hr hlo hhi hBw h hc hlen
  obtain ⟨k, m, z, q, ql, qc, r, c, rfl, _, _, hsz, hv, hlc, hl112, hall⟩ := hr.open
  obtain ⟨W1, hW1⟩ : ∃ W1, W1 = w.alloc (.cells #[.int .i64 o, .int .i64 n, .string s, .int .i64 k, .int .i64 m, .string z, .slice q ql qc, .slice r ([] : List Nd).length c] 33) := ⟨_, rfl⟩
  have hb0 : Below w.heap.size w W1 := hW1 ▸ (Below.refl w.heap.size w).alloc (Nat.le_refl _) _
  have HX : Hid (W1.heap[w.heap.size]? = some (.cells #[.int .i64 o, .int .i64 n, .string s, .int .i64 k, .int .i64 m, .string z, .slice q ql qc, .slice r ([] : List Nd).length c] 33 (0, 0))) := hW1 ▸ heap_alloc_new w _
  have HW := Lib.hid (h.below hb0)
  have hB1 : B ≤ W1.heap.size := Nat.le_trans hBw hb0.size
  have HB := Lib.hid (hb0.mono hBw)
  have HK : Hid (Kp b w W1) := Kp.of_below hb0
  have HV := Lib.hid (fun W (hb : Below B w W) => hv.below hb hhi)
  have HALL := Lib.hid (fun W (hb : Below B w W) => hall.below hb hhi)
  have HC := Lib.hid hc
  obtain ⟨g, hg⟩ : ∃ g, g = w.heap.size := ⟨_, rfl⟩
  have hgb : g ≠ b := by have := h.lt; omega
  rw [← hg] at HX
  have hgl : g < W1.heap.size := ltW HX.out
  clear hr hc h hb0 hv hall
  obtain ⟨x0, x1, x2, x3, x4, x5, x6, x7, _⟩ := box8s _ g _ _ _ _ _ _ _ _ _ HX.out
  have HE := Lib.hid (show cT (.mk o n s v []) = [97, 110, 121] from by rw [cT, wAll])
  rw [HE.out] at hlen
  simp only [List.length_cons, List.length_nil, Nat.zero_add, Nat.reduceAdd] at hlen
  have hll : ([] : List Nd).length ≤ 1000000 := by simp
  have HWR := Lib.hid (show ∀ t ∈ ([] : List Nd), WOk ad eD eM eR eS t from by simp)
  have HEX := Lib.hid (show X ++ cT (.mk o n s v []) = ((X ++ (⟨#[97, 110, 121]⟩ : ByteArray).data.toList) ++ joinS (⟨#[44, 32]⟩ : ByteArray).data.toList (wAll [])) from by rw [HE.out]; simp [wAll, joinS, jn])
  have HP1 := Lib.hid (put1_any B b kk X (⟨#[97, 110, 121]⟩ : ByteArray) W1 HW.out (by show X.length + 3 ≤ _; omega) hB1)
  simp only [List.length_nil] at x7 HX hW1
  go_enter Tryz.func68, Tryz.ntmps68
  go_upto_region 1 with fail
  try simp only [List.length_nil]
  rw [← hW1, ← hg]
  clear hW1 hg
  go_wp2_with (first
    | (go_at_call 37; (with_reducible refine HP1.out.mono ?_); rintro e w2 ⟨rfl, h2, hb2, hk2⟩; have HB2 := Lib.hid (HB.out.trans hb2); have HK2 := Lib.hid (HK.out.trans hk2); have HX2 := Lib.hid (hk2 g _ _ (by decide) hgb HX.out); obtain ⟨a20, a21, a22, a23, a24, a25, a26, a27, _⟩ := box8s _ g _ _ _ _ _ _ _ _ _ HX2.out; have hs2 := Nat.le_trans hB1 hb2.size; have HP2 := Lib.hid (shList_any ad eD eM eR eS [] HWR.out (⟨#[44, 32]⟩ : ByteArray) B b kk _ w2 lo hi r c (HALL.out _ HB2.out) hll hlo hhi hs2 h2 (HC.out.on HB2.out) (by simp only [List.length_append]; show X.length + 3 + 0 ≤ _; omega)); simp only [List.length_nil] at HP2; clear h2 hb2 hk2)
    | (go_at_call 39; (with_reducible refine HP2.out.mono ?_); rintro e w3 ⟨rfl, h3, hb3, hk3⟩; have HB3 := Lib.hid (HB2.out.trans hb3); have HK3 := Lib.hid (HK2.out.trans hk3); have H3 := Lib.hid h3; clear h3 hb3 hk3))
  go_end0
  exact ⟨rfl, by rw [HEX.out]; exact H3.out, HB3.out, HK3.out⟩
set_option maxHeartbeats 4000000 in
theorem codes_cons (ad : Nat → Addr) (eD eM eR eS : Value) (o n : Int) (s : ByteArray) (v : T) (l : List Nd) (hl : l ≠ []) (hw : ∀ t ∈ l, WOk ad eD eM eR eS t) (hll : l.length ≤ 1000000) : CodOk ad eD eM eR eS (.mk o n s v l) := by
  intro B b kk X w lo hi x hr hlo hhi hBw h hc hlen
  obtain ⟨k, m, z, q, ql, qc, r, c, rfl, _, _, hsz, hv, hlc, hl112, hall⟩ := hr.open
  obtain ⟨W1, hW1⟩ : ∃ W1, W1 = w.alloc (.cells #[.int .i64 o, .int .i64 n, .string s, .int .i64 k, .int .i64 m, .string z, .slice q ql qc, .slice r l.length c] 33) := ⟨_, rfl⟩
  have hb0 : Below w.heap.size w W1 := hW1 ▸ (Below.refl w.heap.size w).alloc (Nat.le_refl _) _
  have HX : Hid (W1.heap[w.heap.size]? = some (.cells #[.int .i64 o, .int .i64 n, .string s, .int .i64 k, .int .i64 m, .string z, .slice q ql qc, .slice r l.length c] 33 (0, 0))) := hW1 ▸ heap_alloc_new w _
  have HW := Lib.hid (h.below hb0)
  have hB1 : B ≤ W1.heap.size := Nat.le_trans hBw hb0.size
  have HB := Lib.hid (hb0.mono hBw)
  have HK : Hid (Kp b w W1) := Kp.of_below hb0
  have HV := Lib.hid (fun W (hb : Below B w W) => hv.below hb hhi)
  have HALL := Lib.hid (fun W (hb : Below B w W) => hall.below hb hhi)
  have HC := Lib.hid hc
  obtain ⟨g, hg⟩ : ∃ g, g = w.heap.size := ⟨_, rfl⟩
  have hgb : g ≠ b := by have := h.lt; omega
  rw [← hg] at HX
  have hgl : g < W1.heap.size := ltW HX.out
  clear hr hc h hb0 hv hall
  obtain ⟨x0, x1, x2, x3, x4, x5, x6, x7, _⟩ := box8s _ g _ _ _ _ _ _ _ _ _ HX.out
  have HE := Lib.hid (show cT (.mk o n s v l) = joinS [44, 32] (wAll l) from by
    cases l with
    | nil => exact absurd rfl hl
    | cons t r => rw [cT, wAll])
  rw [HE.out] at hlen
  have hz : ((l.length : Int) == 0) = false := by
    have : l.length ≠ 0 := fun h => hl (List.length_eq_zero_iff.1 h)
    simp; exact hl
  have HWR := Lib.hid hw
  have HEX := Lib.hid (show X ++ cT (.mk o n s v l) = (X ++ joinS (⟨#[44, 32]⟩ : ByteArray).data.toList (wAll l)) from by rw [HE.out])
  clear hw hl
  have HP1 := Lib.hid (shList_any ad eD eM eR eS l HWR.out (⟨#[44, 32]⟩ : ByteArray) B b kk X W1 lo hi r c (HALL.out _ HB.out) hll hlo hhi hB1 HW.out (HC.out.on HB.out) (by show X.length + (joinS [44, 32] (wAll l)).length ≤ _; omega))
  go_enter Tryz.func68, Tryz.ntmps68
  go_upto_region 1 with fail
  rw [← hW1, ← hg]
  clear hW1 hg
  go_wp2_with (first
    | (go_at_call 39; (with_reducible refine HP1.out.mono ?_); rintro e w2 ⟨rfl, h2, hb2, hk2⟩; have HB2 := Lib.hid (HB.out.trans hb2); have HK2 := Lib.hid (HK.out.trans hk2); have H2 := Lib.hid h2; clear h2 hb2 hk2))
  go_end0
  exact ⟨rfl, by rw [HEX.out]; exact H2.out, HB2.out, HK2.out⟩
set_option maxHeartbeats 4000000 in
theorem catch2_any (ad : Nat → Addr) (eD eM eR eS : Value) (n : Int) (s : ByteArray) (v : T) (t1 t2 : Nd) (hw1 : WOk ad eD eM eR eS t1) (hc2 : CodOk ad eD eM eR eS t2) : CatOk ad eD eM eR eS (.mk 29 n s v [t1, t2]) := by
  intro B b kk X w lo hi x hr hlo hhi hBw h hc hlen
  obtain ⟨k, m, z, q, ql, qc, r, c, rfl, _, _, hsz, hv, hlc, hl112, hall⟩ := hr.open
  obtain ⟨W1, hW1⟩ : ∃ W1, W1 = w.alloc (.cells #[.int .i64 29, .int .i64 n, .string s, .int .i64 k, .int .i64 m, .string z, .slice q ql qc, .slice r [t1, t2].length c] 33) := ⟨_, rfl⟩
  have hb0 : Below w.heap.size w W1 := hW1 ▸ (Below.refl w.heap.size w).alloc (Nat.le_refl _) _
  have HX : Hid (W1.heap[w.heap.size]? = some (.cells #[.int .i64 29, .int .i64 n, .string s, .int .i64 k, .int .i64 m, .string z, .slice q ql qc, .slice r [t1, t2].length c] 33 (0, 0))) := hW1 ▸ heap_alloc_new w _
  have HW := Lib.hid (h.below hb0)
  have hB1 : B ≤ W1.heap.size := Nat.le_trans hBw hb0.size
  have HB := Lib.hid (hb0.mono hBw)
  have HK : Hid (Kp b w W1) := Kp.of_below hb0
  have HV := Lib.hid (fun W (hb : Below B w W) => hv.below hb hhi)
  have HALL := Lib.hid (fun W (hb : Below B w W) => hall.below hb hhi)
  have HC := Lib.hid hc
  obtain ⟨g, hg⟩ : ∃ g, g = w.heap.size := ⟨_, rfl⟩
  have hgb : g ≠ b := by have := h.lt; omega
  rw [← hg] at HX
  have hgl : g < W1.heap.size := ltW HX.out
  clear hr hc h hb0 hv
  obtain ⟨x0, x1, x2, x3, x4, x5, x6, x7, _⟩ := box8s _ g _ _ _ _ _ _ _ _ _ HX.out
  obtain ⟨bi, off, o0, n0, s0, v0, l0, k0, m0, z0, q0, ql0, qc0, r0, c0, hp0, _, hbh0, hli0, y00, y01, y02, y03, y04, y05, y06, y07, hr0⟩ := hall.item 0 (by simp)
  obtain ⟨bj1, of1, o1, n1, s1, v1, l1, k1, m1, z1, q1, ql1, qc1, r1, c1, hp1, _, hbh1, hli1, y10, y11, y12, y13, y14, y15, y16, y17, hr1⟩ := hall.item 1 (by simp)
  rw [hp0] at hp1
  injection hp1 with hp1
  injection hp1 with e1a e1b _
  subst e1a e1b
  subst hp0
  have hbB : bi < B := by omega
  have HR0 := Lib.hid (fun W (hb : Below B w W) => (show NRep w lo hi t1 _ from hr0).below hb hhi)
  have HR1 := Lib.hid (fun W (hb : Below B w W) => (show NRep w lo hi t2 _ from hr1).below hb hhi)
  simp only [Nat.zero_mul, Nat.add_zero, Nat.one_mul] at y00 y01 y02 y03 y04 y05 y06 y07 y10 y11 y12 y13 y14 y15 y16 y17
  clear hr0 hli0 hr1 hli1
  have HE := Lib.hid (show wT (.mk 29 n s v [t1, t2]) = [96] ++ parB (looseN t1) (wT t1) ++ [32, 33, 32] ++ cT t2 ++ [] ++ [39] from by rw [wT]; rfl)
  rw [HE.out] at hlen
  simp only [List.length_append, List.length_cons, List.length_nil, Nat.zero_add, Nat.reduceAdd] at hlen
  have HEX := Lib.hid (show X ++ wT (.mk 29 n s v [t1, t2]) = (((((X ++ (⟨#[96]⟩ : ByteArray).data.toList) ++ parB (looseN t1) (wT t1)) ++ (⟨#[32, 33, 32]⟩ : ByteArray).data.toList) ++ cT t2) ++ (⟨#[39]⟩ : ByteArray).data.toList) from by rw [HE.out]; simp)
  have HW1 := Lib.hid hw1
  have HCO := Lib.hid hc2
  have HP1 := Lib.hid (put1_any B b kk X (⟨#[96]⟩ : ByteArray) W1 HW.out (by show X.length + 1 ≤ _; omega) hB1)
  clear hw1 hc2 hall HALL HV
  simp only [List.length_cons, List.length_nil, Nat.zero_add, Nat.reduceAdd] at x7 HX hW1
  go_enter Tryz.func66, Tryz.ntmps66
  go_upto_region 1 with fail
  try simp only [List.length_cons, List.length_nil, Nat.zero_add, Nat.reduceAdd]
  rw [← hW1, ← hg]
  clear hW1 hg
  go_wp2_with (first
    | (go_at_call 37; (with_reducible refine HP1.out.mono ?_); rintro e w2 ⟨rfl, h2, hb2, hk2⟩; have HB2 := Lib.hid (HB.out.trans hb2); have HK2 := Lib.hid (HK.out.trans hk2); have HX2 := Lib.hid (hk2 g _ _ (by decide) hgb HX.out); obtain ⟨a20, a21, a22, a23, a24, a25, a26, a27, _⟩ := box8s _ g _ _ _ _ _ _ _ _ _ HX2.out; have hs2 := Nat.le_trans hB1 hb2.size; have z200 := (HB2.out.cell (p := ⟨bi, off, none⟩) hbB).trans y00; have z201 := (HB2.out.cell (p := ⟨bi, off + 1, none⟩) hbB).trans y01; have z202 := (HB2.out.cell (p := ⟨bi, off + 2, none⟩) hbB).trans y02; have z203 := (HB2.out.cell (p := ⟨bi, off + 3, none⟩) hbB).trans y03; have z204 := (HB2.out.cell (p := ⟨bi, off + 4, none⟩) hbB).trans y04; have z205 := (HB2.out.cell (p := ⟨bi, off + 5, none⟩) hbB).trans y05; have z206 := (HB2.out.cell (p := ⟨bi, off + 6, none⟩) hbB).trans y06; have z207 := (HB2.out.cell (p := ⟨bi, off + 7, none⟩) hbB).trans y07; have HP2 := Lib.hid (part_any ad eD eM eR eS t1 HW1.out B b kk _ w2 lo hi _ (HR0.out _ HB2.out) hlo hhi hs2 h2 (HC.out.on HB2.out) (by simp only [List.length_append]; show X.length + 1 + (parB (looseN t1) (wT t1)).length ≤ _; omega)); clear h2 hb2 hk2)
    | (go_at_call 62; (with_reducible refine HP2.out.mono ?_); rintro e w3 ⟨rfl, h3, hb3, hk3⟩; have HB3 := Lib.hid (HB2.out.trans hb3); have HK3 := Lib.hid (HK2.out.trans hk3); have HX3 := Lib.hid (hk3 g _ _ (by decide) hgb HX2.out); obtain ⟨a30, a31, a32, a33, a34, a35, a36, a37, _⟩ := box8s _ g _ _ _ _ _ _ _ _ _ HX3.out; have hs3 := Nat.le_trans hs2 hb3.size; have HP3 := Lib.hid (put1_any B b kk _ (⟨#[32, 33, 32]⟩ : ByteArray) w3 h3 (by simp only [List.length_append]; show X.length + 1 + (parB (looseN t1) (wT t1)).length + 3 ≤ _; omega) hs3); clear h3 hb3 hk3)
    | (go_at_call 37; (with_reducible refine HP3.out.mono ?_); rintro e w4 ⟨rfl, h4, hb4, hk4⟩; have HB4 := Lib.hid (HB3.out.trans hb4); have HK4 := Lib.hid (HK3.out.trans hk4); have HX4 := Lib.hid (hk4 g _ _ (by decide) hgb HX3.out); obtain ⟨a40, a41, a42, a43, a44, a45, a46, a47, _⟩ := box8s _ g _ _ _ _ _ _ _ _ _ HX4.out; have hs4 := Nat.le_trans hs3 hb4.size; have z410 := (HB4.out.cell (p := ⟨bi, off + 8, none⟩) hbB).trans y10; have z411 := (HB4.out.cell (p := ⟨bi, off + 8 + 1, none⟩) hbB).trans y11; have z412 := (HB4.out.cell (p := ⟨bi, off + 8 + 2, none⟩) hbB).trans y12; have z413 := (HB4.out.cell (p := ⟨bi, off + 8 + 3, none⟩) hbB).trans y13; have z414 := (HB4.out.cell (p := ⟨bi, off + 8 + 4, none⟩) hbB).trans y14; have z415 := (HB4.out.cell (p := ⟨bi, off + 8 + 5, none⟩) hbB).trans y15; have z416 := (HB4.out.cell (p := ⟨bi, off + 8 + 6, none⟩) hbB).trans y16; have z417 := (HB4.out.cell (p := ⟨bi, off + 8 + 7, none⟩) hbB).trans y17; have HP4 := Lib.hid (HCO.out B b kk _ w4 lo hi _ (HR1.out _ HB4.out) hlo hhi hs4 h4 (HC.out.on HB4.out) (by simp only [List.length_append]; show X.length + 1 + (parB (looseN t1) (wT t1)).length + 3 + (cT t2).length ≤ _; omega)); clear h4 hb4 hk4)
    | (go_at_call 68; (with_reducible refine HP4.out.mono ?_); rintro e w5 ⟨rfl, h5, hb5, hk5⟩; have HB5 := Lib.hid (HB4.out.trans hb5); have HK5 := Lib.hid (HK4.out.trans hk5); have HX5 := Lib.hid (hk5 g _ _ (by decide) hgb HX4.out); obtain ⟨a50, a51, a52, a53, a54, a55, a56, a57, _⟩ := box8s _ g _ _ _ _ _ _ _ _ _ HX5.out; have hs5 := Nat.le_trans hs4 hb5.size; have HP5 := Lib.hid (put1_any B b kk _ (⟨#[39]⟩ : ByteArray) w5 h5 (by simp only [List.length_append]; show X.length + 1 + (parB (looseN t1) (wT t1)).length + 3 + (cT t2).length + 1 ≤ _; omega) hs5); clear h5 hb5 hk5)
    | (go_at_call 37; (with_reducible refine HP5.out.mono ?_); rintro e w6 ⟨rfl, h6, hb6, hk6⟩; have HB6 := Lib.hid (HB5.out.trans hb6); have HK6 := Lib.hid (HK5.out.trans hk6); have H6 := Lib.hid h6; clear h6 hb6 hk6))
  go_end0
  exact ⟨rfl, by rw [HEX.out]; exact H6.out, HB6.out, HK6.out⟩
set_option maxHeartbeats 4000000 in
theorem catch3_any (ad : Nat → Addr) (eD eM eR eS : Value) (n : Int) (s : ByteArray) (v : T) (t1 t2 t3 : Nd) (hw1 : WOk ad eD eM eR eS t1) (hc2 : CodOk ad eD eM eR eS t2) (hw3 : WOk ad eD eM eR eS t3) : CatOk ad eD eM eR eS (.mk 29 n s v [t1, t2, t3]) := by
  intro B b kk X w lo hi x hr hlo hhi hBw h hc hlen
  obtain ⟨k, m, z, q, ql, qc, r, c, rfl, _, _, hsz, hv, hlc, hl112, hall⟩ := hr.open
  obtain ⟨W1, hW1⟩ : ∃ W1, W1 = w.alloc (.cells #[.int .i64 29, .int .i64 n, .string s, .int .i64 k, .int .i64 m, .string z, .slice q ql qc, .slice r [t1, t2, t3].length c] 33) := ⟨_, rfl⟩
  have hb0 : Below w.heap.size w W1 := hW1 ▸ (Below.refl w.heap.size w).alloc (Nat.le_refl _) _
  have HX : Hid (W1.heap[w.heap.size]? = some (.cells #[.int .i64 29, .int .i64 n, .string s, .int .i64 k, .int .i64 m, .string z, .slice q ql qc, .slice r [t1, t2, t3].length c] 33 (0, 0))) := hW1 ▸ heap_alloc_new w _
  have HW := Lib.hid (h.below hb0)
  have hB1 : B ≤ W1.heap.size := Nat.le_trans hBw hb0.size
  have HB := Lib.hid (hb0.mono hBw)
  have HK : Hid (Kp b w W1) := Kp.of_below hb0
  have HV := Lib.hid (fun W (hb : Below B w W) => hv.below hb hhi)
  have HALL := Lib.hid (fun W (hb : Below B w W) => hall.below hb hhi)
  have HC := Lib.hid hc
  obtain ⟨g, hg⟩ : ∃ g, g = w.heap.size := ⟨_, rfl⟩
  have hgb : g ≠ b := by have := h.lt; omega
  rw [← hg] at HX
  have hgl : g < W1.heap.size := ltW HX.out
  clear hr hc h hb0 hv
  obtain ⟨x0, x1, x2, x3, x4, x5, x6, x7, _⟩ := box8s _ g _ _ _ _ _ _ _ _ _ HX.out
  obtain ⟨bi, off, o0, n0, s0, v0, l0, k0, m0, z0, q0, ql0, qc0, r0, c0, hp0, _, hbh0, hli0, y00, y01, y02, y03, y04, y05, y06, y07, hr0⟩ := hall.item 0 (by simp)
  obtain ⟨bj1, of1, o1, n1, s1, v1, l1, k1, m1, z1, q1, ql1, qc1, r1, c1, hp1, _, hbh1, hli1, y10, y11, y12, y13, y14, y15, y16, y17, hr1⟩ := hall.item 1 (by simp)
  obtain ⟨bj2, of2, o2, n2, s2, v2, l2, k2, m2, z2, q2, ql2, qc2, r2, c2, hp2, _, hbh2, hli2, y20, y21, y22, y23, y24, y25, y26, y27, hr2⟩ := hall.item 2 (by simp)
  rw [hp0] at hp1
  injection hp1 with hp1
  injection hp1 with e1a e1b _
  subst e1a e1b
  rw [hp0] at hp2
  injection hp2 with hp2
  injection hp2 with e2a e2b _
  subst e2a e2b
  subst hp0
  have hbB : bi < B := by omega
  have HR0 := Lib.hid (fun W (hb : Below B w W) => (show NRep w lo hi t1 _ from hr0).below hb hhi)
  have HR1 := Lib.hid (fun W (hb : Below B w W) => (show NRep w lo hi t2 _ from hr1).below hb hhi)
  have HR2 := Lib.hid (fun W (hb : Below B w W) => (show NRep w lo hi t3 _ from hr2).below hb hhi)
  simp only [Nat.zero_mul, Nat.add_zero, Nat.one_mul, Nat.reduceMul] at y00 y01 y02 y03 y04 y05 y06 y07 y10 y11 y12 y13 y14 y15 y16 y17 y20 y21 y22 y23 y24 y25 y26 y27
  clear hr0 hli0 hr1 hli1 hr2 hli2
  have HE := Lib.hid (show wT (.mk 29 n s v [t1, t2, t3]) = [96] ++ parB (looseN t1) (wT t1) ++ [32, 33, 32] ++ cT t2 ++ ([32, 61, 62, 32] ++ parB (looseN t3) (wT t3)) ++ [39] from by rw [wT]; rfl)
  rw [HE.out] at hlen
  simp only [List.length_append, List.length_cons, List.length_nil, Nat.zero_add, Nat.reduceAdd] at hlen
  have HEX := Lib.hid (show X ++ wT (.mk 29 n s v [t1, t2, t3]) = (((((((X ++ (⟨#[96]⟩ : ByteArray).data.toList) ++ parB (looseN t1) (wT t1)) ++ (⟨#[32, 33, 32]⟩ : ByteArray).data.toList) ++ cT t2) ++ (⟨#[32, 61, 62, 32]⟩ : ByteArray).data.toList) ++ parB (looseN t3) (wT t3)) ++ (⟨#[39]⟩ : ByteArray).data.toList) from by rw [HE.out]; simp)
  have HW1 := Lib.hid hw1
  have HCO := Lib.hid hc2
  have HW3 := Lib.hid hw3
  have HP1 := Lib.hid (put1_any B b kk X (⟨#[96]⟩ : ByteArray) W1 HW.out (by show X.length + 1 ≤ _; omega) hB1)
  clear hw1 hc2 hall HALL HV hw3
  simp only [List.length_cons, List.length_nil, Nat.zero_add, Nat.reduceAdd] at x7 HX hW1
  go_enter Tryz.func66, Tryz.ntmps66
  go_upto_region 1 with fail
  try simp only [List.length_cons, List.length_nil, Nat.zero_add, Nat.reduceAdd]
  rw [← hW1, ← hg]
  clear hW1 hg
  go_wp2_with (first
    | (go_at_call 37; (with_reducible refine HP1.out.mono ?_); rintro e w2 ⟨rfl, h2, hb2, hk2⟩; have HB2 := Lib.hid (HB.out.trans hb2); have HK2 := Lib.hid (HK.out.trans hk2); have HX2 := Lib.hid (hk2 g _ _ (by decide) hgb HX.out); obtain ⟨a20, a21, a22, a23, a24, a25, a26, a27, _⟩ := box8s _ g _ _ _ _ _ _ _ _ _ HX2.out; have hs2 := Nat.le_trans hB1 hb2.size; have z200 := (HB2.out.cell (p := ⟨bi, off, none⟩) hbB).trans y00; have z201 := (HB2.out.cell (p := ⟨bi, off + 1, none⟩) hbB).trans y01; have z202 := (HB2.out.cell (p := ⟨bi, off + 2, none⟩) hbB).trans y02; have z203 := (HB2.out.cell (p := ⟨bi, off + 3, none⟩) hbB).trans y03; have z204 := (HB2.out.cell (p := ⟨bi, off + 4, none⟩) hbB).trans y04; have z205 := (HB2.out.cell (p := ⟨bi, off + 5, none⟩) hbB).trans y05; have z206 := (HB2.out.cell (p := ⟨bi, off + 6, none⟩) hbB).trans y06; have z207 := (HB2.out.cell (p := ⟨bi, off + 7, none⟩) hbB).trans y07; have HP2 := Lib.hid (part_any ad eD eM eR eS t1 HW1.out B b kk _ w2 lo hi _ (HR0.out _ HB2.out) hlo hhi hs2 h2 (HC.out.on HB2.out) (by simp only [List.length_append]; show X.length + 1 + (parB (looseN t1) (wT t1)).length ≤ _; omega)); clear h2 hb2 hk2)
    | (go_at_call 62; (with_reducible refine HP2.out.mono ?_); rintro e w3 ⟨rfl, h3, hb3, hk3⟩; have HB3 := Lib.hid (HB2.out.trans hb3); have HK3 := Lib.hid (HK2.out.trans hk3); have HX3 := Lib.hid (hk3 g _ _ (by decide) hgb HX2.out); obtain ⟨a30, a31, a32, a33, a34, a35, a36, a37, _⟩ := box8s _ g _ _ _ _ _ _ _ _ _ HX3.out; have hs3 := Nat.le_trans hs2 hb3.size; have HP3 := Lib.hid (put1_any B b kk _ (⟨#[32, 33, 32]⟩ : ByteArray) w3 h3 (by simp only [List.length_append]; show X.length + 1 + (parB (looseN t1) (wT t1)).length + 3 ≤ _; omega) hs3); clear h3 hb3 hk3)
    | (go_at_call 37; (with_reducible refine HP3.out.mono ?_); rintro e w4 ⟨rfl, h4, hb4, hk4⟩; have HB4 := Lib.hid (HB3.out.trans hb4); have HK4 := Lib.hid (HK3.out.trans hk4); have HX4 := Lib.hid (hk4 g _ _ (by decide) hgb HX3.out); obtain ⟨a40, a41, a42, a43, a44, a45, a46, a47, _⟩ := box8s _ g _ _ _ _ _ _ _ _ _ HX4.out; have hs4 := Nat.le_trans hs3 hb4.size; have z410 := (HB4.out.cell (p := ⟨bi, off + 8, none⟩) hbB).trans y10; have z411 := (HB4.out.cell (p := ⟨bi, off + 8 + 1, none⟩) hbB).trans y11; have z412 := (HB4.out.cell (p := ⟨bi, off + 8 + 2, none⟩) hbB).trans y12; have z413 := (HB4.out.cell (p := ⟨bi, off + 8 + 3, none⟩) hbB).trans y13; have z414 := (HB4.out.cell (p := ⟨bi, off + 8 + 4, none⟩) hbB).trans y14; have z415 := (HB4.out.cell (p := ⟨bi, off + 8 + 5, none⟩) hbB).trans y15; have z416 := (HB4.out.cell (p := ⟨bi, off + 8 + 6, none⟩) hbB).trans y16; have z417 := (HB4.out.cell (p := ⟨bi, off + 8 + 7, none⟩) hbB).trans y17; have HP4 := Lib.hid (HCO.out B b kk _ w4 lo hi _ (HR1.out _ HB4.out) hlo hhi hs4 h4 (HC.out.on HB4.out) (by simp only [List.length_append]; show X.length + 1 + (parB (looseN t1) (wT t1)).length + 3 + (cT t2).length ≤ _; omega)); clear h4 hb4 hk4)
    | (go_at_call 68; (with_reducible refine HP4.out.mono ?_); rintro e w5 ⟨rfl, h5, hb5, hk5⟩; have HB5 := Lib.hid (HB4.out.trans hb5); have HK5 := Lib.hid (HK4.out.trans hk5); have HX5 := Lib.hid (hk5 g _ _ (by decide) hgb HX4.out); obtain ⟨a50, a51, a52, a53, a54, a55, a56, a57, _⟩ := box8s _ g _ _ _ _ _ _ _ _ _ HX5.out; have hs5 := Nat.le_trans hs4 hb5.size; have HP5 := Lib.hid (put1_any B b kk _ (⟨#[32, 61, 62, 32]⟩ : ByteArray) w5 h5 (by simp only [List.length_append]; show X.length + 1 + (parB (looseN t1) (wT t1)).length + 3 + (cT t2).length + 4 ≤ _; omega) hs5); clear h5 hb5 hk5)
    | (go_at_call 37; (with_reducible refine HP5.out.mono ?_); rintro e w6 ⟨rfl, h6, hb6, hk6⟩; have HB6 := Lib.hid (HB5.out.trans hb6); have HK6 := Lib.hid (HK5.out.trans hk6); have HX6 := Lib.hid (hk6 g _ _ (by decide) hgb HX5.out); obtain ⟨a60, a61, a62, a63, a64, a65, a66, a67, _⟩ := box8s _ g _ _ _ _ _ _ _ _ _ HX6.out; have hs6 := Nat.le_trans hs5 hb6.size; have z620 := (HB6.out.cell (p := ⟨bi, off + 16, none⟩) hbB).trans y20; have z621 := (HB6.out.cell (p := ⟨bi, off + 16 + 1, none⟩) hbB).trans y21; have z622 := (HB6.out.cell (p := ⟨bi, off + 16 + 2, none⟩) hbB).trans y22; have z623 := (HB6.out.cell (p := ⟨bi, off + 16 + 3, none⟩) hbB).trans y23; have z624 := (HB6.out.cell (p := ⟨bi, off + 16 + 4, none⟩) hbB).trans y24; have z625 := (HB6.out.cell (p := ⟨bi, off + 16 + 5, none⟩) hbB).trans y25; have z626 := (HB6.out.cell (p := ⟨bi, off + 16 + 6, none⟩) hbB).trans y26; have z627 := (HB6.out.cell (p := ⟨bi, off + 16 + 7, none⟩) hbB).trans y27; have HP6 := Lib.hid (part_any ad eD eM eR eS t3 HW3.out B b kk _ w6 lo hi _ (HR2.out _ HB6.out) hlo hhi hs6 h6 (HC.out.on HB6.out) (by simp only [List.length_append]; show X.length + 1 + (parB (looseN t1) (wT t1)).length + 3 + (cT t2).length + 4 + (parB (looseN t3) (wT t3)).length ≤ _; omega)); clear h6 hb6 hk6)
    | (go_at_call 62; (with_reducible refine HP6.out.mono ?_); rintro e w7 ⟨rfl, h7, hb7, hk7⟩; have HB7 := Lib.hid (HB6.out.trans hb7); have HK7 := Lib.hid (HK6.out.trans hk7); have HX7 := Lib.hid (hk7 g _ _ (by decide) hgb HX6.out); obtain ⟨a70, a71, a72, a73, a74, a75, a76, a77, _⟩ := box8s _ g _ _ _ _ _ _ _ _ _ HX7.out; have hs7 := Nat.le_trans hs6 hb7.size; have HP7 := Lib.hid (put1_any B b kk _ (⟨#[39]⟩ : ByteArray) w7 h7 (by simp only [List.length_append]; show X.length + 1 + (parB (looseN t1) (wT t1)).length + 3 + (cT t2).length + 4 + (parB (looseN t3) (wT t3)).length + 1 ≤ _; omega) hs7); clear h7 hb7 hk7)
    | (go_at_call 37; (with_reducible refine HP7.out.mono ?_); rintro e w8 ⟨rfl, h8, hb8, hk8⟩; have HB8 := Lib.hid (HB7.out.trans hb8); have HK8 := Lib.hid (HK7.out.trans hk8); have H8 := Lib.hid h8; clear h8 hb8 hk8))
  go_end0
  exact ⟨rfl, by rw [HEX.out]; exact H8.out, HB8.out, HK8.out⟩
set_option maxHeartbeats 4000000 in
theorem whole_catch (ad : Nat → Addr) (eD eM eR eS : Value) (n : Int) (s : ByteArray) (v : T) (l : List Nd) (hk29 : CatOk ad eD eM eR eS (.mk 29 n s v l)) : WOk ad eD eM eR eS (.mk 29 n s v l) := by
  intro B b kk X w lo hi x hr hlo hhi hBw h hc hlen
  obtain ⟨k, m, z, q, ql, qc, r, c, rfl, _, _, hsz, hv, hlc, hl112, hall⟩ := hr.open
  obtain ⟨W1, hW1⟩ : ∃ W1, W1 = w.alloc (.cells #[.int .i64 29, .int .i64 n, .string s, .int .i64 k, .int .i64 m, .string z, .slice q ql qc, .slice r l.length c] 33) := ⟨_, rfl⟩
  have hb0 : Below w.heap.size w W1 := hW1 ▸ (Below.refl w.heap.size w).alloc (Nat.le_refl _) _
  have HX : Hid (W1.heap[w.heap.size]? = some (.cells #[.int .i64 29, .int .i64 n, .string s, .int .i64 k, .int .i64 m, .string z, .slice q ql qc, .slice r l.length c] 33 (0, 0))) := hW1 ▸ heap_alloc_new w _
  have HW := Lib.hid (h.below hb0)
  have hB1 : B ≤ W1.heap.size := Nat.le_trans hBw hb0.size
  have HB := Lib.hid (hb0.mono hBw)
  have HK : Hid (Kp b w W1) := Kp.of_below hb0
  have HV := Lib.hid (fun W (hb : Below B w W) => hv.below hb hhi)
  have HALL := Lib.hid (fun W (hb : Below B w W) => hall.below hb hhi)
  have HC := Lib.hid hc
  obtain ⟨g, hg⟩ : ∃ g, g = w.heap.size := ⟨_, rfl⟩
  have hgb : g ≠ b := by have := h.lt; omega
  rw [← hg] at HX
  have hgl : g < W1.heap.size := ltW HX.out
  have HRR := Lib.hid (hr.below hb0 (Nat.le_trans hhi hBw))
  clear hr hc h hb0 hv hall
  obtain ⟨x0, x1, x2, x3, x4, x5, x6, x7, _⟩ := box8s _ g _ _ _ _ _ _ _ _ _ HX.out
  have HP := Lib.hid (hk29 B b kk X W1 lo hi _ HRR.out hlo hhi hB1 HW.out (HC.out.on HB.out) hlen)
  clear hk29
  go_enter Tryz.func36, Tryz.ntmps36
  go_upto_region 1 with fail
  rw [← hW1, ← hg]
  clear hW1 hg
  go_wp2_with (go_at_call 66; refine HP.out.mono ?_; rintro e w3 ⟨rfl, h3, hb3, hk3⟩; have H3 := Lib.hid h3; have HB3 := Lib.hid (HB.out.trans hb3); have HK3 := Lib.hid (HK.out.trans hk3); clear h3 hb3 hk3)
  go_end0
  exact ⟨rfl, H3.out, HB3.out, HK3.out⟩
end Go.Proofs.YtemkikjcjhmlaaaGreatDoor.Sh
