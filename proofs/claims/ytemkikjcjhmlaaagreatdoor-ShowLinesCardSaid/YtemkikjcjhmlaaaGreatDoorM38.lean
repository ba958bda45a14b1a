/- The writer of package show: statement: If, ForTo, Try. Printed by gen_stmt.py. The writer of package show: whole writes every expression. Printed by gen_whole5.py. The writer of package show: every statement, Block and Except in which the check finds nothing, at any depth. Programs as text: how long they are. Programs as text: how long statements are; what is light, and a program, has short texts. The statement on lines: rows of nodes with their lines turned; the three lists. The walk of the statement on lines: its main way. The document's odd: what a Lit has; all. The document's Valid, ValidExpr. -/
import Derived.Test.YtemkikjcjhmlaaaGreatDoorM33
import Derived.Test.YtemkikjcjhmlaaaGreatDoorM34
import Derived.Test.YtemkikjcjhmlaaaGreatDoorM17
import Derived.Test.YtemkikjcjhmlaaaGreatDoorM20
import Derived.Test.YtemkikjcjhmlaaaGreatDoorM18
import Derived.Test.YtemkikjcjhmlaaaGreatDoorM19
import Derived.Test.YtemkikjcjhmlaaaGreatDoorM24
import Derived.Test.YtemkikjcjhmlaaaGreatDoorM25
import Derived.Test.YtemkikjcjhmlaaaGreatDoorM26
import Derived.Test.YtemkikjcjhmlaaaGreatDoorM35
import Derived.Test.YtemkikjcjhmlaaaGreatDoorM27
import Derived.Test.YtemkikjcjhmlaaaGreatDoorM28
import Derived.Test.YtemkikjcjhmlaaaGreatDoorM22
import Derived.Test.YtemkikjcjhmlaaaGreatDoorM29
import Derived.Test.YtemkikjcjhmlaaaGreatDoorM16
import Derived.Test.YtemkikjcjhmlaaaGreatDoorM09
import Derived.Test.YtemkikjcjhmlaaaGreatDoorM11
import Derived.WalkSpells
import Derived.Laws.Concat
import Derived.Laws.BitsLemmas
import Derived.Test.YtemkikjcjhmlaaaGreatDoorM30
import Derived.Test.YtemkikjcjhmlaaaGreatDoorM36
import Derived.Test.YtemkikjcjhmlaaaGreatDoorM37
import Derived.Deep.RegionHeld3
import Derived.Deep.RegionHeldLaw
import Derived.Deep.DeepCutAuto
import Derived.Test.YtemkikjcjhmlaaaGreatDoorM13
namespace Go.Proofs.YtemkikjcjhmlaaaGreatDoor.Sh
open Go.RowKit
set_option maxRecDepth 100000

set_option maxHeartbeats 4000000 in
theorem statement_if (ad : Nat → Addr) (eD eM eR eS : Value) (d : Nat) (hd : d ≤ 41) (n : Int) (s : ByteArray) (v : T) (l : List Nd) (hbr : BrOk ad eD eM eR eS d l) (hll : l.length ≤ 1000000) : SOd ad eD eM eR eS (.mk 41 n s v l) d (sT (.mk 41 n s v l) d) := by
  intro B b X w lo hi x hr hlo hhi hBw h hc hlen
  obtain ⟨k, m, z, q, ql, qc, r, c, rfl, _, _, hsz, hv, hlc, hl112, hall⟩ := hr.open
  obtain ⟨W1, hW1⟩ : ∃ W1, W1 = w.alloc (.cells #[.int .i64 41, .int .i64 n, .string s, .int .i64 k, .int .i64 m, .string z, .slice q ql qc, .slice r l.length c] 33) := ⟨_, rfl⟩
  have hb0 : Below w.heap.size w W1 := hW1 ▸ (Below.refl w.heap.size w).alloc (Nat.le_refl _) _
  have HX : Hid (W1.heap[w.heap.size]? = some (.cells #[.int .i64 41, .int .i64 n, .string s, .int .i64 k, .int .i64 m, .string z, .slice q ql qc, .slice r l.length c] 33 (0, 0))) := hW1 ▸ heap_alloc_new w _
  have HW := Lib.hid (h.below hb0)
  have hB1 : B ≤ W1.heap.size := Nat.le_trans hBw hb0.size
  have HB := Lib.hid (hb0.mono hBw)
  have HK : Hid (Kp b w W1) := Kp.of_below hb0
  have HV := Lib.hid (fun W (hb : Below B w W) => hv.below hb hhi)
  have HALL := Lib.hid (fun W (hb : Below B w W) => hall.below hb hhi)
  have HC := Lib.hid hc
  obtain ⟨g, hg⟩ : ∃ g, g = w.heap.size := ⟨_, rfl⟩
  have hgb : g ≠ b := by have := h.lt; omega
  rw [← hg] at HX
  have hgl : g < W1.heap.size := ltW HX.out
  clear hr hc h hb0 hv hall
  obtain ⟨x0, x1, x2, x3, x4, x5, x6, x7, _⟩ := box8s _ g _ _ _ _ _ _ _ _ _ HX.out
  have hst : sT (.mk 41 n s v l) d = brT d [105, 102] (wAll l) (bAll l) ++ lnT d [101, 110, 100, 105, 102] := by rw [sT]; rfl
  rw [hst] at hlen
  simp only [lnT, List.length_append, List.length_cons, List.length_nil, Nat.zero_add, Nat.reduceAdd] at hlen
  have HEX := Lib.hid (show X ++ sT (.mk 41 n s v l) d = ((X ++ brT d [105, 102] (wAll l) (bAll l)) ++ (indT d ++ ((⟨#[101, 110, 100, 105, 102]⟩ : ByteArray).data.toList ++ [10]))) from by rw [hst]; simp [lnT])
  have HBR := Lib.hid hbr
  have HP1 := Lib.hid (branches_any ad eD eM eR eS d hd l HBR.out hll B b X W1 lo hi r c (HALL.out _ HB.out) hlc hlo hhi hB1 HW.out (HC.out.on HB.out) (by show X.length + (brT d [105, 102] (wAll l) (bAll l)).length ≤ _; omega))
  clear HV hst hbr
  go_enter Tryz.func20, Tryz.ntmps20
  go_upto_region 1 with fail
  rw [← hW1, ← hg]
  clear hW1 hg
  go_wp2_with (first
    | (go_at_call 33; (with_reducible refine HP1.out.mono ?_); rintro e w2 ⟨rfl, h2, hb2, hk2⟩; have HB2 := Lib.hid (HB.out.trans hb2); have HK2 := Lib.hid (HK.out.trans hk2); have HX2 := Lib.hid (hk2 g _ _ (by decide) hgb HX.out); obtain ⟨a20, a21, a22, a23, a24, a25, a26, a27, _⟩ := box8s _ g _ _ _ _ _ _ _ _ _ HX2.out; have hs2 := Nat.le_trans hB1 hb2.size; have HP2 := Lib.hid (line_any B b d _ (⟨#[101, 110, 100, 105, 102]⟩ : ByteArray) w2 h2 hd (by simp only [List.length_append]; show X.length + (brT d [105, 102] (wAll l) (bAll l)).length + ((indT d).length + (5 + 1)) ≤ _; omega) hs2); clear h2 hb2 hk2)
    | (go_at_call 34; (with_reducible refine HP2.out.mono ?_); rintro e w3 ⟨rfl, h3, hb3, hk3⟩; have HB3 := Lib.hid (HB2.out.trans hb3); have HK3 := Lib.hid (HK2.out.trans hk3); have H3 := Lib.hid h3; clear h3 hb3 hk3))
  go_end0
  exact ⟨rfl, by rw [HEX.out]; exact H3.out, HB3.out, HK3.out⟩
set_option maxHeartbeats 4000000 in
theorem statement_forto (ad : Nat → Addr) (eD eM eR eS : Value) (d : Nat) (hd : d ≤ 41) (n : Int) (s : ByteArray) (v : T) (t1 t2 t3 : Nd) (hw1 : WOk ad eD eM eR eS t1) (hw2 : WOk ad eD eM eR eS t2) (hb3 : BOd ad eD eM eR eS t3 d) : SOd ad eD eM eR eS (.mk 43 n s v [t1, t2, t3]) d (sT (.mk 43 n s v [t1, t2, t3]) d) := by
  intro B b X w lo hi x hr hlo hhi hBw h hc hlen
  obtain ⟨k, m, z, q, ql, qc, r, c, rfl, _, _, hsz, hv, hlc, hl112, hall⟩ := hr.open
  obtain ⟨W1, hW1⟩ : ∃ W1, W1 = w.alloc (.cells #[.int .i64 43, .int .i64 n, .string s, .int .i64 k, .int .i64 m, .string z, .slice q ql qc, .slice r [t1, t2, t3].length c] 33) := ⟨_, rfl⟩
  have hb0 : Below w.heap.size w W1 := hW1 ▸ (Below.refl w.heap.size w).alloc (Nat.le_refl _) _
  have HX : Hid (W1.heap[w.heap.size]? = some (.cells #[.int .i64 43, .int .i64 n, .string s, .int .i64 k, .int .i64 m, .string z, .slice q ql qc, .slice r [t1, t2, t3].length c] 33 (0, 0))) := hW1 ▸ heap_alloc_new w _
  have HW := Lib.hid (h.below hb0)
  have hB1 : B ≤ W1.heap.size := Nat.le_trans hBw hb0.size
  have HB := Lib.hid (hb0.mono hBw)
  have HK : Hid (Kp b w W1) := Kp.of_below hb0
  have HV := Lib.hid (fun W (hb : Below B w W) => hv.below hb hhi)
  have HALL := Lib.hid (fun W (hb : Below B w W) => hall.below hb hhi)
  have HC := Lib.hid hc
  obtain ⟨g, hg⟩ : ∃ g, g = w.heap.size := ⟨_, rfl⟩
  have hgb : g ≠ b := by have := h.lt; omega
  rw [← hg] at HX
  have hgl : g < W1.heap.size := ltW HX.out
  clear hr hc h hb0 hv
  obtain ⟨x0, x1, x2, x3, x4, x5, x6, x7, _⟩ := box8s _ g _ _ _ _ _ _ _ _ _ HX.out
  obtain ⟨bi, off, o0, n0, s0, v0, l0, k0, m0, z0, q0, ql0, qc0, r0, c0, hp0, _, hbh0, hli0, y00, y01, y02, y03, y04, y05, y06, y07, hr0⟩ := hall.item 0 (by simp)
  obtain ⟨bj1, of1, o1, n1, s1, v1, l1, k1, m1, z1, q1, ql1, qc1, r1, c1, hp1, _, hbh1, hli1, y10, y11, y12, y13, y14, y15, y16, y17, hr1⟩ := hall.item 1 (by simp)
  obtain ⟨bj2, of2, o2, n2, s2, v2, l2, k2, m2, z2, q2, ql2, qc2, r2, c2, hp2, _, hbh2, hli2, y20, y21, y22, y23, y24, y25, y26, y27, hr2⟩ := hall.item 2 (by simp)
  rw [hp0] at hp1
  injection hp1 with hp1
  injection hp1 with e1a e1b _
  subst e1a e1b
  rw [hp0] at hp2
  injection hp2 with hp2
  injection hp2 with e2a e2b _
  subst e2a e2b
  subst hp0
  have hbB : bi < B := by omega
  have HR0 := Lib.hid (fun W (hb : Below B w W) => (show NRep w lo hi t1 _ from hr0).below hb hhi)
  have HR1 := Lib.hid (fun W (hb : Below B w W) => (show NRep w lo hi t2 _ from hr1).below hb hhi)
  have HR2 := Lib.hid (fun W (hb : Below B w W) => (show NRep w lo hi t3 _ from hr2).below hb hhi)
  simp only [Nat.zero_mul, Nat.add_zero, Nat.one_mul, Nat.reduceMul] at y00 y01 y02 y03 y04 y05 y06 y07 y10 y11 y12 y13 y14 y15 y16 y17 y20 y21 y22 y23 y24 y25 y26 y27
  clear hr0 hli0 hr1 hli1 hr2 hli2
  have hst : sT (.mk 43 n s v [t1, t2, t3]) d = indT d ++ ([102, 111, 114, 32] ++ (s.data.toList ++ [32, 105, 110, 32, 91])) ++ joinS [46, 46] (wAll [t1, t2]) ++ [93, 10] ++ bT t3 (d + 1) ++ lnT d [101, 110, 100, 102, 111, 114] := by rw [sT]; rfl
  rw [hst] at hlen
  have hds : s.data.toList.length = s.size := Array.length_toList ..
  simp only [lnT, List.length_append, List.length_cons, List.length_nil, Nat.zero_add, Nat.reduceAdd, hds] at hlen
  have HEX := Lib.hid (show X ++ sT (.mk 43 n s v [t1, t2, t3]) d = (((((X ++ (indT d ++ ((⟨#[102, 111, 114, 32]⟩ : ByteArray).data.toList ++ (s.data.toList ++ (⟨#[32, 105, 110, 32, 91]⟩ : ByteArray).data.toList)))) ++ joinS (⟨#[46, 46]⟩ : ByteArray).data.toList (wAll [t1, t2])) ++ (⟨#[93, 10]⟩ : ByteArray).data.toList) ++ bT t3 (d + 1)) ++ (indT d ++ ((⟨#[101, 110, 100, 102, 111, 114]⟩ : ByteArray).data.toList ++ [10]))) from by rw [hst]; simp [lnT])
  have HWR := Lib.hid (show ∀ t ∈ [t1, t2], WOk ad eD eM eR eS t from by
    intro t ht
    simp only [List.mem_cons, List.not_mem_nil, or_false] at ht
    rcases ht with rfl | rfl
    · exact hw1
    · exact hw2)
  have HBL3 := Lib.hid hb3
  have HTK := Lib.hid (fun W (hb : Below B w W) => (show NAll W lo hi [t1, t2] (some ⟨bi, off, none⟩) from NAll.takeN 2 _ _ (hall.below hb hhi)))
  have hc3 : 3 ≤ c := hlc
  have hsl2 : ∀ W : World, (Instr.sliceAt 22 (.slice (some ⟨bi, off, none⟩) 3 c) none (some (.int .i64 2)) none).run Tryz.prog W = .ok (.slice (some ⟨bi, off, none⟩) 2 c) W := fun W => nslice_head (some ⟨bi, off, none⟩) 3 c 2 (by omega) hc3 W
  have HP1 := Lib.hid (begin3d_any B b d X (⟨#[102, 111, 114, 32]⟩ : ByteArray) s (⟨#[32, 105, 110, 32, 91]⟩ : ByteArray) W1 HW.out hd (by show X.length + ((indT d).length + (4 + s.size + 5)) ≤ _; omega) hB1)
  clear hall HV hst HALL hw1 hw2 hb3
  simp only [List.length_cons, List.length_nil, Nat.zero_add, Nat.reduceAdd] at x7 HX hW1
  go_enter Tryz.func20, Tryz.ntmps20
  go_upto_region 1 with fail
  try simp only [List.length_cons, List.length_nil, Nat.zero_add, Nat.reduceAdd]
  rw [← hW1, ← hg]
  clear hW1 hg
  go_wp2_with (first
    | (go_at_call 35; (with_reducible refine HP1.out.mono ?_); rintro e w2 ⟨rfl, h2, hb2, hk2⟩; have HB2 := Lib.hid (HB.out.trans hb2); have HK2 := Lib.hid (HK.out.trans hk2); have HX2 := Lib.hid (hk2 g _ _ (by decide) hgb HX.out); obtain ⟨a20, a21, a22, a23, a24, a25, a26, a27, _⟩ := box8s _ g _ _ _ _ _ _ _ _ _ HX2.out; have hs2 := Nat.le_trans hB1 hb2.size; have HP2 := Lib.hid (shList_any ad eD eM eR eS [t1, t2] HWR.out (⟨#[46, 46]⟩ : ByteArray) B b d _ w2 lo hi (some ⟨bi, off, none⟩) c (HTK.out _ HB2.out) (by simp) hlo hhi hs2 h2 (HC.out.on HB2.out) (by simp only [List.length_append]; show X.length + ((indT d).length + (4 + s.size + 5)) + (joinS [46, 46] (wAll [t1, t2])).length ≤ _; omega)); simp only [List.length_cons, List.length_nil, Nat.zero_add, Nat.reduceAdd] at HP2; clear h2 hb2 hk2)
    | (go_at_call 39; (with_reducible refine HP2.out.mono ?_); rintro e w3 ⟨rfl, h3, hb3, hk3⟩; have HB3 := Lib.hid (HB2.out.trans hb3); have HK3 := Lib.hid (HK2.out.trans hk3); have HX3 := Lib.hid (hk3 g _ _ (by decide) hgb HX2.out); obtain ⟨a30, a31, a32, a33, a34, a35, a36, a37, _⟩ := box8s _ g _ _ _ _ _ _ _ _ _ HX3.out; have hs3 := Nat.le_trans hs2 hb3.size; have HP3 := Lib.hid (put1_any B b d _ (⟨#[93, 10]⟩ : ByteArray) w3 h3 (by simp only [List.length_append]; show X.length + ((indT d).length + (4 + s.size + 5)) + (joinS [46, 46] (wAll [t1, t2])).length + 2 ≤ _; omega) hs3); clear h3 hb3 hk3)
    | (go_at_call 37; (with_reducible refine HP3.out.mono ?_); rintro e w4 ⟨rfl, h4, hb4, hk4⟩; have HB4 := Lib.hid (HB3.out.trans hb4); have HK4 := Lib.hid (HK3.out.trans hk4); have HX4 := Lib.hid (hk4 g _ _ (by decide) hgb HX3.out); obtain ⟨a40, a41, a42, a43, a44, a45, a46, a47, _⟩ := box8s _ g _ _ _ _ _ _ _ _ _ HX4.out; have hs4 := Nat.le_trans hs3 hb4.size; have z420 := (HB4.out.cell (p := ⟨bi, off + 16, none⟩) hbB).trans y20; have z421 := (HB4.out.cell (p := ⟨bi, off + 16 + 1, none⟩) hbB).trans y21; have z422 := (HB4.out.cell (p := ⟨bi, off + 16 + 2, none⟩) hbB).trans y22; have z423 := (HB4.out.cell (p := ⟨bi, off + 16 + 3, none⟩) hbB).trans y23; have z424 := (HB4.out.cell (p := ⟨bi, off + 16 + 4, none⟩) hbB).trans y24; have z425 := (HB4.out.cell (p := ⟨bi, off + 16 + 5, none⟩) hbB).trans y25; have z426 := (HB4.out.cell (p := ⟨bi, off + 16 + 6, none⟩) hbB).trans y26; have z427 := (HB4.out.cell (p := ⟨bi, off + 16 + 7, none⟩) hbB).trans y27; have HP4 := Lib.hid (HBL3.out B b _ w4 lo hi _ (HR2.out _ HB4.out) hlo hhi hs4 h4 (HC.out.on HB4.out) (by simp only [List.length_append]; show X.length + ((indT d).length + (4 + s.size + 5)) + (joinS [46, 46] (wAll [t1, t2])).length + 2 + (bT t3 (d + 1)).length ≤ _; omega)); clear h4 hb4 hk4)
    | (go_at_call 38; (with_reducible refine HP4.out.mono ?_); rintro e w5 ⟨rfl, h5, hb5, hk5⟩; have HB5 := Lib.hid (HB4.out.trans hb5); have HK5 := Lib.hid (HK4.out.trans hk5); have HX5 := Lib.hid (hk5 g _ _ (by decide) hgb HX4.out); obtain ⟨a50, a51, a52, a53, a54, a55, a56, a57, _⟩ := box8s _ g _ _ _ _ _ _ _ _ _ HX5.out; have hs5 := Nat.le_trans hs4 hb5.size; have HP5 := Lib.hid (line_any B b d _ (⟨#[101, 110, 100, 102, 111, 114]⟩ : ByteArray) w5 h5 hd (by simp only [List.length_append]; show X.length + ((indT d).length + (4 + s.size + 5)) + (joinS [46, 46] (wAll [t1, t2])).length + 2 + (bT t3 (d + 1)).length + ((indT d).length + (6 + 1)) ≤ _; omega) hs5); clear h5 hb5 hk5)
    | (go_at_call 34; (with_reducible refine HP5.out.mono ?_); rintro e w6 ⟨rfl, h6, hb6, hk6⟩; have HB6 := Lib.hid (HB5.out.trans hb6); have HK6 := Lib.hid (HK5.out.trans hk6); have H6 := Lib.hid h6; clear h6 hb6 hk6))
  go_end0
  exact ⟨rfl, by rw [HEX.out]; exact H6.out, HB6.out, HK6.out⟩
set_option maxHeartbeats 8000000 in
theorem statement_try (ad : Nat → Addr) (eD eM eR eS : Value) (d : Nat) (hd : d ≤ 41) (n : Int) (s : ByteArray) (v : T) (t1 : Nd) (rest : List Nd) (hb1 : BOd ad eD eM eR eS t1 d) (hes : ∀ t ∈ rest, EOd ad eD eM eR eS t d) (hrl : rest.length ≤ 1000000) : SOd ad eD eM eR eS (.mk 49 n s v (t1 :: rest)) d (sT (.mk 49 n s v (t1 :: rest)) d) := by
  intro B b X w lo hi x hr hlo hhi hBw h hc hlen
  obtain ⟨k, m, z, q, ql, qc, r, c, rfl, _, _, hsz, hv, hlc, hl112, hall⟩ := hr.open
  obtain ⟨W1, hW1⟩ : ∃ W1, W1 = w.alloc (.cells #[.int .i64 49, .int .i64 n, .string s, .int .i64 k, .int .i64 m, .string z, .slice q ql qc, .slice r (t1 :: rest).length c] 33) := ⟨_, rfl⟩
  have hb0 : Below w.heap.size w W1 := hW1 ▸ (Below.refl w.heap.size w).alloc (Nat.le_refl _) _
  have HX : Hid (W1.heap[w.heap.size]? = some (.cells #[.int .i64 49, .int .i64 n, .string s, .int .i64 k, .int .i64 m, .string z, .slice q ql qc, .slice r (t1 :: rest).length c] 33 (0, 0))) := hW1 ▸ heap_alloc_new w _
  have HW := Lib.hid (h.below hb0)
  have hB1 : B ≤ W1.heap.size := Nat.le_trans hBw hb0.size
  have HB := Lib.hid (hb0.mono hBw)
  have HK : Hid (Kp b w W1) := Kp.of_below hb0
  have HV := Lib.hid (fun W (hb : Below B w W) => hv.below hb hhi)
  have HALL := Lib.hid (fun W (hb : Below B w W) => hall.below hb hhi)
  have HC := Lib.hid hc
  obtain ⟨g, hg⟩ : ∃ g, g = w.heap.size := ⟨_, rfl⟩
  have hgb : g ≠ b := by have := h.lt; omega
  rw [← hg] at HX
  have hgl : g < W1.heap.size := ltW HX.out
  clear hr hc h hb0 hv
  obtain ⟨x0, x1, x2, x3, x4, x5, x6, x7, _⟩ := box8s _ g _ _ _ _ _ _ _ _ _ HX.out
  obtain ⟨bi, off, o0, n0, s0, v0, l0, k0, m0, z0, q0, ql0, qc0, r0, c0, hp0, _, hbh0, hli0, y00, y01, y02, y03, y04, y05, y06, y07, hr0⟩ := hall.item 0 (by simp)
  have hp1 := hp0
  subst hp0
  have hbB : bi < B := by omega
  have HR0 := Lib.hid (fun W (hb : Below B w W) => (show NRep w lo hi t1 _ from hr0).below hb hhi)
  simp only [Nat.zero_mul, Nat.add_zero] at y00 y01 y02 y03 y04 y05 y06 y07
  obtain ⟨q9, hsl, hdr⟩ := nslice_tail (some ⟨bi, off, none⟩) (t1 :: rest) c 1 (by simp) hlc lo hi w hall
  have HDR := Lib.hid (fun W (hb : Below B w W) => (show NAll w lo hi rest q9 from hdr).below hb hhi)
  have hN2 : rest.length + 1 - 1 = rest.length := by omega
  simp only [List.length_cons] at x7 HX hW1 hsl
  rw [hN2] at hsl
  have hsl2 : ∀ W : World, (Instr.sliceAt 22 (.slice (some ⟨bi, off, none⟩) (rest.length + 1) c) (some (.int .i64 1)) none none).run Tryz.prog W = .ok (.slice q9 rest.length (c - 1)) W := hsl
  clear hsl
  obtain ⟨tx, htx⟩ : ∃ tx : Nd → List UInt8, tx = fun t => xT t d := ⟨_, rfl⟩
  have hst : sT (.mk 49 n s v (t1 :: rest)) d = lnT d [116, 114, 121] ++ bT t1 (d + 1) ++ rest.flatMap tx ++ lnT d [101, 110, 100, 116, 114, 121] := by
    rw [sT, htx, ← xAll_flat]; rfl
  rw [hst] at hlen
  simp only [lnT, List.length_append, List.length_cons, List.length_nil, Nat.zero_add, Nat.reduceAdd] at hlen
  obtain ⟨Y, hY⟩ : ∃ Y, (X ++ (indT d ++ ((⟨#[116, 114, 121]⟩ : ByteArray).data.toList ++ [10]))) ++ bT t1 (d + 1) = Y := ⟨_, rfl⟩
  have hYl : Y.length = X.length + ((indT d).length + (3 + 1)) + (bT t1 (d + 1)).length := by rw [← hY]; simp only [List.length_append]; rfl
  have HEX := Lib.hid (show X ++ sT (.mk 49 n s v (t1 :: rest)) d = (Y ++ rest.flatMap tx) ++ (indT d ++ ((⟨#[101, 110, 100, 116, 114, 121]⟩ : ByteArray).data.toList ++ [10])) from by rw [hst, ← hY]; simp [lnT])
  have HYE := Lib.hid hY
  have HBL1 := Lib.hid hb1
  have HES := Lib.hid (show ∀ t ∈ rest, ∀ (B b : Nat) (X : List UInt8) (w : World) (lo hi : Nat) (x : Value), NRep w lo hi t x → lo ≤ B → hi ≤ B → B ≤ w.heap.size → Wr B b d X w → Ctx ad eD eM eR eS B w → X.length + (tx t).length ≤ 70368744177664 →
    Calls Tryz.prog 41 #[.pointer (some ⟨b, 0, none⟩), x] w (WPost B b d (X ++ tx t) w) from by rw [htx]; exact hes)
  have hmono : ∀ j, ((rest.take j).flatMap tx).length ≤ (rest.flatMap tx).length := fun j => by
    have := congrArg (fun l => (l.flatMap tx).length) (List.take_append_drop j rest)
    simp only [List.flatMap_append, List.length_append] at this
    omega
  have HM := Lib.hid hmono
  have hri : (rest.length : Int) ≤ 1000000 := by omega
  have hpos : (0 : Int) < (rest.length : Int) + 1 := by omega
  have HP1 := Lib.hid (line_any B b d X (⟨#[116, 114, 121]⟩ : ByteArray) W1 HW.out hd (by show X.length + ((indT d).length + (3 + 1)) ≤ _; omega) hB1)
  clear hall HV HALL hst hdr hr0 hli0 hb1 hes hmono htx hY hN2
  go_enter Tryz.func20, Tryz.ntmps20
  go_upto_region 1 with fail
  try simp only [List.length_cons]
  rw [← hW1, ← hg]
  clear hW1 hg
  go_wp2_with (first
    | (go_at_call 34; (with_reducible refine HP1.out.mono ?_); rintro e w2 ⟨rfl, h2, hb2, hk2⟩; have HB2 := Lib.hid (HB.out.trans hb2); have HK2 := Lib.hid (HK.out.trans hk2); have HX2 := Lib.hid (hk2 g _ _ (by decide) hgb HX.out); obtain ⟨a20, a21, a22, a23, a24, a25, a26, a27, _⟩ := box8s _ g _ _ _ _ _ _ _ _ _ HX2.out; have hs2 := Nat.le_trans hB1 hb2.size; have z20 := (HB2.out.cell (p := ⟨bi, off, none⟩) hbB).trans y00; have z21 := (HB2.out.cell (p := ⟨bi, off + 1, none⟩) hbB).trans y01; have z22 := (HB2.out.cell (p := ⟨bi, off + 2, none⟩) hbB).trans y02; have z23 := (HB2.out.cell (p := ⟨bi, off + 3, none⟩) hbB).trans y03; have z24 := (HB2.out.cell (p := ⟨bi, off + 4, none⟩) hbB).trans y04; have z25 := (HB2.out.cell (p := ⟨bi, off + 5, none⟩) hbB).trans y05; have z26 := (HB2.out.cell (p := ⟨bi, off + 6, none⟩) hbB).trans y06; have z27 := (HB2.out.cell (p := ⟨bi, off + 7, none⟩) hbB).trans y07; have HP2 := Lib.hid (HBL1.out B b _ w2 lo hi _ (HR0.out _ HB2.out) hlo hhi hs2 h2 (HC.out.on HB2.out) (by simp only [List.length_append]; show X.length + ((indT d).length + (3 + 1)) + (bT t1 (d + 1)).length ≤ _; omega)); rw [HYE.out] at HP2; clear h2 hb2 hk2)
    | (go_at_call 38; (with_reducible refine HP2.out.mono ?_); rintro e w3 ⟨rfl, h3, hb3, hk3⟩; have HB3 := Lib.hid (HB2.out.trans hb3); have HK3 := Lib.hid (HK2.out.trans hk3); have HX3 := Lib.hid (hk3 g _ _ (by decide) hgb HX2.out); obtain ⟨a30, a31, a32, a33, a34, a35, a36, a37, _⟩ := box8s _ g _ _ _ _ _ _ _ _ _ HX3.out; have hs3 := Nat.le_trans hs2 hb3.size; have H3 := Lib.hid h3; clear h3 hb3 hk3))
  go_loopw [108] (fun i wr => ∃ j : Nat, j ≤ rest.length ∧ i = .int .i64 j ∧ Hid (Wr B b d (Y ++ (rest.take j).flatMap tx) wr) ∧ Hid (Below B w wr) ∧ Hid (Kp b w wr)) (fun i _ => rest.length - (intOf i).toNat)
  case atStart => exact ⟨0, Nat.zero_le _, rfl, Lib.hid (by simpa using H3.out), HB3, HK3⟩
  case round =>
    obtain ⟨j, hj, rfl, HW, HB, HK⟩ := hrel
    have hBr : B ≤ wr.heap.size := Nat.le_trans hBw HB.out.size
    by_cases hlt : j < rest.length
    · obtain ⟨bi, off, o, n, s, v, ll, k, m, z, q, ql, qc, r, c, hp, _, hbhi, hli, h0, h1, h2, h3, h4, h5, h6, h7, hrep⟩ := (HDR.out wr HB.out).item j hlt
      subst hp
      have hbw : bi < wr.heap.size := by omega
      have HWT := Lib.hid (HES.out _ (List.getElem_mem hlt))
      have e1 : (rest.take (j + 1)).flatMap tx = (rest.take j).flatMap tx ++ tx rest[j] := by rw [List.take_succ_eq_append_getElem hlt, List.flatMap_append]; simp
      have hjl := HM.out (j + 1)
      rw [e1, List.length_append] at hjl
      have HST := Lib.hid (show Y ++ (rest.take (j + 1)).flatMap tx = (Y ++ (rest.take j).flatMap tx) ++ tx rest[j] from by rw [e1, List.append_assoc])
      obtain ⟨W1, hW1⟩ : ∃ W1, W1 = wr.alloc (.cells #[.int .i64 o, .int .i64 n, .string s, .int .i64 k, .int .i64 m, .string z, .slice q ql qc, .slice r ll.length c] 33) := ⟨_, rfl⟩
      have hb0 : Below wr.heap.size wr W1 := hW1 ▸ (Below.refl wr.heap.size wr).alloc (Nat.le_refl _) _
      have HX : Hid (W1.heap[wr.heap.size]? = some (.cells #[.int .i64 o, .int .i64 n, .string s, .int .i64 k, .int .i64 m, .string z, .slice q ql qc, .slice r ll.length c] 33 (0, 0))) := hW1 ▸ heap_alloc_new wr _
      have HB1 := Lib.hid (hb0.mono hBr)
      have HK1 : Hid (Kp b wr W1) := Kp.of_below hb0
      have HC1 := Lib.hid (HWT.out B b _ W1 lo hi _ (hrep.below HB1.out hhi) hlo hhi (Nat.le_trans hBr hb0.size) (HW.out.below hb0) ((HC.out.on HB.out).on HB1.out) (by rw [List.length_append]; omega))
      obtain ⟨g, hg⟩ : ∃ g, g = wr.heap.size := ⟨_, rfl⟩
      rw [← hg] at HX
      clear hrep hli hb0 e1
      go_upto_region 30 with fail
      rw [← hW1, ← hg]
      clear hW1 hg h0 h1 h2 h3 h4 h5 h6 h7
      obtain ⟨x0, x1, x2, x3, x4, x5, x6, x7, _⟩ := box8s _ g _ _ _ _ _ _ _ _ _ HX.out
      go_wp2_with (go_at_call 41; refine HC1.out.mono ?_; rintro e w2 ⟨rfl, h2, hb2, hk2⟩; have H2 := Lib.hid h2; have HB2 := Lib.hid (HB1.out.trans hb2); have HK2 := Lib.hid (HK1.out.trans hk2); clear h2 hb2 hk2)
      go_roundw
      case rel => exact ⟨j + 1, by omega, by go_num, by rw [HST.out]; exact H2, Lib.hid (HB.out.trans HB2.out), Lib.hid (HK.out.trans HK2.out)⟩
      case measure => simp [intOf]; omega
    · have hje : j = rest.length := by omega
      have HW2 : Hid (Wr B b d (Y ++ rest.flatMap tx) wr) := Lib.hid (by have := HW.out; rw [hje, List.take_length] at this; exact this)
      have HPE := Lib.hid (line_any B b d _ (⟨#[101, 110, 100, 116, 114, 121]⟩ : ByteArray) wr HW2.out hd (by simp only [List.length_append]; show Y.length + (rest.flatMap tx).length + ((indT d).length + (6 + 1)) ≤ _; omega) hBr)
      go_wp2_with (go_at_call 34; (with_reducible refine HPE.out.mono ?_); rintro e w4 ⟨rfl, h4, hb4, hk4⟩; have H4 := Lib.hid h4; have HB4 := Lib.hid (HB.out.trans hb4); have HK4 := Lib.hid (HK.out.trans hk4); clear h4 hb4 hk4)
      go_end0
      exact ⟨rfl, by rw [HEX.out]; exact H4.out, HB4.out, HK4.out⟩
end Go.Proofs.YtemkikjcjhmlaaaGreatDoor.Sh

namespace Go.Proofs.YtemkikjcjhmlaaaGreatDoor.Sh
open Go.RowKit
set_option maxRecDepth 100000

theorem ck_open {o n a : Int} {s : ByteArray} {v : T} {l : List Nd} {lp : Bool} (h : ckN (.mk o n s v l) a lp = none) : mayStandB o a lp = true ∧ enoughB o l.length = true ∧ rightV o v = true ∧ ckL l 0 o a (loopIn o lp) ((l.length : Int) - 1) = none := by
  rw [ckN] at h
  cases h1 : shapeBad o a lp s v l.length with
  | true => rw [h1, if_pos rfl] at h; cases h
  | false =>
    rw [h1, if_neg (by decide)] at h
    cases h2 : nameBad o s with
    | true => rw [h2, if_pos rfl] at h; cases h
    | false =>
      rw [h2, if_neg (by decide)] at h
      unfold shapeBad at h1
      cases e1 : mayStandB o a lp <;> cases e2 : enoughB o l.length <;> cases e3 : rightV o v <;> simp_all
theorem ckL_at : ∀ (l : List Nd) (i : Nat) (o a : Int) (lp : Bool) (last : Int), ckL l i o a lp last = none → ∀ j (h : j < l.length), ckN l[j] (placeInN o a ((i + j : Nat) : Int) last) lp = none
  | [], _, _, _, _, _, _, j, h => absurd h (by simp)
  | t :: r, i, o, a, lp, last, hk, j, h => by
    rw [ckL] at hk
    cases h1 : ckN t (placeInN o a i last) lp with
    | some x => rw [h1] at hk; cases hk
    | none =>
      rw [h1] at hk
      match j, h with
      | 0, _ => exact h1
      | j + 1, h =>
        have := ckL_at r (i + 1) o a lp last hk j (by simpa using h)
        rw [show i + 1 + j = i + (j + 1) from by omega] at this
        exact this
theorem place_expr (o a i last : Int) (h1 : 1 ≤ o) (h2 : o ≤ 29) : placeInN o a i last ≠ 0 ∧ placeInN o a i last ≠ 1 ∧ placeInN o a i last ≠ 2 := by
  unfold placeInN
  repeat' split
  all_goals omega
theorem stand_expr {o a : Int} {lp : Bool} (h0 : a ≠ 0) (h1 : a ≠ 1) (h2 : a ≠ 2) (h : mayStandB o a lp = true) : 1 ≤ o ∧ o ≤ 29 := by
  unfold mayStandB isExprB at h
  rw [if_neg h0, if_neg h1, if_neg h2] at h
  repeat' split at h
  all_goals (simp only [Bool.or_eq_true, Bool.and_eq_true, beq_iff_eq, decide_eq_true_eq] at h; omega)
theorem enough_of {o : Int} {x y : Int} {n : Nat} (hb : boundsN o = (x, y)) (h : enoughB o n = true) : x ≤ n ∧ (n : Int) ≤ y := by
  unfold enoughB at h
  rw [hb] at h
  simpa using h
theorem len1 {l : List Nd} (h : l.length = 1) : ∃ t, l = [t] := by
  match l, h with
  | [t], _ => exact ⟨t, rfl⟩
theorem len2 {l : List Nd} (h : l.length = 2) : ∃ t u, l = [t, u] := by
  match l, h with
  | [t, u], _ => exact ⟨t, u, rfl⟩
theorem len3 {l : List Nd} (h : l.length = 3) : ∃ t u x, l = [t, u, x] := by
  match l, h with
  | [t, u, x], _ => exact ⟨t, u, x, rfl⟩
theorem len1m {l : List Nd} (h : 1 ≤ l.length) : ∃ t r, l = t :: r := by
  match l, h with
  | t :: r, _ => exact ⟨t, r, rfl⟩
theorem len2m {l : List Nd} (h : 2 ≤ l.length) : ∃ t u r, l = t :: u :: r := by
  match l, h with
  | t :: u :: r, _ => exact ⟨t, u, r, rfl⟩
theorem lenlast {l : List Nd} (h : 1 ≤ l.length) : ∃ l0 t, l = l0 ++ [t] :=
  ⟨l.dropLast, l.getLast (by intro e; rw [e] at h; simp at h), (List.dropLast_concat_getLast _).symm⟩
/-- Each expression that the check finds nothing in is written. -/
def XOk (ad : Nat → Addr) (eD eM eR eS : Value) (t : Nd) : Prop := DOk t ∧ WOk ad eD eM eR eS t ∧ CodOk ad eD eM eR eS t
theorem whole_any (ad : Nat → Addr) (eD eM eR eS : Value) (hP : Ptrs eD eM eR eS) (hneg : ∀ (n : Int) (s : ByteArray) (v : T) (t1 : Nd), WOk ad eD eM eR eS t1 → DOk t1 → looseN t1 = true → WOk ad eD eM eR eS (.mk 3 n s v [t1])) : ∀ t, cnt t ≤ 1000000 → ∀ (a : Int) (lp : Bool), a ≠ 0 → a ≠ 1 → a ≠ 2 → ckN t a lp = none → XOk ad eD eM eR eS t := Nd.ind_ (fun o n s v l ih hcn a lp ha0 ha1 ha2 hk => by
  obtain ⟨hm, he, hr, hl⟩ := ck_open hk
  obtain ⟨ho1, ho2⟩ := stand_expr ha0 ha1 ha2 hm
  have hcl : cntAll l ≤ 1000000 := by rw [cnt] at hcn; omega
  have hll : l.length ≤ 1000000 := Nat.le_trans (len_cnt l) hcl
  have hX : ∀ t ∈ l, XOk ad eD eM eR eS t := by
    intro t ht
    obtain ⟨j, hj, rfl⟩ := List.getElem_of_mem ht
    obtain ⟨p0, p1, p2⟩ := place_expr o a ((0 + j : Nat) : Int) ((l.length : Int) - 1) ho1 ho2
    exact ih _ ht (Nat.le_trans (cntAll_mem ht) hcl) _ _ p0 p1 p2 (ckL_at l 0 o a _ _ hl j hj)
  have hW : ∀ t ∈ l, WOk ad eD eM eR eS t := fun t ht => (hX t ht).2.1
  have hC : CodOk ad eD eM eR eS (.mk o n s v l) := by
    cases l with
    | nil => exact codes_nil ad eD eM eR eS o n s v
    | cons t r => exact codes_cons ad eD eM eR eS o n s v _ (by simp) hW hll
  clear ih hk hm hl hcn hcl ha0 ha1 ha2
  have hos : o = 1 ∨ o = 2 ∨ o = 3 ∨ o = 4 ∨ o = 5 ∨ o = 6 ∨ o = 7 ∨ o = 8 ∨ o = 9 ∨ o = 10 ∨ o = 11 ∨ o = 12 ∨ o = 13 ∨ o = 14 ∨ o = 15 ∨ o = 16 ∨ o = 17 ∨ o = 18 ∨ o = 19 ∨ o = 20 ∨ o = 21 ∨ o = 22 ∨ o = 23 ∨ o = 24 ∨ o = 25 ∨ o = 26 ∨ o = 27 ∨ o = 28 ∨ o = 29 := by omega
  clear ho1 ho2
  rcases hos with rfl | rfl | rfl | rfl | rfl | rfl | rfl | rfl | rfl | rfl | rfl | rfl | rfl | rfl | rfl | rfl | rfl | rfl | rfl | rfl | rfl | rfl | rfl | rfl | rfl | rfl | rfl | rfl | rfl
  · have h0 : (odd v 1 0).1 = 0 := by
      unfold rightV at hr
      rw [if_pos rfl] at hr
      split at hr
      · cases hr
      · simpa [rightB, oddCode] using hr
    exact ⟨dig_lit n s v l, whole_lit ad eD eM eR eS hP n s v l h0, hC⟩
  · exact ⟨dig_flat 2 n s v _ (by decide) (by decide), whole_var ad eD eM eR eS n s v l, hC⟩
  · obtain ⟨hx, hy⟩ := enough_of (show boundsN 3 = (1, 1) from by decide) he
    obtain ⟨t1, rfl⟩ := len1 (l := l) (by omega)
    have hw3 : WOk ad eD eM eR eS (.mk 3 n s v [t1]) := by
      cases hL : looseN t1 with
      | true => exact hneg n s v t1 (hW _ (by simp)) (hX _ (by simp)).1 hL
      | false => exact whole_neg_false ad eD eM eR eS n s v t1 (hW _ (by simp)) (hX _ (by simp)).1 hL
    exact ⟨dig_flat 3 n s v _ (by decide) (by decide), hw3, hC⟩
  · obtain ⟨hx, hy⟩ := enough_of (show boundsN 4 = (1, 1) from by decide) he
    obtain ⟨t1, rfl⟩ := len1 (l := l) (by omega)
    exact ⟨dig_flat 4 n s v _ (by decide) (by decide), whole_not ad eD eM eR eS n s v t1 (hW _ (by simp)), hC⟩
  · obtain ⟨hx, hy⟩ := enough_of (show boundsN 5 = (2, 2) from by decide) he
    obtain ⟨t1, t2, rfl⟩ := len2 (l := l) (by omega)
    exact ⟨dig_flat 5 n s v _ (by decide) (by decide), whole_bin5 ad eD eM eR eS n s v t1 t2 (hW _ (by simp)) (hW _ (by simp)), hC⟩
  · obtain ⟨hx, hy⟩ := enough_of (show boundsN 6 = (2, 2) from by decide) he
    obtain ⟨t1, t2, rfl⟩ := len2 (l := l) (by omega)
    exact ⟨dig_flat 6 n s v _ (by decide) (by decide), whole_bin6 ad eD eM eR eS n s v t1 t2 (hW _ (by simp)) (hW _ (by simp)), hC⟩
  · obtain ⟨hx, hy⟩ := enough_of (show boundsN 7 = (2, 2) from by decide) he
    obtain ⟨t1, t2, rfl⟩ := len2 (l := l) (by omega)
    exact ⟨dig_flat 7 n s v _ (by decide) (by decide), whole_bin7 ad eD eM eR eS n s v t1 t2 (hW _ (by simp)) (hW _ (by simp)), hC⟩
  · obtain ⟨hx, hy⟩ := enough_of (show boundsN 8 = (2, 2) from by decide) he
    obtain ⟨t1, t2, rfl⟩ := len2 (l := l) (by omega)
    exact ⟨dig_flat 8 n s v _ (by decide) (by decide), whole_bin8 ad eD eM eR eS n s v t1 t2 (hW _ (by simp)) (hW _ (by simp)), hC⟩
  · obtain ⟨hx, hy⟩ := enough_of (show boundsN 9 = (2, 2) from by decide) he
    obtain ⟨t1, t2, rfl⟩ := len2 (l := l) (by omega)
    exact ⟨dig_flat 9 n s v _ (by decide) (by decide), whole_bin9 ad eD eM eR eS n s v t1 t2 (hW _ (by simp)) (hW _ (by simp)), hC⟩
  · obtain ⟨hx, hy⟩ := enough_of (show boundsN 10 = (2, 2) from by decide) he
    obtain ⟨t1, t2, rfl⟩ := len2 (l := l) (by omega)
    exact ⟨dig_flat 10 n s v _ (by decide) (by decide), whole_bin10 ad eD eM eR eS n s v t1 t2 (hW _ (by simp)) (hW _ (by simp)), hC⟩
  · obtain ⟨hx, hy⟩ := enough_of (show boundsN 11 = (2, 2) from by decide) he
    obtain ⟨t1, t2, rfl⟩ := len2 (l := l) (by omega)
    exact ⟨dig_flat 11 n s v _ (by decide) (by decide), whole_bin11 ad eD eM eR eS n s v t1 t2 (hW _ (by simp)) (hW _ (by simp)), hC⟩
  · obtain ⟨hx, hy⟩ := enough_of (show boundsN 12 = (2, 2) from by decide) he
    obtain ⟨t1, t2, rfl⟩ := len2 (l := l) (by omega)
    exact ⟨dig_flat 12 n s v _ (by decide) (by decide), whole_bin12 ad eD eM eR eS n s v t1 t2 (hW _ (by simp)) (hW _ (by simp)), hC⟩
  · obtain ⟨hx, hy⟩ := enough_of (show boundsN 13 = (2, 2) from by decide) he
    obtain ⟨t1, t2, rfl⟩ := len2 (l := l) (by omega)
    exact ⟨dig_flat 13 n s v _ (by decide) (by decide), whole_bin13 ad eD eM eR eS n s v t1 t2 (hW _ (by simp)) (hW _ (by simp)), hC⟩
  · obtain ⟨hx, hy⟩ := enough_of (show boundsN 14 = (2, 2) from by decide) he
    obtain ⟨t1, t2, rfl⟩ := len2 (l := l) (by omega)
    exact ⟨dig_flat 14 n s v _ (by decide) (by decide), whole_bin14 ad eD eM eR eS n s v t1 t2 (hW _ (by simp)) (hW _ (by simp)), hC⟩
  · obtain ⟨hx, hy⟩ := enough_of (show boundsN 15 = (2, 2) from by decide) he
    obtain ⟨t1, t2, rfl⟩ := len2 (l := l) (by omega)
    exact ⟨dig_flat 15 n s v _ (by decide) (by decide), whole_bin15 ad eD eM eR eS n s v t1 t2 (hW _ (by simp)) (hW _ (by simp)), hC⟩
  · obtain ⟨hx, hy⟩ := enough_of (show boundsN 16 = (2, 2) from by decide) he
    obtain ⟨t1, t2, rfl⟩ := len2 (l := l) (by omega)
    exact ⟨dig_flat 16 n s v _ (by decide) (by decide), whole_bin16 ad eD eM eR eS n s v t1 t2 (hW _ (by simp)) (hW _ (by simp)), hC⟩
  · obtain ⟨hx, hy⟩ := enough_of (show boundsN 17 = (2, 2) from by decide) he
    obtain ⟨t1, t2, rfl⟩ := len2 (l := l) (by omega)
    exact ⟨dig_flat 17 n s v _ (by decide) (by decide), whole_bin17 ad eD eM eR eS n s v t1 t2 (hW _ (by simp)) (hW _ (by simp)), hC⟩
  · obtain ⟨hx, hy⟩ := enough_of (show boundsN 18 = (2, 2) from by decide) he
    obtain ⟨t1, t2, rfl⟩ := len2 (l := l) (by omega)
    exact ⟨dig_flat 18 n s v _ (by decide) (by decide), whole_bin18 ad eD eM eR eS n s v t1 t2 (hW _ (by simp)) (hW _ (by simp)), hC⟩
  · obtain ⟨hx, hy⟩ := enough_of (show boundsN 19 = (3, 3) from by decide) he
    obtain ⟨t1, t2, t3, rfl⟩ := len3 (l := l) (by omega)
    exact ⟨dig_flat 19 n s v _ (by decide) (by decide), whole_cond ad eD eM eR eS n s v t1 t2 t3 (hW _ (by simp)) (hW _ (by simp)) (hW _ (by simp)), hC⟩
  · obtain ⟨hx, hy⟩ := enough_of (show boundsN 20 = (2, 2) from by decide) he
    obtain ⟨t1, r, rfl⟩ := len1m (l := l) (by omega)
    exact ⟨dig_head20 n s v t1 r (hX _ (by simp)).1, whole_index20 ad eD eM eR eS n s v t1 r (hW _ (by simp)) (fun t ht => hW t (List.mem_cons_of_mem _ ht)) (by simp at hll; omega), hC⟩
  · obtain ⟨hx, hy⟩ := enough_of (show boundsN 21 = (3, 3) from by decide) he
    obtain ⟨t1, r, rfl⟩ := len1m (l := l) (by omega)
    exact ⟨dig_head21 n s v t1 r (hX _ (by simp)).1, whole_index21 ad eD eM eR eS n s v t1 r (hW _ (by simp)) (fun t ht => hW t (List.mem_cons_of_mem _ ht)) (by simp at hll; omega), hC⟩
  · obtain ⟨hx, hy⟩ := enough_of (show boundsN 22 = (2, 2) from by decide) he
    obtain ⟨t1, t2, rfl⟩ := len2 (l := l) (by omega)
    exact ⟨dig_head22 n s v t1 [t2] (hX _ (by simp)).1, whole_prop ad eD eM eR eS n s v t1 t2 (hW _ (by simp)) (hW _ (by simp)), hC⟩
  · obtain ⟨hx, hy⟩ := enough_of (show boundsN 23 = (2, 9223372036854775807) from by decide) he
    obtain ⟨t1, t2, r, rfl⟩ := len2m (l := l) (by omega)
    exact ⟨dig_head23 n s v t1 (t2 :: r) (hX _ (by simp)).1, whole_call ad eD eM eR eS n s v t1 t2 r (hW _ (by simp)) (hW _ (by simp)) (fun t ht => hW t (List.mem_cons_of_mem _ (List.mem_cons_of_mem _ ht))) (by simp at hll; omega), hC⟩
  · exact ⟨dig_flat 24 n s v _ (by decide) (by decide), whole_fun ad eD eM eR eS n s v l hW hll, hC⟩
  · exact ⟨dig_flat 25 n s v _ (by decide) (by decide), whole_make ad eD eM eR eS n s v l hW hll, hC⟩
  · obtain ⟨hx, hy⟩ := enough_of (show boundsN 26 = (1, 1) from by decide) he
    obtain ⟨t1, rfl⟩ := len1 (l := l) (by omega)
    exact ⟨dig_flat 26 n s v _ (by decide) (by decide), whole_splice ad eD eM eR eS n s v t1 (hW _ (by simp)), hC⟩
  · exact ⟨dig_flat 27 n s v _ (by decide) (by decide), whole_set ad eD eM eR eS n s v l hW hll, hC⟩
  · obtain ⟨hx, hy⟩ := enough_of (show boundsN 28 = (2, 9223372036854775807) from by decide) he
    obtain ⟨l0, t, rfl⟩ := lenlast (by omega : 1 ≤ l.length)
    exact ⟨dig_flat 28 n s v _ (by decide) (by decide), whole_scatter ad eD eM eR eS n s v l0 t (fun u hu => hW u (List.mem_append_left _ hu)) (hW _ (by simp)) (by simp at hll; omega), hC⟩
  · obtain ⟨hx, hy⟩ := enough_of (show boundsN 29 = (2, 3) from by decide) he
    have hct : CatOk ad eD eM eR eS (.mk 29 n s v l) := by
      rcases (show l.length = 2 ∨ l.length = 3 from by omega) with h2 | h3
      · obtain ⟨t1, t2, rfl⟩ := len2 h2
        exact catch2_any ad eD eM eR eS n s v t1 t2 (hW _ (by simp)) (hX _ (by simp)).2.2
      · obtain ⟨t1, t2, t3, rfl⟩ := len3 h3
        exact catch3_any ad eD eM eR eS n s v t1 t2 t3 (hW _ (by simp)) (hX _ (by simp)).2.2 (hW _ (by simp))
    exact ⟨dig_flat 29 n s v _ (by decide) (by decide), whole_catch ad eD eM eR eS n s v l hct, hC⟩)
end Go.Proofs.YtemkikjcjhmlaaaGreatDoor.Sh

namespace Go.Proofs.YtemkikjcjhmlaaaGreatDoor.Sh
open Go.RowKit
set_option maxRecDepth 100000

theorem dpNAll_mem {l : List Nd} {t : Nd} (h : t ∈ l) : dpN t ≤ dpNAll l := by
  induction l with
  | nil => cases h
  | cons a r ih =>
    rw [dpNAll]
    rcases List.mem_cons.1 h with rfl | h
    · omega
    · have := ih h; omega
/-- An If's parts, by their places. -/
theorem brok_of (ad : Nat → Addr) (eD eM eR eS : Value) (d : Nat) : ∀ (m : Nat) (l : List Nd), l.length ≤ m → (∀ j (h : j < l.length), (j % 2 = 1 ∨ j + 1 = l.length → BOd ad eD eM eR eS l[j] d) ∧ (¬ (j % 2 = 1 ∨ j + 1 = l.length) → WOk ad eD eM eR eS l[j])) → BrOk ad eD eM eR eS d l
  | _, [], _, _ => trivial
  | _, [t], _, h => (h 0 (by simp)).1 (.inr rfl)
  | 0, t :: u :: r, hm, _ => absurd hm (by simp)
  | 1, t :: u :: r, hm, _ => absurd hm (by simp)
  | m + 2, t :: u :: r, hm, h => by
    refine ⟨(h 0 (by simp)).2 (by simp), (h 1 (by simp)).1 (.inl rfl), brok_of ad eD eM eR eS d m r (by simpa using hm) (fun j hj => ?_)⟩
    have h2 := h (j + 2) (by simpa using hj)
    have e : (t :: u :: r)[j + 2]'(by simpa using hj) = r[j] := rfl
    rw [e] at h2
    have hl : (t :: u :: r).length = r.length + 2 := rfl
    rw [hl] at h2
    exact ⟨fun hc => h2.1 (by omega), fun hc => h2.2 (by omega)⟩
theorem empty_of {s : ByteArray} (h : s.size = 0) : s = ⟨#[]⟩ := by
  obtain ⟨d⟩ := s
  have : d = #[] := Array.eq_empty_of_size_eq_zero h
  rw [this]
theorem stand_stmt {o : Int} {lp : Bool} (h : mayStandB o 0 lp = true) : 40 ≤ o ∧ o ≤ 51 ∧ o ≠ 50 := by
  unfold mayStandB isStmtB at h
  simp only [if_pos, Bool.and_eq_true, decide_eq_true_eq, bne_iff_ne, ne_eq] at h
  omega
theorem stand_block {o : Int} {lp : Bool} (h : mayStandB o 1 lp = true) : o = 52 := by
  unfold mayStandB at h
  simpa using h
theorem stand_except {o : Int} {lp : Bool} (h : mayStandB o 2 lp = true) : o = 50 := by
  unfold mayStandB at h
  simpa using h
/-- What may be written at a place. -/
structure StOk (ad : Nat → Addr) (eD eM eR eS : Value) (t : Nd) (d : Nat) : Prop where
  s : ∀ lp, ckN t 0 lp = none → SOd ad eD eM eR eS t d (sT t d)
  b : ∀ lp, ckN t 1 lp = none → BOd ad eD eM eR eS t d
  e : ∀ lp, ckN t 2 lp = none → EOd ad eD eM eR eS t d
theorem tmod2 (j : Nat) : (((0 + j : Nat) : Int)).tmod 2 = ((j % 2 : Nat) : Int) := by
  rw [Int.tmod_eq_emod_of_nonneg (by omega)]; omega
theorem stmt_any (ad : Nat → Addr) (eD eM eR eS : Value) (hP : Ptrs eD eM eR eS) (hneg : ∀ (n : Int) (s : ByteArray) (v : T) (t1 : Nd), WOk ad eD eM eR eS t1 → DOk t1 → looseN t1 = true → WOk ad eD eM eR eS (.mk 3 n s v [t1])) :
    ∀ t, cnt t ≤ 1000000 → ∀ d, d + dpN t ≤ 41 → StOk ad eD eM eR eS t d := Nd.ind_ (fun o n s v l ih hcn d hdp => by
  have hcl : cntAll l ≤ 1000000 := by rw [cnt] at hcn; omega
  have hll : l.length ≤ 1000000 := Nat.le_trans (len_cnt l) hcl
  have hdl : d + 1 + dpNAll l ≤ 41 := by rw [dpN] at hdp; omega
  have hd : d ≤ 41 := by omega
  have hI : ∀ t ∈ l, ∀ e, e ≤ d + 1 → StOk ad eD eM eR eS t e := fun t ht e he => ih t ht (Nat.le_trans (cntAll_mem ht) hcl) e (by have := dpNAll_mem ht; omega)
  have hX : ∀ t ∈ l, ∀ (a : Int) (lp : Bool), a ≠ 0 → a ≠ 1 → a ≠ 2 → ckN t a lp = none → XOk ad eD eM eR eS t := fun t ht a lp h0 h1 h2 hk => whole_any ad eD eM eR eS hP hneg t (Nat.le_trans (cntAll_mem ht) hcl) a lp h0 h1 h2 hk
  clear ih hcn hdp
  refine ⟨fun lp hk => ?_, fun lp hk => ?_, fun lp hk => ?_⟩
  · obtain ⟨hm, he, hr, hl⟩ := ck_open hk
    obtain ⟨ho1, ho2, ho3⟩ := stand_stmt hm
    have hA := fun j (hj : j < l.length) => ckL_at l 0 o 0 _ _ hl j hj
    clear hk hm hl hr
    have hos : o = 40 ∨ o = 41 ∨ o = 42 ∨ o = 43 ∨ o = 44 ∨ o = 45 ∨ o = 46 ∨ o = 47 ∨ o = 48 ∨ o = 49 ∨ o = 51 := by omega
    clear ho1 ho2 ho3
    rcases hos with rfl | rfl | rfl | rfl | rfl | rfl | rfl | rfl | rfl | rfl | rfl
    · obtain ⟨hx, hy⟩ := enough_of (show boundsN 40 = (1, 1) from by decide) he
      obtain ⟨t1, rfl⟩ := len1 (l := l) (by omega)
      have h0 := hX t1 (by simp) 3 _ (by decide) (by decide) (by decide) (hA 0 (by simp))
      have := statement_simple ad eD eM eR eS d 40 n s v [t1] _ (.inl rfl) (simpd_do ad eD eM eR eS d hd n s v t1 h0.2.1)
      have e : sT (.mk 40 n s v [t1]) d = indT d ++ joinS [] (wAll [t1]) ++ [59, 10] := by rw [sT]; rfl
      rw [e]; exact this
    · refine statement_if ad eD eM eR eS d hd n s v l (brok_of ad eD eM eR eS d l.length l (Nat.le_refl _) (fun j hj => ?_)) hll
      have hj2 := hA j hj
      have hp : placeInN 41 0 (((0 + j : Nat) : Int)) ((l.length : Int) - 1) = if (((0 + j : Nat) : Int)).tmod 2 = 1 ∨ (((0 + j : Nat) : Int)) = (l.length : Int) - 1 then 1 else 3 := by unfold placeInN; rfl
      rw [hp, tmod2] at hj2
      refine ⟨fun hc => ?_, fun hc => ?_⟩
      · rw [if_pos (by omega)] at hj2
        exact (hI _ (List.getElem_mem hj) d (by omega)).b _ hj2
      · rw [if_neg (by omega)] at hj2
        exact (hX _ (List.getElem_mem hj) _ _ (by decide) (by decide) (by decide) hj2).2.1
    · obtain ⟨hx, hy⟩ := enough_of (show boundsN 42 = (2, 2) from by decide) he
      obtain ⟨t1, t2, rfl⟩ := len2 (l := l) (by omega)
      exact statement_forin ad eD eM eR eS d hd n s v t1 t2 (hX _ (by simp) 3 _ (by decide) (by decide) (by decide) (hA 0 (by simp))).2.1 ((hI _ (by simp) d (by omega)).b _ (hA 1 (by simp)))
    · obtain ⟨hx, hy⟩ := enough_of (show boundsN 43 = (3, 3) from by decide) he
      obtain ⟨t1, t2, t3, rfl⟩ := len3 (l := l) (by omega)
      exact statement_forto ad eD eM eR eS d hd n s v t1 t2 t3 (hX _ (by simp) 3 _ (by decide) (by decide) (by decide) (hA 0 (by simp))).2.1 (hX _ (by simp) 3 _ (by decide) (by decide) (by decide) (hA 1 (by simp))).2.1 ((hI _ (by simp) d (by omega)).b _ (hA 2 (by simp)))
    · obtain ⟨hx, hy⟩ := enough_of (show boundsN 44 = (2, 2) from by decide) he
      obtain ⟨t1, t2, rfl⟩ := len2 (l := l) (by omega)
      exact statement_while ad eD eM eR eS d hd n s v t1 t2 (hX _ (by simp) 3 _ (by decide) (by decide) (by decide) (hA 0 (by simp))).2.1 ((hI _ (by simp) d (by omega)).b _ (hA 1 (by simp)))
    · obtain ⟨hx, hy⟩ := enough_of (show boundsN 45 = (0, 0) from by decide) he
      obtain rfl : l = [] := List.eq_nil_of_length_eq_zero (by omega)
      have := statement_simple ad eD eM eR eS d 45 n s v [] _ (.inr (.inl rfl)) (simpd_break ad eD eM eR eS d hd n s v)
      have e : sT (.mk 45 n s v []) d = indT d ++ [98, 114, 101, 97, 107] ++ [59, 10] := by rw [sT]; rfl
      rw [e]; exact this
    · obtain ⟨hx, hy⟩ := enough_of (show boundsN 46 = (0, 0) from by decide) he
      obtain rfl : l = [] := List.eq_nil_of_length_eq_zero (by omega)
      have := statement_simple ad eD eM eR eS d 46 n s v [] _ (.inr (.inr (.inl rfl))) (simpd_continue ad eD eM eR eS d hd n s v)
      have e : sT (.mk 46 n s v []) d = indT d ++ [99, 111, 110, 116, 105, 110, 117, 101] ++ [59, 10] := by rw [sT]; rfl
      rw [e]; exact this
    · obtain ⟨hx, hy⟩ := enough_of (show boundsN 47 = (0, 1) from by decide) he
      rcases (show l.length = 0 ∨ l.length = 1 from by omega) with h0 | h1
      · obtain rfl : l = [] := List.eq_nil_of_length_eq_zero h0
        have := statement_simple ad eD eM eR eS d 47 n s v [] _ (.inr (.inr (.inr rfl))) (simpd_return0 ad eD eM eR eS d hd n s v)
        have e : sT (.mk 47 n s v []) d = indT d ++ [114, 101, 116, 117, 114, 110] ++ [59, 10] := by
          rw [sT]
          show indT d ++ [114, 101, 116, 117, 114, 110] ++ [] ++ [] ++ [59, 10] = _
          rw [List.append_nil, List.append_nil]
        rw [e]; exact this
      · obtain ⟨t1, rfl⟩ := len1 h1
        have h0 := hX t1 (by simp) 3 _ (by decide) (by decide) (by decide) (hA 0 (by simp))
        have := statement_simple ad eD eM eR eS d 47 n s v [t1] _ (.inr (.inr (.inr rfl))) (simpd_return1 ad eD eM eR eS d hd n s v t1 h0.2.1)
        have e : sT (.mk 47 n s v [t1]) d = indT d ++ [114, 101, 116, 117, 114, 110] ++ [32] ++ joinS [] (wAll [t1]) ++ [59, 10] := by rw [sT]; rfl
        rw [e]; exact this
    · obtain ⟨hx, hy⟩ := enough_of (show boundsN 48 = (2, 2) from by decide) he
      obtain ⟨t1, t2, rfl⟩ := len2 (l := l) (by omega)
      exact statement_fork ad eD eM eR eS d hd n s v t1 t2 (hX _ (by simp) 3 _ (by decide) (by decide) (by decide) (hA 0 (by simp))).2.1 ((hI _ (by simp) d (by omega)).b _ (hA 1 (by simp)))
    · obtain ⟨hx, hy⟩ := enough_of (show boundsN 49 = (2, 9223372036854775807) from by decide) he
      obtain ⟨t1, r, rfl⟩ := len1m (l := l) (by omega)
      refine statement_try ad eD eM eR eS d hd n s v t1 r ((hI _ (by simp) d (by omega)).b _ (hA 0 (by simp))) (fun t ht => ?_) (by simp at hll; omega)
      obtain ⟨j, hj, rfl⟩ := List.getElem_of_mem ht
      have hj2 := hA (j + 1) (by simpa using hj)
      have hp : placeInN 49 0 (((0 + (j + 1) : Nat) : Int)) (((t1 :: r).length : Int) - 1) = 2 := by
        unfold placeInN
        rw [if_neg (by decide), if_neg (by decide), if_neg (by decide), if_neg (by decide), if_pos rfl, if_neg (by omega)]
      rw [hp] at hj2
      exact (hI r[j] (List.mem_cons_of_mem _ ht) d (by omega)).e _ hj2
    · obtain ⟨hx, hy⟩ := enough_of (show boundsN 51 = (2, 2) from by decide) he
      obtain ⟨t1, t2, rfl⟩ := len2 (l := l) (by omega)
      exact statement_finally ad eD eM eR eS d hd n s v t1 t2 ((hI _ (by simp) d (by omega)).b _ (hA 0 (by simp))) ((hI _ (by simp) d (by omega)).b _ (hA 1 (by simp)))
  · obtain ⟨hm, he, hr, hl⟩ := ck_open hk
    obtain rfl := stand_block hm
    refine block_any ad eD eM eR eS d 52 n s v l (fun t ht => ?_) hll hd
    obtain ⟨j, hj, rfl⟩ := List.getElem_of_mem ht
    have hj2 := ckL_at l 0 52 1 _ _ hl j hj
    have hp : placeInN 52 1 (((0 + j : Nat) : Int)) ((l.length : Int) - 1) = 0 := by unfold placeInN; rfl
    rw [hp] at hj2
    exact (hI _ ht (d + 1) (Nat.le_refl _)).s _ hj2
  · obtain ⟨hm, he, hr, hl⟩ := ck_open hk
    obtain rfl := stand_except hm
    obtain ⟨hx, hy⟩ := enough_of (show boundsN 50 = (2, 2) from by decide) he
    obtain ⟨t1, t2, rfl⟩ := len2 (l := l) (by omega)
    have hA := fun j (hj : j < [t1, t2].length) => ckL_at [t1, t2] 0 50 2 _ _ hl j hj
    have h0 := (hX t1 (by simp) 5 _ (by decide) (by decide) (by decide) (hA 0 (by simp))).2.2
    have h1 := (hI t2 (by simp) d (by omega)).b _ (hA 1 (by simp))
    by_cases hs : s.size = 0
    · obtain rfl := empty_of hs
      exact except_none ad eD eM eR eS d hd n v t1 t2 h0 h1
    · exact except_some ad eD eM eR eS d hd n s hs v t1 t2 h0 h1)
end Go.Proofs.YtemkikjcjhmlaaaGreatDoor.Sh

namespace Go.Proofs.YtemkikjcjhmlaaaGreatDoor.Sh
open Go.RowKit
set_option maxRecDepth 100000

mutual
/-- A node whose own texts are short, and all that it has. -/
def LtN : Nd → Prop
  | .mk o _ s v l => s.size ≤ 10000 ∧ (o = 1 → (tx v).length ≤ 4000000) ∧ (o = 1 → v.k = 2 → v.s.size ≤ 4096) ∧ LtL l
def LtL : List Nd → Prop
  | [] => True
  | t :: r => LtN t ∧ LtL r
end
theorem LtL.mem : ∀ {l : List Nd}, LtL l → ∀ t ∈ l, LtN t
  | [], _, _, h => by cases h
  | x :: r, hl, t, h => by
    rw [LtL] at hl
    rcases List.mem_cons.1 h with rfl | h
    · exact hl.1
    · exact LtL.mem hl.2 t h
def mT (t : Nd) : Nat := max (wT t).length (cT t).length
def SL : List Nd → Nat
  | [] => 0
  | t :: r => (mT t + 4000100) + SL r
theorem wT_le (t : Nd) : (wT t).length ≤ mT t := Nat.le_max_left ..
theorem cT_le (t : Nd) : (cT t).length ≤ mT t := Nat.le_max_right ..
theorem SL_app : ∀ (a b : List Nd), SL (a ++ b) = SL a + SL b
  | [], b => by simp [SL]
  | t :: r, b => by rw [List.cons_append, SL, SL, SL_app r b]; omega
theorem jn_le (sep : Nat → List UInt8) (h : ∀ i, (sep i).length ≤ 8) (xs : List (List UInt8)) : ∀ j, j ≤ xs.length → (jn sep xs j).length ≤ ((xs.take j).map (fun x => x.length + 8)).sum
  | 0, _ => by simp [jn]
  | j + 1, hj => by
    have ih := jn_le sep h xs j (by omega)
    have e : xs.take (j + 1) = xs.take j ++ [xs[j]] := List.take_succ_eq_append_getElem hj
    have g : xs.getD j [] = xs[j] := by
      rw [List.getD_eq_getElem?_getD, List.getElem?_eq_getElem (show j < xs.length from hj)]; rfl
    have hs := h (j - 1)
    rw [jn, e, List.map_append, List.sum_append, List.length_append, List.length_append, g]
    simp only [List.map_cons, List.map_nil, List.sum_cons, List.sum_nil]
    split
    · simp only [List.length_nil]; omega
    · omega
theorem jn_all (sep : Nat → List UInt8) (h : ∀ i, (sep i).length ≤ 8) (xs : List (List UInt8)) : (jn sep xs xs.length).length ≤ (xs.map (fun x => x.length + 8)).sum := by
  have := jn_le sep h xs xs.length (Nat.le_refl _)
  rwa [List.take_length] at this
theorem wAll_sum : ∀ l, ((wAll l).map (fun x => x.length + 8)).sum ≤ SL l
  | [] => by simp [wAll, SL]
  | t :: r => by
    have h1 := wAll_sum r
    have h2 := wT_le t
    rw [wAll, List.map_cons, List.sum_cons, SL]; omega
theorem par_len (b : Bool) (x : List UInt8) : (parB b x).length ≤ x.length + 2 := by
  unfold parB
  split
  · simp only [List.length_append, List.length_cons, List.length_nil]; omega
  · omega
theorem ps_sum : ∀ l, ((List.zipWith (fun t x => parB (looseN t) x) l (wAll l)).map (fun x => x.length + 8)).sum ≤ SL l
  | [] => by simp [wAll, SL]
  | t :: r => by
    have h1 := ps_sum r
    have h2 := wT_le t
    have h3 := par_len (looseN t) (wT t)
    rw [wAll, List.zipWith_cons_cons, List.map_cons, List.sum_cons, SL]; omega
theorem wAll_drop : ∀ (k : Nat) (l : List Nd), (wAll l).drop k = wAll (l.drop k)
  | 0, _ => rfl
  | k + 1, [] => by simp [wAll]
  | k + 1, t :: r => by rw [wAll, List.drop_succ_cons, List.drop_succ_cons, wAll_drop k r]
theorem join_le (sep : List UInt8) (h : sep.length ≤ 8) (l : List Nd) : (joinS sep (wAll l)).length ≤ SL l :=
  Nat.le_trans (jn_all (fun _ => sep) (fun _ => h) _) (wAll_sum l)
theorem jps_le (sep : Nat → List UInt8) (h : ∀ i, (sep i).length ≤ 8) (l : List Nd) : (jn sep (List.zipWith (fun t x => parB (looseN t) x) l (wAll l)) (List.zipWith (fun t x => parB (looseN t) x) l (wAll l)).length).length ≤ SL l :=
  Nat.le_trans (jn_all sep h _) (ps_sum l)
theorem ps0_le : ∀ l, ((List.zipWith (fun t x => parB (looseN t) x) l (wAll l)).getD 0 []).length + SL (l.drop 1) ≤ SL l
  | [] => by simp [wAll, SL]
  | t :: r => by
    have h2 := wT_le t
    have h3 := par_len (looseN t) (wT t)
    rw [wAll, List.zipWith_cons_cons, SL]
    show (parB (looseN t) (wT t)).length + SL r ≤ _
    omega
theorem nm_le (t : Nd) (h : LtN t) : (nmT t (wT t)).length ≤ mT t + 4098 := by
  obtain ⟨o, n, s, v, l⟩ := t
  rw [LtN] at h
  have h2 := wT_le (.mk o n s v l)
  rw [nmT]
  by_cases hc : o = 1 ∧ v.k = 2 ∧ nameB v.s = true
  · rw [if_pos hc]
    have := h.2.2.1 hc.1 hc.2.1
    have e : v.s.data.toList.length = v.s.size := Array.length_toList ..
    omega
  · rw [if_neg hc]
    have := par_len true (wT (.mk o n s v l))
    omega
def nmP (l : List Nd) (xs : List (List UInt8)) : List UInt8 := match l, xs with | _ :: t :: _, _ :: x :: _ => nmT t x | _, _ => []
theorem nmP_le : ∀ l, LtL l → (nmP l (wAll l)).length + SL (l.drop 2) ≤ SL (l.drop 1)
  | [], _ => by simp [nmP, SL]
  | [t], _ => by simp [nmP, SL]
  | t :: u :: r, h => by
    rw [LtL, LtL] at h
    have h1 := nm_le u h.2.1
    show (nmT u (wT u)).length + SL r ≤ SL (u :: r)
    rw [SL]; omega
def ngP (l : List Nd) (xs : List (List UInt8)) : List UInt8 := match l, xs with | t :: _, x :: _ => parB (looseN t || digN t) x | _, _ => []
theorem ngP_le : ∀ l, (ngP l (wAll l)).length ≤ SL l
  | [] => by simp [ngP, SL]
  | t :: r => by
    have h2 := wT_le t
    have h3 := par_len (looseN t || digN t) (wT t)
    show (parB (looseN t || digN t) (wT t)).length ≤ SL (t :: r)
    rw [SL]; omega
theorem sc_le (sep : List UInt8) (h : sep.length ≤ 8) (l : List Nd) : (joinS sep (wAll l).dropLast).length + ((wAll l).getLastD []).length ≤ SL l := by
  rcases Nat.eq_zero_or_pos l.length with h0 | h0
  · obtain rfl := List.eq_nil_of_length_eq_zero h0
    simp [wAll, joinS, jn, SL]
  · obtain ⟨l0, t, rfl⟩ := lenlast h0
    have h1 := join_le sep h l0
    have h2 := wT_le t
    rw [wAll_append, show wAll [t] = [wT t] from rfl, List.dropLast_concat, SL_app]
    have e : (wAll l0 ++ [wT t]).getLastD [] = wT t := by simp
    rw [e, SL, SL]; omega
theorem ct_le : ∀ l, ((List.zipWith (fun t x => parB (looseN t) x) l (wAll l)).getD 0 []).length + ((cAll l).getD 1 []).length + (if 2 < l.length then [32, 61, 62, 32] ++ (List.zipWith (fun t x => parB (looseN t) x) l (wAll l)).getD 2 [] else ([] : List UInt8)).length ≤ SL l
  | [] => by simp [wAll, cAll, SL]
  | [t] => by
    have h2 := wT_le t
    have h3 := par_len (looseN t) (wT t)
    show (parB (looseN t) (wT t)).length + 0 + 0 ≤ SL [t]
    rw [SL, SL]; omega
  | [t, u] => by
    have h2 := wT_le t
    have h3 := par_len (looseN t) (wT t)
    have h4 := cT_le u
    show (parB (looseN t) (wT t)).length + (cT u).length + 0 ≤ SL [t, u]
    rw [SL, SL, SL]; omega
  | t :: u :: x :: r => by
    have h2 := wT_le t
    have h3 := par_len (looseN t) (wT t)
    have h4 := cT_le u
    have h5 := wT_le x
    have h6 := par_len (looseN x) (wT x)
    have hl : 2 < (t :: u :: x :: r).length := by simp
    rw [if_pos hl, List.length_append]
    have e : ((List.zipWith (fun t x => parB (looseN t) x) (t :: u :: x :: r) (wAll (t :: u :: x :: r))).getD 2 []) = parB (looseN x) (wT x) := rfl
    rw [e]
    show (parB (looseN t) (wT t)).length + (cT u).length + (4 + (parB (looseN x) (wT x)).length) ≤ SL (t :: u :: x :: r)
    rw [SL, SL, SL]; omega
theorem sg_len (o : Int) : (sgT o).length ≤ 2 := by
  have h : ∀ (c : Prop) [Decidable c] (a b : List UInt8), a.length ≤ 2 → b.length ≤ 2 → (if c then a else b).length ≤ 2 := fun c _ a b h1 h2 => by split <;> assumption
  unfold sgT
  repeat' (with_reducible refine h _ _ _ ?_ ?_)
  all_goals decide
theorem comb_le (o : Int) (s : ByteArray) (v : T) (l : List Nd) (hl : LtL l) : (combT o s v l (wAll l) (cAll l)).length ≤ (if o = 1 then (tx v).length else 0) + s.size + 100 + SL l := by
  have hds : s.data.toList.length = s.size := Array.length_toList ..
  have f0 := join_le [44, 32] (by decide) l
  have f1 := join_le [32, 61, 32] (by decide) l
  have f2 := join_le [46, 46] (by decide) (l.drop 1)
  have f3 := join_le [44, 32] (by decide) (l.drop 2)
  have f4 := ps0_le l
  have f5 := nmP_le l hl
  have f6 := ngP_le l
  have f7 := sc_le [44, 32] (by decide) l
  have f8 := ct_le l
  have f9 := jps_le (fun _ => [32] ++ sgT o ++ [32]) (fun i => by have := sg_len o; simp only [List.length_append, List.length_cons, List.length_nil]; omega) l
  have f10 := jps_le (fun i => if i = 0 then [32, 63, 32] else [32, 124, 32]) (fun i => by split <;> decide) l
  have f11 : ∀ x ∈ l, (wT x).length ≤ SL l := fun x hx => by
    clear f0 f1 f2 f3 f4 f5 f6 f7 f8 f9 f10 hl
    induction l with
    | nil => cases hx
    | cons a r ih =>
      have := wT_le x
      rcases List.mem_cons.1 hx with rfl | h
      · rw [SL]; omega
      · have := ih h; rw [SL]; omega
  have f12 : ((wAll l).getD 0 []).length ≤ SL l := by
    cases l with
    | nil => simp [wAll]
    | cons t r => exact f11 t (by simp)
  have e1 : combT o s v l (wAll l) (cAll l) = (if o = 1 then tx v
    else if o = 2 then s.data.toList
    else if o = 3 then [45] ++ ngP l (wAll l)
    else if o = 4 then [33] ++ (List.zipWith (fun t x => parB (looseN t) x) l (wAll l)).getD 0 []
    else if o = 19 then jn (fun i => if i = 0 then [32, 63, 32] else [32, 124, 32]) (List.zipWith (fun t x => parB (looseN t) x) l (wAll l)) (List.zipWith (fun t x => parB (looseN t) x) l (wAll l)).length
    else if o = 20 ∨ o = 21 then (List.zipWith (fun t x => parB (looseN t) x) l (wAll l)).getD 0 [] ++ [91] ++ joinS [46, 46] ((wAll l).drop 1) ++ [93]
    else if o = 22 then (List.zipWith (fun t x => parB (looseN t) x) l (wAll l)).getD 0 [] ++ [46] ++ nmP l (wAll l)
    else if o = 23 then (List.zipWith (fun t x => parB (looseN t) x) l (wAll l)).getD 0 [] ++ [58] ++ nmP l (wAll l) ++ s.data.toList ++ [40] ++ joinS [44, 32] ((wAll l).drop 2) ++ [41]
    else if o = 24 then s.data.toList ++ [40] ++ joinS [44, 32] (wAll l) ++ [41]
    else if o = 25 then [123] ++ joinS [44, 32] (wAll l) ++ [125]
    else if o = 26 then [64] ++ (wAll l).getD 0 []
    else if o = 27 then joinS [32, 61, 32] (wAll l)
    else if o = 28 then [123] ++ joinS [44, 32] (wAll l).dropLast ++ [125] ++ [32, 61, 32] ++ (wAll l).getLastD []
    else if o = 29 then [96] ++ (List.zipWith (fun t x => parB (looseN t) x) l (wAll l)).getD 0 [] ++ [32, 33, 32] ++ (cAll l).getD 1 [] ++ (if 2 < l.length then [32, 61, 62, 32] ++ (List.zipWith (fun t x => parB (looseN t) x) l (wAll l)).getD 2 [] else []) ++ [39]
    else jn (fun _ => [32] ++ sgT o ++ [32]) (List.zipWith (fun t x => parB (looseN t) x) l (wAll l)) (List.zipWith (fun t x => parB (looseN t) x) l (wAll l)).length) := rfl
  rw [e1, wAll_drop, wAll_drop]
  clear e1 f11
  by_cases h1 : o = 1
  · rw [if_pos h1, if_pos h1]; omega
  rw [if_neg h1, if_neg h1]
  have h : ∀ (c : Prop) [Decidable c] (a b : List UInt8) (m : Nat), a.length ≤ m → b.length ≤ m → (if c then a else b).length ≤ m := fun c _ a b m h1 h2 => by split <;> assumption
  rw [Nat.zero_add]
  repeat' (with_reducible refine h _ _ _ _ ?_ ?_)
  all_goals first
    | omega
    | (simp only [List.length_append, List.length_cons, List.length_nil, hds]; omega)
/-- How long at most, for a node. -/
def KK : Nat := 9000000
theorem SL_le : ∀ l : List Nd, (∀ t ∈ l, mT t + 4000100 ≤ KK * cnt t) → SL l ≤ KK * cntAll l
  | [], _ => by simp [SL]
  | t :: r, h => by
    have h1 := h t (by simp)
    have h2 := SL_le r (fun u hu => h u (by simp [hu]))
    rw [SL, cntAll, Nat.mul_add]; omega
theorem mT_le : ∀ t, LtN t → mT t + 4000100 ≤ KK * cnt t := Nd.ind_ (fun o n s v l ih h => by
  rw [LtN] at h
  obtain ⟨h1, h2, _, h4⟩ := h
  have hs := SL_le l (fun t ht => ih t ht (LtL.mem h4 t ht))
  have hc := comb_le o s v l h4
  have hw : wT (.mk o n s v l) = combT o s v l (wAll l) (cAll l) := by rw [wT]
  have hcc : (cT (.mk o n s v l)).length ≤ 3 + SL l := by
    cases l with
    | nil => simp [cT, wAll]
    | cons t r =>
      have := join_le [44, 32] (by decide) (t :: r)
      have e : cT (.mk o n s v (t :: r)) = joinS [44, 32] (wAll (t :: r)) := by rw [cT, wAll]
      rw [e]; omega
  have hx : (if o = 1 then (tx v).length else 0) ≤ 4000000 := by
    split
    · rename_i ho; exact h2 ho
    · omega
  have hm : mT (.mk o n s v l) ≤ 4010100 + SL l := by
    unfold mT
    rw [hw]
    omega
  rw [cnt, Nat.mul_add]
  unfold KK at *
  omega)
end Go.Proofs.YtemkikjcjhmlaaaGreatDoor.Sh

namespace Go.Proofs.YtemkikjcjhmlaaaGreatDoor.Sh
open Go.RowKit
set_option maxRecDepth 100000

def mS (d : Nat) (t : Nd) : Nat := max (mT t) (max (bT t (d + 1)).length (xT t d).length)
def SS (d : Nat) : List Nd → Nat
  | [] => 0
  | t :: r => (mS d t + 1000) + SS d r
theorem mS_w (d : Nat) (t : Nd) : (wT t).length ≤ mS d t := Nat.le_trans (wT_le t) (Nat.le_max_left ..)
theorem mS_c (d : Nat) (t : Nd) : (cT t).length ≤ mS d t := Nat.le_trans (cT_le t) (Nat.le_max_left ..)
theorem mS_b (d : Nat) (t : Nd) : (bT t (d + 1)).length ≤ mS d t := Nat.le_trans (Nat.le_max_left ..) (Nat.le_max_right ..)
theorem mS_x (d : Nat) (t : Nd) : (xT t d).length ≤ mS d t := Nat.le_trans (Nat.le_max_right ..) (Nat.le_max_right ..)
theorem ind_len (d : Nat) : (indT d).length = 2 * d := blanks_len _
theorem ln_len (d : Nat) (s : List UInt8) : (lnT d s).length = 2 * d + (s.length + 1) := by
  unfold lnT; simp only [List.length_append, ind_len, List.length_cons, List.length_nil]
theorem brc_len (d : Nat) (wd x : List UInt8) (b : Nat → List UInt8) : (brcT d wd x b).length = 2 * d + (wd.length + 2) + x.length + 2 + (b (d + 1)).length := by
  unfold brcT; simp only [List.length_append, ind_len, List.length_cons, List.length_nil]
theorem br_le (d : Nat) (hd : d ≤ 150) : ∀ (m : Nat) (l : List Nd) (wd : List UInt8), l.length ≤ m → wd.length ≤ 10 → (brT d wd (wAll l) (bAll l)).length ≤ 10 + SS d l
  | _, [], _, _, _ => by rw [brT0]; simp
  | _, [t], wd, _, _ => by
    have h1 := mS_b d t
    rw [brT1, List.length_append, ln_len, SS, SS]
    simp only [List.length_cons, List.length_nil]; omega
  | 0, t :: u :: r, _, hm, _ => absurd hm (by simp)
  | 1, t :: u :: r, _, hm, _ => absurd hm (by simp)
  | m + 2, t :: u :: r, wd, hm, hw => by
    have h1 := mS_w d t
    have h2 := mS_b d u
    have h3 := br_le d hd m r [101, 108, 115, 101, 105, 102] (by simpa using hm) (by simp)
    rw [brT2, List.length_append, brc_len, SS, SS]; omega
theorem bN_le (d : Nat) (i : Nat) : ∀ l : List Nd, (bN (bAll l) i (d + 1)).length ≤ SS d l := by
  induction i with
  | zero =>
    intro l
    cases l with
    | nil => simp [bN, bAll]
    | cons t r => have := mS_b d t; show (bT t (d + 1)).length ≤ _; rw [SS]; omega
  | succ i ih =>
    intro l
    cases l with
    | nil => simp [bN, bAll]
    | cons t r => have := ih r; show (bN (bAll r) i (d + 1)).length ≤ _; rw [SS]; omega
theorem w0b_le (d i : Nat) : ∀ l : List Nd, ((wAll l).getD 0 []).length + (bN (bAll l) (i + 1) (d + 1)).length ≤ SS d l
  | [] => by simp [wAll, bN, bAll]
  | t :: r => by
    have h1 := mS_w d t
    have h2 := bN_le d i r
    show (wT t).length + (bN (bAll r) i (d + 1)).length ≤ _
    rw [SS]; omega
theorem b0b_le (d : Nat) : ∀ l : List Nd, (bN (bAll l) 0 (d + 1)).length + (bN (bAll l) 1 (d + 1)).length ≤ SS d l
  | [] => by simp [bN, bAll]
  | t :: r => by
    have h1 := mS_b d t
    have h2 := bN_le d 0 r
    show (bT t (d + 1)).length + (bN (bAll r) 0 (d + 1)).length ≤ _
    rw [SS]; omega
theorem c0b_le (d : Nat) : ∀ l : List Nd, ((cAll l).getD 0 []).length + (bN (bAll l) 1 (d + 1)).length ≤ SS d l
  | [] => by simp [cAll, bN, bAll]
  | t :: r => by
    have h1 := mS_c d t
    have h2 := bN_le d 0 r
    show (cT t).length + (bN (bAll r) 0 (d + 1)).length ≤ _
    rw [SS]; omega
theorem xs_le (d : Nat) : ∀ l : List Nd, ((xAll l).flatMap (fun e => e d)).length ≤ SS d l
  | [] => by simp [xAll]
  | t :: r => by
    have h1 := mS_x d t
    have h2 := xs_le d r
    rw [xAll, List.flatMap_cons, List.length_append, SS]
    show (xT t d).length + ((xAll r).flatMap (fun e => e d)).length ≤ _
    omega
theorem b0x_le (d : Nat) : ∀ l : List Nd, (bN (bAll l) 0 (d + 1)).length + (((xAll l).drop 1).flatMap (fun e => e d)).length ≤ SS d l
  | [] => by simp [bN, bAll, xAll]
  | t :: r => by
    have h1 := mS_b d t
    have h2 := xs_le d r
    show (bT t (d + 1)).length + ((xAll r).flatMap (fun e => e d)).length ≤ _
    rw [SS]; omega
theorem jw_le (sep : List UInt8) (h : sep.length ≤ 8) (d : Nat) (l : List Nd) : (joinS sep (wAll l)).length ≤ SS d l := by
  refine Nat.le_trans (jn_all (fun _ => sep) (fun _ => h) _) ?_
  induction l with
  | nil => simp [wAll]
  | cons t r ih => have := mS_w d t; rw [wAll, List.map_cons, List.sum_cons, SS]; omega
theorem j2b_le (d : Nat) : ∀ l : List Nd, (joinS [46, 46] ((wAll l).take 2)).length + (bN (bAll l) 2 (d + 1)).length ≤ SS d l
  | [] => by simp [wAll, bN, bAll, joinS, jn]
  | [t] => by
    have h1 := jw_le [46, 46] (by decide) d [t]
    show (joinS [46, 46] (wAll [t])).length + 0 ≤ _
    omega
  | t :: u :: r => by
    have h1 := jw_le [46, 46] (by decide) d [t, u]
    have h2 := bN_le d 0 r
    show (joinS [46, 46] (wAll [t, u])).length + (bN (bAll r) 0 (d + 1)).length ≤ _
    rw [SS, SS, SS] at h1
    rw [SS, SS]; omega
theorem st_le (o : Int) (s : ByteArray) (l : List Nd) (d : Nat) (hd : d ≤ 150) : (stT o s (wAll l) (bAll l) (xAll l) d).length ≤ s.size + 3000 + SS d l := by
  have hds : s.data.toList.length = s.size := Array.length_toList ..
  have f1 := br_le d hd l.length l [105, 102] (Nat.le_refl _) (by simp)
  have f2 := w0b_le d 0 l
  have f3 := j2b_le d l
  have f4 := b0b_le d l
  have f5 := b0x_le d l
  have f6 := jw_le [] (by decide) d l
  have h : ∀ (c : Prop) [Decidable c] (a b : List UInt8) (m : Nat), a.length ≤ m → b.length ≤ m → (if c then a else b).length ≤ m := fun c _ a b m h1 h2 => by split <;> assumption
  have f7 : (if (wAll l).length = 0 then ([] : List UInt8) else [32]).length ≤ 1 := by split <;> simp
  have f8 : (fun d => bN (bAll l) 1 d) (d + 1) = bN (bAll l) 1 (d + 1) := rfl
  have f9 : ((bAll l).getD 1 (fun _ => [])) (d + 1) = bN (bAll l) 1 (d + 1) := rfl
  have f10 : bN (bAll l) (0 + 1) (d + 1) = bN (bAll l) 1 (d + 1) := rfl
  rw [f10] at f2
  unfold stT
  repeat' (with_reducible refine h _ _ _ _ ?_ ?_)
  all_goals (simp only [List.length_append, ln_len, brc_len, ind_len, f9, List.length_cons, List.length_nil, hds]; omega)
theorem ex_le (s : ByteArray) (l : List Nd) (d : Nat) (hd : d ≤ 150) : (exT d s (cAll l) (bAll l)).length ≤ s.size + 3000 + SS d l := by
  have hds : s.data.toList.length = s.size := Array.length_toList ..
  have f1 := c0b_le d l
  have f9 : ((bAll l).getD 1 (fun _ => [])) (d + 1) = bN (bAll l) 1 (d + 1) := rfl
  have f7 : (if s.size = 0 then ([] : List UInt8) else s.data.toList ++ [32]).length ≤ s.size + 1 := by
    split
    · simp
    · simp only [List.length_append, List.length_cons, List.length_nil, hds]; omega
  unfold exT
  simp only [List.length_append, ind_len, f9, List.length_cons, List.length_nil]; omega
theorem SS_le (d : Nat) : ∀ l : List Nd, (∀ t ∈ l, mS d t + 4000100 ≤ KK * cnt t) → SS d l ≤ KK * cntAll l
  | [], _ => by simp [SS]
  | t :: r, h => by
    have h1 := h t (by simp)
    have h2 := SS_le d r (fun u hu => h u (by simp [hu]))
    rw [SS, cntAll, Nat.mul_add]; omega
theorem sl_le (d : Nat) : ∀ l : List Nd, (∀ t ∈ l, (sT t d).length + 4000100 ≤ KK * cnt t) → (sAll l d).length ≤ KK * cntAll l
  | [], _ => by rw [sAll]; simp
  | t :: r, h => by
    have h1 := h t (by simp)
    have h2 := sl_le d r (fun u hu => h u (by simp [hu]))
    rw [sAll, cntAll, Nat.mul_add, List.length_append]; omega
/-- All texts of a node are short. -/
theorem all_le : ∀ t, LtN t → ∀ d, d + dpN t ≤ 150 → (sT t d).length + 4000100 ≤ KK * cnt t ∧ (bT t d).length + 4000100 ≤ KK * cnt t ∧ (xT t d).length + 4000100 ≤ KK * cnt t := Nd.ind_ (fun o n s v l ih h d hd => by
  rw [LtN] at h
  obtain ⟨h1, _, _, h4⟩ := h
  rw [dpN] at hd
  have hI : ∀ t ∈ l, ∀ e, e ≤ d + 1 → (sT t e).length + 4000100 ≤ KK * cnt t ∧ (bT t e).length + 4000100 ≤ KK * cnt t ∧ (xT t e).length + 4000100 ≤ KK * cnt t := fun t ht e he => ih t ht (LtL.mem h4 t ht) e (by have := dpNAll_mem ht; omega)
  have hss := SS_le d l (fun t ht => by
    have a := (hI t ht (d + 1) (Nat.le_refl _)).2.1
    have b := (hI t ht d (by omega)).2.2
    have c := mT_le t (LtL.mem h4 t ht)
    unfold mS
    omega)
  have hsl := sl_le d l (fun t ht => (hI t ht d (by omega)).1)
  have e1 := st_le o s l d (by omega)
  have e2 := ex_le s l d (by omega)
  rw [cnt, Nat.mul_add]
  rw [sT, bT, xT]
  unfold KK at *
  refine ⟨?_, ?_, ?_⟩ <;> omega)
theorem sAll_le (l : List Nd) (hl : LtL l) (d : Nat) (hd : d + dpNAll l ≤ 100) : (sAll l d).length ≤ KK * cntAll l :=
  sl_le d l (fun t ht => (all_le t (LtL.mem hl t ht) d (by have := dpNAll_mem ht; omega)).1)

/-- What is light, and in which the check finds nothing, is short. -/
theorem lt_of {w : World} {lo hi : Nat} : ∀ (t : Nd) (x : Value) (a : Int) (lp : Bool) (y d : Int), NRep w lo hi t x → ckN t a lp = none → 0 ≤ y → y ≤ 600 → 0 ≤ ndN t y d → LtN t := Nd.ind_ (fun o n s v l ih x a lp y d hr hk hy0 hy1 hn => by
  obtain ⟨k, m, z, q, ql, qc, p, cap, rfl, _, _, _, hv, _, _, hall⟩ := hr.open
  obtain ⟨_, _, hrv, hl⟩ := ck_open hk
  have c1 : ¬ (y - 1 - (s.size : Int) / 16 < 0 ∨ 60 < d) := fun h => by rw [ndN_b1 h] at hn; omega
  have c2 : ¬ fewT v (y - 1 - (s.size : Int) / 16) 0 < 0 := fun h => by rw [ndN_b2 c1 h] at hn; omega
  have c3 : ¬ ndAll l (fewT v (y - 1 - (s.size : Int) / 16) 0) (d + 1) < 0 := fun h => by rw [ndN_b3 c1 c2 h] at hn; omega
  have hf := few_le v (y - 1 - (s.size : Int) / 16) 0 (by omega)
  have hodd : o = 1 → (odd v 1 0).1 = 0 := fun ho => by
    unfold rightV at hrv
    rw [if_pos ho] at hrv
    split at hrv
    · cases hrv
    · simpa [rightB, oddCode] using hrv
  rw [LtN]
  refine ⟨by omega, fun ho => ?_, fun ho hk2 => ?_, ?_⟩
  · have h1 := odd_szS (hodd ho)
    have h2 := tx_len v (Rep.ok v hv (hodd ho))
    omega
  · have h1 := odd_szS (hodd ho)
    obtain ⟨k', n', s', l'⟩ := v
    have hk3 : k' = 2 := hk2
    rw [sz, if_pos hk3] at h1
    have := szAll_nonneg l'
    show s'.size ≤ 4096
    omega
  · have hall2 : ∀ t ∈ l, ∃ x, NRep w lo hi t x := fun t ht => by
      obtain ⟨j, hj, rfl⟩ := List.getElem_of_mem ht
      obtain ⟨_, _, _, _, _, _, _, _, _, _, _, _, _, _, _, _, _, _, _, _, _, _, _, _, _, _, _, h⟩ := hall.item j hj
      exact ⟨_, h⟩
    have hck : ∀ t ∈ l, ∃ a lp, ckN t a lp = none := fun t ht => by
      obtain ⟨j, hj, rfl⟩ := List.getElem_of_mem ht
      exact ⟨_, _, ckL_at l 0 o a _ _ hl j hj⟩
    have hgo : ∀ (r : List Nd), (∀ t ∈ r, t ∈ l) → ∀ y2, 0 ≤ y2 → y2 ≤ 600 → 0 ≤ ndAll r y2 (d + 1) → LtL r := by
      intro r
      induction r with
      | nil => intro _ _ _ _ _; rw [LtL]; trivial
      | cons u r ihr =>
        intro hm y2 h1 h2 h3
        rw [ndAll] at h3
        by_cases hu : ndN u y2 (d + 1) < 0
        · rw [if_pos hu] at h3; omega
        rw [if_neg hu] at h3
        obtain ⟨x2, hx2⟩ := hall2 u (hm u (by simp))
        obtain ⟨a2, lp2, hk2⟩ := hck u (hm u (by simp))
        have hc := ndN_cnt u y2 (d + 1) h1 (by omega)
        have hcp := cnt_pos u
        rw [LtL]
        exact ⟨ih u (hm u (by simp)) x2 a2 lp2 y2 (d + 1) hx2 hk2 h1 h2 (by omega), ihr (fun t ht => hm t (by simp [ht])) _ (by omega) (by omega) h3⟩
    exact hgo l (fun _ h => h) (fewT v (y - 1 - (s.size : Int) / 16) 0) (by omega) (by omega) (by omega))
theorem lt_all {w : World} {lo hi : Nat} (d : Int) : ∀ (l : List Nd), (∀ t ∈ l, (∃ x, NRep w lo hi t x) ∧ ∃ a lp, ckN t a lp = none) → ∀ y, 0 ≤ y → y ≤ 600 → 0 ≤ ndAll l y d → LtL l
  | [], _, _, _, _, _ => by rw [LtL]; trivial
  | u :: r, hm, y, h1, h2, h3 => by
    rw [ndAll] at h3
    by_cases hu : ndN u y d < 0
    · rw [if_pos hu] at h3; omega
    rw [if_neg hu] at h3
    obtain ⟨⟨x2, hx2⟩, a2, lp2, hk2⟩ := hm u (by simp)
    have hc := ndN_cnt u y d h1 (by omega)
    rw [LtL]
    exact ⟨lt_of u x2 a2 lp2 y d hx2 hk2 h1 h2 (by omega), lt_all d r (fun t ht => hm t (by simp [ht])) _ (by omega) (by omega) h3⟩
end Go.Proofs.YtemkikjcjhmlaaaGreatDoor.Sh

namespace Go.Proofs.YtemkikjcjhmlaaaGreatDoor.Sh
open Go.RowKit
set_option maxRecDepth 100000

theorem cntAll_set : ∀ (l : List Nd) (k : Nat) (h : k < l.length) (t : Nd), cnt t = cnt l[k] → cntAll (l.set k t) = cntAll l
  | x :: r, 0, _, t, e => by rw [List.set_cons_zero, cntAll, cntAll]; simp at e; omega
  | x :: r, k + 1, h, t, e => by rw [List.set_cons_succ, cntAll, cntAll, cntAll_set r k (by simpa using h) t (by simpa using e)]
theorem dpNAll_set : ∀ (l : List Nd) (k : Nat) (h : k < l.length) (t : Nd), dpN t = dpN l[k] → dpNAll (l.set k t) = dpNAll l
  | x :: r, 0, _, t, e => by rw [List.set_cons_zero, dpNAll, dpNAll]; simp at e; omega
  | x :: r, k + 1, h, t, e => by rw [List.set_cons_succ, dpNAll, dpNAll, dpNAll_set r k (by simpa using h) t (by simpa using e)]
theorem firstF_mem : ∀ (l : List Nd) (a : Int), firstF l a = .ok → ∀ t ∈ l, ckN t a false = none
  | [], _, _, t, ht => absurd ht (by simp)
  | x :: r, a, h, t, ht => by
    rw [firstF] at h
    cases hc : ckN x a false with
    | some f => rw [hc] at h; cases h
    | none =>
      rw [hc] at h
      rcases List.mem_cons.1 ht with rfl | ht
      · exact hc
      · exact firstF_mem r a h t ht
theorem firstF_all : ∀ (l : List Nd) (a : Int), (∀ t ∈ l, ckN t a false = none) → firstF l a = .ok
  | [], _, _ => rfl
  | x :: r, a, h => by rw [firstF, h x (by simp)]; exact firstF_all r a (fun t ht => h t (by simp [ht]))
theorem vldF_parts {l : List Nd} {a : Int} (h : vldF l a = .ok) : cntAll l ≤ 4096 ∧ dpNAll l ≤ 40 ∧ firstF l a = .ok := by
  unfold vldF at h
  split at h
  · cases h
  · split at h
    · cases h
    · exact ⟨by omega, by omega, h⟩
theorem ckN_line {o n n' : Int} {s : ByteArray} {v : T} {l : List Nd} {a : Int} {lp : Bool} (h : ckN (.mk o n s v l) a lp = none) : ckN (.mk o n' s v l) a lp = none := by
  rw [ckN] at h ⊢
  split at h
  · cases h
  · rename_i h1
    rw [if_neg h1]
    split at h
    · cases h
    · rename_i h2
      rw [if_neg h2]; exact h
theorem vld_line {l : List Nd} {k : Nat} (hk : k < l.length) {o n n' : Int} {s : ByteArray} {v : T} {ll : List Nd} (hl : l[k] = .mk o n s v ll) (h : vldF l 0 = .ok) : vldF (l.set k (.mk o n' s v ll)) 0 = .ok := by
  obtain ⟨h1, h2, h3⟩ := vldF_parts h
  have hck : ckN (.mk o n s v ll) 0 false = none := hl ▸ firstF_mem l 0 h3 _ (List.getElem_mem hk)
  unfold vldF
  rw [cntAll_set l k hk _ (by rw [hl, cnt, cnt]), dpNAll_set l k hk _ (by rw [hl, dpN, dpN]), if_neg (by omega), if_neg (by omega)]
  refine firstF_all _ 0 (fun t ht => ?_)
  rcases List.mem_or_eq_of_mem_set ht with ht | rfl
  · exact firstF_mem l 0 h3 t ht
  · exact ckN_line hck
theorem nrep_remk {w : World} {lo hi : Nat} {o n kk m : Int} {s z : ByteArray} {v : T} {l : List Nd} {q r : Option Addr} {ql qc c : Nat} (h : NRep w lo hi (.mk o n s v l) (.agg #[.int .i64 o, .int .i64 n, .string s, .int .i64 kk, .int .i64 m, .string z, .slice q ql qc, .slice r l.length c]))
    (o' n' : Int) (s' : ByteArray) (ho : I64 o') (hn : I64 n') (hs : s'.size ≤ 140737488355328) : NRep w lo hi (.mk o' n' s' v l) (.agg #[.int .i64 o', .int .i64 n', .string s', .int .i64 kk, .int .i64 m, .string z, .slice q ql qc, .slice r l.length c]) := by
  obtain ⟨_, _, _, h4, h5, h6, h7⟩ := h.parts
  unfold NRep
  exact ⟨kk, m, z, q, ql, qc, r, c, rfl, ho, hn, hs, h4, h5, h6, h7⟩
theorem add_at (g o j : Nat) : (⟨g, o, none⟩ : Addr).add j = ⟨g, o + j, none⟩ := by unfold Addr.add; split <;> simp_all
theorem csN_of {w : World} {lo hi : Nat} : ∀ {l : List Nd} {p : Option Addr}, NAll w lo hi l p → ∃ cs, CsN w lo hi l cs ∧ ∀ a, p = some a → ∀ j u, cs[j]? = some u → w.cell? (a.add j) = some u
  | [], _, _ => ⟨[], rfl, fun _ _ j u h => by simp at h⟩
  | t :: r, p, h => by
    unfold NAll at h
    obtain ⟨a, c0, c1, c2, c3, c4, c5, c6, c7, hp, hl, hb, h0, h1, h2, h3, h4, h5, h6, h7, ht, hr⟩ := h
    obtain ⟨q, hq, hc⟩ := csN_of hr
    refine ⟨c0 :: c1 :: c2 :: c3 :: c4 :: c5 :: c6 :: c7 :: q, ⟨c0, c1, c2, c3, c4, c5, c6, c7, q, rfl, ht, hq⟩, fun a' ha' j u hj => ?_⟩
    rw [hp] at ha'; injection ha' with ha'; subst ha'
    match j, hj with
    | 0, hj => simp only [List.getElem?_cons_zero] at hj; rw [← hj, add_zero]; exact h0
    | 1, hj => simp only [List.getElem?_cons_succ, List.getElem?_cons_zero] at hj; rw [← hj]; exact h1
    | 2, hj => simp only [List.getElem?_cons_succ, List.getElem?_cons_zero] at hj; rw [← hj]; exact h2
    | 3, hj => simp only [List.getElem?_cons_succ, List.getElem?_cons_zero] at hj; rw [← hj]; exact h3
    | 4, hj => simp only [List.getElem?_cons_succ, List.getElem?_cons_zero] at hj; rw [← hj]; exact h4
    | 5, hj => simp only [List.getElem?_cons_succ, List.getElem?_cons_zero] at hj; rw [← hj]; exact h5
    | 6, hj => simp only [List.getElem?_cons_succ, List.getElem?_cons_zero] at hj; rw [← hj]; exact h6
    | 7, hj => simp only [List.getElem?_cons_succ, List.getElem?_cons_zero] at hj; rw [← hj]; exact h7
    | j + 8, hj =>
      have := hc _ rfl j u (by simpa using hj)
      rw [add_add] at this
      rw [← this]; congr 1; congr 1; omega
/-- From a list in memory. -/
theorem gn_all {B lo hi : Nat} {w0 w : World} {L : List Nd} {v : Value} (h : Gn B lo hi w0 L v w) (hhi : hi ≤ B) (hB : B ≤ w.heap.size) {l : List Nd} {p : Option Addr} (hr : NAll w lo hi l p) (hn : L.length + l.length ≤ 1000000) (M : List Nd) (hM : M = L ++ l) {m c : Nat} (hm : m = l.length) (ty : TypeId) :
    ∃ q cap w', (Builtin.append_ #[22, 22] ty #[v, .slice p m c]).run Tryz.prog w = .ok (.slice q M.length cap) w' ∧ Gn B lo hi w0 M (.slice q M.length cap) w' := by
  obtain ⟨cs, hc, hcell⟩ := csN_of hr
  refine h.run hhi hB hc hcell (fun hp => ?_) hn M hM hm ty
  cases l with
  | nil => rfl
  | cons t r => unfold NAll at hr; obtain ⟨a, _, _, _, _, _, _, _, _, hq, _⟩ := hr; rw [hp] at hq; cases hq
theorem gn_start {B lo hi n : Nat} {w0 W : World} (hb : Below B w0 W) (hB : B ≤ W.heap.size) (hn : n ≤ 1000000) : Gn B lo hi w0 [] (.slice (some ⟨W.heap.size, 0, none⟩) 0 n) (W.alloc (.cells (madeCells #[.int .i64 0, .int .i64 0, .string ⟨#[]⟩, .int .i64 0, .int .i64 0, .string ⟨#[]⟩, .slice none 0 0, .slice none 0 0] (n * 8)) 33)) :=
  ⟨⟨[], World.ownsRow_made (base := B) (e := 33) (size := 8) W _ n hB (by unfold maxLen; omega) (size_madeCells _ _), rfl⟩, hb.alloc hB _⟩
theorem gn_mk (n : Nat) (h : n ≤ 1000000) (z : Int) (hz : z = (n : Int)) (W : World) : (Instr.makeSlice 22 (.int .i64 0) (.int .i64 z)).run Tryz.prog W = .ok (.slice (some ⟨W.heap.size, 0, none⟩) 0 n) (W.alloc (.cells (madeCells #[.int .i64 0, .int .i64 0, .string ⟨#[]⟩, .int .i64 0, .int .i64 0, .string ⟨#[]⟩, .slice none 0 0, .slice none 0 0] (n * 8)) 33)) := by
  obtain ⟨i0, hi0, hz0, hz1, hz2⟩ := info_parts Tryz.info_N
  subst hz
  have h := run_make (P := Tryz.prog) W 22 33 i0 _ Tryz.underlying22 hi0 hz0 .i64 .i64 0 n (by omega) (by omega) (by rw [hz2]; omega) (by omega)
  rw [hz1] at h
  simpa [Value.cells] using h

/-- A row of nodes of one's own in block g, what they have in older blocks. -/
def OR (w : World) (g lo hi : Nat) (l : List Nd) : Prop := hi ≤ g ∧ ∃ cs : Array Value, w.heap[g]? = some (.cells cs 33 (0, 0)) ∧ l.length * 8 ≤ cs.size ∧
  ∀ i (h : i < l.length), ∃ c0 c1 c2 c3 c4 c5 c6 c7, cs[i * 8]? = some c0 ∧ cs[i * 8 + 1]? = some c1 ∧ cs[i * 8 + 2]? = some c2 ∧ cs[i * 8 + 3]? = some c3 ∧ cs[i * 8 + 4]? = some c4 ∧ cs[i * 8 + 5]? = some c5 ∧ cs[i * 8 + 6]? = some c6 ∧ cs[i * 8 + 7]? = some c7 ∧ NRep w lo hi l[i] (.agg #[c0, c1, c2, c3, c4, c5, c6, c7])
theorem OR.lt {w : World} {g lo hi : Nat} {l : List Nd} (h : OR w g lo hi l) : g < w.heap.size := by obtain ⟨_, cs, hh, _⟩ := h; exact ltW hh
theorem OR.all {w : World} {g lo hi : Nat} {l : List Nd} (h : OR w g lo hi l) (hlo : lo ≤ g) : NAll w lo (g + 1) l (some ⟨g, 0, none⟩) := by
  obtain ⟨hg, cs, hh, hz, hr⟩ := h
  refine NAll.of hlo (Nat.lt_succ_self g) l 0 (fun i hi => ?_)
  obtain ⟨c0, c1, c2, c3, c4, c5, c6, c7, e0, e1, e2, e3, e4, e5, e6, e7, ht⟩ := hr i hi
  have hc := fun o => cell_of_row w g o _ _ _ hh
  refine ⟨c0, c1, c2, c3, c4, c5, c6, c7, ?_, ?_, ?_, ?_, ?_, ?_, ?_, ?_, ht.wide (Nat.le_refl _) (by omega)⟩ <;> (rw [hc, Nat.zero_add]; assumption)
theorem csN_at8 {w : World} {lo hi : Nat} : ∀ {l : List Nd} {cs : List Value}, CsN w lo hi l cs → ∀ i (h : i < l.length), ∃ c0 c1 c2 c3 c4 c5 c6 c7, cs[i * 8]? = some c0 ∧ cs[i * 8 + 1]? = some c1 ∧ cs[i * 8 + 2]? = some c2 ∧ cs[i * 8 + 3]? = some c3 ∧ cs[i * 8 + 4]? = some c4 ∧ cs[i * 8 + 5]? = some c5 ∧ cs[i * 8 + 6]? = some c6 ∧ cs[i * 8 + 7]? = some c7 ∧ NRep w lo hi l[i] (.agg #[c0, c1, c2, c3, c4, c5, c6, c7])
  | _ :: _, _, ⟨c0, c1, c2, c3, c4, c5, c6, c7, q, e, hx, _⟩, 0, _ => ⟨c0, c1, c2, c3, c4, c5, c6, c7, by rw [e]; rfl, by rw [e]; rfl, by rw [e]; rfl, by rw [e]; rfl, by rw [e]; rfl, by rw [e]; rfl, by rw [e]; rfl, by rw [e]; rfl, hx⟩
  | _ :: _, _, ⟨c0, c1, c2, c3, c4, c5, c6, c7, q, e, _, hr⟩, i + 1, h => by
    obtain ⟨d0, d1, d2, d3, d4, d5, d6, d7, e0, e1, e2, e3, e4, e5, e6, e7, ht⟩ := csN_at8 hr i (by simpa using h)
    refine ⟨d0, d1, d2, d3, d4, d5, d6, d7, ?_, ?_, ?_, ?_, ?_, ?_, ?_, ?_, ht⟩
    · rw [e, ← e0, show (i + 1) * 8 = i * 8 + 8 by omega]; rfl
    · rw [e, ← e1, show (i + 1) * 8 + 1 = i * 8 + 1 + 8 by omega]; rfl
    · rw [e, ← e2, show (i + 1) * 8 + 2 = i * 8 + 2 + 8 by omega]; rfl
    · rw [e, ← e3, show (i + 1) * 8 + 3 = i * 8 + 3 + 8 by omega]; rfl
    · rw [e, ← e4, show (i + 1) * 8 + 4 = i * 8 + 4 + 8 by omega]; rfl
    · rw [e, ← e5, show (i + 1) * 8 + 5 = i * 8 + 5 + 8 by omega]; rfl
    · rw [e, ← e6, show (i + 1) * 8 + 6 = i * 8 + 6 + 8 by omega]; rfl
    · rw [e, ← e7, show (i + 1) * 8 + 7 = i * 8 + 7 + 8 by omega]; rfl
theorem or_of {B lo hi : Nat} {w0 w : World} {L : List Nd} {v : Value} (h : Gn B lo hi w0 L v w) (hhi : hi ≤ B) (hpos : 0 < L.length) : ∃ g cap, v = .slice (some ⟨g, 0, none⟩) L.length cap ∧ L.length ≤ cap ∧ B ≤ g ∧ OR w g lo hi L := by
  obtain ⟨⟨cs, h1, h2⟩, _⟩ := h
  have hh := h1
  rcases h1.2 with ⟨_, h0⟩ | ⟨g, cap, cur, rfl, hb, hg, hnc, _⟩
  · omega
  · have hc := fun j (hj : j < L.length * 8) => World.ownsRow.cellAt hh j hj
    have hcur := fun o => cell_of_row w g o _ _ _ hg
    have he : ∀ j, j < L.length * 8 → cur[j]? = cs[j]? := fun j hj => (hcur j).symm.trans (hc j hj)
    refine ⟨g, cap, rfl, hnc, hb, by omega, cur, hg, ?_, fun i hi => ?_⟩
    · rcases Nat.lt_or_ge cur.size (L.length * 8) with hlt | hge
      · have e1 := he (L.length * 8 - 1) (by omega)
        rw [Array.getElem?_eq_none (by omega), List.getElem?_eq_getElem (by rw [h2.len]; omega)] at e1
        cases e1
      · exact hge
    · obtain ⟨c0, c1, c2, c3, c4, c5, c6, c7, e0, e1, e2, e3, e4, e5, e6, e7, ht⟩ := csN_at8 h2 i hi
      exact ⟨c0, c1, c2, c3, c4, c5, c6, c7, by rw [he _ (by omega)]; exact e0, by rw [he _ (by omega)]; exact e1, by rw [he _ (by omega)]; exact e2, by rw [he _ (by omega)]; exact e3, by rw [he _ (by omega)]; exact e4, by rw [he _ (by omega)]; exact e5, by rw [he _ (by omega)]; exact e6, by rw [he _ (by omega)]; exact e7, ht⟩
/-- One line turned. -/
theorem OR.turn {w : World} {g lo hi : Nat} {l : List Nd} (h : OR w g lo hi l) {k : Nat} (hk : k < l.length) : ∃ (o n : Int) (s : ByteArray) (v : T) (ll : List Nd), l[k] = .mk o n s v ll ∧ I64 n ∧ w.cell? ⟨g, k * 8 + 1, none⟩ = some (.int .i64 n) ∧ w.frozen? ⟨g, k * 8 + 1, none⟩ = false ∧
    ∀ n', I64 n' → OR (w.setCell ⟨g, k * 8 + 1, none⟩ (.int .i64 n')) g lo hi (l.set k (.mk o n' s v ll)) := by
  obtain ⟨hg, cs, hh, hz, hr⟩ := h
  have hc := fun o => cell_of_row w g o _ _ _ hh
  obtain ⟨c0, c1, c2, c3, c4, c5, c6, c7, e0, e1, e2, e3, e4, e5, e6, e7, ht⟩ := hr k hk
  rcases hl : l[k] with ⟨o, n, s, v, ll⟩
  rw [hl] at ht
  obtain ⟨kk, m, z, q, ql, qc, r, c, hx, ho, hn, hs, _⟩ := ht.open
  simp only [Value.agg.injEq, Array.mk.injEq, List.cons.injEq, and_true] at hx
  obtain ⟨rfl, rfl, rfl, rfl, rfl, rfl, rfl, rfl⟩ := hx
  refine ⟨o, n, s, v, ll, rfl, hn, (hc _).trans e1, by simp [World.frozen?, hh], fun n' hn' => ⟨hg, cs.setIfInBounds (k * 8 + 1) (.int .i64 n'), ?_, ?_, fun i hi => ?_⟩⟩
  · simp [World.setCell, Array.getElem?_modify, hh]
  · simpa using hz
  · have hi' : i < l.length := by simpa using hi
    have hset : ∀ j, j ≠ k * 8 + 1 → (cs.setIfInBounds (k * 8 + 1) (.int .i64 n'))[j]? = cs[j]? := fun j hj => Array.getElem?_setIfInBounds_ne (fun e => hj e.symm)
    by_cases hik : i = k
    · subst hik
      have hs1 : (cs.setIfInBounds (i * 8 + 1) (.int .i64 n'))[i * 8 + 1]? = some (.int .i64 n') := by
        rw [Array.getElem?_setIfInBounds_self_of_lt (by omega)]
      have hgi : (l.set i (.mk o n' s v ll))[i]'hi = .mk o n' s v ll := by simp
      rw [hgi]
      exact ⟨_, _, _, _, _, _, _, _, by rw [hset _ (by omega)]; exact e0, hs1, by rw [hset _ (by omega)]; exact e2, by rw [hset _ (by omega)]; exact e3, by rw [hset _ (by omega)]; exact e4, by rw [hset _ (by omega)]; exact e5, by rw [hset _ (by omega)]; exact e6, by rw [hset _ (by omega)]; exact e7, nrep_remk (ht.setCell (p := ⟨g, i * 8 + 1, none⟩) (Or.inr hg) (.int .i64 n')) o n' s ho hn' hs⟩
    · obtain ⟨d0, d1, d2, d3, d4, d5, d6, d7, f0, f1, f2, f3, f4, f5, f6, f7, hu⟩ := hr i hi'
      have hgi : (l.set k (.mk o n' s v ll))[i]'hi = l[i] := by rw [List.getElem_set_ne (fun e => hik e.symm)]
      rw [hgi]
      exact ⟨d0, d1, d2, d3, d4, d5, d6, d7, by rw [hset _ (by omega)]; exact f0, by rw [hset _ (by omega)]; exact f1, by rw [hset _ (by omega)]; exact f2, by rw [hset _ (by omega)]; exact f3, by rw [hset _ (by omega)]; exact f4, by rw [hset _ (by omega)]; exact f5, by rw [hset _ (by omega)]; exact f6, by rw [hset _ (by omega)]; exact f7, hu.setCell (p := ⟨g, k * 8 + 1, none⟩) (Or.inr hg) _⟩
theorem sAll_set (d : Nat) : ∀ (l : List Nd) (k : Nat) (h : k < l.length) (t : Nd), sT t d = sT l[k] d → sAll (l.set k t) d = sAll l d
  | x :: r, 0, _, t, e => by rw [List.set_cons_zero, sAll, sAll]; simp at e; rw [e]
  | x :: r, k + 1, h, t, e => by rw [List.set_cons_succ, sAll, sAll, sAll_set d r k (by simpa using h) t (by simpa using e)]
end Go.Proofs.YtemkikjcjhmlaaaGreatDoor.Sh

namespace Go.Proofs.YtemkikjcjhmlaaaGreatDoor.Sh
open Go.RowKit
set_option maxRecDepth 100000

theorem wrap_inL (n : Int) : I64 (IntKind.i64.wrap n) := by
  unfold I64; rw [IntKind.wrap_i64]; omega
def NegOk (ad : Nat → Addr) (eD eM eR eS : Value) : Prop := ∀ (n : Int) (s : ByteArray) (v : T) (t1 : Nd), WOk ad eD eM eR eS t1 → DOk t1 → looseN t1 = true → WOk ad eD eM eR eS (.mk 3 n s v [t1])
theorem gn_empty {B lo hi : Nat} {w0 W : World} (hb : Below B w0 W) (hB : B ≤ W.heap.size) : Gn B lo hi w0 [] (.slice (some ⟨W.heap.size, 0, none⟩) 0 0) (W.alloc (.cells #[] 33)) :=
  ⟨⟨[], World.ownsRow_made (base := B) (e := 33) (size := 8) W _ 0 hB (by unfold maxLen; omega) rfl, rfl⟩, hb.alloc hB _⟩
/-- show.Program at a program. -/
theorem prog_any (ad : Nat → Addr) (eD eM eR eS : Value) (hP : Ptrs eD eM eR eS) (hneg : NegOk ad eD eM eR eS) (l : List Nd) (hv : vldF l 0 = .ok) (hlen : (sAll l 0).length ≤ 70368744177664) (W : World) (lo hi : Nat) (p : Option Addr) (cap : Nat) (hall : NAll W lo hi l p) (hlc : l.length ≤ cap) (hlo : lo ≤ W.heap.size) (hhi : hi ≤ W.heap.size) (hG : Glob ad eD eM eR eS W) (x : ByteArray) (hx : x = ⟨(sAll l 0).toArray⟩) (m : Nat) (hm : m = l.length) :
    Calls Tryz.prog 6 #[.slice p m cap] W fun e w' => e = .returned (.tuple #[.string x, .nilIface]) ∧ Below W.heap.size W w' := by
  subst hm
  obtain ⟨h1, h2, h3⟩ := vldF_parts hv
  have hl : l.length ≤ 1000000 := by have := len_cnt l; omega
  have := program_any ad eD eM eR eS l (fun t => sT t 0) (fun t ht => by
    have hs := (stmt_any ad eD eM eR eS hP hneg t (by have := cntAll_mem ht; omega) 0 (by have := dpNAll_mem ht; omega)).s false (firstF_mem l 0 h3 t ht)
    exact hs) W lo hi p cap hall hlc hl hlo hhi hG hv (by rw [← sAll_flat]; exact hlen)
  rw [← sAll_flat] at this
  rw [hx]; exact this
theorem valid_app {a b : List Nd} (ha : vldF a 0 = .ok) (hb : vldF b 0 = .ok) (hc : cntAll a + cntAll b ≤ 4096) : vldF (a ++ b) 0 = .ok := by
  obtain ⟨a1, a2, a3⟩ := vldF_parts ha
  obtain ⟨b1, b2, b3⟩ := vldF_parts hb
  unfold vldF
  rw [cntAll_app, dpNAll_app, if_neg (by omega), if_neg (by omega)]
  refine firstF_all _ 0 (fun t ht => ?_)
  rcases List.mem_append.1 ht with ht | ht
  · exact firstF_mem a 0 a3 t ht
  · exact firstF_mem b 0 b3 t ht
theorem light_lt {w : World} {lo hi : Nat} {p : Option Addr} {l : List Nd} (h : NAll w lo hi l p) (hv : vldF l 0 = .ok) (hn : 0 ≤ ndAll l 500 0) : (sAll l 0).length ≤ 9000000 * 500 ∧ cntAll l ≤ 500 := by
  obtain ⟨a1, a2, a3⟩ := vldF_parts hv
  have hc := ndAll_cnt l 500 0 (by omega) hn
  have hl : LtL l := lt_all (w := w) (lo := lo) (hi := hi) 0 l (fun t ht => by
    obtain ⟨j, hj, rfl⟩ := List.getElem_of_mem ht
    obtain ⟨_, _, _, _, _, _, _, _, _, _, _, _, _, _, _, _, _, _, _, _, _, _, _, _, _, _, _, hr⟩ := h.item j hj
    exact ⟨⟨_, hr⟩, 0, false, firstF_mem l 0 a3 _ (List.getElem_mem hj)⟩) 500 (by omega) (by omega) hn
  have := sAll_le l hl 0 (by omega)
  unfold KK at this
  refine ⟨Nat.le_trans this (Nat.mul_le_mul_left _ (by omega)), by omega⟩
theorem cat_bytes (a b : List UInt8) : (⟨(a ++ b).toArray⟩ : ByteArray) = (⟨a.toArray⟩ : ByteArray) ++ ⟨b.toArray⟩ := by
  apply ByteArray.ext
  rw [ByteArray.data_append]
  simp

set_option maxHeartbeats 8000000 in
theorem lines_main (ad : Nat → Addr) (eD eM eR eS : Value) (hP : Ptrs eD eM eR eS) (hneg : NegOk ad eD eM eR eS) (a b : List Nd) (pa pb : Option Addr) (ca cb : Nat) (k : Int) (w : World) (hk : I64 k) (ha : NAll w 0 w.heap.size a pa) (hlca : a.length ≤ ca) (hb : NAll w 0 w.heap.size b pb) (hlcb : b.length ≤ cb) (hG : Glob ad eD eM eR eS w)
    (hva : vldF a 0 = .ok) (hvb : vldF b 0 = .ok) (hna : 0 ≤ ndAll a 500 0) (hnb : 0 ≤ ndAll b 500 0)
    (hpa : ∀ W, Below w.heap.size w W → Calls Tryz.prog 5 #[.slice pa a.length ca, .int .i64 500] W fun e w' => e = .returned (.bool true) ∧ Below W.heap.size W w')
    (hpb : ∀ W, Below w.heap.size w W → Calls Tryz.prog 5 #[.slice pb b.length cb, .int .i64 500] W fun e w' => e = .returned (.bool true) ∧ Below W.heap.size W w') :
    Calls Tryz.prog 3 #[.slice pa a.length ca, .slice pb b.length cb, .int .i64 k] w fun e w' => e = .returned (.bool true) ∧ Below w.heap.size w w' := by
  have HF := Lib.hid (first8_any ad eD eM eR eS hP w hG)
  have HPA := Lib.hid hpa
  have HPB := Lib.hid hpb
  obtain ⟨hla, hca⟩ := light_lt ha hva hna
  obtain ⟨hlb, hcb⟩ := light_lt hb hvb hnb
  have hal : a.length ≤ 500 := Nat.le_trans (len_cnt a) hca
  have hbl : b.length ≤ 500 := Nat.le_trans (len_cnt b) hcb
  have hvab := valid_app hva hvb (by omega)
  have hlab : (sAll (a ++ b) 0).length = (sAll a 0).length + (sAll b 0).length := by rw [sAll_app, List.length_append]
  have HG := Lib.hid (fun W (hb : Below w.heap.size w W) => hG.below hb)
  have HA := Lib.hid (fun W (hb : Below w.heap.size w W) => ha.below hb (Nat.le_refl _))
  have HB := Lib.hid (fun W (hb2 : Below w.heap.size w W) => hb.below hb2 (Nat.le_refl _))
  obtain ⟨X, hX⟩ : ∃ X : ByteArray, X = ⟨(sAll a 0).toArray⟩ := ⟨_, rfl⟩
  obtain ⟨Y, hY⟩ : ∃ Y : ByteArray, Y = ⟨(sAll b 0).toArray⟩ := ⟨_, rfl⟩
  have hXs : X.size = (sAll a 0).length := by rw [hX]; show (sAll a 0).toArray.size = _; simp
  have hYs : Y.size = (sAll b 0).length := by rw [hY]; show (sAll b 0).toArray.size = _; simp
  have hXY : X ++ Y = ⟨(sAll (a ++ b) 0).toArray⟩ := by rw [sAll_app, cat_bytes, hX, hY]
  have hXi : (X.size : Int) ≤ 4500000000 := by omega
  have hYi : (Y.size : Int) ≤ 4500000000 := by omega
  have CA := Lib.hid (fun W (hb : Below w.heap.size w W) => prog_any ad eD eM eR eS hP hneg a hva (by omega) W 0 w.heap.size pa ca (HA.out W hb) hlca (Nat.zero_le _) hb.size (HG.out W hb) X hX a.length rfl)
  have CB := Lib.hid (fun W (hb : Below w.heap.size w W) => prog_any ad eD eM eR eS hP hneg b hvb (by omega) W 0 w.heap.size pb cb (HB.out W hb) hlcb (Nat.zero_le _) hb.size (HG.out W hb) Y hY b.length rfl)
  obtain ⟨L, hL⟩ : ∃ L, L = a ++ b := ⟨_, rfl⟩
  have hLl : L.length = a.length + b.length := by rw [hL, List.length_append]
  have CAB := Lib.hid (fun W p cap (hb : Below w.heap.size w W) (hn : NAll W 0 W.heap.size L p) (hc : L.length ≤ cap) => prog_any ad eD eM eR eS hP hneg L (hL ▸ hvab) (by rw [hL]; omega) W 0 W.heap.size p cap hn hc (Nat.zero_le _) (Nat.le_refl _) (HG.out W hb) (X ++ Y) (by rw [hL]; exact hXY) L.length rfl)
  have CC := Lib.hid (fun (C : List Nd) W hi p cap (hv : vldF C 0 = .ok) (hs : sAll C 0 = sAll a 0) (hb : Below w.heap.size w W) (hn : NAll W 0 hi C p) (hhi : hi ≤ W.heap.size) (hc : C.length ≤ cap) (m : Nat) (hm : m = C.length) => prog_any ad eD eM eR eS hP hneg C hv (by rw [hs]; omega) W 0 hi p cap hn hc (Nat.zero_le _) hhi (HG.out W hb) X (by rw [hs]; exact hX) m hm)
  obtain ⟨N, hN⟩ : ∃ N, N = a.length + b.length := ⟨_, rfl⟩
  have hNb : N ≤ 1000000 := by omega
  have hmk := gn_mk N hNb ((a.length : Int) + (b.length : Int)) (by omega)
  have hai : (a.length : Int) ≤ 500 := by omega
  have hbi : (b.length : Int) ≤ 500 := by omega
  have HEND := Lib.hid (sAll_end 0 a)
  have HVA := Lib.hid hva
  have HL := Lib.hid hL
  have HX := Lib.hid hX
  have HK := Lib.hid hk
  have HLl := Lib.hid hLl
  clear hLl
  clear hpa hpb ha hb hG hva hvb hna hnb hla hlb hca hcb hvab hlab hX hY hXs hYs hXY hL hN hk
  go_enter Tryz.func3, Tryz.ntmps3
  go_upto_region 12 with (first
    | (go_at_call 4; refine HF.out.mono ?_; rintro e w2 ⟨rfl, hb2⟩; have HB2 := Lib.hid hb2; clear hb2)
    | (go_at_call 5; (with_reducible refine (HPA.out _ HB2.out).mono ?_); rintro e w3 ⟨rfl, hb3⟩; have HB3 := Lib.hid (HB2.out.trans (hb3.mono HB2.out.size)); clear hb3)
    | (go_at_call 5; (with_reducible refine (HPB.out _ HB3.out).mono ?_); rintro e w4 ⟨rfl, hb4⟩; have HB4 := Lib.hid (HB3.out.trans (hb4.mono HB3.out.size)); clear hb4)
    | (go_at_call 6; (with_reducible refine (CA.out _ HB4.out).mono ?_); rintro e w5 ⟨rfl, hb5⟩; have HB5 := Lib.hid (HB4.out.trans (hb5.mono HB4.out.size)); clear hb5)
    | (go_at_call 6; (with_reducible refine (CB.out _ HB5.out).mono ?_); rintro e w6 ⟨rfl, hb6⟩; have HB6 := Lib.hid (HB5.out.trans (hb6.mono HB5.out.size)); have HG0 := Lib.hid (gn_start (lo := 0) (hi := w.heap.size) (Below.refl w6.heap.size w6) (Nat.le_refl _) (n := N) (by omega)); have HS6 := Lib.hid HB6.out.size; clear hb6)
    | (at_builtin; obtain ⟨q1, cap1, w7, hr1, hg1⟩ := gn_all HG0.out HS6.out (by simp) ((HA.out _ HB6.out).below ((Below.refl w6.heap.size w6).alloc (Nat.le_refl _) (.cells (madeCells #[.int .i64 0, .int .i64 0, .string ⟨#[]⟩, .int .i64 0, .int .i64 0, .string ⟨#[]⟩, .slice none 0 0, .slice none 0 0] (N * 8)) 33)) HS6.out) (by simp; omega) a rfl (m := a.length) (c := ca) rfl 22; refine Lib.wpList_append_run_sl _ rfl (.tmp 50) (.tmp 51) _ rfl _ _ rfl rfl hr1 ?_; have HG1 := Lib.hid hg1; clear hr1 hg1 HG0)
    | (at_builtin; obtain ⟨q2, cap2, w8, hr2, hg2⟩ := gn_all HG1.out HS6.out HG1.out.bel.size (((HB.out _ HB6.out).below HG1.out.bel HS6.out)) (by omega) L HL.out (m := b.length) (c := cb) rfl 22; refine Lib.wpList_append_run_sl _ rfl (.tmp 52) (.tmp 53) _ rfl _ _ rfl rfl hr2 ?_; have HB8 := Lib.hid (HB6.out.trans (hg2.bel.mono HS6.out)); obtain ⟨p3, cap3, he3, h31, h32⟩ := hg2.fin (Nat.zero_le _) (Nat.le_trans HS6.out hg2.bel.size); simp only [Value.slice.injEq, true_and] at he3; obtain ⟨rfl, rfl⟩ := he3; have C3 := Lib.hid (CAB.out _ _ _ HB8.out h32 h31); clear hr2 hg2 h32 h31 HG1)
    | (go_at_call 6; (with_reducible refine C3.out.mono ?_); rintro e w9 ⟨rfl, hb9⟩; have HB9 := Lib.hid (HB8.out.trans (hb9.mono HB8.out.size)); have HS9 := Lib.hid HB9.out.size; have HGE := Lib.hid (gn_empty (lo := 0) (hi := w.heap.size) (Below.refl w9.heap.size w9) (Nat.le_refl _)); clear hb9)
    | (at_builtin; obtain ⟨q4, cap4, w10, hr4, hg4⟩ := gn_all HGE.out HS9.out (by simp) ((HA.out _ HB9.out).below ((Below.refl w9.heap.size w9).alloc (Nat.le_refl _) (.cells #[] 33)) HS9.out) (by simp; omega) a rfl (m := a.length) (c := ca) rfl 22; refine Lib.wpList_append_run_sl _ rfl (.tmp 75) (.tmp 76) _ rfl _ _ rfl rfl hr4 ?_; have HG4 := Lib.hid hg4; have HB10 := Lib.hid (HB9.out.trans (hg4.bel.mono HS9.out)); clear hr4 hg4 HGE))
  by_cases hpos : a.length = 0
  · obtain rfl := List.eq_nil_of_length_eq_zero hpos
    have hX0 : X = ⟨#[]⟩ := by rw [HX.out, sAll]
    subst hX0
    have C4 := Lib.hid (CC.out [] w10 0 q4 cap4 HVA.out rfl HB10.out (NAll.nil _ _ _ _) (Nat.zero_le _) (Nat.zero_le _) 0 rfl)
    simp only [List.length_nil]
    clear HG4 CC CA CB CAB HEND HX HL
    go_wp2
    go_loopw [15] (fun i wr => i = .int .i64 0 ∧ wr = w10) (fun _ _ => 0)
    case atStart => exact ⟨rfl, rfl⟩
    case round =>
      obtain ⟨rfl, rfl⟩ := hrel
      go_wp2_with (go_at_call 6; (with_reducible refine C4.out.mono ?_); rintro e w11 ⟨rfl, hb11⟩; have HB11 := Lib.hid (HB10.out.trans (hb11.mono HB10.out.size)); clear hb11)
      go_ret
      exact ⟨rfl, HB11.out⟩
  · obtain ⟨g, cap, he, hcap, hBg, hor⟩ := or_of HG4.out HS9.out (by omega)
    simp only [Value.slice.injEq, true_and] at he
    obtain ⟨rfl, rfl⟩ := he
    have hgw : w.heap.size ≤ g := Nat.le_trans HS9.out hBg
    have HOR0 := Lib.hid hor
    have HCAP := Lib.hid hcap
    obtain ⟨y, hy⟩ : ∃ y, sAll a 0 = y ++ [10] := by
      rcases HEND.out with h | h
      · exact absurd (by rw [h]; rfl) hpos
      · exact h
    obtain ⟨m, hm⟩ : ∃ m, m = y.length := ⟨_, rfl⟩
    have hXl : X.data.toList = y ++ [10] := by rw [HX.out, ← hy]
    have hXz : X.size = m + 1 := by
      have e : X.data.toList.length = X.size := Array.length_toList ..
      rw [hXl, List.length_append] at e
      rw [hm, ← e]; rfl
    have hm3 : m < X.size := by omega
    have hXb : (X[m]'hm3) = 10 := by
      have h1 : X.data.toList[m]'(by rw [hXl, List.length_append]; simp; omega) = 10 := by
        simp only [hXl, hm]
        simp
      rw [Array.getElem_toList] at h1
      exact h1
    have h10 : (((X[m]'hm3).toNat : Int)) = 10 := by rw [hXb]; rfl
    have hXe : X.toList.isEmpty = false := by
      rw [Go.ByteArray.toList_eq, hXl]; simp
    have hm1 : (X.size : Int) - 1 = (m : Int) := by omega
    have hm2 : (m : Int) < (X.size : Int) := by omega
    have hai2 : (0 : Int) < (a.length : Int) := by omega
    have HXZ := Lib.hid hXz
    clear hor hcap HG4 CA CB CAB HEND HX HL hy hm hXl hXb hXz hpos hBg
    go_wp2
    go_loopw [15] (fun i wr => ∃ (j : Nat) (C : List Nd), j ≤ a.length ∧ i = .int .i64 j ∧ Hid (C.length = a.length) ∧ Hid (OR wr g 0 w.heap.size C) ∧ Hid (vldF C 0 = .ok) ∧ Hid (sAll C 0 = sAll a 0) ∧ Hid (Below w.heap.size w wr)) (fun i _ => a.length - (intOf i).toNat)
    case atStart => exact ⟨0, a, Nat.zero_le _, rfl, Lib.hid rfl, HOR0, HVA, Lib.hid rfl, HB10⟩
    case round =>
      obtain ⟨j, C, hj, rfl, HCL, HOR, HV, HT, HBR⟩ := hrel
      by_cases hlt : j < a.length
      · obtain ⟨o, n, s, v, ll, hli, hnI, hcell, hfz, hturn⟩ := HOR.out.turn (k := j) (by rw [HCL.out]; exact hlt)
        obtain ⟨n', hn'⟩ : ∃ n', IntKind.i64.wrap (n + k) = n' := ⟨_, rfl⟩
        have HOR2 := Lib.hid (hturn n' (hn' ▸ wrap_inL _))
        have HV2 := Lib.hid (vld_line (n' := n') (by rw [HCL.out]; exact hlt) hli HV.out)
        have HT2 := Lib.hid ((sAll_set 0 C j (by rw [HCL.out]; exact hlt) (.mk o n' s v ll) (by rw [hli]; exact sT_line ..)).trans HT.out)
        have HB2 := Lib.hid (HBR.out.setCell (p := ⟨g, j * 8 + 1, none⟩) hgw (.int .i64 n'))
        have HCL2 := Lib.hid (show (C.set j (.mk o n' s v ll)).length = a.length from by rw [List.length_set]; exact HCL.out)
        clear hli hturn hnI
        go_wp2
        go_roundw
        case rel => exact ⟨j + 1, _, by omega, by go_num, HCL2, HOR2, HV2, HT2, HB2⟩
        case measure => simp [intOf]; omega
      · have C4 := Lib.hid (CC.out C wr (g + 1) (some ⟨g, 0, none⟩) cap4 HV.out HT.out HBR.out (HOR.out.all (Nat.zero_le _)) HOR.out.lt (by rw [HCL.out]; exact HCAP.out) a.length HCL.out.symm)
        go_wp2_with (go_at_call 6; (with_reducible refine C4.out.mono ?_); rintro e w11 ⟨rfl, hb11⟩; have HB11 := Lib.hid (HBR.out.trans (hb11.mono HBR.out.size)); clear hb11)
        go_ret
        exact ⟨ret_bool (by first | rfl | simp [h10]), HB11.out⟩
end Go.Proofs.YtemkikjcjhmlaaaGreatDoor.Sh

namespace Go.Proofs.YtemkikjcjhmlaaaGreatDoor
open Go.RowKit
set_option maxRecDepth 100000

set_option maxHeartbeats 8000000 in
/-- A Lit has nothing. -/
theorem rodd_f1 (o n : Int) (s : ByteArray) (v : T) (l : List Nd) (x : Value) (a : Int) (lp : Bool) (w : World) (lo hi : Nat) (hr : NRep w lo hi (.mk o n s v l) x) (hhi : hi ≤ w.heap.size) (ha : 0 ≤ a ∧ a ≤ 8) (hok : shapeBad o a lp s v l.length = false) (hnm : nameBad o s = false) (ih : ∀ t ∈ l, ROk t) (hn : o = 1) (hl0 : l.length = 0) :
    Calls Tryz.prog 17 #[x, .int .i64 (rp a), .bool lp] w fun e w' => e = .returned (fR (ckL l 0 o a (loopIn o lp) ((l.length : Int) - 1))) ∧ Below w.heap.size w w' := by
  obtain ⟨k, m, z, q, ql, qc, p, cap, rfl, hio, hin, hsz, hrv, hlc, hl112, hall⟩ := hr.open
  obtain ⟨e1, e2, e3, e4⟩ := rep_open hrv
  have HALL := Lib.hid hall
  have hll := len_cnt l
  have HO := Lib.hid (OB.start w (.cells #[.int .i64 o, .int .i64 n, .string s, .int .i64 k, .int .i64 m, .string z, .slice q ql qc, .slice p l.length cap] 33))
  have HSV := Lib.hid (fun W (hb : Below w.heap.size w W) => by
    have h := sameValue_any v zV W lo hi 0 0 _ _ (hrv.below hb hhi) (by have := hb.size; omega) (zV_rep W 0 0) (Nat.zero_le _)
    rw [eqV_zero] at h; exact h)
  have HRI := Lib.hid (fun W (hb : Below w.heap.size w W) => right_any v W lo hi _ (hrv.below hb hhi) (by have := hb.size; omega))
  have HNM := Lib.hid (fun W => rnamed_any o n s k m z q ql qc p l.length cap W hsz)
  have HST := Lib.hid (fun w => stands_any o a ha w)
  have HEN := Lib.hid (fun w => counts_any o l.length (by omega) w)
  have hw := v_ways (o := o) e1 e2
  obtain ⟨W1, hW1⟩ : ∃ W1, (w.alloc (.cells #[.int .i64 o, .int .i64 n, .string s, .int .i64 k, .int .i64 m, .string z, .slice q ql qc, .slice p l.length cap] 33)).alloc (.cells #[.int .i64 0, .bool false, .int .i64 0, .int .i64 0, .int .i64 0, .string ⟨#[]⟩, .slice none 0 0] 37) = W1 := ⟨_, rfl⟩
  rw [hW1] at HO
  obtain ⟨x0, x1, x2, x3, x4, x5, x6, x7, _⟩ := box8_in _ _ _ _ _ _ _ _ _ _ _ HO.out.nod
  have HSV1 := Lib.hid (HSV.out _ HO.out.bel)
  have HIH := Lib.hid ih
  clear ih
  have hb := hok
  rw [shape_parts o a lp s v l.length ha] at hb
  obtain ⟨N, hN⟩ : ∃ N, N = namedR o s := ⟨_, rfl⟩
  rw [← hN] at HNM hb
  obtain ⟨⟨⟨⟨hS, hE⟩, hV⟩, hN2⟩, hA⟩ : (((mayStandB o a true = true ∧ enoughB o l.length = true) ∧ rightV o v = true) ∧ (N == 2) = false) ∧ awayB o lp = false := by simpa only [Bool.or_eq_false_iff, Bool.not_eq_false'] using hb
  have hn1 := named_one o s
  rw [← hN] at hn1
  rw [hS] at HST
  rw [hE] at HEN
  rw [hV] at hw
  have hA3 : (o == 45) = true ∧ lp = true ∨ (o == 45) = false ∧ (o == 46) = true ∧ lp = true ∨ (o == 45) = false ∧ (o == 46) = false := by
    unfold awayB at hA
    cases h5 : (o == 45) <;> cases h6 : (o == 46) <;> cases lp <;> simp_all
  clear hr hrv hall HSV e1 e2 e3 e4 hok hN hS hE hb hA
  rw [hnm] at hn1
  clear hnm
  generalize rightV o v = V at *
  generalize rightB v = R at *
  generalize emptyV v = M at *
  have hw3 : ((o == 1) = true ∧ R = true ∧ (k != 4) = true ∧ (k != 0) = true) ∨ ((o == 1) = true ∧ R = true ∧ (k != 4) = true ∧ (k != 0) = false ∧ (m != -9223372036854775808) = true) ∨ ((o == 1) = false ∧ M = true) := by
    rcases hw with ⟨_, _, h⟩ | ⟨_, _, _, h⟩ | ⟨_, _, _, _, _, h⟩ | ⟨_, _, h⟩ | ⟨b1, h, b4, b0, _⟩ | ⟨b1, h, b4, b0, bm, _⟩ | ⟨b1, h, _⟩
    · cases h
    · cases h
    · cases h
    · cases h
    · exact .inl ⟨b1, h, b4, b0⟩
    · exact .inr (.inl ⟨b1, h, b4, b0, bm⟩)
    · exact .inr (.inr ⟨b1, h⟩)
  clear hw hV
  have HRP := Lib.hid (rp_ways a ha)
  have HL0 := Lib.hid hl0
  clear hl0
  obtain ⟨b42, b43, b44, b48, hlo⟩ := loop_one (o := o) (by simpa using hn) lp
  have hW : ((o == 1) = true ∧ R = true ∧ (k != 4) = true ∧ (k != 0) = true) ∨ ((o == 1) = true ∧ R = true ∧ (k != 4) = true ∧ (k != 0) = false ∧ (m != -9223372036854775808) = true) := by
    rcases hw3 with h | h | ⟨b1, _⟩
    · exact .inl h
    · exact .inr h
    · rw [hn] at b1; cases b1
  clear hn
  clear hw3
  go_enter Tryz.func17, Tryz.ntmps17
  rcases hW with ⟨b1, rfl, b4, b0⟩ | ⟨b1, rfl, b4, b0, bm⟩
  all_goals (focus (
    go_upto_region 5 with (first | (go_at_call 23; refine HSV1.out.mono ?_; rintro e w2 ⟨rfl, hb2⟩; have HO2 := Lib.hid (HO.out.step hb2); obtain ⟨y0, y1, y2, y3, y4, y5, y6, y7, _⟩ := box8_in _ _ _ _ _ _ _ _ _ _ _ HO2.out.nod; clear hb2) | (go_at_call 24; refine (HRI.out _ HO2.out.bel).mono ?_; rintro e w3 ⟨rfl, hb3⟩; have HO2 := Lib.hid (HO2.out.step hb3); obtain ⟨z0, z1, z2, z3, z4, z5, z6, z7, _⟩ := box8_in _ _ _ _ _ _ _ _ _ _ _ HO2.out.nod; clear hb3) | (go_at_call 25; refine (HNM.out _).mono ?_; rintro e w4 ⟨rfl, hb4⟩; have HO4 := Lib.hid (HO2.out.step hb4); obtain ⟨t0, t1, t2, t3, t4, t5, t6, t7, _⟩ := box8_in _ _ _ _ _ _ _ _ _ _ _ HO4.out.nod; clear hb4))
    clear HSV1 HRI HNM
    first | clear HO2 | skip
    rename World => w4
    go_cut [9] from 42 to 53 (fun c9 wx => c9 = .bool false ∧ wx = w4)
    case first =>
      rcases hA3 with ⟨h5, h6⟩ | ⟨h5, h6, h7⟩ | ⟨h5, h6⟩
      · subst h6; go_wp2; go_meet; exact ⟨rfl, rfl⟩
      · subst h7; go_wp2; go_meet; exact ⟨rfl, rfl⟩
      · go_wp2; go_meet; exact ⟨rfl, rfl⟩
    obtain ⟨rfl, rfl⟩ := hcut
    go_wp2_with (first | (go_at_call 26; refine (HST.out _).mono ?_; rintro e w5 ⟨rfl, rfl⟩) | (go_at_call 27; refine (HEN.out _).mono ?_; rintro e w5 ⟨rfl, rfl⟩))
    clear HST HEN hn1 hN2
    have HLO := Lib.hid hlo
    clear hlo
    go_loopw [10] (fun i wr => ∃ j : Nat, j ≤ l.length ∧ i = .int .i64 j ∧ Hid (OB w wr (.cells #[.int .i64 o, .int .i64 n, .string s, .int .i64 k, .int .i64 m, .string z, .slice q ql qc, .slice p l.length cap] 33)) ∧ Hid (ckL (l.drop j) j o a (loopIn o lp) ((l.length : Int) - 1) = ckL l 0 o a (loopIn o lp) ((l.length : Int) - 1))) (fun i _ => l.length - (intOf i).toNat)
    case atStart => exact ⟨0, Nat.zero_le _, rfl, HO4, Lib.hid rfl⟩
    case round =>
      obtain ⟨j, hj, rfl, HL, HD⟩ := hrel
      obtain ⟨y0, y1, y2, y3, y4, y5, y6, y7, _⟩ := box8_in _ _ _ _ _ _ _ _ _ _ _ HL.out.nod
      by_cases hlj : j < l.length
      · exact absurd hlj (by have := HL0.out; omega)
      · have hje : j = l.length := by omega
        have HR := Lib.hid (show fR (ckL l 0 o a (loopIn o lp) ((l.length : Int) - 1)) = fv 0 from by rw [← HD.out, hje, List.drop_length, ckL]; rfl)
        go_wp2_with (go_at_call 18; refine (none_any _).mono ?_; unfold fv; rintro e w6 ⟨rfl, hb6⟩; have HL2 := Lib.hid (HL.out.step hb6); obtain ⟨r0, r1, r2, r3, r4, r5, r6, hxf⟩ := box7_in _ _ _ _ _ _ _ _ _ _ HL2.out.flt; have hxf0 := hxf 0; have hxf1 := hxf 1; have hxf2 := hxf 2; have hxf3 := hxf 3; have hxf4 := hxf 4; have hxf5 := hxf 5; have hxf6 := hxf 6; clear hxf hb6)
        refine bodyPost_ret (v := fv 0) (by unfold fv; simp [results, Tryz.results17, go_sem, r0, r1, r2, r3, r4, r5, r6]) rfl ?_
        exact ⟨by rw [HR.out], below_set7 HL2.out.bel (Nat.le_succ _) _ _ _ _ _ _ _⟩))

theorem rodd_any : ∀ t : Nd, ROk t := by
  refine Nd.ind_ (fun o n s v l ih x a lp w lo hi hr hhi ha hcn => ?_)
  rw [cnt] at hcn
  rw [ckN]
  cases h1 : shapeBad o a lp s v l.length with
  | true => rw [if_pos rfl]; exact rodd_bad o n s v l x a lp w lo hi hr hhi ha h1
  | false =>
    rw [if_neg (by simp)]
    cases h2 : nameBad o s with
    | true => rw [if_pos rfl]; exact rodd_name o n s v l x a lp w lo hi hr hhi ha h1 h2
    | false =>
      rw [if_neg (by simp)]
      by_cases e1 : o = 1
      · have hl : l.length = 0 := by
          subst e1
          unfold shapeBad at h1
          simp only [Bool.or_eq_false_iff, Bool.not_eq_false'] at h1
          have h3 := h1.1.1.2
          unfold enoughB at h3
          rw [show boundsN 1 = ((0 : Int), (0 : Int)) from by decide] at h3
          simp only [Bool.and_eq_true, decide_eq_true_eq] at h3
          omega
        exact rodd_f1 o n s v l x a lp w lo hi hr hhi ha h1 h2 ih e1 hl
      by_cases e2 : o = 44 ∨ o = 48
      · exact rodd_f2 o n s v l x a lp w lo hi hr hhi ha (by omega) h1 h2 ih e1 e2
      by_cases e3 : o = 42 ∨ o = 43
      · exact rodd_f3 o n s v l x a lp w lo hi hr hhi ha (by omega) h1 h2 ih e1 e3
      exact rodd_f4 o n s v l x a lp w lo hi hr hhi ha (by omega) h1 h2 ih e1 (by omega)
end Go.Proofs.YtemkikjcjhmlaaaGreatDoor

namespace Go.Proofs.YtemkikjcjhmlaaaGreatDoor
open Go.RowKit
set_option maxRecDepth 100000

/-- A fault of the whole, as the document's words lay it. -/
def fltR : Flt → Value
  | .ok => fv 0
  | .bare k => fv (101 + k)
  | .at_ n k => fp (101 + k) n
structure VB (w W : World) (g : Nat) : Prop where
  bel : Below w.heap.size w W
  flt : W.heap[g]? = some (.cells #[.int .i64 0, .bool false, .int .i64 0, .int .i64 0, .int .i64 0, .string ⟨#[]⟩, .slice none 0 0] 37 (0, 0))
theorem VB.step {w W W' : World} {g : Nat} (h : VB w W g) (hb : Below W.heap.size W W') : VB w W' g := ⟨h.bel.trans (hb.mono h.bel.size), heap_old h.flt hb⟩
theorem fR_open (F : Option (Int × Nat)) : ∃ f0 f1 f2, fR F = .agg #[.int .i64 f0, .bool f1, .int .i64 f2, .int .i64 0, .int .i64 0, .string ByteArray.empty, .slice none 0 0] ∧ ((F = none ∧ f0 = 0) ∨ (f0 ≠ 0 ∧ ∃ fl fk, F = some (fl, fk))) := by
  cases F with
  | none => exact ⟨_, _, _, rfl, .inl ⟨rfl, rfl⟩⟩
  | some f => exact ⟨_, _, _, rfl, .inr ⟨by omega, f.1, f.2, rfl⟩⟩

set_option maxHeartbeats 1000000 in
theorem rvalid7_any (L : List Nd) (w : World) (lo hi : Nat) (p : Option Addr) (cap : Nat) (hall : NAll w lo hi L p) (hlc : L.length ≤ cap) (hcap : L.length * 112 ≤ 140737488355328) (hhi : hi ≤ w.heap.size) (hcn : cntAll L ≤ 1000000) :
    Calls Tryz.prog 9 #[.slice p L.length cap] w fun e w' => e = .returned (fltR (vldF L 0)) ∧ Below w.heap.size w w' := by
  have HALL := Lib.hid hall
  have hll := len_cnt L
  have HV := Lib.hid (show VB w (w.alloc (.cells #[.int .i64 0, .bool false, .int .i64 0, .int .i64 0, .int .i64 0, .string ⟨#[]⟩, .slice none 0 0] 37)) w.heap.size from ⟨(Below.refl _ _).alloc (Nat.le_refl _) _, heap_alloc_new w _⟩)
  have HTM := Lib.hid (fun (W : World) (hb : Below w.heap.size w W) => rtooMany_any L W lo hi p cap (hall.below hb hhi) hlc hcap (by have := hb.size; omega))
  have HDP := Lib.hid (fun (W : World) (hb : Below w.heap.size w W) => rdeep_any L W lo hi p cap (hall.below hb hhi) (by have := hb.size; omega) (by omega))
  obtain ⟨W1, hW1⟩ : ∃ W1, w.alloc (.cells #[.int .i64 0, .bool false, .int .i64 0, .int .i64 0, .int .i64 0, .string ⟨#[]⟩, .slice none 0 0] 37) = W1 := ⟨_, rfl⟩
  rw [hW1] at HV
  have hdl := dpNAll_le L
  clear hall
  by_cases h1 : 4096 < cntAll L
  · have HF := Lib.hid (show fltR (vldF L 0) = fv 104 from by unfold vldF; rw [if_pos h1]; rfl)
    have HM1 := Lib.hid (by have := HTM.out W1 HV.out.bel; rw [decide_eq_true h1] at this; exact this)
    clear h1 HTM HDP
    go_enter Tryz.func9, Tryz.ntmps9
    go_wp2_with (first
      | (go_at_call 14; refine HM1.out.mono ?_; rintro e w2 ⟨rfl, rfl⟩)
      | (go_at_call 15; refine (bare_any _ _).mono ?_; unfold fv; rintro e w3 ⟨rfl, hb3⟩; have HV3 := Lib.hid (HV.out.step hb3); obtain ⟨r0, r1, r2, r3, r4, r5, r6, hxf⟩ := box7_in _ _ _ _ _ _ _ _ _ _ HV3.out.flt; have hxf0 := hxf 0; have hxf1 := hxf 1; have hxf2 := hxf 2; have hxf3 := hxf 3; have hxf4 := hxf 4; have hxf5 := hxf 5; have hxf6 := hxf 6; clear hxf hb3))
    refine bodyPost_ret (v := fv 104) (by unfold fv; simp [results, Tryz.results9, go_sem, r0, r1, r2, r3, r4, r5, r6]) rfl ?_
    exact ⟨by rw [HF.out], below_set7 HV3.out.bel (Nat.le_refl _) _ _ _ _ _ _ _⟩
  have HM1 := Lib.hid (by have := HTM.out W1 HV.out.bel; rw [decide_eq_false h1] at this; exact this)
  have HD1 := Lib.hid (HDP.out W1 HV.out.bel)
  by_cases h2 : 40 < dpNAll L
  · have HF := Lib.hid (show fltR (vldF L 0) = fv 112 from by unfold vldF; rw [if_neg h1, if_pos h2]; rfl)
    have h2i : (40 : Int) < (dpNAll L : Int) := by omega
    clear h1 HTM HDP h2 hdl
    go_enter Tryz.func9, Tryz.ntmps9
    go_wp2_with (first
      | (go_at_call 14; refine HM1.out.mono ?_; rintro e w2 ⟨rfl, rfl⟩)
      | (go_at_call 16; refine HD1.out.mono ?_; rintro e w2 ⟨rfl, rfl⟩)
      | (go_at_call 15; refine (bare_any _ _).mono ?_; unfold fv; rintro e w3 ⟨rfl, hb3⟩; have HV3 := Lib.hid (HV.out.step hb3); obtain ⟨r0, r1, r2, r3, r4, r5, r6, hxf⟩ := box7_in _ _ _ _ _ _ _ _ _ _ HV3.out.flt; have hxf0 := hxf 0; have hxf1 := hxf 1; have hxf2 := hxf 2; have hxf3 := hxf 3; have hxf4 := hxf 4; have hxf5 := hxf 5; have hxf6 := hxf 6; clear hxf hb3))
    refine bodyPost_ret (v := fv 112) (by unfold fv; simp [results, Tryz.results9, go_sem, r0, r1, r2, r3, r4, r5, r6]) rfl ?_
    exact ⟨by rw [HF.out], below_set7 HV3.out.bel (Nat.le_refl _) _ _ _ _ _ _ _⟩
  have HF := Lib.hid (show vldF L 0 = firstF L 0 from by unfold vldF; rw [if_neg h1, if_neg h2])
  have h2i : ¬ (40 : Int) < (dpNAll L : Int) := by omega
  clear h1 HTM HDP h2 hdl
  go_enter Tryz.func9, Tryz.ntmps9
  go_wp2_with (first
    | (go_at_call 14; refine HM1.out.mono ?_; rintro e w2 ⟨rfl, rfl⟩)
    | (go_at_call 16; refine HD1.out.mono ?_; rintro e w2 ⟨rfl, rfl⟩))
  clear h2i HM1 HD1
  go_loopw [3] (fun i wr => ∃ j : Nat, j ≤ L.length ∧ i = .int .i64 j ∧ Hid (VB w wr w.heap.size) ∧ Hid (firstF (L.drop j) 0 = firstF L 0)) (fun i _ => L.length - (intOf i).toNat)
  case atStart => exact ⟨0, Nat.zero_le _, rfl, HV, Lib.hid rfl⟩
  case round =>
    obtain ⟨j, hj, rfl, HL, HD⟩ := hrel
    by_cases hlj : j < L.length
    · obtain ⟨b, off, o, n, s, v, ll, k, m, z, q, ql, qc, r, c, hp, _, hbhi, hli, h0, h1, h2, h3, h4, h5, h6, h7, hrep⟩ := (HALL.out.below HL.out.bel hhi).item j hlj
      have hmem : L[j] ∈ L := List.getElem_mem hlj
      have hcm := cntAll_mem hmem
      have hwr := HL.out.bel.size
      have HC := Lib.hid (rodd_any L[j] _ 0 false wr lo hi hrep (by omega) (by omega) (by omega))
      rw [show rp 0 = 9 from rfl] at HC
      have HDR := Lib.hid (firstF_drop L j hlj 0)
      have hbw : b < wr.heap.size := by omega
      subst hp
      clear hrep hmem hcm hli
      obtain ⟨F, hF⟩ : ∃ F, F = ckN L[j] 0 false := ⟨_, rfl⟩
      rw [← hF] at HC
      obtain ⟨f0, f1, f2, hf, hF0⟩ := fR_open F
      rw [hf] at HC
      have HFF := Lib.hid hf
      clear hf
      rcases hF0 with ⟨hFn, hf0⟩ | ⟨hf0, fl, fk, hFs⟩
      · subst hf0
        rw [← hF, hFn] at HDR
        clear hF HFF
        go_wp2_with (go_at_call 17; refine HC.out.mono ?_; rintro e w7 ⟨rfl, hb7⟩; have HL7 := Lib.hid (HL.out.step hb7); clear hb7)
        go_roundw
        case rel => exact ⟨j + 1, by omega, by go_num, Lib.hid (HL7.out.step ((Below.refl w7.heap.size w7).alloc (Nat.le_refl _) _)), Lib.hid (HDR.out.symm.trans HD.out)⟩
        case measure => simp [intOf]; omega
      · have hb0 : (f0 != 0) = true := by simpa using hf0
        rw [← hF, hFs] at HDR
        have HR := Lib.hid (show fltR (vldF L 0) = .agg #[.int .i64 f0, .bool f1, .int .i64 f2, .int .i64 0, .int .i64 0, .string ByteArray.empty, .slice none 0 0] from by
          rw [HF.out, ← HD.out, HDR.out]
          have := HFF.out
          rw [hFs] at this; exact this)
        clear hf0 hF HFF
        go_upto_region 10 with (go_at_call 17; refine HC.out.mono ?_; rintro e w7 ⟨rfl, hb7⟩; have HL7 := Lib.hid (HL.out.step hb7); clear hb7)
        have H7 := heap_alloc_new w7 (.cells #[.int .i64 f0, .bool f1, .int .i64 f2, .int .i64 0, .int .i64 0, .string ByteArray.empty, .slice none 0 0] 37)
        have HL8 := Lib.hid (HL7.out.step ((Below.refl w7.heap.size w7).alloc (Nat.le_refl _) (.cells #[.int .i64 f0, .bool f1, .int .i64 f2, .int .i64 0, .int .i64 0, .string ByteArray.empty, .slice none 0 0] 37)))
        have hne : w7.heap.size ≠ w.heap.size := by have := heap_lt HL7.out.flt; omega
        generalize w7.alloc (.cells #[.int .i64 f0, .bool f1, .int .i64 f2, .int .i64 0, .int .i64 0, .string ByteArray.empty, .slice none 0 0] 37) = W4 at *
        obtain ⟨g0, g1, g2, g3, g4, g5, g6, _⟩ := box7_in W4 w7.heap.size _ _ _ _ _ _ _ _ H7
        obtain ⟨r0, r1, r2, r3, r4, r5, r6, hxf⟩ := box7_in _ _ _ _ _ _ _ _ _ _ HL8.out.flt
        have hxf0 := hxf 0; have hxf1 := hxf 1; have hxf2 := hxf 2; have hxf3 := hxf 3; have hxf4 := hxf 4; have hxf5 := hxf 5; have hxf6 := hxf 6
        clear hxf H7 HL7 h0 h1 h2 h3 h4 h5 h6 h7 HC
        generalize w7.heap.size = g7 at *
        clear w7
        go_wp2_with fail
        refine bodyPost_ret (v := .agg #[.int .i64 f0, .bool f1, .int .i64 f2, .int .i64 0, .int .i64 0, .string ByteArray.empty, .slice none 0 0]) (by simp [results, Tryz.results9, go_sem, r0, r1, r2, r3, r4, r5, r6]) rfl ?_
        exact ⟨by rw [HR.out], below_set7 HL8.out.bel (Nat.le_refl _) _ _ _ _ _ _ _⟩
    · have hje : j = L.length := by omega
      have HR := Lib.hid (show fltR (vldF L 0) = fv 0 from by rw [HF.out, ← HD.out, hje, List.drop_length, firstF]; rfl)
      go_wp2_with (go_at_call 18; refine (none_any _).mono ?_; unfold fv; rintro e w6 ⟨rfl, hb6⟩; have HL2 := Lib.hid (HL.out.step hb6); obtain ⟨r0, r1, r2, r3, r4, r5, r6, hxf⟩ := box7_in _ _ _ _ _ _ _ _ _ _ HL2.out.flt; have hxf0 := hxf 0; have hxf1 := hxf 1; have hxf2 := hxf 2; have hxf3 := hxf 3; have hxf4 := hxf 4; have hxf5 := hxf 5; have hxf6 := hxf 6; clear hxf hb6)
      refine bodyPost_ret (v := fv 0) (by unfold fv; simp [results, Tryz.results9, go_sem, r0, r1, r2, r3, r4, r5, r6]) rfl ?_
      exact ⟨by rw [HR.out], below_set7 HL2.out.bel (Nat.le_refl _) _ _ _ _ _ _ _⟩

end Go.Proofs.YtemkikjcjhmlaaaGreatDoor
