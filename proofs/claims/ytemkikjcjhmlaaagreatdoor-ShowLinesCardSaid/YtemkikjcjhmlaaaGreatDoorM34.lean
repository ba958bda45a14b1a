/- The writer of package show: more cases. Printed by gen_whole4.py. -/
import Derived.Test.YtemkikjcjhmlaaaGreatDoorM21
import Derived.Test.YtemkikjcjhmlaaaGreatDoorM23
namespace Go.Proofs.YtemkikjcjhmlaaaGreatDoor.Sh
open Go.RowKit
set_option maxRecDepth 100000

theorem NAll.takeN {w : World} {lo hi : Nat} : ∀ (k : Nat) (l : List Nd) (p : Option Addr), NAll w lo hi l p → NAll w lo hi (l.take k) p
  | 0, l, p, _ => by rw [List.take_zero]; exact NAll.nil _ _ _ _
  | k + 1, [], p, _ => by rw [List.take_nil]; exact NAll.nil _ _ _ _
  | k + 1, t :: r, p, h => by
    unfold NAll at h
    obtain ⟨a, c0, c1, c2, c3, c4, c5, c6, c7, rfl, g1, g2, g3, g4, g5, g6, g7, g8, g9, g10, g11, hr⟩ := h
    rw [List.take_succ_cons]
    unfold NAll
    exact ⟨a, c0, c1, c2, c3, c4, c5, c6, c7, rfl, g1, g2, g3, g4, g5, g6, g7, g8, g9, g10, g11, NAll.takeN k r _ hr⟩
theorem nslice_head (p : Option Addr) (n cap k : Nat) (h : k ≤ n) (hc : n ≤ cap) (W : World) : (Instr.sliceAt 22 (.slice p n cap) none (some (.int .i64 (k : Int))) none).run Tryz.prog W = .ok (.slice p k cap) W := by
  have h2 : (k : Int) ≤ (cap : Int) := by omega
  have ht := Tryz.underlying22
  simp only [Instr.sliceAt, Instr.slice, run_underlying ht, Instr.sliceBounds, Instr.sliceBound, asIntOf, Sem.run_bind, Sem.run_pure, Result.andThen]
  cases p <;> simp [go_sem, h2, add_zero]
theorem wAll_append : ∀ (a b : List Nd), wAll (a ++ b) = wAll a ++ wAll b
  | [], b => by simp [wAll]
  | t :: r, b => by rw [List.cons_append, wAll, wAll_append r b, wAll, List.cons_append]
set_option maxHeartbeats 4000000 in
theorem whole_scatter (ad : Nat → Addr) (eD eM eR eS : Value) (n : Int) (s : ByteArray) (v : T) (l0 : List Nd) (t : Nd) (hw : ∀ t ∈ l0, WOk ad eD eM eR eS t) (hwt : WOk ad eD eM eR eS t) (hl0 : l0.length ≤ 1000000) : WOk ad eD eM eR eS (.mk 28 n s v (l0 ++ [t])) := by
  have HE := Lib.hid (show wT (.mk 28 n s v (l0 ++ [t])) = [123] ++ joinS [44, 32] (wAll l0) ++ [125] ++ [32, 61, 32] ++ wT t from by
    rw [wT]
    show [123] ++ joinS [44, 32] (wAll (l0 ++ [t])).dropLast ++ [125] ++ [32, 61, 32] ++ (wAll (l0 ++ [t])).getLastD [] = _
    rw [wAll_append, show wAll [t] = [wT t] from rfl, List.dropLast_concat]; simp)
  obtain ⟨l, hl⟩ : ∃ l, l = l0 ++ [t] := ⟨_, rfl⟩
  have hlen1 : l.length = l0.length + 1 := by rw [hl]; simp
  obtain ⟨K, hK⟩ : ∃ K, K = l0.length := ⟨_, rfl⟩
  have hlK : K < l.length := by omega
  have hgt : l[K] = t := by subst hl hK; simp
  have htk : l.take K = l0 := by subst hl hK; simp
  rw [← hl] at HE ⊢
  clear hl
  intro B b kk X w lo hi x hr hlo hhi hBw h hc hlen
  obtain ⟨k, m, z, q, ql, qc, r, c, rfl, _, _, hsz, hv, hlc, hl112, hall⟩ := hr.open
  obtain ⟨W1, hW1⟩ : ∃ W1, W1 = w.alloc (.cells #[.int .i64 28, .int .i64 n, .string s, .int .i64 k, .int .i64 m, .string z, .slice q ql qc, .slice r l.length c] 33) := ⟨_, rfl⟩
  have hb0 : Below w.heap.size w W1 := hW1 ▸ (Below.refl w.heap.size w).alloc (Nat.le_refl _) _
  have HX : Hid (W1.heap[w.heap.size]? = some (.cells #[.int .i64 28, .int .i64 n, .string s, .int .i64 k, .int .i64 m, .string z, .slice q ql qc, .slice r l.length c] 33 (0, 0))) := hW1 ▸ heap_alloc_new w _
  have HW := Lib.hid (h.below hb0)
  have hB1 : B ≤ W1.heap.size := Nat.le_trans hBw hb0.size
  have HB := Lib.hid (hb0.mono hBw)
  have HK : Hid (Kp b w W1) := Kp.of_below hb0
  have HV := Lib.hid (fun W (hb : Below B w W) => hv.below hb hhi)
  have HALL := Lib.hid (fun W (hb : Below B w W) => hall.below hb hhi)
  have HC := Lib.hid hc
  obtain ⟨g, hg⟩ : ∃ g, g = w.heap.size := ⟨_, rfl⟩
  have hgb : g ≠ b := by have := h.lt; omega
  rw [← hg] at HX
  have hgl : g < W1.heap.size := ltW HX.out
  clear hr hc h hb0 hv
  obtain ⟨x0, x1, x2, x3, x4, x5, x6, x7, _⟩ := box8s _ g _ _ _ _ _ _ _ _ _ HX.out
  obtain ⟨bi, off, o0, n0, s0, v0, l1, k0, m0, z0, q0, ql0, qc0, r0, c0, hp0, _, hbh0, hli0, y00, y01, y02, y03, y04, y05, y06, y07, hr0⟩ := hall.item K hlK
  rw [hgt] at hr0
  have htake := NAll.takeN K l r hall
  rw [htk] at htake
  subst hp0
  have hbB : bi < B := by omega
  have HR0 := Lib.hid (fun W (hb : Below B w W) => (show NRep w lo hi t _ from hr0).below hb hhi)
  have HTK := Lib.hid (fun W (hb : Below B w W) => htake.below hb hhi)
  have hsl := fun W : World => nslice_head (some ⟨bi, off, none⟩) l.length c K (Nat.le_of_lt hlK) hlc W
  have hsub : (l.length : Int) - 1 = (K : Int) := by omega
  have hKi : (K : Int) < (l.length : Int) := by omega
  have hK1 : (K : Int) ≤ 1000000 := by omega
  clear hr0 hli0 hgt htk htake
  rw [HE.out] at hlen
  simp only [List.length_append, List.length_cons, List.length_nil, Nat.zero_add, Nat.reduceAdd] at hlen
  have HEX := Lib.hid (show X ++ wT (.mk 28 n s v l) = (((X ++ ([123] ++ joinS [44, 32] (wAll l0) ++ [125])) ++ (⟨#[32, 61, 32]⟩ : ByteArray).data.toList) ++ wT t) from by rw [HE.out]; simp)
  have HWR := Lib.hid hw
  have HWT := Lib.hid hwt
  have HP1 := Lib.hid (braces_any ad eD eM eR eS l0 HWR.out B b kk X W1 lo hi _ c (HTK.out _ HB.out) hl0 hlo hhi hB1 HW.out (HC.out.on HB.out) (by omega))
  rw [← hK] at HP1
  clear hw hwt hall HALL HV hlen1 hK
  go_enter Tryz.func36, Tryz.ntmps36
  go_upto_region 1 with fail
  rw [← hW1, ← hg]
  clear hW1 hg
  go_wp2_with (first
    | (go_at_call 65; (with_reducible refine HP1.out.mono ?_); rintro e w2 ⟨rfl, h2, hb2, hk2⟩; have HB2 := Lib.hid (HB.out.trans hb2); have HK2 := Lib.hid (HK.out.trans hk2); have HX2 := Lib.hid (hk2 g _ _ (by decide) hgb HX.out); obtain ⟨a20, a21, a22, a23, a24, a25, a26, a27, _⟩ := box8s _ g _ _ _ _ _ _ _ _ _ HX2.out; have hs2 := Nat.le_trans hB1 hb2.size; have HP2 := Lib.hid (put1_any B b kk _ (⟨#[32, 61, 32]⟩ : ByteArray) w2 h2 (by simp only [List.length_append]; simp only [List.length_singleton]; show X.length + (1 + (joinS [44, 32] (wAll l0)).length + 1) + 3 ≤ _; omega) hs2); clear h2 hb2 hk2)
    | (go_at_call 37; (with_reducible refine HP2.out.mono ?_); rintro e w3 ⟨rfl, h3, hb3, hk3⟩; have HB3 := Lib.hid (HB2.out.trans hb3); have HK3 := Lib.hid (HK2.out.trans hk3); have HX3 := Lib.hid (hk3 g _ _ (by decide) hgb HX2.out); obtain ⟨a30, a31, a32, a33, a34, a35, a36, a37, _⟩ := box8s _ g _ _ _ _ _ _ _ _ _ HX3.out; have hs3 := Nat.le_trans hs2 hb3.size; have z300 := (HB3.out.cell (p := ⟨bi, off + K * 8, none⟩) hbB).trans y00; have z301 := (HB3.out.cell (p := ⟨bi, off + K * 8 + 1, none⟩) hbB).trans y01; have z302 := (HB3.out.cell (p := ⟨bi, off + K * 8 + 2, none⟩) hbB).trans y02; have z303 := (HB3.out.cell (p := ⟨bi, off + K * 8 + 3, none⟩) hbB).trans y03; have z304 := (HB3.out.cell (p := ⟨bi, off + K * 8 + 4, none⟩) hbB).trans y04; have z305 := (HB3.out.cell (p := ⟨bi, off + K * 8 + 5, none⟩) hbB).trans y05; have z306 := (HB3.out.cell (p := ⟨bi, off + K * 8 + 6, none⟩) hbB).trans y06; have z307 := (HB3.out.cell (p := ⟨bi, off + K * 8 + 7, none⟩) hbB).trans y07; have HP3 := Lib.hid (HWT.out B b kk _ w3 lo hi _ (HR0.out _ HB3.out) hlo hhi hs3 h3 (HC.out.on HB3.out) (by simp only [List.length_append]; simp only [List.length_singleton]; show X.length + (1 + (joinS [44, 32] (wAll l0)).length + 1) + 3 + (wT t).length ≤ _; omega)); clear h3 hb3 hk3)
    | (go_at_call 36; (with_reducible refine HP3.out.mono ?_); rintro e w4 ⟨rfl, h4, hb4, hk4⟩; have HB4 := Lib.hid (HB3.out.trans hb4); have HK4 := Lib.hid (HK3.out.trans hk4); have H4 := Lib.hid h4; clear h4 hb4 hk4))
  go_end0
  exact ⟨rfl, by rw [HEX.out]; exact H4.out, HB4.out, HK4.out⟩
end Go.Proofs.YtemkikjcjhmlaaaGreatDoor.Sh
