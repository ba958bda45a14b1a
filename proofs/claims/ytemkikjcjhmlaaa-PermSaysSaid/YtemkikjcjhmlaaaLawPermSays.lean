/- The walk of the statement on who may what. Printed by gen_perm.py. -/
import Derived.Test.YtemkikjcjhmlaaaPl
import Derived.Test.YtemkikjcjhmlaaaLex
namespace Go.Proofs.Ytemkikjcjhmlaaa.Pm
open Go.RowKit
set_option maxRecDepth 100000

set_option maxHeartbeats 8000000 in
theorem permSays_all (id : Int) (wz pg : Bool) (op : Int) (sn sc s4 s5 s6 s7 : Value) (sw sb : Int) (vn vt vl : Value) (vw vb : Int) (oi oe ow ol of oq : Int) (on od os ov : Value) (pi pp pw pl pf pq : Int) (pn pd ps pv : Value) (w : World) : Calls Try.prog 3 #[.agg #[.int .i64 id, .bool wz, .bool pg], .int .i64 op, .agg #[sn, .int .i64 sw, .int .i64 sb, sc, s4, s5, s6, s7], .agg #[vn, .int .i64 vw, .int .i64 vb, vt, vl], .agg #[.int .i64 oi, .int .i64 oe, .int .i64 ow, .int .i64 ol, .int .i64 of, .int .i64 oq, on, od, os, ov], .agg #[.int .i64 pi, .int .i64 pp, .int .i64 pw, .int .i64 pl, .int .i64 pf, .int .i64 pq, pn, pd, ps, pv]] w fun e w' => e = .returned (.bool true) ∧ Below w.heap.size w w' := by
  obtain ⟨W1, hW1⟩ : ∃ W1, W1 = (((((w.alloc (.cells #[.int .i64 id, .bool wz, .bool pg] 23)).alloc (.cells #[sn, .int .i64 sw, .int .i64 sb, sc, s4, s5, s6, s7] 28)).alloc (.cells #[vn, .int .i64 vw, .int .i64 vb, vt, vl] 31)).alloc (.cells #[.int .i64 oi, .int .i64 oe, .int .i64 ow, .int .i64 ol, .int .i64 of, .int .i64 oq, on, od, os, ov] 36)).alloc (.cells #[.int .i64 pi, .int .i64 pp, .int .i64 pw, .int .i64 pl, .int .i64 pf, .int .i64 pq, pn, pd, ps, pv] 36)) := ⟨_, rfl⟩
  have hb0 : Below w.heap.size w W1 := hW1 ▸ (((((Below.refl w.heap.size w).alloc (Nat.le_refl _) _).alloc (by simp) _).alloc (by simp; omega) _).alloc (by simp; omega) _).alloc (by simp; omega) _
  have hx0 : W1.heap[w.heap.size]? = some (.cells #[.int .i64 id, .bool wz, .bool pg] 23 (0, 0)) := by
    have h := heap_alloc_new w (.cells #[.int .i64 id, .bool wz, .bool pg] 23)
    rw [hW1]
    rw [Below.heap_alloc _ _ _ (by simp only [World.size_alloc]; omega)]
    rw [Below.heap_alloc _ _ _ (by simp only [World.size_alloc]; omega)]
    rw [Below.heap_alloc _ _ _ (by simp only [World.size_alloc]; omega)]
    rw [Below.heap_alloc _ _ _ (by simp only [World.size_alloc]; omega)]
    exact h
  have hx1 : W1.heap[w.heap.size + 1]? = some (.cells #[sn, .int .i64 sw, .int .i64 sb, sc, s4, s5, s6, s7] 28 (0, 0)) := by
    have h := heap_alloc_new (w.alloc (.cells #[.int .i64 id, .bool wz, .bool pg] 23)) (.cells #[sn, .int .i64 sw, .int .i64 sb, sc, s4, s5, s6, s7] 28)
    simp only [World.size_alloc] at h
    rw [hW1]
    rw [Below.heap_alloc _ _ _ (by simp only [World.size_alloc]; omega)]
    rw [Below.heap_alloc _ _ _ (by simp only [World.size_alloc]; omega)]
    rw [Below.heap_alloc _ _ _ (by simp only [World.size_alloc]; omega)]
    exact h
  have hx2 : W1.heap[w.heap.size + 2]? = some (.cells #[vn, .int .i64 vw, .int .i64 vb, vt, vl] 31 (0, 0)) := by
    have h := heap_alloc_new ((w.alloc (.cells #[.int .i64 id, .bool wz, .bool pg] 23)).alloc (.cells #[sn, .int .i64 sw, .int .i64 sb, sc, s4, s5, s6, s7] 28)) (.cells #[vn, .int .i64 vw, .int .i64 vb, vt, vl] 31)
    simp only [World.size_alloc] at h
    rw [hW1]
    rw [Below.heap_alloc _ _ _ (by simp only [World.size_alloc]; omega)]
    rw [Below.heap_alloc _ _ _ (by simp only [World.size_alloc]; omega)]
    exact h
  have hx3 : W1.heap[w.heap.size + 3]? = some (.cells #[.int .i64 oi, .int .i64 oe, .int .i64 ow, .int .i64 ol, .int .i64 of, .int .i64 oq, on, od, os, ov] 36 (0, 0)) := by
    have h := heap_alloc_new (((w.alloc (.cells #[.int .i64 id, .bool wz, .bool pg] 23)).alloc (.cells #[sn, .int .i64 sw, .int .i64 sb, sc, s4, s5, s6, s7] 28)).alloc (.cells #[vn, .int .i64 vw, .int .i64 vb, vt, vl] 31)) (.cells #[.int .i64 oi, .int .i64 oe, .int .i64 ow, .int .i64 ol, .int .i64 of, .int .i64 oq, on, od, os, ov] 36)
    simp only [World.size_alloc] at h
    rw [hW1]
    rw [Below.heap_alloc _ _ _ (by simp only [World.size_alloc]; omega)]
    exact h
  have hx4 : W1.heap[w.heap.size + 4]? = some (.cells #[.int .i64 pi, .int .i64 pp, .int .i64 pw, .int .i64 pl, .int .i64 pf, .int .i64 pq, pn, pd, ps, pv] 36 (0, 0)) := by
    have h := heap_alloc_new ((((w.alloc (.cells #[.int .i64 id, .bool wz, .bool pg] 23)).alloc (.cells #[sn, .int .i64 sw, .int .i64 sb, sc, s4, s5, s6, s7] 28)).alloc (.cells #[vn, .int .i64 vw, .int .i64 vb, vt, vl] 31)).alloc (.cells #[.int .i64 oi, .int .i64 oe, .int .i64 ow, .int .i64 ol, .int .i64 of, .int .i64 oq, on, od, os, ov] 36)) (.cells #[.int .i64 pi, .int .i64 pp, .int .i64 pw, .int .i64 pl, .int .i64 pf, .int .i64 pq, pn, pd, ps, pv] 36)
    simp only [World.size_alloc] at h
    rw [hW1]
    exact h
  obtain ⟨g0, hg0⟩ : ∃ g, g = w.heap.size := ⟨_, rfl⟩
  rw [← hg0] at hx0
  have hl0 : g0 < W1.heap.size := (Array.getElem?_eq_some_iff.1 hx0).1
  obtain ⟨g1, hg1⟩ : ∃ g, g = w.heap.size + 1 := ⟨_, rfl⟩
  rw [← hg1] at hx1
  have hl1 : g1 < W1.heap.size := (Array.getElem?_eq_some_iff.1 hx1).1
  obtain ⟨g2, hg2⟩ : ∃ g, g = w.heap.size + 2 := ⟨_, rfl⟩
  rw [← hg2] at hx2
  have hl2 : g2 < W1.heap.size := (Array.getElem?_eq_some_iff.1 hx2).1
  obtain ⟨g3, hg3⟩ : ∃ g, g = w.heap.size + 3 := ⟨_, rfl⟩
  rw [← hg3] at hx3
  have hl3 : g3 < W1.heap.size := (Array.getElem?_eq_some_iff.1 hx3).1
  obtain ⟨g4, hg4⟩ : ∃ g, g = w.heap.size + 4 := ⟨_, rfl⟩
  rw [← hg4] at hx4
  have hl4 : g4 < W1.heap.size := (Array.getElem?_eq_some_iff.1 hx4).1
  have HB0 := Lib.hid hb0
  clear hb0
  have F := Lib.hid (first11_any W1)
  have CP := Lib.hid (fun W => plain_any id wz pg W)
  have x0_0 : W1.cell? ⟨g0, 0, none⟩ = some (.int .i64 id) := (cell_of_row _ _ 0 _ _ _ hx0).trans rfl
  have x0_1 : W1.cell? ⟨g0, 1, none⟩ = some (.bool wz) := (cell_of_row _ _ 1 _ _ _ hx0).trans rfl
  have x0_2 : W1.cell? ⟨g0, 2, none⟩ = some (.bool pg) := (cell_of_row _ _ 2 _ _ _ hx0).trans rfl
  have x1_0 : W1.cell? ⟨g1, 0, none⟩ = some (sn) := (cell_of_row _ _ 0 _ _ _ hx1).trans rfl
  have x1_1 : W1.cell? ⟨g1, 1, none⟩ = some (.int .i64 sw) := (cell_of_row _ _ 1 _ _ _ hx1).trans rfl
  have x1_2 : W1.cell? ⟨g1, 2, none⟩ = some (.int .i64 sb) := (cell_of_row _ _ 2 _ _ _ hx1).trans rfl
  have x1_3 : W1.cell? ⟨g1, 3, none⟩ = some (sc) := (cell_of_row _ _ 3 _ _ _ hx1).trans rfl
  have x1_4 : W1.cell? ⟨g1, 4, none⟩ = some (s4) := (cell_of_row _ _ 4 _ _ _ hx1).trans rfl
  have x1_5 : W1.cell? ⟨g1, 5, none⟩ = some (s5) := (cell_of_row _ _ 5 _ _ _ hx1).trans rfl
  have x1_6 : W1.cell? ⟨g1, 6, none⟩ = some (s6) := (cell_of_row _ _ 6 _ _ _ hx1).trans rfl
  have x1_7 : W1.cell? ⟨g1, 7, none⟩ = some (s7) := (cell_of_row _ _ 7 _ _ _ hx1).trans rfl
  have x2_0 : W1.cell? ⟨g2, 0, none⟩ = some (vn) := (cell_of_row _ _ 0 _ _ _ hx2).trans rfl
  have x2_1 : W1.cell? ⟨g2, 1, none⟩ = some (.int .i64 vw) := (cell_of_row _ _ 1 _ _ _ hx2).trans rfl
  have x2_2 : W1.cell? ⟨g2, 2, none⟩ = some (.int .i64 vb) := (cell_of_row _ _ 2 _ _ _ hx2).trans rfl
  have x2_3 : W1.cell? ⟨g2, 3, none⟩ = some (vt) := (cell_of_row _ _ 3 _ _ _ hx2).trans rfl
  have x2_4 : W1.cell? ⟨g2, 4, none⟩ = some (vl) := (cell_of_row _ _ 4 _ _ _ hx2).trans rfl
  have x3_0 : W1.cell? ⟨g3, 0, none⟩ = some (.int .i64 oi) := (cell_of_row _ _ 0 _ _ _ hx3).trans rfl
  have x3_1 : W1.cell? ⟨g3, 1, none⟩ = some (.int .i64 oe) := (cell_of_row _ _ 1 _ _ _ hx3).trans rfl
  have x3_2 : W1.cell? ⟨g3, 2, none⟩ = some (.int .i64 ow) := (cell_of_row _ _ 2 _ _ _ hx3).trans rfl
  have x3_3 : W1.cell? ⟨g3, 3, none⟩ = some (.int .i64 ol) := (cell_of_row _ _ 3 _ _ _ hx3).trans rfl
  have x3_4 : W1.cell? ⟨g3, 4, none⟩ = some (.int .i64 of) := (cell_of_row _ _ 4 _ _ _ hx3).trans rfl
  have x3_5 : W1.cell? ⟨g3, 5, none⟩ = some (.int .i64 oq) := (cell_of_row _ _ 5 _ _ _ hx3).trans rfl
  have x3_6 : W1.cell? ⟨g3, 6, none⟩ = some (on) := (cell_of_row _ _ 6 _ _ _ hx3).trans rfl
  have x3_7 : W1.cell? ⟨g3, 7, none⟩ = some (od) := (cell_of_row _ _ 7 _ _ _ hx3).trans rfl
  have x3_8 : W1.cell? ⟨g3, 8, none⟩ = some (os) := (cell_of_row _ _ 8 _ _ _ hx3).trans rfl
  have x3_9 : W1.cell? ⟨g3, 9, none⟩ = some (ov) := (cell_of_row _ _ 9 _ _ _ hx3).trans rfl
  have x4_0 : W1.cell? ⟨g4, 0, none⟩ = some (.int .i64 pi) := (cell_of_row _ _ 0 _ _ _ hx4).trans rfl
  have x4_1 : W1.cell? ⟨g4, 1, none⟩ = some (.int .i64 pp) := (cell_of_row _ _ 1 _ _ _ hx4).trans rfl
  have x4_2 : W1.cell? ⟨g4, 2, none⟩ = some (.int .i64 pw) := (cell_of_row _ _ 2 _ _ _ hx4).trans rfl
  have x4_3 : W1.cell? ⟨g4, 3, none⟩ = some (.int .i64 pl) := (cell_of_row _ _ 3 _ _ _ hx4).trans rfl
  have x4_4 : W1.cell? ⟨g4, 4, none⟩ = some (.int .i64 pf) := (cell_of_row _ _ 4 _ _ _ hx4).trans rfl
  have x4_5 : W1.cell? ⟨g4, 5, none⟩ = some (.int .i64 pq) := (cell_of_row _ _ 5 _ _ _ hx4).trans rfl
  have x4_6 : W1.cell? ⟨g4, 6, none⟩ = some (pn) := (cell_of_row _ _ 6 _ _ _ hx4).trans rfl
  have x4_7 : W1.cell? ⟨g4, 7, none⟩ = some (pd) := (cell_of_row _ _ 7 _ _ _ hx4).trans rfl
  have x4_8 : W1.cell? ⟨g4, 8, none⟩ = some (ps) := (cell_of_row _ _ 8 _ _ _ hx4).trans rfl
  have x4_9 : W1.cell? ⟨g4, 9, none⟩ = some (pv) := (cell_of_row _ _ 9 _ _ _ hx4).trans rfl
  have HX0 := Lib.hid hx0
  clear hx0
  have HX1 := Lib.hid hx1
  clear hx1
  have HX2 := Lib.hid hx2
  clear hx2
  have HX3 := Lib.hid hx3
  clear hx3
  have HX4 := Lib.hid hx4
  clear hx4
  go_enter Try.func3, Try.ntmps3
  go_upto_region 1 with fail
  try simp only [World.size_alloc]
  rw [← hW1, ← hg4, ← hg3, ← hg2, ← hg1, ← hg0]
  clear hW1 hg0 hg1 hg2 hg3 hg4
  go_upto_region 5 with (first
    | (go_at_call 8; refine F.out.mono ?_; rintro e w1 ⟨rfl, hb1⟩; have HB0 := Lib.hid (HB0.out.trans (hb1.mono HB0.out.size)); have HX0 := Lib.hid ((hb1.block _ hl0).trans HX0.out); have hl0 := Nat.lt_of_lt_of_le hl0 hb1.size; have HX1 := Lib.hid ((hb1.block _ hl1).trans HX1.out); have hl1 := Nat.lt_of_lt_of_le hl1 hb1.size; have HX2 := Lib.hid ((hb1.block _ hl2).trans HX2.out); have hl2 := Nat.lt_of_lt_of_le hl2 hb1.size; have HX3 := Lib.hid ((hb1.block _ hl3).trans HX3.out); have hl3 := Nat.lt_of_lt_of_le hl3 hb1.size; have HX4 := Lib.hid ((hb1.block _ hl4).trans HX4.out); have hl4 := Nat.lt_of_lt_of_le hl4 hb1.size; obtain ⟨x0_0, x0_1, x0_2⟩ := boxs3 HX0.out; obtain ⟨x1_0, x1_1, x1_2, x1_3, x1_4, x1_5, x1_6, x1_7⟩ := boxs8 HX1.out; obtain ⟨x2_0, x2_1, x2_2, x2_3, x2_4⟩ := boxs5 HX2.out; obtain ⟨x3_0, x3_1, x3_2, x3_3, x3_4, x3_5, x3_6, x3_7, x3_8, x3_9⟩ := boxs10 HX3.out; obtain ⟨x4_0, x4_1, x4_2, x4_3, x4_4, x4_5, x4_6, x4_7, x4_8, x4_9⟩ := boxs10 HX4.out; clear hb1)
    | (go_at_call 9; refine (CP.out _).mono ?_; rintro e w2 ⟨rfl, hb1⟩; have HB0 := Lib.hid (HB0.out.trans (hb1.mono HB0.out.size)); have HX0 := Lib.hid ((hb1.block _ hl0).trans HX0.out); have hl0 := Nat.lt_of_lt_of_le hl0 hb1.size; have HX1 := Lib.hid ((hb1.block _ hl1).trans HX1.out); have hl1 := Nat.lt_of_lt_of_le hl1 hb1.size; have HX2 := Lib.hid ((hb1.block _ hl2).trans HX2.out); have hl2 := Nat.lt_of_lt_of_le hl2 hb1.size; have HX3 := Lib.hid ((hb1.block _ hl3).trans HX3.out); have hl3 := Nat.lt_of_lt_of_le hl3 hb1.size; have HX4 := Lib.hid ((hb1.block _ hl4).trans HX4.out); have hl4 := Nat.lt_of_lt_of_le hl4 hb1.size; clear hb1))
  have hb : Below w2.heap.size w2 (w2.alloc (.cells #[.int .i64 id, .bool wz, .bool pg] 38)) := (Below.refl _ _).alloc (Nat.le_refl _) _
  have hx5 := heap_alloc_new w2 (.cells #[.int .i64 id, .bool wz, .bool pg] 38)
  obtain ⟨W2, hW2⟩ : ∃ W2, W2 = w2.alloc (.cells #[.int .i64 id, .bool wz, .bool pg] 38) := ⟨_, rfl⟩
  rw [← hW2] at hb hx5
  obtain ⟨g5, hg5⟩ : ∃ g, g = w2.heap.size := ⟨_, rfl⟩
  rw [← hg5] at hx5
  have hl5 : g5 < W2.heap.size := (Array.getElem?_eq_some_iff.1 hx5).1
  have HB0 := Lib.hid (HB0.out.trans (hb.mono HB0.out.size))
  have HX0 := Lib.hid ((hb.block _ hl0).trans HX0.out)
  have hl0 := Nat.lt_of_lt_of_le hl0 hb.size
  have HX1 := Lib.hid ((hb.block _ hl1).trans HX1.out)
  have hl1 := Nat.lt_of_lt_of_le hl1 hb.size
  have HX2 := Lib.hid ((hb.block _ hl2).trans HX2.out)
  have hl2 := Nat.lt_of_lt_of_le hl2 hb.size
  have HX3 := Lib.hid ((hb.block _ hl3).trans HX3.out)
  have hl3 := Nat.lt_of_lt_of_le hl3 hb.size
  have HX4 := Lib.hid ((hb.block _ hl4).trans HX4.out)
  have hl4 := Nat.lt_of_lt_of_le hl4 hb.size
  have HX5 := Lib.hid hx5
  clear hx5 hb
  rw [← hW2, ← hg5]
  clear hW2 hg5
  obtain ⟨Ix, f, hne, hfx, hcl⟩ := classB W2
  have hh0 := fun x => ((hfx x).block _ hl0).trans HX0.out
  have y0_0 : ∀ x, (f x).cell? ⟨g0, 0, none⟩ = some (.int .i64 id) := fun x => (cell_of_row _ _ 0 _ _ _ (hh0 x)).trans rfl
  have y0_1 : ∀ x, (f x).cell? ⟨g0, 1, none⟩ = some (.bool wz) := fun x => (cell_of_row _ _ 1 _ _ _ (hh0 x)).trans rfl
  have y0_2 : ∀ x, (f x).cell? ⟨g0, 2, none⟩ = some (.bool pg) := fun x => (cell_of_row _ _ 2 _ _ _ (hh0 x)).trans rfl
  clear hh0
  have hh1 := fun x => ((hfx x).block _ hl1).trans HX1.out
  have y1_0 : ∀ x, (f x).cell? ⟨g1, 0, none⟩ = some (sn) := fun x => (cell_of_row _ _ 0 _ _ _ (hh1 x)).trans rfl
  have y1_1 : ∀ x, (f x).cell? ⟨g1, 1, none⟩ = some (.int .i64 sw) := fun x => (cell_of_row _ _ 1 _ _ _ (hh1 x)).trans rfl
  have y1_2 : ∀ x, (f x).cell? ⟨g1, 2, none⟩ = some (.int .i64 sb) := fun x => (cell_of_row _ _ 2 _ _ _ (hh1 x)).trans rfl
  have y1_3 : ∀ x, (f x).cell? ⟨g1, 3, none⟩ = some (sc) := fun x => (cell_of_row _ _ 3 _ _ _ (hh1 x)).trans rfl
  have y1_4 : ∀ x, (f x).cell? ⟨g1, 4, none⟩ = some (s4) := fun x => (cell_of_row _ _ 4 _ _ _ (hh1 x)).trans rfl
  have y1_5 : ∀ x, (f x).cell? ⟨g1, 5, none⟩ = some (s5) := fun x => (cell_of_row _ _ 5 _ _ _ (hh1 x)).trans rfl
  have y1_6 : ∀ x, (f x).cell? ⟨g1, 6, none⟩ = some (s6) := fun x => (cell_of_row _ _ 6 _ _ _ (hh1 x)).trans rfl
  have y1_7 : ∀ x, (f x).cell? ⟨g1, 7, none⟩ = some (s7) := fun x => (cell_of_row _ _ 7 _ _ _ (hh1 x)).trans rfl
  clear hh1
  have hh2 := fun x => ((hfx x).block _ hl2).trans HX2.out
  have y2_0 : ∀ x, (f x).cell? ⟨g2, 0, none⟩ = some (vn) := fun x => (cell_of_row _ _ 0 _ _ _ (hh2 x)).trans rfl
  have y2_1 : ∀ x, (f x).cell? ⟨g2, 1, none⟩ = some (.int .i64 vw) := fun x => (cell_of_row _ _ 1 _ _ _ (hh2 x)).trans rfl
  have y2_2 : ∀ x, (f x).cell? ⟨g2, 2, none⟩ = some (.int .i64 vb) := fun x => (cell_of_row _ _ 2 _ _ _ (hh2 x)).trans rfl
  have y2_3 : ∀ x, (f x).cell? ⟨g2, 3, none⟩ = some (vt) := fun x => (cell_of_row _ _ 3 _ _ _ (hh2 x)).trans rfl
  have y2_4 : ∀ x, (f x).cell? ⟨g2, 4, none⟩ = some (vl) := fun x => (cell_of_row _ _ 4 _ _ _ (hh2 x)).trans rfl
  clear hh2
  have hh3 := fun x => ((hfx x).block _ hl3).trans HX3.out
  have y3_0 : ∀ x, (f x).cell? ⟨g3, 0, none⟩ = some (.int .i64 oi) := fun x => (cell_of_row _ _ 0 _ _ _ (hh3 x)).trans rfl
  have y3_1 : ∀ x, (f x).cell? ⟨g3, 1, none⟩ = some (.int .i64 oe) := fun x => (cell_of_row _ _ 1 _ _ _ (hh3 x)).trans rfl
  have y3_2 : ∀ x, (f x).cell? ⟨g3, 2, none⟩ = some (.int .i64 ow) := fun x => (cell_of_row _ _ 2 _ _ _ (hh3 x)).trans rfl
  have y3_3 : ∀ x, (f x).cell? ⟨g3, 3, none⟩ = some (.int .i64 ol) := fun x => (cell_of_row _ _ 3 _ _ _ (hh3 x)).trans rfl
  have y3_4 : ∀ x, (f x).cell? ⟨g3, 4, none⟩ = some (.int .i64 of) := fun x => (cell_of_row _ _ 4 _ _ _ (hh3 x)).trans rfl
  have y3_5 : ∀ x, (f x).cell? ⟨g3, 5, none⟩ = some (.int .i64 oq) := fun x => (cell_of_row _ _ 5 _ _ _ (hh3 x)).trans rfl
  have y3_6 : ∀ x, (f x).cell? ⟨g3, 6, none⟩ = some (on) := fun x => (cell_of_row _ _ 6 _ _ _ (hh3 x)).trans rfl
  have y3_7 : ∀ x, (f x).cell? ⟨g3, 7, none⟩ = some (od) := fun x => (cell_of_row _ _ 7 _ _ _ (hh3 x)).trans rfl
  have y3_8 : ∀ x, (f x).cell? ⟨g3, 8, none⟩ = some (os) := fun x => (cell_of_row _ _ 8 _ _ _ (hh3 x)).trans rfl
  have y3_9 : ∀ x, (f x).cell? ⟨g3, 9, none⟩ = some (ov) := fun x => (cell_of_row _ _ 9 _ _ _ (hh3 x)).trans rfl
  clear hh3
  have hh4 := fun x => ((hfx x).block _ hl4).trans HX4.out
  have y4_0 : ∀ x, (f x).cell? ⟨g4, 0, none⟩ = some (.int .i64 pi) := fun x => (cell_of_row _ _ 0 _ _ _ (hh4 x)).trans rfl
  have y4_1 : ∀ x, (f x).cell? ⟨g4, 1, none⟩ = some (.int .i64 pp) := fun x => (cell_of_row _ _ 1 _ _ _ (hh4 x)).trans rfl
  have y4_2 : ∀ x, (f x).cell? ⟨g4, 2, none⟩ = some (.int .i64 pw) := fun x => (cell_of_row _ _ 2 _ _ _ (hh4 x)).trans rfl
  have y4_3 : ∀ x, (f x).cell? ⟨g4, 3, none⟩ = some (.int .i64 pl) := fun x => (cell_of_row _ _ 3 _ _ _ (hh4 x)).trans rfl
  have y4_4 : ∀ x, (f x).cell? ⟨g4, 4, none⟩ = some (.int .i64 pf) := fun x => (cell_of_row _ _ 4 _ _ _ (hh4 x)).trans rfl
  have y4_5 : ∀ x, (f x).cell? ⟨g4, 5, none⟩ = some (.int .i64 pq) := fun x => (cell_of_row _ _ 5 _ _ _ (hh4 x)).trans rfl
  have y4_6 : ∀ x, (f x).cell? ⟨g4, 6, none⟩ = some (pn) := fun x => (cell_of_row _ _ 6 _ _ _ (hh4 x)).trans rfl
  have y4_7 : ∀ x, (f x).cell? ⟨g4, 7, none⟩ = some (pd) := fun x => (cell_of_row _ _ 7 _ _ _ (hh4 x)).trans rfl
  have y4_8 : ∀ x, (f x).cell? ⟨g4, 8, none⟩ = some (ps) := fun x => (cell_of_row _ _ 8 _ _ _ (hh4 x)).trans rfl
  have y4_9 : ∀ x, (f x).cell? ⟨g4, 9, none⟩ = some (pv) := fun x => (cell_of_row _ _ 9 _ _ _ (hh4 x)).trans rfl
  clear hh4
  have hh5 := fun x => ((hfx x).block _ hl5).trans HX5.out
  have y5_0 : ∀ x, (f x).cell? ⟨g5, 0, none⟩ = some (.int .i64 id) := fun x => (cell_of_row _ _ 0 _ _ _ (hh5 x)).trans rfl
  have y5_1 : ∀ x, (f x).cell? ⟨g5, 1, none⟩ = some (.bool wz) := fun x => (cell_of_row _ _ 1 _ _ _ (hh5 x)).trans rfl
  have y5_2 : ∀ x, (f x).cell? ⟨g5, 2, none⟩ = some (.bool pg) := fun x => (cell_of_row _ _ 2 _ _ _ (hh5 x)).trans rfl
  clear hh5
  have HFX := Lib.hid hfx
  have HCL := Lib.hid hcl
  clear hfx hcl
  have HOn : ∀ x W, Below (f x).heap.size (f x) W → ∃ y, W = f y := fun x W hb => HCL.out W ((HFX.out x).trans (hb.mono (HFX.out x).size))
  obtain ⟨B1, hB1⟩ : ∃ B, goB id wz ow = B := ⟨_, rfl⟩
  have CB1 := Lib.hid (fun x => by have := calls_toC (controls_any id wz pg oi oe ow ol of oq on od os ov (f x)) (HOn x); rw [hB1] at this; exact this)
  have RB1 := Lib.hid (fun x => by have := calls_toC (rcontrols_any id wz pg oi oe ow ol of oq on od os ov (f x)) (HOn x); rw [hB1] at this; exact this)
  obtain ⟨B2, hB2⟩ : ∃ B, slotB id wz op sw sb = B := ⟨_, rfl⟩
  have CB2 := Lib.hid (fun x => by have := calls_toC (slot_any id wz pg op sn sc s4 s5 s6 s7 sw sb (f x)) (HOn x); rw [hB2] at this; exact this)
  have RB2 := Lib.hid (fun x => by have := calls_toC (rslot_any id wz pg op sn sc s4 s5 s6 s7 sw sb (f x)) (HOn x); rw [hB2] at this; exact this)
  obtain ⟨B3, hB3⟩ : ∃ B, verbB id wz pg op vw vb = B := ⟨_, rfl⟩
  have CB3 := Lib.hid (fun x => by have := calls_toC (verb_any id wz pg op vn vt vl vw vb (f x)) (HOn x); rw [hB3] at this; exact this)
  have RB3 := Lib.hid (fun x => by have := calls_toC (rverb_any id wz pg op vn vt vl vw vb (f x)) (HOn x); rw [hB3] at this; exact this)
  obtain ⟨B4, hB4⟩ : ∃ B, objB id wz pg op ow of = B := ⟨_, rfl⟩
  have CB4 := Lib.hid (fun x => by have := calls_toC (object_any id wz pg op oi oe ow ol of oq on od os ov (f x)) (HOn x); rw [hB4] at this; exact this)
  have RB4 := Lib.hid (fun x => by have := calls_toC (robject_any id wz pg op oi oe ow ol of oq on od os ov (f x)) (HOn x); rw [hB4] at this; exact this)
  obtain ⟨B5, hB5⟩ : ∃ B, twoB id wz pg op oi ow pf pw = B := ⟨_, rfl⟩
  have CB5 := Lib.hid (fun x => by have := calls_toC (two_any id wz pg op oi oe ow ol of oq on od os ov pi pp pw pl pf pq pn pd ps pv (f x)) (HOn x); rw [hB5] at this; exact this)
  have RB5 := Lib.hid (fun x => by have := calls_toC (rtwo_any id wz pg op oi oe ow ol of oq on od os ov pi pp pw pl pf pq pn pd ps pv (f x)) (HOn x); rw [hB5] at this; exact this)
  clear HOn hB1 hB2 hB3 hB4 hB5
  try simp only [List.append]
  refine wp_region_class (C := fun W => ∃ x : Ix, W = f x) (by kernel_rfl) (by kernel_rfl) (HCL.out _ (Below.refl _ _).drew) ?_
  iterate 57 (go_big_quiet_step (first | with_reducible exact CB1.out _ | with_reducible exact RB1.out _ | with_reducible exact CB2.out _ | with_reducible exact RB2.out _ | with_reducible exact CB3.out _ | with_reducible exact RB3.out _ | with_reducible exact CB4.out _ | with_reducible exact RB4.out _ | with_reducible exact CB5.out _ | with_reducible exact RB5.out _))
  refine wpQuiet_nil ?_
  intro W' hw'
  obtain ⟨y, rfl⟩ := hw'
  go_wp2
  go_ret
  exact ⟨rfl, HB0.out.trans ((HFX.out y).mono HB0.out.size)⟩
end Go.Proofs.Ytemkikjcjhmlaaa.Pm
