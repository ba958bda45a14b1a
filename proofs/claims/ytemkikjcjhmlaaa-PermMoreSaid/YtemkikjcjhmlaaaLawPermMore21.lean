/- The walk of the statement on more bits. Printed by gen_perm.py. -/
import Derived.Test.YtemkikjcjhmlaaaPl
namespace Go.Proofs.Ytemkikjcjhmlaaa.Pm
open Go.RowKit
set_option maxRecDepth 100000

set_option maxHeartbeats 8000000 in
theorem more_fttt (id : Int) (wz pg : Bool) (op x : Int) (sn s6 : ByteArray) (sw sb s4 s5 : Int) (sc : Bool) (s7 : Option Addr) (sl sk : Nat) (vn vt : ByteArray) (vw vb : Int) (vp : Option Addr) (vl vk : Nat) (oi oe ow ol of oq : Int) (on od os ov : Value) (pi pp pw pl pf pq : Int) (pn pd ps pv : Value) (w : World) (hS : slotB id wz op sw sb = false) (hV : verbB id wz pg op vw vb = true) (hO : objB id wz pg op ow of = true) (hT : twoB id wz pg op oi ow pf pw = true) : Calls Try.prog 4 #[.agg #[.int .i64 id, .bool wz, .bool pg], .int .i64 op, .int .i64 x, .agg #[.string sn, .int .i64 sw, .int .i64 sb, .bool sc, .int .i64 s4, .int .i64 s5, .string s6, .slice s7 sl sk], .agg #[.string vn, .int .i64 vw, .int .i64 vb, .string vt, .slice vp vl vk], .agg #[.int .i64 oi, .int .i64 oe, .int .i64 ow, .int .i64 ol, .int .i64 of, .int .i64 oq, on, od, os, ov], .agg #[.int .i64 pi, .int .i64 pp, .int .i64 pw, .int .i64 pl, .int .i64 pf, .int .i64 pq, pn, pd, ps, pv]] w fun e w' => e = .returned (.bool true) ∧ Below w.heap.size w w' := by
  obtain ⟨W1, hW1⟩ : ∃ W1, W1 = (((((w.alloc (.cells #[.int .i64 id, .bool wz, .bool pg] 23)).alloc (.cells #[.string sn, .int .i64 sw, .int .i64 sb, .bool sc, .int .i64 s4, .int .i64 s5, .string s6, .slice s7 sl sk] 28)).alloc (.cells #[.string vn, .int .i64 vw, .int .i64 vb, .string vt, .slice vp vl vk] 31)).alloc (.cells #[.int .i64 oi, .int .i64 oe, .int .i64 ow, .int .i64 ol, .int .i64 of, .int .i64 oq, on, od, os, ov] 36)).alloc (.cells #[.int .i64 pi, .int .i64 pp, .int .i64 pw, .int .i64 pl, .int .i64 pf, .int .i64 pq, pn, pd, ps, pv] 36)) := ⟨_, rfl⟩
  have hb0 : Below w.heap.size w W1 := hW1 ▸ (((((Below.refl w.heap.size w).alloc (Nat.le_refl _) _).alloc (by simp) _).alloc (by simp; omega) _).alloc (by simp; omega) _).alloc (by simp; omega) _
  have hx0 : W1.heap[w.heap.size]? = some (.cells #[.int .i64 id, .bool wz, .bool pg] 23 (0, 0)) := by
    have h := heap_alloc_new w (.cells #[.int .i64 id, .bool wz, .bool pg] 23)
    rw [hW1]
    rw [Below.heap_alloc _ _ _ (by simp only [World.size_alloc]; omega)]
    rw [Below.heap_alloc _ _ _ (by simp only [World.size_alloc]; omega)]
    rw [Below.heap_alloc _ _ _ (by simp only [World.size_alloc]; omega)]
    rw [Below.heap_alloc _ _ _ (by simp only [World.size_alloc]; omega)]
    exact h
  have hx1 : W1.heap[w.heap.size + 1]? = some (.cells #[.string sn, .int .i64 sw, .int .i64 sb, .bool sc, .int .i64 s4, .int .i64 s5, .string s6, .slice s7 sl sk] 28 (0, 0)) := by
    have h := heap_alloc_new (w.alloc (.cells #[.int .i64 id, .bool wz, .bool pg] 23)) (.cells #[.string sn, .int .i64 sw, .int .i64 sb, .bool sc, .int .i64 s4, .int .i64 s5, .string s6, .slice s7 sl sk] 28)
    simp only [World.size_alloc] at h
    rw [hW1]
    rw [Below.heap_alloc _ _ _ (by simp only [World.size_alloc]; omega)]
    rw [Below.heap_alloc _ _ _ (by simp only [World.size_alloc]; omega)]
    rw [Below.heap_alloc _ _ _ (by simp only [World.size_alloc]; omega)]
    exact h
  have hx2 : W1.heap[w.heap.size + 2]? = some (.cells #[.string vn, .int .i64 vw, .int .i64 vb, .string vt, .slice vp vl vk] 31 (0, 0)) := by
    have h := heap_alloc_new ((w.alloc (.cells #[.int .i64 id, .bool wz, .bool pg] 23)).alloc (.cells #[.string sn, .int .i64 sw, .int .i64 sb, .bool sc, .int .i64 s4, .int .i64 s5, .string s6, .slice s7 sl sk] 28)) (.cells #[.string vn, .int .i64 vw, .int .i64 vb, .string vt, .slice vp vl vk] 31)
    simp only [World.size_alloc] at h
    rw [hW1]
    rw [Below.heap_alloc _ _ _ (by simp only [World.size_alloc]; omega)]
    rw [Below.heap_alloc _ _ _ (by simp only [World.size_alloc]; omega)]
    exact h
  have hx3 : W1.heap[w.heap.size + 3]? = some (.cells #[.int .i64 oi, .int .i64 oe, .int .i64 ow, .int .i64 ol, .int .i64 of, .int .i64 oq, on, od, os, ov] 36 (0, 0)) := by
    have h := heap_alloc_new (((w.alloc (.cells #[.int .i64 id, .bool wz, .bool pg] 23)).alloc (.cells #[.string sn, .int .i64 sw, .int .i64 sb, .bool sc, .int .i64 s4, .int .i64 s5, .string s6, .slice s7 sl sk] 28)).alloc (.cells #[.string vn, .int .i64 vw, .int .i64 vb, .string vt, .slice vp vl vk] 31)) (.cells #[.int .i64 oi, .int .i64 oe, .int .i64 ow, .int .i64 ol, .int .i64 of, .int .i64 oq, on, od, os, ov] 36)
    simp only [World.size_alloc] at h
    rw [hW1]
    rw [Below.heap_alloc _ _ _ (by simp only [World.size_alloc]; omega)]
    exact h
  have hx4 : W1.heap[w.heap.size + 4]? = some (.cells #[.int .i64 pi, .int .i64 pp, .int .i64 pw, .int .i64 pl, .int .i64 pf, .int .i64 pq, pn, pd, ps, pv] 36 (0, 0)) := by
    have h := heap_alloc_new ((((w.alloc (.cells #[.int .i64 id, .bool wz, .bool pg] 23)).alloc (.cells #[.string sn, .int .i64 sw, .int .i64 sb, .bool sc, .int .i64 s4, .int .i64 s5, .string s6, .slice s7 sl sk] 28)).alloc (.cells #[.string vn, .int .i64 vw, .int .i64 vb, .string vt, .slice vp vl vk] 31)).alloc (.cells #[.int .i64 oi, .int .i64 oe, .int .i64 ow, .int .i64 ol, .int .i64 of, .int .i64 oq, on, od, os, ov] 36)) (.cells #[.int .i64 pi, .int .i64 pp, .int .i64 pw, .int .i64 pl, .int .i64 pf, .int .i64 pq, pn, pd, ps, pv] 36)
    simp only [World.size_alloc] at h
    rw [hW1]
    exact h
  obtain ⟨g0, hg0⟩ : ∃ g, g = w.heap.size := ⟨_, rfl⟩
  rw [← hg0] at hx0
  have hl0 : g0 < W1.heap.size := (Array.getElem?_eq_some_iff.1 hx0).1
  obtain ⟨g1, hg1⟩ : ∃ g, g = w.heap.size + 1 := ⟨_, rfl⟩
  rw [← hg1] at hx1
  have hl1 : g1 < W1.heap.size := (Array.getElem?_eq_some_iff.1 hx1).1
  obtain ⟨g2, hg2⟩ : ∃ g, g = w.heap.size + 2 := ⟨_, rfl⟩
  rw [← hg2] at hx2
  have hl2 : g2 < W1.heap.size := (Array.getElem?_eq_some_iff.1 hx2).1
  obtain ⟨g3, hg3⟩ : ∃ g, g = w.heap.size + 3 := ⟨_, rfl⟩
  rw [← hg3] at hx3
  have hl3 : g3 < W1.heap.size := (Array.getElem?_eq_some_iff.1 hx3).1
  obtain ⟨g4, hg4⟩ : ∃ g, g = w.heap.size + 4 := ⟨_, rfl⟩
  rw [← hg4] at hx4
  have hl4 : g4 < W1.heap.size := (Array.getElem?_eq_some_iff.1 hx4).1
  have HB0 := Lib.hid hb0
  clear hb0
  have F := Lib.hid (first11_any W1)
  obtain ⟨y, hy⟩ : ∃ y, bits .or .i64 sb x = y := ⟨_, rfl⟩
  obtain ⟨z, hz⟩ : ∃ z, bits .or .i64 vb x = z := ⟨_, rfl⟩
  have hVz : verbB id wz pg op vw z = true := by rw [← hz]; exact verb_or id wz pg op vw vb x hV
  have C0 := Lib.hid (fun W => by have := slot_any id wz pg op (.string sn) (.bool sc) (.int .i64 s4) (.int .i64 s5) (.string s6) (.slice s7 sl sk) sw sb W; rw [hS] at this; exact this)
  have C1 := Lib.hid (fun W => by have := verb_any id wz pg op (.string vn) (.string vt) (.slice vp vl vk) vw vb W; rw [hV] at this; exact this)
  have C2 := Lib.hid (fun W => by have := verb_any id true true op (.string vn) (.string vt) (.slice vp vl vk) vw vb W; rw [verb_all id wz pg op vw vb hV] at this; exact this)
  have C3 := Lib.hid (fun W => by have := object_any id wz pg op oi oe ow ol of oq on od os ov W; rw [hO] at this; exact this)
  have C4 := Lib.hid (fun W => by have := object_any id true true op oi oe ow ol of oq on od os ov W; rw [obj_all id wz pg op ow of hO] at this; exact this)
  have C5 := Lib.hid (fun W => by have := two_any id wz pg op oi oe ow ol of oq on od os ov pi pp pw pl pf pq pn pd ps pv W; rw [hT] at this; exact this)
  have C6 := Lib.hid (fun W => by have := two_any id true true op oi oe ow ol of oq on od os ov pi pp pw pl pf pq pn pd ps pv W; rw [two_all id wz pg op oi ow pf pw hT] at this; exact this)
  have C7 := Lib.hid (fun W => by have := verb_any id wz pg op (.string vn) (.string vt) (.slice vp vl vk) vw z W; rw [hVz] at this; exact this)
  clear hS hV hO hT hVz
  have x0_0 : W1.cell? ⟨g0, 0, none⟩ = some (.int .i64 id) := (cell_of_row _ _ 0 _ _ _ hx0).trans rfl
  have x0_1 : W1.cell? ⟨g0, 1, none⟩ = some (.bool wz) := (cell_of_row _ _ 1 _ _ _ hx0).trans rfl
  have x0_2 : W1.cell? ⟨g0, 2, none⟩ = some (.bool pg) := (cell_of_row _ _ 2 _ _ _ hx0).trans rfl
  have x1_0 : W1.cell? ⟨g1, 0, none⟩ = some (.string sn) := (cell_of_row _ _ 0 _ _ _ hx1).trans rfl
  have x1_1 : W1.cell? ⟨g1, 1, none⟩ = some (.int .i64 sw) := (cell_of_row _ _ 1 _ _ _ hx1).trans rfl
  have x1_2 : W1.cell? ⟨g1, 2, none⟩ = some (.int .i64 sb) := (cell_of_row _ _ 2 _ _ _ hx1).trans rfl
  have x1_3 : W1.cell? ⟨g1, 3, none⟩ = some (.bool sc) := (cell_of_row _ _ 3 _ _ _ hx1).trans rfl
  have x1_4 : W1.cell? ⟨g1, 4, none⟩ = some (.int .i64 s4) := (cell_of_row _ _ 4 _ _ _ hx1).trans rfl
  have x1_5 : W1.cell? ⟨g1, 5, none⟩ = some (.int .i64 s5) := (cell_of_row _ _ 5 _ _ _ hx1).trans rfl
  have x1_6 : W1.cell? ⟨g1, 6, none⟩ = some (.string s6) := (cell_of_row _ _ 6 _ _ _ hx1).trans rfl
  have x1_7 : W1.cell? ⟨g1, 7, none⟩ = some (.slice s7 sl sk) := (cell_of_row _ _ 7 _ _ _ hx1).trans rfl
  have x2_0 : W1.cell? ⟨g2, 0, none⟩ = some (.string vn) := (cell_of_row _ _ 0 _ _ _ hx2).trans rfl
  have x2_1 : W1.cell? ⟨g2, 1, none⟩ = some (.int .i64 vw) := (cell_of_row _ _ 1 _ _ _ hx2).trans rfl
  have x2_2 : W1.cell? ⟨g2, 2, none⟩ = some (.int .i64 vb) := (cell_of_row _ _ 2 _ _ _ hx2).trans rfl
  have x2_3 : W1.cell? ⟨g2, 3, none⟩ = some (.string vt) := (cell_of_row _ _ 3 _ _ _ hx2).trans rfl
  have x2_4 : W1.cell? ⟨g2, 4, none⟩ = some (.slice vp vl vk) := (cell_of_row _ _ 4 _ _ _ hx2).trans rfl
  have x3_0 : W1.cell? ⟨g3, 0, none⟩ = some (.int .i64 oi) := (cell_of_row _ _ 0 _ _ _ hx3).trans rfl
  have x3_1 : W1.cell? ⟨g3, 1, none⟩ = some (.int .i64 oe) := (cell_of_row _ _ 1 _ _ _ hx3).trans rfl
  have x3_2 : W1.cell? ⟨g3, 2, none⟩ = some (.int .i64 ow) := (cell_of_row _ _ 2 _ _ _ hx3).trans rfl
  have x3_3 : W1.cell? ⟨g3, 3, none⟩ = some (.int .i64 ol) := (cell_of_row _ _ 3 _ _ _ hx3).trans rfl
  have x3_4 : W1.cell? ⟨g3, 4, none⟩ = some (.int .i64 of) := (cell_of_row _ _ 4 _ _ _ hx3).trans rfl
  have x3_5 : W1.cell? ⟨g3, 5, none⟩ = some (.int .i64 oq) := (cell_of_row _ _ 5 _ _ _ hx3).trans rfl
  have x3_6 : W1.cell? ⟨g3, 6, none⟩ = some (on) := (cell_of_row _ _ 6 _ _ _ hx3).trans rfl
  have x3_7 : W1.cell? ⟨g3, 7, none⟩ = some (od) := (cell_of_row _ _ 7 _ _ _ hx3).trans rfl
  have x3_8 : W1.cell? ⟨g3, 8, none⟩ = some (os) := (cell_of_row _ _ 8 _ _ _ hx3).trans rfl
  have x3_9 : W1.cell? ⟨g3, 9, none⟩ = some (ov) := (cell_of_row _ _ 9 _ _ _ hx3).trans rfl
  have x4_0 : W1.cell? ⟨g4, 0, none⟩ = some (.int .i64 pi) := (cell_of_row _ _ 0 _ _ _ hx4).trans rfl
  have x4_1 : W1.cell? ⟨g4, 1, none⟩ = some (.int .i64 pp) := (cell_of_row _ _ 1 _ _ _ hx4).trans rfl
  have x4_2 : W1.cell? ⟨g4, 2, none⟩ = some (.int .i64 pw) := (cell_of_row _ _ 2 _ _ _ hx4).trans rfl
  have x4_3 : W1.cell? ⟨g4, 3, none⟩ = some (.int .i64 pl) := (cell_of_row _ _ 3 _ _ _ hx4).trans rfl
  have x4_4 : W1.cell? ⟨g4, 4, none⟩ = some (.int .i64 pf) := (cell_of_row _ _ 4 _ _ _ hx4).trans rfl
  have x4_5 : W1.cell? ⟨g4, 5, none⟩ = some (.int .i64 pq) := (cell_of_row _ _ 5 _ _ _ hx4).trans rfl
  have x4_6 : W1.cell? ⟨g4, 6, none⟩ = some (pn) := (cell_of_row _ _ 6 _ _ _ hx4).trans rfl
  have x4_7 : W1.cell? ⟨g4, 7, none⟩ = some (pd) := (cell_of_row _ _ 7 _ _ _ hx4).trans rfl
  have x4_8 : W1.cell? ⟨g4, 8, none⟩ = some (ps) := (cell_of_row _ _ 8 _ _ _ hx4).trans rfl
  have x4_9 : W1.cell? ⟨g4, 9, none⟩ = some (pv) := (cell_of_row _ _ 9 _ _ _ hx4).trans rfl
  have HX0 := Lib.hid hx0
  clear hx0
  have HX1 := Lib.hid hx1
  clear hx1
  have HX2 := Lib.hid hx2
  clear hx2
  have HX3 := Lib.hid hx3
  clear hx3
  have HX4 := Lib.hid hx4
  clear hx4
  go_enter Try.func4, Try.ntmps4
  go_upto_region 1 with fail
  try simp only [World.size_alloc]
  rw [← hW1, ← hg4, ← hg3, ← hg2, ← hg1, ← hg0]
  clear hW1 hg0 hg1 hg2 hg3 hg4
  go_upto_region 5 with (go_at_call 8; refine F.out.mono ?_; rintro e w1 ⟨rfl, hb1⟩; have HB0 := Lib.hid (HB0.out.trans (hb1.mono HB0.out.size)); have HX0 := Lib.hid ((hb1.block _ hl0).trans HX0.out); have hl0 := Nat.lt_of_lt_of_le hl0 hb1.size; have HX1 := Lib.hid ((hb1.block _ hl1).trans HX1.out); have hl1 := Nat.lt_of_lt_of_le hl1 hb1.size; have HX2 := Lib.hid ((hb1.block _ hl2).trans HX2.out); have hl2 := Nat.lt_of_lt_of_le hl2 hb1.size; have HX3 := Lib.hid ((hb1.block _ hl3).trans HX3.out); have hl3 := Nat.lt_of_lt_of_le hl3 hb1.size; have HX4 := Lib.hid ((hb1.block _ hl4).trans HX4.out); have hl4 := Nat.lt_of_lt_of_le hl4 hb1.size; obtain ⟨x0_0, x0_1, x0_2⟩ := boxs3 HX0.out; obtain ⟨x1_0, x1_1, x1_2, x1_3, x1_4, x1_5, x1_6, x1_7⟩ := boxs8 HX1.out; obtain ⟨x2_0, x2_1, x2_2, x2_3, x2_4⟩ := boxs5 HX2.out; obtain ⟨x3_0, x3_1, x3_2, x3_3, x3_4, x3_5, x3_6, x3_7, x3_8, x3_9⟩ := boxs10 HX3.out; obtain ⟨x4_0, x4_1, x4_2, x4_3, x4_4, x4_5, x4_6, x4_7, x4_8, x4_9⟩ := boxs10 HX4.out; clear hb1)
  have hb : Below w1.heap.size w1 (w1.alloc (.cells #[.int .i64 id, .bool true, .bool true] 23)) := (Below.refl _ _).alloc (Nat.le_refl _) _
  have hx5 := heap_alloc_new w1 (.cells #[.int .i64 id, .bool true, .bool true] 23)
  obtain ⟨W2, hW2⟩ : ∃ W2, W2 = w1.alloc (.cells #[.int .i64 id, .bool true, .bool true] 23) := ⟨_, rfl⟩
  rw [← hW2] at hb hx5
  obtain ⟨g5, hg5⟩ : ∃ g, g = w1.heap.size := ⟨_, rfl⟩
  rw [← hg5] at hx5
  have hl5 : g5 < W2.heap.size := (Array.getElem?_eq_some_iff.1 hx5).1
  have HB0 := Lib.hid (HB0.out.trans (hb.mono HB0.out.size))
  have HX0 := Lib.hid ((hb.block _ hl0).trans HX0.out)
  have hl0 := Nat.lt_of_lt_of_le hl0 hb.size
  have HX1 := Lib.hid ((hb.block _ hl1).trans HX1.out)
  have hl1 := Nat.lt_of_lt_of_le hl1 hb.size
  have HX2 := Lib.hid ((hb.block _ hl2).trans HX2.out)
  have hl2 := Nat.lt_of_lt_of_le hl2 hb.size
  have HX3 := Lib.hid ((hb.block _ hl3).trans HX3.out)
  have hl3 := Nat.lt_of_lt_of_le hl3 hb.size
  have HX4 := Lib.hid ((hb.block _ hl4).trans HX4.out)
  have hl4 := Nat.lt_of_lt_of_le hl4 hb.size
  obtain ⟨x0_0, x0_1, x0_2⟩ := boxs3 HX0.out
  obtain ⟨x1_0, x1_1, x1_2, x1_3, x1_4, x1_5, x1_6, x1_7⟩ := boxs8 HX1.out
  obtain ⟨x2_0, x2_1, x2_2, x2_3, x2_4⟩ := boxs5 HX2.out
  obtain ⟨x3_0, x3_1, x3_2, x3_3, x3_4, x3_5, x3_6, x3_7, x3_8, x3_9⟩ := boxs10 HX3.out
  obtain ⟨x4_0, x4_1, x4_2, x4_3, x4_4, x4_5, x4_6, x4_7, x4_8, x4_9⟩ := boxs10 HX4.out
  have HX5 := Lib.hid hx5
  have x5_0 : W2.cell? ⟨g5, 0, none⟩ = some (.int .i64 id) := (cell_of_row _ _ 0 _ _ _ HX5.out).trans rfl
  have x5_1 : W2.cell? ⟨g5, 1, none⟩ = some (.bool true) := (cell_of_row _ _ 1 _ _ _ HX5.out).trans rfl
  have x5_2 : W2.cell? ⟨g5, 2, none⟩ = some (.bool true) := (cell_of_row _ _ 2 _ _ _ HX5.out).trans rfl
  clear hx5 hb
  rw [← hW2, ← hg5]
  clear hW2 hg5
  go_upto_region 7 with (first
    | (go_at_call 12; (with_reducible refine (C0.out _).mono ?_); rintro e u0 ⟨rfl, hb2⟩; have HB0 := Lib.hid (HB0.out.trans (hb2.mono HB0.out.size)); have HX0 := Lib.hid ((hb2.block _ hl0).trans HX0.out); have hl0 := Nat.lt_of_lt_of_le hl0 hb2.size; have HX1 := Lib.hid ((hb2.block _ hl1).trans HX1.out); have hl1 := Nat.lt_of_lt_of_le hl1 hb2.size; have HX2 := Lib.hid ((hb2.block _ hl2).trans HX2.out); have hl2 := Nat.lt_of_lt_of_le hl2 hb2.size; have HX3 := Lib.hid ((hb2.block _ hl3).trans HX3.out); have hl3 := Nat.lt_of_lt_of_le hl3 hb2.size; have HX4 := Lib.hid ((hb2.block _ hl4).trans HX4.out); have hl4 := Nat.lt_of_lt_of_le hl4 hb2.size; have HX5 := Lib.hid ((hb2.block _ hl5).trans HX5.out); have hl5 := Nat.lt_of_lt_of_le hl5 hb2.size; obtain ⟨x0_0, x0_1, x0_2⟩ := boxs3 HX0.out; obtain ⟨x1_0, x1_1, x1_2, x1_3, x1_4, x1_5, x1_6, x1_7⟩ := boxs8 HX1.out; obtain ⟨x2_0, x2_1, x2_2, x2_3, x2_4⟩ := boxs5 HX2.out; obtain ⟨x3_0, x3_1, x3_2, x3_3, x3_4, x3_5, x3_6, x3_7, x3_8, x3_9⟩ := boxs10 HX3.out; obtain ⟨x4_0, x4_1, x4_2, x4_3, x4_4, x4_5, x4_6, x4_7, x4_8, x4_9⟩ := boxs10 HX4.out; obtain ⟨x5_0, x5_1, x5_2⟩ := boxs3 HX5.out; clear hb2)
    | (go_at_call 14; (with_reducible refine (C1.out _).mono ?_); rintro e u1 ⟨rfl, hb2⟩; have HB0 := Lib.hid (HB0.out.trans (hb2.mono HB0.out.size)); have HX0 := Lib.hid ((hb2.block _ hl0).trans HX0.out); have hl0 := Nat.lt_of_lt_of_le hl0 hb2.size; have HX1 := Lib.hid ((hb2.block _ hl1).trans HX1.out); have hl1 := Nat.lt_of_lt_of_le hl1 hb2.size; have HX2 := Lib.hid ((hb2.block _ hl2).trans HX2.out); have hl2 := Nat.lt_of_lt_of_le hl2 hb2.size; have HX3 := Lib.hid ((hb2.block _ hl3).trans HX3.out); have hl3 := Nat.lt_of_lt_of_le hl3 hb2.size; have HX4 := Lib.hid ((hb2.block _ hl4).trans HX4.out); have hl4 := Nat.lt_of_lt_of_le hl4 hb2.size; have HX5 := Lib.hid ((hb2.block _ hl5).trans HX5.out); have hl5 := Nat.lt_of_lt_of_le hl5 hb2.size; obtain ⟨x0_0, x0_1, x0_2⟩ := boxs3 HX0.out; obtain ⟨x1_0, x1_1, x1_2, x1_3, x1_4, x1_5, x1_6, x1_7⟩ := boxs8 HX1.out; obtain ⟨x2_0, x2_1, x2_2, x2_3, x2_4⟩ := boxs5 HX2.out; obtain ⟨x3_0, x3_1, x3_2, x3_3, x3_4, x3_5, x3_6, x3_7, x3_8, x3_9⟩ := boxs10 HX3.out; obtain ⟨x4_0, x4_1, x4_2, x4_3, x4_4, x4_5, x4_6, x4_7, x4_8, x4_9⟩ := boxs10 HX4.out; obtain ⟨x5_0, x5_1, x5_2⟩ := boxs3 HX5.out; clear hb2)
    | (go_at_call 14; (with_reducible refine (C2.out _).mono ?_); rintro e u2 ⟨rfl, hb2⟩; have HB0 := Lib.hid (HB0.out.trans (hb2.mono HB0.out.size)); have HX0 := Lib.hid ((hb2.block _ hl0).trans HX0.out); have hl0 := Nat.lt_of_lt_of_le hl0 hb2.size; have HX1 := Lib.hid ((hb2.block _ hl1).trans HX1.out); have hl1 := Nat.lt_of_lt_of_le hl1 hb2.size; have HX2 := Lib.hid ((hb2.block _ hl2).trans HX2.out); have hl2 := Nat.lt_of_lt_of_le hl2 hb2.size; have HX3 := Lib.hid ((hb2.block _ hl3).trans HX3.out); have hl3 := Nat.lt_of_lt_of_le hl3 hb2.size; have HX4 := Lib.hid ((hb2.block _ hl4).trans HX4.out); have hl4 := Nat.lt_of_lt_of_le hl4 hb2.size; have HX5 := Lib.hid ((hb2.block _ hl5).trans HX5.out); have hl5 := Nat.lt_of_lt_of_le hl5 hb2.size; obtain ⟨x0_0, x0_1, x0_2⟩ := boxs3 HX0.out; obtain ⟨x1_0, x1_1, x1_2, x1_3, x1_4, x1_5, x1_6, x1_7⟩ := boxs8 HX1.out; obtain ⟨x2_0, x2_1, x2_2, x2_3, x2_4⟩ := boxs5 HX2.out; obtain ⟨x3_0, x3_1, x3_2, x3_3, x3_4, x3_5, x3_6, x3_7, x3_8, x3_9⟩ := boxs10 HX3.out; obtain ⟨x4_0, x4_1, x4_2, x4_3, x4_4, x4_5, x4_6, x4_7, x4_8, x4_9⟩ := boxs10 HX4.out; obtain ⟨x5_0, x5_1, x5_2⟩ := boxs3 HX5.out; clear hb2)
    | (go_at_call 16; (with_reducible refine (C3.out _).mono ?_); rintro e u3 ⟨rfl, hb2⟩; have HB0 := Lib.hid (HB0.out.trans (hb2.mono HB0.out.size)); have HX0 := Lib.hid ((hb2.block _ hl0).trans HX0.out); have hl0 := Nat.lt_of_lt_of_le hl0 hb2.size; have HX1 := Lib.hid ((hb2.block _ hl1).trans HX1.out); have hl1 := Nat.lt_of_lt_of_le hl1 hb2.size; have HX2 := Lib.hid ((hb2.block _ hl2).trans HX2.out); have hl2 := Nat.lt_of_lt_of_le hl2 hb2.size; have HX3 := Lib.hid ((hb2.block _ hl3).trans HX3.out); have hl3 := Nat.lt_of_lt_of_le hl3 hb2.size; have HX4 := Lib.hid ((hb2.block _ hl4).trans HX4.out); have hl4 := Nat.lt_of_lt_of_le hl4 hb2.size; have HX5 := Lib.hid ((hb2.block _ hl5).trans HX5.out); have hl5 := Nat.lt_of_lt_of_le hl5 hb2.size; obtain ⟨x0_0, x0_1, x0_2⟩ := boxs3 HX0.out; obtain ⟨x1_0, x1_1, x1_2, x1_3, x1_4, x1_5, x1_6, x1_7⟩ := boxs8 HX1.out; obtain ⟨x2_0, x2_1, x2_2, x2_3, x2_4⟩ := boxs5 HX2.out; obtain ⟨x3_0, x3_1, x3_2, x3_3, x3_4, x3_5, x3_6, x3_7, x3_8, x3_9⟩ := boxs10 HX3.out; obtain ⟨x4_0, x4_1, x4_2, x4_3, x4_4, x4_5, x4_6, x4_7, x4_8, x4_9⟩ := boxs10 HX4.out; obtain ⟨x5_0, x5_1, x5_2⟩ := boxs3 HX5.out; clear hb2)
    | (go_at_call 16; (with_reducible refine (C4.out _).mono ?_); rintro e u4 ⟨rfl, hb2⟩; have HB0 := Lib.hid (HB0.out.trans (hb2.mono HB0.out.size)); have HX0 := Lib.hid ((hb2.block _ hl0).trans HX0.out); have hl0 := Nat.lt_of_lt_of_le hl0 hb2.size; have HX1 := Lib.hid ((hb2.block _ hl1).trans HX1.out); have hl1 := Nat.lt_of_lt_of_le hl1 hb2.size; have HX2 := Lib.hid ((hb2.block _ hl2).trans HX2.out); have hl2 := Nat.lt_of_lt_of_le hl2 hb2.size; have HX3 := Lib.hid ((hb2.block _ hl3).trans HX3.out); have hl3 := Nat.lt_of_lt_of_le hl3 hb2.size; have HX4 := Lib.hid ((hb2.block _ hl4).trans HX4.out); have hl4 := Nat.lt_of_lt_of_le hl4 hb2.size; have HX5 := Lib.hid ((hb2.block _ hl5).trans HX5.out); have hl5 := Nat.lt_of_lt_of_le hl5 hb2.size; obtain ⟨x0_0, x0_1, x0_2⟩ := boxs3 HX0.out; obtain ⟨x1_0, x1_1, x1_2, x1_3, x1_4, x1_5, x1_6, x1_7⟩ := boxs8 HX1.out; obtain ⟨x2_0, x2_1, x2_2, x2_3, x2_4⟩ := boxs5 HX2.out; obtain ⟨x3_0, x3_1, x3_2, x3_3, x3_4, x3_5, x3_6, x3_7, x3_8, x3_9⟩ := boxs10 HX3.out; obtain ⟨x4_0, x4_1, x4_2, x4_3, x4_4, x4_5, x4_6, x4_7, x4_8, x4_9⟩ := boxs10 HX4.out; obtain ⟨x5_0, x5_1, x5_2⟩ := boxs3 HX5.out; clear hb2)
    | (go_at_call 18; (with_reducible refine (C5.out _).mono ?_); rintro e u5 ⟨rfl, hb2⟩; have HB0 := Lib.hid (HB0.out.trans (hb2.mono HB0.out.size)); have HX0 := Lib.hid ((hb2.block _ hl0).trans HX0.out); have hl0 := Nat.lt_of_lt_of_le hl0 hb2.size; have HX1 := Lib.hid ((hb2.block _ hl1).trans HX1.out); have hl1 := Nat.lt_of_lt_of_le hl1 hb2.size; have HX2 := Lib.hid ((hb2.block _ hl2).trans HX2.out); have hl2 := Nat.lt_of_lt_of_le hl2 hb2.size; have HX3 := Lib.hid ((hb2.block _ hl3).trans HX3.out); have hl3 := Nat.lt_of_lt_of_le hl3 hb2.size; have HX4 := Lib.hid ((hb2.block _ hl4).trans HX4.out); have hl4 := Nat.lt_of_lt_of_le hl4 hb2.size; have HX5 := Lib.hid ((hb2.block _ hl5).trans HX5.out); have hl5 := Nat.lt_of_lt_of_le hl5 hb2.size; obtain ⟨x0_0, x0_1, x0_2⟩ := boxs3 HX0.out; obtain ⟨x1_0, x1_1, x1_2, x1_3, x1_4, x1_5, x1_6, x1_7⟩ := boxs8 HX1.out; obtain ⟨x2_0, x2_1, x2_2, x2_3, x2_4⟩ := boxs5 HX2.out; obtain ⟨x3_0, x3_1, x3_2, x3_3, x3_4, x3_5, x3_6, x3_7, x3_8, x3_9⟩ := boxs10 HX3.out; obtain ⟨x4_0, x4_1, x4_2, x4_3, x4_4, x4_5, x4_6, x4_7, x4_8, x4_9⟩ := boxs10 HX4.out; obtain ⟨x5_0, x5_1, x5_2⟩ := boxs3 HX5.out; clear hb2)
    | (go_at_call 18; (with_reducible refine (C6.out _).mono ?_); rintro e u6 ⟨rfl, hb2⟩; have HB0 := Lib.hid (HB0.out.trans (hb2.mono HB0.out.size)); have HX0 := Lib.hid ((hb2.block _ hl0).trans HX0.out); have hl0 := Nat.lt_of_lt_of_le hl0 hb2.size; have HX1 := Lib.hid ((hb2.block _ hl1).trans HX1.out); have hl1 := Nat.lt_of_lt_of_le hl1 hb2.size; have HX2 := Lib.hid ((hb2.block _ hl2).trans HX2.out); have hl2 := Nat.lt_of_lt_of_le hl2 hb2.size; have HX3 := Lib.hid ((hb2.block _ hl3).trans HX3.out); have hl3 := Nat.lt_of_lt_of_le hl3 hb2.size; have HX4 := Lib.hid ((hb2.block _ hl4).trans HX4.out); have hl4 := Nat.lt_of_lt_of_le hl4 hb2.size; have HX5 := Lib.hid ((hb2.block _ hl5).trans HX5.out); have hl5 := Nat.lt_of_lt_of_le hl5 hb2.size; obtain ⟨x0_0, x0_1, x0_2⟩ := boxs3 HX0.out; obtain ⟨x1_0, x1_1, x1_2, x1_3, x1_4, x1_5, x1_6, x1_7⟩ := boxs8 HX1.out; obtain ⟨x2_0, x2_1, x2_2, x2_3, x2_4⟩ := boxs5 HX2.out; obtain ⟨x3_0, x3_1, x3_2, x3_3, x3_4, x3_5, x3_6, x3_7, x3_8, x3_9⟩ := boxs10 HX3.out; obtain ⟨x4_0, x4_1, x4_2, x4_3, x4_4, x4_5, x4_6, x4_7, x4_8, x4_9⟩ := boxs10 HX4.out; obtain ⟨x5_0, x5_1, x5_2⟩ := boxs3 HX5.out; clear hb2))
  go_upto_region 11 with fail
  have hb : Below u6.heap.size u6 ((u6.alloc (.cells #[.string sn, .int .i64 sw, .int .i64 y, .bool sc, .int .i64 s4, .int .i64 s5, .string s6, .slice s7 sl sk] 28)).alloc (.cells #[.string vn, .int .i64 vw, .int .i64 z, .string vt, .slice vp vl vk] 31)) := ((Below.refl _ _).alloc (Nat.le_refl _) _).alloc (by simp) _
  have hx6 : ((u6.alloc (.cells #[.string sn, .int .i64 sw, .int .i64 y, .bool sc, .int .i64 s4, .int .i64 s5, .string s6, .slice s7 sl sk] 28)).alloc (.cells #[.string vn, .int .i64 vw, .int .i64 z, .string vt, .slice vp vl vk] 31)).heap[u6.heap.size]? = some (.cells #[.string sn, .int .i64 sw, .int .i64 y, .bool sc, .int .i64 s4, .int .i64 s5, .string s6, .slice s7 sl sk] 28 (0, 0)) := (Below.heap_alloc _ _ _ (by simp)).trans (heap_alloc_new u6 _)
  have hx7 : ((u6.alloc (.cells #[.string sn, .int .i64 sw, .int .i64 y, .bool sc, .int .i64 s4, .int .i64 s5, .string s6, .slice s7 sl sk] 28)).alloc (.cells #[.string vn, .int .i64 vw, .int .i64 z, .string vt, .slice vp vl vk] 31)).heap[u6.heap.size + 1]? = some (.cells #[.string vn, .int .i64 vw, .int .i64 z, .string vt, .slice vp vl vk] 31 (0, 0)) := by have h := heap_alloc_new (u6.alloc (.cells #[.string sn, .int .i64 sw, .int .i64 y, .bool sc, .int .i64 s4, .int .i64 s5, .string s6, .slice s7 sl sk] 28)) (.cells #[.string vn, .int .i64 vw, .int .i64 z, .string vt, .slice vp vl vk] 31); rw [World.size_alloc] at h; exact h
  obtain ⟨W3, hW3⟩ : ∃ W3, W3 = (u6.alloc (.cells #[.string sn, .int .i64 sw, .int .i64 y, .bool sc, .int .i64 s4, .int .i64 s5, .string s6, .slice s7 sl sk] 28)).alloc (.cells #[.string vn, .int .i64 vw, .int .i64 z, .string vt, .slice vp vl vk] 31) := ⟨_, rfl⟩
  rw [← hW3] at hb hx6 hx7
  obtain ⟨g7, hg7⟩ : ∃ g, g = u6.heap.size + 1 := ⟨_, rfl⟩
  obtain ⟨g6, hg6⟩ : ∃ g, g = u6.heap.size := ⟨_, rfl⟩
  rw [← hg6] at hx6
  rw [← hg7] at hx7
  have hl6 : g6 < W3.heap.size := (Array.getElem?_eq_some_iff.1 hx6).1
  have hl7 : g7 < W3.heap.size := (Array.getElem?_eq_some_iff.1 hx7).1
  have HB0 := Lib.hid (HB0.out.trans (hb.mono HB0.out.size))
  have HX0 := Lib.hid ((hb.block _ hl0).trans HX0.out)
  have hl0 := Nat.lt_of_lt_of_le hl0 hb.size
  have HX1 := Lib.hid ((hb.block _ hl1).trans HX1.out)
  have hl1 := Nat.lt_of_lt_of_le hl1 hb.size
  have HX2 := Lib.hid ((hb.block _ hl2).trans HX2.out)
  have hl2 := Nat.lt_of_lt_of_le hl2 hb.size
  have HX3 := Lib.hid ((hb.block _ hl3).trans HX3.out)
  have hl3 := Nat.lt_of_lt_of_le hl3 hb.size
  have HX4 := Lib.hid ((hb.block _ hl4).trans HX4.out)
  have hl4 := Nat.lt_of_lt_of_le hl4 hb.size
  have HX5 := Lib.hid ((hb.block _ hl5).trans HX5.out)
  have hl5 := Nat.lt_of_lt_of_le hl5 hb.size
  obtain ⟨x0_0, x0_1, x0_2⟩ := boxs3 HX0.out
  obtain ⟨x1_0, x1_1, x1_2, x1_3, x1_4, x1_5, x1_6, x1_7⟩ := boxs8 HX1.out
  obtain ⟨x2_0, x2_1, x2_2, x2_3, x2_4⟩ := boxs5 HX2.out
  obtain ⟨x3_0, x3_1, x3_2, x3_3, x3_4, x3_5, x3_6, x3_7, x3_8, x3_9⟩ := boxs10 HX3.out
  obtain ⟨x4_0, x4_1, x4_2, x4_3, x4_4, x4_5, x4_6, x4_7, x4_8, x4_9⟩ := boxs10 HX4.out
  obtain ⟨x5_0, x5_1, x5_2⟩ := boxs3 HX5.out
  have HX6 := Lib.hid hx6
  have HX7 := Lib.hid hx7
  have x6_0 : W3.cell? ⟨g6, 0, none⟩ = some (.string sn) := (cell_of_row _ _ 0 _ _ _ HX6.out).trans rfl
  have x6_1 : W3.cell? ⟨g6, 1, none⟩ = some (.int .i64 sw) := (cell_of_row _ _ 1 _ _ _ HX6.out).trans rfl
  have x6_2 : W3.cell? ⟨g6, 2, none⟩ = some (.int .i64 y) := (cell_of_row _ _ 2 _ _ _ HX6.out).trans rfl
  have x6_3 : W3.cell? ⟨g6, 3, none⟩ = some (.bool sc) := (cell_of_row _ _ 3 _ _ _ HX6.out).trans rfl
  have x6_4 : W3.cell? ⟨g6, 4, none⟩ = some (.int .i64 s4) := (cell_of_row _ _ 4 _ _ _ HX6.out).trans rfl
  have x6_5 : W3.cell? ⟨g6, 5, none⟩ = some (.int .i64 s5) := (cell_of_row _ _ 5 _ _ _ HX6.out).trans rfl
  have x6_6 : W3.cell? ⟨g6, 6, none⟩ = some (.string s6) := (cell_of_row _ _ 6 _ _ _ HX6.out).trans rfl
  have x6_7 : W3.cell? ⟨g6, 7, none⟩ = some (.slice s7 sl sk) := (cell_of_row _ _ 7 _ _ _ HX6.out).trans rfl
  have x7_0 : W3.cell? ⟨g7, 0, none⟩ = some (.string vn) := (cell_of_row _ _ 0 _ _ _ HX7.out).trans rfl
  have x7_1 : W3.cell? ⟨g7, 1, none⟩ = some (.int .i64 vw) := (cell_of_row _ _ 1 _ _ _ HX7.out).trans rfl
  have x7_2 : W3.cell? ⟨g7, 2, none⟩ = some (.int .i64 z) := (cell_of_row _ _ 2 _ _ _ HX7.out).trans rfl
  have x7_3 : W3.cell? ⟨g7, 3, none⟩ = some (.string vt) := (cell_of_row _ _ 3 _ _ _ HX7.out).trans rfl
  have x7_4 : W3.cell? ⟨g7, 4, none⟩ = some (.slice vp vl vk) := (cell_of_row _ _ 4 _ _ _ HX7.out).trans rfl
  clear hx6 hx7 hb
  try simp only [World.size_alloc]
  rw [← hW3, ← hg7, ← hg6]
  clear hW3 hg6 hg7
  go_wp2_with (first
    | (go_at_call 12; (with_reducible refine (C0.out _).mono ?_); rintro e t0 ⟨rfl, hb2⟩; have HB0 := Lib.hid (HB0.out.trans (hb2.mono HB0.out.size)); have HX0 := Lib.hid ((hb2.block _ hl0).trans HX0.out); have hl0 := Nat.lt_of_lt_of_le hl0 hb2.size; have HX1 := Lib.hid ((hb2.block _ hl1).trans HX1.out); have hl1 := Nat.lt_of_lt_of_le hl1 hb2.size; have HX2 := Lib.hid ((hb2.block _ hl2).trans HX2.out); have hl2 := Nat.lt_of_lt_of_le hl2 hb2.size; have HX3 := Lib.hid ((hb2.block _ hl3).trans HX3.out); have hl3 := Nat.lt_of_lt_of_le hl3 hb2.size; have HX4 := Lib.hid ((hb2.block _ hl4).trans HX4.out); have hl4 := Nat.lt_of_lt_of_le hl4 hb2.size; have HX5 := Lib.hid ((hb2.block _ hl5).trans HX5.out); have hl5 := Nat.lt_of_lt_of_le hl5 hb2.size; have HX6 := Lib.hid ((hb2.block _ hl6).trans HX6.out); have hl6 := Nat.lt_of_lt_of_le hl6 hb2.size; have HX7 := Lib.hid ((hb2.block _ hl7).trans HX7.out); have hl7 := Nat.lt_of_lt_of_le hl7 hb2.size; obtain ⟨x0_0, x0_1, x0_2⟩ := boxs3 HX0.out; obtain ⟨x1_0, x1_1, x1_2, x1_3, x1_4, x1_5, x1_6, x1_7⟩ := boxs8 HX1.out; obtain ⟨x2_0, x2_1, x2_2, x2_3, x2_4⟩ := boxs5 HX2.out; obtain ⟨x3_0, x3_1, x3_2, x3_3, x3_4, x3_5, x3_6, x3_7, x3_8, x3_9⟩ := boxs10 HX3.out; obtain ⟨x4_0, x4_1, x4_2, x4_3, x4_4, x4_5, x4_6, x4_7, x4_8, x4_9⟩ := boxs10 HX4.out; obtain ⟨x5_0, x5_1, x5_2⟩ := boxs3 HX5.out; obtain ⟨x6_0, x6_1, x6_2, x6_3, x6_4, x6_5, x6_6, x6_7⟩ := boxs8 HX6.out; obtain ⟨x7_0, x7_1, x7_2, x7_3, x7_4⟩ := boxs5 HX7.out; clear hb2)
    | (go_at_call 14; (with_reducible refine (C1.out _).mono ?_); rintro e t1 ⟨rfl, hb2⟩; have HB0 := Lib.hid (HB0.out.trans (hb2.mono HB0.out.size)); have HX0 := Lib.hid ((hb2.block _ hl0).trans HX0.out); have hl0 := Nat.lt_of_lt_of_le hl0 hb2.size; have HX1 := Lib.hid ((hb2.block _ hl1).trans HX1.out); have hl1 := Nat.lt_of_lt_of_le hl1 hb2.size; have HX2 := Lib.hid ((hb2.block _ hl2).trans HX2.out); have hl2 := Nat.lt_of_lt_of_le hl2 hb2.size; have HX3 := Lib.hid ((hb2.block _ hl3).trans HX3.out); have hl3 := Nat.lt_of_lt_of_le hl3 hb2.size; have HX4 := Lib.hid ((hb2.block _ hl4).trans HX4.out); have hl4 := Nat.lt_of_lt_of_le hl4 hb2.size; have HX5 := Lib.hid ((hb2.block _ hl5).trans HX5.out); have hl5 := Nat.lt_of_lt_of_le hl5 hb2.size; have HX6 := Lib.hid ((hb2.block _ hl6).trans HX6.out); have hl6 := Nat.lt_of_lt_of_le hl6 hb2.size; have HX7 := Lib.hid ((hb2.block _ hl7).trans HX7.out); have hl7 := Nat.lt_of_lt_of_le hl7 hb2.size; obtain ⟨x0_0, x0_1, x0_2⟩ := boxs3 HX0.out; obtain ⟨x1_0, x1_1, x1_2, x1_3, x1_4, x1_5, x1_6, x1_7⟩ := boxs8 HX1.out; obtain ⟨x2_0, x2_1, x2_2, x2_3, x2_4⟩ := boxs5 HX2.out; obtain ⟨x3_0, x3_1, x3_2, x3_3, x3_4, x3_5, x3_6, x3_7, x3_8, x3_9⟩ := boxs10 HX3.out; obtain ⟨x4_0, x4_1, x4_2, x4_3, x4_4, x4_5, x4_6, x4_7, x4_8, x4_9⟩ := boxs10 HX4.out; obtain ⟨x5_0, x5_1, x5_2⟩ := boxs3 HX5.out; obtain ⟨x6_0, x6_1, x6_2, x6_3, x6_4, x6_5, x6_6, x6_7⟩ := boxs8 HX6.out; obtain ⟨x7_0, x7_1, x7_2, x7_3, x7_4⟩ := boxs5 HX7.out; clear hb2)
    | (go_at_call 14; (with_reducible refine (C7.out _).mono ?_); rintro e t2 ⟨rfl, hb2⟩; have HB0 := Lib.hid (HB0.out.trans (hb2.mono HB0.out.size)); have HX0 := Lib.hid ((hb2.block _ hl0).trans HX0.out); have hl0 := Nat.lt_of_lt_of_le hl0 hb2.size; have HX1 := Lib.hid ((hb2.block _ hl1).trans HX1.out); have hl1 := Nat.lt_of_lt_of_le hl1 hb2.size; have HX2 := Lib.hid ((hb2.block _ hl2).trans HX2.out); have hl2 := Nat.lt_of_lt_of_le hl2 hb2.size; have HX3 := Lib.hid ((hb2.block _ hl3).trans HX3.out); have hl3 := Nat.lt_of_lt_of_le hl3 hb2.size; have HX4 := Lib.hid ((hb2.block _ hl4).trans HX4.out); have hl4 := Nat.lt_of_lt_of_le hl4 hb2.size; have HX5 := Lib.hid ((hb2.block _ hl5).trans HX5.out); have hl5 := Nat.lt_of_lt_of_le hl5 hb2.size; have HX6 := Lib.hid ((hb2.block _ hl6).trans HX6.out); have hl6 := Nat.lt_of_lt_of_le hl6 hb2.size; have HX7 := Lib.hid ((hb2.block _ hl7).trans HX7.out); have hl7 := Nat.lt_of_lt_of_le hl7 hb2.size; obtain ⟨x0_0, x0_1, x0_2⟩ := boxs3 HX0.out; obtain ⟨x1_0, x1_1, x1_2, x1_3, x1_4, x1_5, x1_6, x1_7⟩ := boxs8 HX1.out; obtain ⟨x2_0, x2_1, x2_2, x2_3, x2_4⟩ := boxs5 HX2.out; obtain ⟨x3_0, x3_1, x3_2, x3_3, x3_4, x3_5, x3_6, x3_7, x3_8, x3_9⟩ := boxs10 HX3.out; obtain ⟨x4_0, x4_1, x4_2, x4_3, x4_4, x4_5, x4_6, x4_7, x4_8, x4_9⟩ := boxs10 HX4.out; obtain ⟨x5_0, x5_1, x5_2⟩ := boxs3 HX5.out; obtain ⟨x6_0, x6_1, x6_2, x6_3, x6_4, x6_5, x6_6, x6_7⟩ := boxs8 HX6.out; obtain ⟨x7_0, x7_1, x7_2, x7_3, x7_4⟩ := boxs5 HX7.out; clear hb2))
  go_ret
  exact ⟨rfl, HB0.out⟩
set_option maxHeartbeats 8000000 in
theorem more_fttf (id : Int) (wz pg : Bool) (op x : Int) (sn s6 : ByteArray) (sw sb s4 s5 : Int) (sc : Bool) (s7 : Option Addr) (sl sk : Nat) (vn vt : ByteArray) (vw vb : Int) (vp : Option Addr) (vl vk : Nat) (oi oe ow ol of oq : Int) (on od os ov : Value) (pi pp pw pl pf pq : Int) (pn pd ps pv : Value) (w : World) (hS : slotB id wz op sw sb = false) (hV : verbB id wz pg op vw vb = true) (hO : objB id wz pg op ow of = true) (hT : twoB id wz pg op oi ow pf pw = false) : Calls Try.prog 4 #[.agg #[.int .i64 id, .bool wz, .bool pg], .int .i64 op, .int .i64 x, .agg #[.string sn, .int .i64 sw, .int .i64 sb, .bool sc, .int .i64 s4, .int .i64 s5, .string s6, .slice s7 sl sk], .agg #[.string vn, .int .i64 vw, .int .i64 vb, .string vt, .slice vp vl vk], .agg #[.int .i64 oi, .int .i64 oe, .int .i64 ow, .int .i64 ol, .int .i64 of, .int .i64 oq, on, od, os, ov], .agg #[.int .i64 pi, .int .i64 pp, .int .i64 pw, .int .i64 pl, .int .i64 pf, .int .i64 pq, pn, pd, ps, pv]] w fun e w' => e = .returned (.bool true) ∧ Below w.heap.size w w' := by
  obtain ⟨W1, hW1⟩ : ∃ W1, W1 = (((((w.alloc (.cells #[.int .i64 id, .bool wz, .bool pg] 23)).alloc (.cells #[.string sn, .int .i64 sw, .int .i64 sb, .bool sc, .int .i64 s4, .int .i64 s5, .string s6, .slice s7 sl sk] 28)).alloc (.cells #[.string vn, .int .i64 vw, .int .i64 vb, .string vt, .slice vp vl vk] 31)).alloc (.cells #[.int .i64 oi, .int .i64 oe, .int .i64 ow, .int .i64 ol, .int .i64 of, .int .i64 oq, on, od, os, ov] 36)).alloc (.cells #[.int .i64 pi, .int .i64 pp, .int .i64 pw, .int .i64 pl, .int .i64 pf, .int .i64 pq, pn, pd, ps, pv] 36)) := ⟨_, rfl⟩
  have hb0 : Below w.heap.size w W1 := hW1 ▸ (((((Below.refl w.heap.size w).alloc (Nat.le_refl _) _).alloc (by simp) _).alloc (by simp; omega) _).alloc (by simp; omega) _).alloc (by simp; omega) _
  have hx0 : W1.heap[w.heap.size]? = some (.cells #[.int .i64 id, .bool wz, .bool pg] 23 (0, 0)) := by
    have h := heap_alloc_new w (.cells #[.int .i64 id, .bool wz, .bool pg] 23)
    rw [hW1]
    rw [Below.heap_alloc _ _ _ (by simp only [World.size_alloc]; omega)]
    rw [Below.heap_alloc _ _ _ (by simp only [World.size_alloc]; omega)]
    rw [Below.heap_alloc _ _ _ (by simp only [World.size_alloc]; omega)]
    rw [Below.heap_alloc _ _ _ (by simp only [World.size_alloc]; omega)]
    exact h
  have hx1 : W1.heap[w.heap.size + 1]? = some (.cells #[.string sn, .int .i64 sw, .int .i64 sb, .bool sc, .int .i64 s4, .int .i64 s5, .string s6, .slice s7 sl sk] 28 (0, 0)) := by
    have h := heap_alloc_new (w.alloc (.cells #[.int .i64 id, .bool wz, .bool pg] 23)) (.cells #[.string sn, .int .i64 sw, .int .i64 sb, .bool sc, .int .i64 s4, .int .i64 s5, .string s6, .slice s7 sl sk] 28)
    simp only [World.size_alloc] at h
    rw [hW1]
    rw [Below.heap_alloc _ _ _ (by simp only [World.size_alloc]; omega)]
    rw [Below.heap_alloc _ _ _ (by simp only [World.size_alloc]; omega)]
    rw [Below.heap_alloc _ _ _ (by simp only [World.size_alloc]; omega)]
    exact h
  have hx2 : W1.heap[w.heap.size + 2]? = some (.cells #[.string vn, .int .i64 vw, .int .i64 vb, .string vt, .slice vp vl vk] 31 (0, 0)) := by
    have h := heap_alloc_new ((w.alloc (.cells #[.int .i64 id, .bool wz, .bool pg] 23)).alloc (.cells #[.string sn, .int .i64 sw, .int .i64 sb, .bool sc, .int .i64 s4, .int .i64 s5, .string s6, .slice s7 sl sk] 28)) (.cells #[.string vn, .int .i64 vw, .int .i64 vb, .string vt, .slice vp vl vk] 31)
    simp only [World.size_alloc] at h
    rw [hW1]
    rw [Below.heap_alloc _ _ _ (by simp only [World.size_alloc]; omega)]
    rw [Below.heap_alloc _ _ _ (by simp only [World.size_alloc]; omega)]
    exact h
  have hx3 : W1.heap[w.heap.size + 3]? = some (.cells #[.int .i64 oi, .int .i64 oe, .int .i64 ow, .int .i64 ol, .int .i64 of, .int .i64 oq, on, od, os, ov] 36 (0, 0)) := by
    have h := heap_alloc_new (((w.alloc (.cells #[.int .i64 id, .bool wz, .bool pg] 23)).alloc (.cells #[.string sn, .int .i64 sw, .int .i64 sb, .bool sc, .int .i64 s4, .int .i64 s5, .string s6, .slice s7 sl sk] 28)).alloc (.cells #[.string vn, .int .i64 vw, .int .i64 vb, .string vt, .slice vp vl vk] 31)) (.cells #[.int .i64 oi, .int .i64 oe, .int .i64 ow, .int .i64 ol, .int .i64 of, .int .i64 oq, on, od, os, ov] 36)
    simp only [World.size_alloc] at h
    rw [hW1]
    rw [Below.heap_alloc _ _ _ (by simp only [World.size_alloc]; omega)]
    exact h
  have hx4 : W1.heap[w.heap.size + 4]? = some (.cells #[.int .i64 pi, .int .i64 pp, .int .i64 pw, .int .i64 pl, .int .i64 pf, .int .i64 pq, pn, pd, ps, pv] 36 (0, 0)) := by
    have h := heap_alloc_new ((((w.alloc (.cells #[.int .i64 id, .bool wz, .bool pg] 23)).alloc (.cells #[.string sn, .int .i64 sw, .int .i64 sb, .bool sc, .int .i64 s4, .int .i64 s5, .string s6, .slice s7 sl sk] 28)).alloc (.cells #[.string vn, .int .i64 vw, .int .i64 vb, .string vt, .slice vp vl vk] 31)).alloc (.cells #[.int .i64 oi, .int .i64 oe, .int .i64 ow, .int .i64 ol, .int .i64 of, .int .i64 oq, on, od, os, ov] 36)) (.cells #[.int .i64 pi, .int .i64 pp, .int .i64 pw, .int .i64 pl, .int .i64 pf, .int .i64 pq, pn, pd, ps, pv] 36)
    simp only [World.size_alloc] at h
    rw [hW1]
    exact h
  obtain ⟨g0, hg0⟩ : ∃ g, g = w.heap.size := ⟨_, rfl⟩
  rw [← hg0] at hx0
  have hl0 : g0 < W1.heap.size := (Array.getElem?_eq_some_iff.1 hx0).1
  obtain ⟨g1, hg1⟩ : ∃ g, g = w.heap.size + 1 := ⟨_, rfl⟩
  rw [← hg1] at hx1
  have hl1 : g1 < W1.heap.size := (Array.getElem?_eq_some_iff.1 hx1).1
  obtain ⟨g2, hg2⟩ : ∃ g, g = w.heap.size + 2 := ⟨_, rfl⟩
  rw [← hg2] at hx2
  have hl2 : g2 < W1.heap.size := (Array.getElem?_eq_some_iff.1 hx2).1
  obtain ⟨g3, hg3⟩ : ∃ g, g = w.heap.size + 3 := ⟨_, rfl⟩
  rw [← hg3] at hx3
  have hl3 : g3 < W1.heap.size := (Array.getElem?_eq_some_iff.1 hx3).1
  obtain ⟨g4, hg4⟩ : ∃ g, g = w.heap.size + 4 := ⟨_, rfl⟩
  rw [← hg4] at hx4
  have hl4 : g4 < W1.heap.size := (Array.getElem?_eq_some_iff.1 hx4).1
  have HB0 := Lib.hid hb0
  clear hb0
  have F := Lib.hid (first11_any W1)
  obtain ⟨y, hy⟩ : ∃ y, bits .or .i64 sb x = y := ⟨_, rfl⟩
  obtain ⟨z, hz⟩ : ∃ z, bits .or .i64 vb x = z := ⟨_, rfl⟩
  have hVz : verbB id wz pg op vw z = true := by rw [← hz]; exact verb_or id wz pg op vw vb x hV
  have C0 := Lib.hid (fun W => by have := slot_any id wz pg op (.string sn) (.bool sc) (.int .i64 s4) (.int .i64 s5) (.string s6) (.slice s7 sl sk) sw sb W; rw [hS] at this; exact this)
  have C1 := Lib.hid (fun W => by have := verb_any id wz pg op (.string vn) (.string vt) (.slice vp vl vk) vw vb W; rw [hV] at this; exact this)
  have C2 := Lib.hid (fun W => by have := verb_any id true true op (.string vn) (.string vt) (.slice vp vl vk) vw vb W; rw [verb_all id wz pg op vw vb hV] at this; exact this)
  have C3 := Lib.hid (fun W => by have := object_any id wz pg op oi oe ow ol of oq on od os ov W; rw [hO] at this; exact this)
  have C4 := Lib.hid (fun W => by have := object_any id true true op oi oe ow ol of oq on od os ov W; rw [obj_all id wz pg op ow of hO] at this; exact this)
  have C5 := Lib.hid (fun W => by have := two_any id wz pg op oi oe ow ol of oq on od os ov pi pp pw pl pf pq pn pd ps pv W; rw [hT] at this; exact this)
  have C6 := Lib.hid (fun W => by have := verb_any id wz pg op (.string vn) (.string vt) (.slice vp vl vk) vw z W; rw [hVz] at this; exact this)
  clear hS hV hO hT hVz
  have x0_0 : W1.cell? ⟨g0, 0, none⟩ = some (.int .i64 id) := (cell_of_row _ _ 0 _ _ _ hx0).trans rfl
  have x0_1 : W1.cell? ⟨g0, 1, none⟩ = some (.bool wz) := (cell_of_row _ _ 1 _ _ _ hx0).trans rfl
  have x0_2 : W1.cell? ⟨g0, 2, none⟩ = some (.bool pg) := (cell_of_row _ _ 2 _ _ _ hx0).trans rfl
  have x1_0 : W1.cell? ⟨g1, 0, none⟩ = some (.string sn) := (cell_of_row _ _ 0 _ _ _ hx1).trans rfl
  have x1_1 : W1.cell? ⟨g1, 1, none⟩ = some (.int .i64 sw) := (cell_of_row _ _ 1 _ _ _ hx1).trans rfl
  have x1_2 : W1.cell? ⟨g1, 2, none⟩ = some (.int .i64 sb) := (cell_of_row _ _ 2 _ _ _ hx1).trans rfl
  have x1_3 : W1.cell? ⟨g1, 3, none⟩ = some (.bool sc) := (cell_of_row _ _ 3 _ _ _ hx1).trans rfl
  have x1_4 : W1.cell? ⟨g1, 4, none⟩ = some (.int .i64 s4) := (cell_of_row _ _ 4 _ _ _ hx1).trans rfl
  have x1_5 : W1.cell? ⟨g1, 5, none⟩ = some (.int .i64 s5) := (cell_of_row _ _ 5 _ _ _ hx1).trans rfl
  have x1_6 : W1.cell? ⟨g1, 6, none⟩ = some (.string s6) := (cell_of_row _ _ 6 _ _ _ hx1).trans rfl
  have x1_7 : W1.cell? ⟨g1, 7, none⟩ = some (.slice s7 sl sk) := (cell_of_row _ _ 7 _ _ _ hx1).trans rfl
  have x2_0 : W1.cell? ⟨g2, 0, none⟩ = some (.string vn) := (cell_of_row _ _ 0 _ _ _ hx2).trans rfl
  have x2_1 : W1.cell? ⟨g2, 1, none⟩ = some (.int .i64 vw) := (cell_of_row _ _ 1 _ _ _ hx2).trans rfl
  have x2_2 : W1.cell? ⟨g2, 2, none⟩ = some (.int .i64 vb) := (cell_of_row _ _ 2 _ _ _ hx2).trans rfl
  have x2_3 : W1.cell? ⟨g2, 3, none⟩ = some (.string vt) := (cell_of_row _ _ 3 _ _ _ hx2).trans rfl
  have x2_4 : W1.cell? ⟨g2, 4, none⟩ = some (.slice vp vl vk) := (cell_of_row _ _ 4 _ _ _ hx2).trans rfl
  have x3_0 : W1.cell? ⟨g3, 0, none⟩ = some (.int .i64 oi) := (cell_of_row _ _ 0 _ _ _ hx3).trans rfl
  have x3_1 : W1.cell? ⟨g3, 1, none⟩ = some (.int .i64 oe) := (cell_of_row _ _ 1 _ _ _ hx3).trans rfl
  have x3_2 : W1.cell? ⟨g3, 2, none⟩ = some (.int .i64 ow) := (cell_of_row _ _ 2 _ _ _ hx3).trans rfl
  have x3_3 : W1.cell? ⟨g3, 3, none⟩ = some (.int .i64 ol) := (cell_of_row _ _ 3 _ _ _ hx3).trans rfl
  have x3_4 : W1.cell? ⟨g3, 4, none⟩ = some (.int .i64 of) := (cell_of_row _ _ 4 _ _ _ hx3).trans rfl
  have x3_5 : W1.cell? ⟨g3, 5, none⟩ = some (.int .i64 oq) := (cell_of_row _ _ 5 _ _ _ hx3).trans rfl
  have x3_6 : W1.cell? ⟨g3, 6, none⟩ = some (on) := (cell_of_row _ _ 6 _ _ _ hx3).trans rfl
  have x3_7 : W1.cell? ⟨g3, 7, none⟩ = some (od) := (cell_of_row _ _ 7 _ _ _ hx3).trans rfl
  have x3_8 : W1.cell? ⟨g3, 8, none⟩ = some (os) := (cell_of_row _ _ 8 _ _ _ hx3).trans rfl
  have x3_9 : W1.cell? ⟨g3, 9, none⟩ = some (ov) := (cell_of_row _ _ 9 _ _ _ hx3).trans rfl
  have x4_0 : W1.cell? ⟨g4, 0, none⟩ = some (.int .i64 pi) := (cell_of_row _ _ 0 _ _ _ hx4).trans rfl
  have x4_1 : W1.cell? ⟨g4, 1, none⟩ = some (.int .i64 pp) := (cell_of_row _ _ 1 _ _ _ hx4).trans rfl
  have x4_2 : W1.cell? ⟨g4, 2, none⟩ = some (.int .i64 pw) := (cell_of_row _ _ 2 _ _ _ hx4).trans rfl
  have x4_3 : W1.cell? ⟨g4, 3, none⟩ = some (.int .i64 pl) := (cell_of_row _ _ 3 _ _ _ hx4).trans rfl
  have x4_4 : W1.cell? ⟨g4, 4, none⟩ = some (.int .i64 pf) := (cell_of_row _ _ 4 _ _ _ hx4).trans rfl
  have x4_5 : W1.cell? ⟨g4, 5, none⟩ = some (.int .i64 pq) := (cell_of_row _ _ 5 _ _ _ hx4).trans rfl
  have x4_6 : W1.cell? ⟨g4, 6, none⟩ = some (pn) := (cell_of_row _ _ 6 _ _ _ hx4).trans rfl
  have x4_7 : W1.cell? ⟨g4, 7, none⟩ = some (pd) := (cell_of_row _ _ 7 _ _ _ hx4).trans rfl
  have x4_8 : W1.cell? ⟨g4, 8, none⟩ = some (ps) := (cell_of_row _ _ 8 _ _ _ hx4).trans rfl
  have x4_9 : W1.cell? ⟨g4, 9, none⟩ = some (pv) := (cell_of_row _ _ 9 _ _ _ hx4).trans rfl
  have HX0 := Lib.hid hx0
  clear hx0
  have HX1 := Lib.hid hx1
  clear hx1
  have HX2 := Lib.hid hx2
  clear hx2
  have HX3 := Lib.hid hx3
  clear hx3
  have HX4 := Lib.hid hx4
  clear hx4
  go_enter Try.func4, Try.ntmps4
  go_upto_region 1 with fail
  try simp only [World.size_alloc]
  rw [← hW1, ← hg4, ← hg3, ← hg2, ← hg1, ← hg0]
  clear hW1 hg0 hg1 hg2 hg3 hg4
  go_upto_region 5 with (go_at_call 8; refine F.out.mono ?_; rintro e w1 ⟨rfl, hb1⟩; have HB0 := Lib.hid (HB0.out.trans (hb1.mono HB0.out.size)); have HX0 := Lib.hid ((hb1.block _ hl0).trans HX0.out); have hl0 := Nat.lt_of_lt_of_le hl0 hb1.size; have HX1 := Lib.hid ((hb1.block _ hl1).trans HX1.out); have hl1 := Nat.lt_of_lt_of_le hl1 hb1.size; have HX2 := Lib.hid ((hb1.block _ hl2).trans HX2.out); have hl2 := Nat.lt_of_lt_of_le hl2 hb1.size; have HX3 := Lib.hid ((hb1.block _ hl3).trans HX3.out); have hl3 := Nat.lt_of_lt_of_le hl3 hb1.size; have HX4 := Lib.hid ((hb1.block _ hl4).trans HX4.out); have hl4 := Nat.lt_of_lt_of_le hl4 hb1.size; obtain ⟨x0_0, x0_1, x0_2⟩ := boxs3 HX0.out; obtain ⟨x1_0, x1_1, x1_2, x1_3, x1_4, x1_5, x1_6, x1_7⟩ := boxs8 HX1.out; obtain ⟨x2_0, x2_1, x2_2, x2_3, x2_4⟩ := boxs5 HX2.out; obtain ⟨x3_0, x3_1, x3_2, x3_3, x3_4, x3_5, x3_6, x3_7, x3_8, x3_9⟩ := boxs10 HX3.out; obtain ⟨x4_0, x4_1, x4_2, x4_3, x4_4, x4_5, x4_6, x4_7, x4_8, x4_9⟩ := boxs10 HX4.out; clear hb1)
  have hb : Below w1.heap.size w1 (w1.alloc (.cells #[.int .i64 id, .bool true, .bool true] 23)) := (Below.refl _ _).alloc (Nat.le_refl _) _
  have hx5 := heap_alloc_new w1 (.cells #[.int .i64 id, .bool true, .bool true] 23)
  obtain ⟨W2, hW2⟩ : ∃ W2, W2 = w1.alloc (.cells #[.int .i64 id, .bool true, .bool true] 23) := ⟨_, rfl⟩
  rw [← hW2] at hb hx5
  obtain ⟨g5, hg5⟩ : ∃ g, g = w1.heap.size := ⟨_, rfl⟩
  rw [← hg5] at hx5
  have hl5 : g5 < W2.heap.size := (Array.getElem?_eq_some_iff.1 hx5).1
  have HB0 := Lib.hid (HB0.out.trans (hb.mono HB0.out.size))
  have HX0 := Lib.hid ((hb.block _ hl0).trans HX0.out)
  have hl0 := Nat.lt_of_lt_of_le hl0 hb.size
  have HX1 := Lib.hid ((hb.block _ hl1).trans HX1.out)
  have hl1 := Nat.lt_of_lt_of_le hl1 hb.size
  have HX2 := Lib.hid ((hb.block _ hl2).trans HX2.out)
  have hl2 := Nat.lt_of_lt_of_le hl2 hb.size
  have HX3 := Lib.hid ((hb.block _ hl3).trans HX3.out)
  have hl3 := Nat.lt_of_lt_of_le hl3 hb.size
  have HX4 := Lib.hid ((hb.block _ hl4).trans HX4.out)
  have hl4 := Nat.lt_of_lt_of_le hl4 hb.size
  obtain ⟨x0_0, x0_1, x0_2⟩ := boxs3 HX0.out
  obtain ⟨x1_0, x1_1, x1_2, x1_3, x1_4, x1_5, x1_6, x1_7⟩ := boxs8 HX1.out
  obtain ⟨x2_0, x2_1, x2_2, x2_3, x2_4⟩ := boxs5 HX2.out
  obtain ⟨x3_0, x3_1, x3_2, x3_3, x3_4, x3_5, x3_6, x3_7, x3_8, x3_9⟩ := boxs10 HX3.out
  obtain ⟨x4_0, x4_1, x4_2, x4_3, x4_4, x4_5, x4_6, x4_7, x4_8, x4_9⟩ := boxs10 HX4.out
  have HX5 := Lib.hid hx5
  have x5_0 : W2.cell? ⟨g5, 0, none⟩ = some (.int .i64 id) := (cell_of_row _ _ 0 _ _ _ HX5.out).trans rfl
  have x5_1 : W2.cell? ⟨g5, 1, none⟩ = some (.bool true) := (cell_of_row _ _ 1 _ _ _ HX5.out).trans rfl
  have x5_2 : W2.cell? ⟨g5, 2, none⟩ = some (.bool true) := (cell_of_row _ _ 2 _ _ _ HX5.out).trans rfl
  clear hx5 hb
  rw [← hW2, ← hg5]
  clear hW2 hg5
  go_upto_region 7 with (first
    | (go_at_call 12; (with_reducible refine (C0.out _).mono ?_); rintro e u0 ⟨rfl, hb2⟩; have HB0 := Lib.hid (HB0.out.trans (hb2.mono HB0.out.size)); have HX0 := Lib.hid ((hb2.block _ hl0).trans HX0.out); have hl0 := Nat.lt_of_lt_of_le hl0 hb2.size; have HX1 := Lib.hid ((hb2.block _ hl1).trans HX1.out); have hl1 := Nat.lt_of_lt_of_le hl1 hb2.size; have HX2 := Lib.hid ((hb2.block _ hl2).trans HX2.out); have hl2 := Nat.lt_of_lt_of_le hl2 hb2.size; have HX3 := Lib.hid ((hb2.block _ hl3).trans HX3.out); have hl3 := Nat.lt_of_lt_of_le hl3 hb2.size; have HX4 := Lib.hid ((hb2.block _ hl4).trans HX4.out); have hl4 := Nat.lt_of_lt_of_le hl4 hb2.size; have HX5 := Lib.hid ((hb2.block _ hl5).trans HX5.out); have hl5 := Nat.lt_of_lt_of_le hl5 hb2.size; obtain ⟨x0_0, x0_1, x0_2⟩ := boxs3 HX0.out; obtain ⟨x1_0, x1_1, x1_2, x1_3, x1_4, x1_5, x1_6, x1_7⟩ := boxs8 HX1.out; obtain ⟨x2_0, x2_1, x2_2, x2_3, x2_4⟩ := boxs5 HX2.out; obtain ⟨x3_0, x3_1, x3_2, x3_3, x3_4, x3_5, x3_6, x3_7, x3_8, x3_9⟩ := boxs10 HX3.out; obtain ⟨x4_0, x4_1, x4_2, x4_3, x4_4, x4_5, x4_6, x4_7, x4_8, x4_9⟩ := boxs10 HX4.out; obtain ⟨x5_0, x5_1, x5_2⟩ := boxs3 HX5.out; clear hb2)
    | (go_at_call 14; (with_reducible refine (C1.out _).mono ?_); rintro e u1 ⟨rfl, hb2⟩; have HB0 := Lib.hid (HB0.out.trans (hb2.mono HB0.out.size)); have HX0 := Lib.hid ((hb2.block _ hl0).trans HX0.out); have hl0 := Nat.lt_of_lt_of_le hl0 hb2.size; have HX1 := Lib.hid ((hb2.block _ hl1).trans HX1.out); have hl1 := Nat.lt_of_lt_of_le hl1 hb2.size; have HX2 := Lib.hid ((hb2.block _ hl2).trans HX2.out); have hl2 := Nat.lt_of_lt_of_le hl2 hb2.size; have HX3 := Lib.hid ((hb2.block _ hl3).trans HX3.out); have hl3 := Nat.lt_of_lt_of_le hl3 hb2.size; have HX4 := Lib.hid ((hb2.block _ hl4).trans HX4.out); have hl4 := Nat.lt_of_lt_of_le hl4 hb2.size; have HX5 := Lib.hid ((hb2.block _ hl5).trans HX5.out); have hl5 := Nat.lt_of_lt_of_le hl5 hb2.size; obtain ⟨x0_0, x0_1, x0_2⟩ := boxs3 HX0.out; obtain ⟨x1_0, x1_1, x1_2, x1_3, x1_4, x1_5, x1_6, x1_7⟩ := boxs8 HX1.out; obtain ⟨x2_0, x2_1, x2_2, x2_3, x2_4⟩ := boxs5 HX2.out; obtain ⟨x3_0, x3_1, x3_2, x3_3, x3_4, x3_5, x3_6, x3_7, x3_8, x3_9⟩ := boxs10 HX3.out; obtain ⟨x4_0, x4_1, x4_2, x4_3, x4_4, x4_5, x4_6, x4_7, x4_8, x4_9⟩ := boxs10 HX4.out; obtain ⟨x5_0, x5_1, x5_2⟩ := boxs3 HX5.out; clear hb2)
    | (go_at_call 14; (with_reducible refine (C2.out _).mono ?_); rintro e u2 ⟨rfl, hb2⟩; have HB0 := Lib.hid (HB0.out.trans (hb2.mono HB0.out.size)); have HX0 := Lib.hid ((hb2.block _ hl0).trans HX0.out); have hl0 := Nat.lt_of_lt_of_le hl0 hb2.size; have HX1 := Lib.hid ((hb2.block _ hl1).trans HX1.out); have hl1 := Nat.lt_of_lt_of_le hl1 hb2.size; have HX2 := Lib.hid ((hb2.block _ hl2).trans HX2.out); have hl2 := Nat.lt_of_lt_of_le hl2 hb2.size; have HX3 := Lib.hid ((hb2.block _ hl3).trans HX3.out); have hl3 := Nat.lt_of_lt_of_le hl3 hb2.size; have HX4 := Lib.hid ((hb2.block _ hl4).trans HX4.out); have hl4 := Nat.lt_of_lt_of_le hl4 hb2.size; have HX5 := Lib.hid ((hb2.block _ hl5).trans HX5.out); have hl5 := Nat.lt_of_lt_of_le hl5 hb2.size; obtain ⟨x0_0, x0_1, x0_2⟩ := boxs3 HX0.out; obtain ⟨x1_0, x1_1, x1_2, x1_3, x1_4, x1_5, x1_6, x1_7⟩ := boxs8 HX1.out; obtain ⟨x2_0, x2_1, x2_2, x2_3, x2_4⟩ := boxs5 HX2.out; obtain ⟨x3_0, x3_1, x3_2, x3_3, x3_4, x3_5, x3_6, x3_7, x3_8, x3_9⟩ := boxs10 HX3.out; obtain ⟨x4_0, x4_1, x4_2, x4_3, x4_4, x4_5, x4_6, x4_7, x4_8, x4_9⟩ := boxs10 HX4.out; obtain ⟨x5_0, x5_1, x5_2⟩ := boxs3 HX5.out; clear hb2)
    | (go_at_call 16; (with_reducible refine (C3.out _).mono ?_); rintro e u3 ⟨rfl, hb2⟩; have HB0 := Lib.hid (HB0.out.trans (hb2.mono HB0.out.size)); have HX0 := Lib.hid ((hb2.block _ hl0).trans HX0.out); have hl0 := Nat.lt_of_lt_of_le hl0 hb2.size; have HX1 := Lib.hid ((hb2.block _ hl1).trans HX1.out); have hl1 := Nat.lt_of_lt_of_le hl1 hb2.size; have HX2 := Lib.hid ((hb2.block _ hl2).trans HX2.out); have hl2 := Nat.lt_of_lt_of_le hl2 hb2.size; have HX3 := Lib.hid ((hb2.block _ hl3).trans HX3.out); have hl3 := Nat.lt_of_lt_of_le hl3 hb2.size; have HX4 := Lib.hid ((hb2.block _ hl4).trans HX4.out); have hl4 := Nat.lt_of_lt_of_le hl4 hb2.size; have HX5 := Lib.hid ((hb2.block _ hl5).trans HX5.out); have hl5 := Nat.lt_of_lt_of_le hl5 hb2.size; obtain ⟨x0_0, x0_1, x0_2⟩ := boxs3 HX0.out; obtain ⟨x1_0, x1_1, x1_2, x1_3, x1_4, x1_5, x1_6, x1_7⟩ := boxs8 HX1.out; obtain ⟨x2_0, x2_1, x2_2, x2_3, x2_4⟩ := boxs5 HX2.out; obtain ⟨x3_0, x3_1, x3_2, x3_3, x3_4, x3_5, x3_6, x3_7, x3_8, x3_9⟩ := boxs10 HX3.out; obtain ⟨x4_0, x4_1, x4_2, x4_3, x4_4, x4_5, x4_6, x4_7, x4_8, x4_9⟩ := boxs10 HX4.out; obtain ⟨x5_0, x5_1, x5_2⟩ := boxs3 HX5.out; clear hb2)
    | (go_at_call 16; (with_reducible refine (C4.out _).mono ?_); rintro e u4 ⟨rfl, hb2⟩; have HB0 := Lib.hid (HB0.out.trans (hb2.mono HB0.out.size)); have HX0 := Lib.hid ((hb2.block _ hl0).trans HX0.out); have hl0 := Nat.lt_of_lt_of_le hl0 hb2.size; have HX1 := Lib.hid ((hb2.block _ hl1).trans HX1.out); have hl1 := Nat.lt_of_lt_of_le hl1 hb2.size; have HX2 := Lib.hid ((hb2.block _ hl2).trans HX2.out); have hl2 := Nat.lt_of_lt_of_le hl2 hb2.size; have HX3 := Lib.hid ((hb2.block _ hl3).trans HX3.out); have hl3 := Nat.lt_of_lt_of_le hl3 hb2.size; have HX4 := Lib.hid ((hb2.block _ hl4).trans HX4.out); have hl4 := Nat.lt_of_lt_of_le hl4 hb2.size; have HX5 := Lib.hid ((hb2.block _ hl5).trans HX5.out); have hl5 := Nat.lt_of_lt_of_le hl5 hb2.size; obtain ⟨x0_0, x0_1, x0_2⟩ := boxs3 HX0.out; obtain ⟨x1_0, x1_1, x1_2, x1_3, x1_4, x1_5, x1_6, x1_7⟩ := boxs8 HX1.out; obtain ⟨x2_0, x2_1, x2_2, x2_3, x2_4⟩ := boxs5 HX2.out; obtain ⟨x3_0, x3_1, x3_2, x3_3, x3_4, x3_5, x3_6, x3_7, x3_8, x3_9⟩ := boxs10 HX3.out; obtain ⟨x4_0, x4_1, x4_2, x4_3, x4_4, x4_5, x4_6, x4_7, x4_8, x4_9⟩ := boxs10 HX4.out; obtain ⟨x5_0, x5_1, x5_2⟩ := boxs3 HX5.out; clear hb2)
    | (go_at_call 18; (with_reducible refine (C5.out _).mono ?_); rintro e u5 ⟨rfl, hb2⟩; have HB0 := Lib.hid (HB0.out.trans (hb2.mono HB0.out.size)); have HX0 := Lib.hid ((hb2.block _ hl0).trans HX0.out); have hl0 := Nat.lt_of_lt_of_le hl0 hb2.size; have HX1 := Lib.hid ((hb2.block _ hl1).trans HX1.out); have hl1 := Nat.lt_of_lt_of_le hl1 hb2.size; have HX2 := Lib.hid ((hb2.block _ hl2).trans HX2.out); have hl2 := Nat.lt_of_lt_of_le hl2 hb2.size; have HX3 := Lib.hid ((hb2.block _ hl3).trans HX3.out); have hl3 := Nat.lt_of_lt_of_le hl3 hb2.size; have HX4 := Lib.hid ((hb2.block _ hl4).trans HX4.out); have hl4 := Nat.lt_of_lt_of_le hl4 hb2.size; have HX5 := Lib.hid ((hb2.block _ hl5).trans HX5.out); have hl5 := Nat.lt_of_lt_of_le hl5 hb2.size; obtain ⟨x0_0, x0_1, x0_2⟩ := boxs3 HX0.out; obtain ⟨x1_0, x1_1, x1_2, x1_3, x1_4, x1_5, x1_6, x1_7⟩ := boxs8 HX1.out; obtain ⟨x2_0, x2_1, x2_2, x2_3, x2_4⟩ := boxs5 HX2.out; obtain ⟨x3_0, x3_1, x3_2, x3_3, x3_4, x3_5, x3_6, x3_7, x3_8, x3_9⟩ := boxs10 HX3.out; obtain ⟨x4_0, x4_1, x4_2, x4_3, x4_4, x4_5, x4_6, x4_7, x4_8, x4_9⟩ := boxs10 HX4.out; obtain ⟨x5_0, x5_1, x5_2⟩ := boxs3 HX5.out; clear hb2))
  go_upto_region 11 with fail
  have hb : Below u5.heap.size u5 ((u5.alloc (.cells #[.string sn, .int .i64 sw, .int .i64 y, .bool sc, .int .i64 s4, .int .i64 s5, .string s6, .slice s7 sl sk] 28)).alloc (.cells #[.string vn, .int .i64 vw, .int .i64 z, .string vt, .slice vp vl vk] 31)) := ((Below.refl _ _).alloc (Nat.le_refl _) _).alloc (by simp) _
  have hx6 : ((u5.alloc (.cells #[.string sn, .int .i64 sw, .int .i64 y, .bool sc, .int .i64 s4, .int .i64 s5, .string s6, .slice s7 sl sk] 28)).alloc (.cells #[.string vn, .int .i64 vw, .int .i64 z, .string vt, .slice vp vl vk] 31)).heap[u5.heap.size]? = some (.cells #[.string sn, .int .i64 sw, .int .i64 y, .bool sc, .int .i64 s4, .int .i64 s5, .string s6, .slice s7 sl sk] 28 (0, 0)) := (Below.heap_alloc _ _ _ (by simp)).trans (heap_alloc_new u5 _)
  have hx7 : ((u5.alloc (.cells #[.string sn, .int .i64 sw, .int .i64 y, .bool sc, .int .i64 s4, .int .i64 s5, .string s6, .slice s7 sl sk] 28)).alloc (.cells #[.string vn, .int .i64 vw, .int .i64 z, .string vt, .slice vp vl vk] 31)).heap[u5.heap.size + 1]? = some (.cells #[.string vn, .int .i64 vw, .int .i64 z, .string vt, .slice vp vl vk] 31 (0, 0)) := by have h := heap_alloc_new (u5.alloc (.cells #[.string sn, .int .i64 sw, .int .i64 y, .bool sc, .int .i64 s4, .int .i64 s5, .string s6, .slice s7 sl sk] 28)) (.cells #[.string vn, .int .i64 vw, .int .i64 z, .string vt, .slice vp vl vk] 31); rw [World.size_alloc] at h; exact h
  obtain ⟨W3, hW3⟩ : ∃ W3, W3 = (u5.alloc (.cells #[.string sn, .int .i64 sw, .int .i64 y, .bool sc, .int .i64 s4, .int .i64 s5, .string s6, .slice s7 sl sk] 28)).alloc (.cells #[.string vn, .int .i64 vw, .int .i64 z, .string vt, .slice vp vl vk] 31) := ⟨_, rfl⟩
  rw [← hW3] at hb hx6 hx7
  obtain ⟨g7, hg7⟩ : ∃ g, g = u5.heap.size + 1 := ⟨_, rfl⟩
  obtain ⟨g6, hg6⟩ : ∃ g, g = u5.heap.size := ⟨_, rfl⟩
  rw [← hg6] at hx6
  rw [← hg7] at hx7
  have hl6 : g6 < W3.heap.size := (Array.getElem?_eq_some_iff.1 hx6).1
  have hl7 : g7 < W3.heap.size := (Array.getElem?_eq_some_iff.1 hx7).1
  have HB0 := Lib.hid (HB0.out.trans (hb.mono HB0.out.size))
  have HX0 := Lib.hid ((hb.block _ hl0).trans HX0.out)
  have hl0 := Nat.lt_of_lt_of_le hl0 hb.size
  have HX1 := Lib.hid ((hb.block _ hl1).trans HX1.out)
  have hl1 := Nat.lt_of_lt_of_le hl1 hb.size
  have HX2 := Lib.hid ((hb.block _ hl2).trans HX2.out)
  have hl2 := Nat.lt_of_lt_of_le hl2 hb.size
  have HX3 := Lib.hid ((hb.block _ hl3).trans HX3.out)
  have hl3 := Nat.lt_of_lt_of_le hl3 hb.size
  have HX4 := Lib.hid ((hb.block _ hl4).trans HX4.out)
  have hl4 := Nat.lt_of_lt_of_le hl4 hb.size
  have HX5 := Lib.hid ((hb.block _ hl5).trans HX5.out)
  have hl5 := Nat.lt_of_lt_of_le hl5 hb.size
  obtain ⟨x0_0, x0_1, x0_2⟩ := boxs3 HX0.out
  obtain ⟨x1_0, x1_1, x1_2, x1_3, x1_4, x1_5, x1_6, x1_7⟩ := boxs8 HX1.out
  obtain ⟨x2_0, x2_1, x2_2, x2_3, x2_4⟩ := boxs5 HX2.out
  obtain ⟨x3_0, x3_1, x3_2, x3_3, x3_4, x3_5, x3_6, x3_7, x3_8, x3_9⟩ := boxs10 HX3.out
  obtain ⟨x4_0, x4_1, x4_2, x4_3, x4_4, x4_5, x4_6, x4_7, x4_8, x4_9⟩ := boxs10 HX4.out
  obtain ⟨x5_0, x5_1, x5_2⟩ := boxs3 HX5.out
  have HX6 := Lib.hid hx6
  have HX7 := Lib.hid hx7
  have x6_0 : W3.cell? ⟨g6, 0, none⟩ = some (.string sn) := (cell_of_row _ _ 0 _ _ _ HX6.out).trans rfl
  have x6_1 : W3.cell? ⟨g6, 1, none⟩ = some (.int .i64 sw) := (cell_of_row _ _ 1 _ _ _ HX6.out).trans rfl
  have x6_2 : W3.cell? ⟨g6, 2, none⟩ = some (.int .i64 y) := (cell_of_row _ _ 2 _ _ _ HX6.out).trans rfl
  have x6_3 : W3.cell? ⟨g6, 3, none⟩ = some (.bool sc) := (cell_of_row _ _ 3 _ _ _ HX6.out).trans rfl
  have x6_4 : W3.cell? ⟨g6, 4, none⟩ = some (.int .i64 s4) := (cell_of_row _ _ 4 _ _ _ HX6.out).trans rfl
  have x6_5 : W3.cell? ⟨g6, 5, none⟩ = some (.int .i64 s5) := (cell_of_row _ _ 5 _ _ _ HX6.out).trans rfl
  have x6_6 : W3.cell? ⟨g6, 6, none⟩ = some (.string s6) := (cell_of_row _ _ 6 _ _ _ HX6.out).trans rfl
  have x6_7 : W3.cell? ⟨g6, 7, none⟩ = some (.slice s7 sl sk) := (cell_of_row _ _ 7 _ _ _ HX6.out).trans rfl
  have x7_0 : W3.cell? ⟨g7, 0, none⟩ = some (.string vn) := (cell_of_row _ _ 0 _ _ _ HX7.out).trans rfl
  have x7_1 : W3.cell? ⟨g7, 1, none⟩ = some (.int .i64 vw) := (cell_of_row _ _ 1 _ _ _ HX7.out).trans rfl
  have x7_2 : W3.cell? ⟨g7, 2, none⟩ = some (.int .i64 z) := (cell_of_row _ _ 2 _ _ _ HX7.out).trans rfl
  have x7_3 : W3.cell? ⟨g7, 3, none⟩ = some (.string vt) := (cell_of_row _ _ 3 _ _ _ HX7.out).trans rfl
  have x7_4 : W3.cell? ⟨g7, 4, none⟩ = some (.slice vp vl vk) := (cell_of_row _ _ 4 _ _ _ HX7.out).trans rfl
  clear hx6 hx7 hb
  try simp only [World.size_alloc]
  rw [← hW3, ← hg7, ← hg6]
  clear hW3 hg6 hg7
  go_wp2_with (first
    | (go_at_call 12; (with_reducible refine (C0.out _).mono ?_); rintro e t0 ⟨rfl, hb2⟩; have HB0 := Lib.hid (HB0.out.trans (hb2.mono HB0.out.size)); have HX0 := Lib.hid ((hb2.block _ hl0).trans HX0.out); have hl0 := Nat.lt_of_lt_of_le hl0 hb2.size; have HX1 := Lib.hid ((hb2.block _ hl1).trans HX1.out); have hl1 := Nat.lt_of_lt_of_le hl1 hb2.size; have HX2 := Lib.hid ((hb2.block _ hl2).trans HX2.out); have hl2 := Nat.lt_of_lt_of_le hl2 hb2.size; have HX3 := Lib.hid ((hb2.block _ hl3).trans HX3.out); have hl3 := Nat.lt_of_lt_of_le hl3 hb2.size; have HX4 := Lib.hid ((hb2.block _ hl4).trans HX4.out); have hl4 := Nat.lt_of_lt_of_le hl4 hb2.size; have HX5 := Lib.hid ((hb2.block _ hl5).trans HX5.out); have hl5 := Nat.lt_of_lt_of_le hl5 hb2.size; have HX6 := Lib.hid ((hb2.block _ hl6).trans HX6.out); have hl6 := Nat.lt_of_lt_of_le hl6 hb2.size; have HX7 := Lib.hid ((hb2.block _ hl7).trans HX7.out); have hl7 := Nat.lt_of_lt_of_le hl7 hb2.size; obtain ⟨x0_0, x0_1, x0_2⟩ := boxs3 HX0.out; obtain ⟨x1_0, x1_1, x1_2, x1_3, x1_4, x1_5, x1_6, x1_7⟩ := boxs8 HX1.out; obtain ⟨x2_0, x2_1, x2_2, x2_3, x2_4⟩ := boxs5 HX2.out; obtain ⟨x3_0, x3_1, x3_2, x3_3, x3_4, x3_5, x3_6, x3_7, x3_8, x3_9⟩ := boxs10 HX3.out; obtain ⟨x4_0, x4_1, x4_2, x4_3, x4_4, x4_5, x4_6, x4_7, x4_8, x4_9⟩ := boxs10 HX4.out; obtain ⟨x5_0, x5_1, x5_2⟩ := boxs3 HX5.out; obtain ⟨x6_0, x6_1, x6_2, x6_3, x6_4, x6_5, x6_6, x6_7⟩ := boxs8 HX6.out; obtain ⟨x7_0, x7_1, x7_2, x7_3, x7_4⟩ := boxs5 HX7.out; clear hb2)
    | (go_at_call 14; (with_reducible refine (C1.out _).mono ?_); rintro e t1 ⟨rfl, hb2⟩; have HB0 := Lib.hid (HB0.out.trans (hb2.mono HB0.out.size)); have HX0 := Lib.hid ((hb2.block _ hl0).trans HX0.out); have hl0 := Nat.lt_of_lt_of_le hl0 hb2.size; have HX1 := Lib.hid ((hb2.block _ hl1).trans HX1.out); have hl1 := Nat.lt_of_lt_of_le hl1 hb2.size; have HX2 := Lib.hid ((hb2.block _ hl2).trans HX2.out); have hl2 := Nat.lt_of_lt_of_le hl2 hb2.size; have HX3 := Lib.hid ((hb2.block _ hl3).trans HX3.out); have hl3 := Nat.lt_of_lt_of_le hl3 hb2.size; have HX4 := Lib.hid ((hb2.block _ hl4).trans HX4.out); have hl4 := Nat.lt_of_lt_of_le hl4 hb2.size; have HX5 := Lib.hid ((hb2.block _ hl5).trans HX5.out); have hl5 := Nat.lt_of_lt_of_le hl5 hb2.size; have HX6 := Lib.hid ((hb2.block _ hl6).trans HX6.out); have hl6 := Nat.lt_of_lt_of_le hl6 hb2.size; have HX7 := Lib.hid ((hb2.block _ hl7).trans HX7.out); have hl7 := Nat.lt_of_lt_of_le hl7 hb2.size; obtain ⟨x0_0, x0_1, x0_2⟩ := boxs3 HX0.out; obtain ⟨x1_0, x1_1, x1_2, x1_3, x1_4, x1_5, x1_6, x1_7⟩ := boxs8 HX1.out; obtain ⟨x2_0, x2_1, x2_2, x2_3, x2_4⟩ := boxs5 HX2.out; obtain ⟨x3_0, x3_1, x3_2, x3_3, x3_4, x3_5, x3_6, x3_7, x3_8, x3_9⟩ := boxs10 HX3.out; obtain ⟨x4_0, x4_1, x4_2, x4_3, x4_4, x4_5, x4_6, x4_7, x4_8, x4_9⟩ := boxs10 HX4.out; obtain ⟨x5_0, x5_1, x5_2⟩ := boxs3 HX5.out; obtain ⟨x6_0, x6_1, x6_2, x6_3, x6_4, x6_5, x6_6, x6_7⟩ := boxs8 HX6.out; obtain ⟨x7_0, x7_1, x7_2, x7_3, x7_4⟩ := boxs5 HX7.out; clear hb2)
    | (go_at_call 14; (with_reducible refine (C6.out _).mono ?_); rintro e t2 ⟨rfl, hb2⟩; have HB0 := Lib.hid (HB0.out.trans (hb2.mono HB0.out.size)); have HX0 := Lib.hid ((hb2.block _ hl0).trans HX0.out); have hl0 := Nat.lt_of_lt_of_le hl0 hb2.size; have HX1 := Lib.hid ((hb2.block _ hl1).trans HX1.out); have hl1 := Nat.lt_of_lt_of_le hl1 hb2.size; have HX2 := Lib.hid ((hb2.block _ hl2).trans HX2.out); have hl2 := Nat.lt_of_lt_of_le hl2 hb2.size; have HX3 := Lib.hid ((hb2.block _ hl3).trans HX3.out); have hl3 := Nat.lt_of_lt_of_le hl3 hb2.size; have HX4 := Lib.hid ((hb2.block _ hl4).trans HX4.out); have hl4 := Nat.lt_of_lt_of_le hl4 hb2.size; have HX5 := Lib.hid ((hb2.block _ hl5).trans HX5.out); have hl5 := Nat.lt_of_lt_of_le hl5 hb2.size; have HX6 := Lib.hid ((hb2.block _ hl6).trans HX6.out); have hl6 := Nat.lt_of_lt_of_le hl6 hb2.size; have HX7 := Lib.hid ((hb2.block _ hl7).trans HX7.out); have hl7 := Nat.lt_of_lt_of_le hl7 hb2.size; obtain ⟨x0_0, x0_1, x0_2⟩ := boxs3 HX0.out; obtain ⟨x1_0, x1_1, x1_2, x1_3, x1_4, x1_5, x1_6, x1_7⟩ := boxs8 HX1.out; obtain ⟨x2_0, x2_1, x2_2, x2_3, x2_4⟩ := boxs5 HX2.out; obtain ⟨x3_0, x3_1, x3_2, x3_3, x3_4, x3_5, x3_6, x3_7, x3_8, x3_9⟩ := boxs10 HX3.out; obtain ⟨x4_0, x4_1, x4_2, x4_3, x4_4, x4_5, x4_6, x4_7, x4_8, x4_9⟩ := boxs10 HX4.out; obtain ⟨x5_0, x5_1, x5_2⟩ := boxs3 HX5.out; obtain ⟨x6_0, x6_1, x6_2, x6_3, x6_4, x6_5, x6_6, x6_7⟩ := boxs8 HX6.out; obtain ⟨x7_0, x7_1, x7_2, x7_3, x7_4⟩ := boxs5 HX7.out; clear hb2))
  go_ret
  exact ⟨rfl, HB0.out⟩
set_option maxHeartbeats 8000000 in
theorem more_ftft (id : Int) (wz pg : Bool) (op x : Int) (sn s6 : ByteArray) (sw sb s4 s5 : Int) (sc : Bool) (s7 : Option Addr) (sl sk : Nat) (vn vt : ByteArray) (vw vb : Int) (vp : Option Addr) (vl vk : Nat) (oi oe ow ol of oq : Int) (on od os ov : Value) (pi pp pw pl pf pq : Int) (pn pd ps pv : Value) (w : World) (hS : slotB id wz op sw sb = false) (hV : verbB id wz pg op vw vb = true) (hO : objB id wz pg op ow of = false) (hT : twoB id wz pg op oi ow pf pw = true) : Calls Try.prog 4 #[.agg #[.int .i64 id, .bool wz, .bool pg], .int .i64 op, .int .i64 x, .agg #[.string sn, .int .i64 sw, .int .i64 sb, .bool sc, .int .i64 s4, .int .i64 s5, .string s6, .slice s7 sl sk], .agg #[.string vn, .int .i64 vw, .int .i64 vb, .string vt, .slice vp vl vk], .agg #[.int .i64 oi, .int .i64 oe, .int .i64 ow, .int .i64 ol, .int .i64 of, .int .i64 oq, on, od, os, ov], .agg #[.int .i64 pi, .int .i64 pp, .int .i64 pw, .int .i64 pl, .int .i64 pf, .int .i64 pq, pn, pd, ps, pv]] w fun e w' => e = .returned (.bool true) ∧ Below w.heap.size w w' := by
  obtain ⟨W1, hW1⟩ : ∃ W1, W1 = (((((w.alloc (.cells #[.int .i64 id, .bool wz, .bool pg] 23)).alloc (.cells #[.string sn, .int .i64 sw, .int .i64 sb, .bool sc, .int .i64 s4, .int .i64 s5, .string s6, .slice s7 sl sk] 28)).alloc (.cells #[.string vn, .int .i64 vw, .int .i64 vb, .string vt, .slice vp vl vk] 31)).alloc (.cells #[.int .i64 oi, .int .i64 oe, .int .i64 ow, .int .i64 ol, .int .i64 of, .int .i64 oq, on, od, os, ov] 36)).alloc (.cells #[.int .i64 pi, .int .i64 pp, .int .i64 pw, .int .i64 pl, .int .i64 pf, .int .i64 pq, pn, pd, ps, pv] 36)) := ⟨_, rfl⟩
  have hb0 : Below w.heap.size w W1 := hW1 ▸ (((((Below.refl w.heap.size w).alloc (Nat.le_refl _) _).alloc (by simp) _).alloc (by simp; omega) _).alloc (by simp; omega) _).alloc (by simp; omega) _
  have hx0 : W1.heap[w.heap.size]? = some (.cells #[.int .i64 id, .bool wz, .bool pg] 23 (0, 0)) := by
    have h := heap_alloc_new w (.cells #[.int .i64 id, .bool wz, .bool pg] 23)
    rw [hW1]
    rw [Below.heap_alloc _ _ _ (by simp only [World.size_alloc]; omega)]
    rw [Below.heap_alloc _ _ _ (by simp only [World.size_alloc]; omega)]
    rw [Below.heap_alloc _ _ _ (by simp only [World.size_alloc]; omega)]
    rw [Below.heap_alloc _ _ _ (by simp only [World.size_alloc]; omega)]
    exact h
  have hx1 : W1.heap[w.heap.size + 1]? = some (.cells #[.string sn, .int .i64 sw, .int .i64 sb, .bool sc, .int .i64 s4, .int .i64 s5, .string s6, .slice s7 sl sk] 28 (0, 0)) := by
    have h := heap_alloc_new (w.alloc (.cells #[.int .i64 id, .bool wz, .bool pg] 23)) (.cells #[.string sn, .int .i64 sw, .int .i64 sb, .bool sc, .int .i64 s4, .int .i64 s5, .string s6, .slice s7 sl sk] 28)
    simp only [World.size_alloc] at h
    rw [hW1]
    rw [Below.heap_alloc _ _ _ (by simp only [World.size_alloc]; omega)]
    rw [Below.heap_alloc _ _ _ (by simp only [World.size_alloc]; omega)]
    rw [Below.heap_alloc _ _ _ (by simp only [World.size_alloc]; omega)]
    exact h
  have hx2 : W1.heap[w.heap.size + 2]? = some (.cells #[.string vn, .int .i64 vw, .int .i64 vb, .string vt, .slice vp vl vk] 31 (0, 0)) := by
    have h := heap_alloc_new ((w.alloc (.cells #[.int .i64 id, .bool wz, .bool pg] 23)).alloc (.cells #[.string sn, .int .i64 sw, .int .i64 sb, .bool sc, .int .i64 s4, .int .i64 s5, .string s6, .slice s7 sl sk] 28)) (.cells #[.string vn, .int .i64 vw, .int .i64 vb, .string vt, .slice vp vl vk] 31)
    simp only [World.size_alloc] at h
    rw [hW1]
    rw [Below.heap_alloc _ _ _ (by simp only [World.size_alloc]; omega)]
    rw [Below.heap_alloc _ _ _ (by simp only [World.size_alloc]; omega)]
    exact h
  have hx3 : W1.heap[w.heap.size + 3]? = some (.cells #[.int .i64 oi, .int .i64 oe, .int .i64 ow, .int .i64 ol, .int .i64 of, .int .i64 oq, on, od, os, ov] 36 (0, 0)) := by
    have h := heap_alloc_new (((w.alloc (.cells #[.int .i64 id, .bool wz, .bool pg] 23)).alloc (.cells #[.string sn, .int .i64 sw, .int .i64 sb, .bool sc, .int .i64 s4, .int .i64 s5, .string s6, .slice s7 sl sk] 28)).alloc (.cells #[.string vn, .int .i64 vw, .int .i64 vb, .string vt, .slice vp vl vk] 31)) (.cells #[.int .i64 oi, .int .i64 oe, .int .i64 ow, .int .i64 ol, .int .i64 of, .int .i64 oq, on, od, os, ov] 36)
    simp only [World.size_alloc] at h
    rw [hW1]
    rw [Below.heap_alloc _ _ _ (by simp only [World.size_alloc]; omega)]
    exact h
  have hx4 : W1.heap[w.heap.size + 4]? = some (.cells #[.int .i64 pi, .int .i64 pp, .int .i64 pw, .int .i64 pl, .int .i64 pf, .int .i64 pq, pn, pd, ps, pv] 36 (0, 0)) := by
    have h := heap_alloc_new ((((w.alloc (.cells #[.int .i64 id, .bool wz, .bool pg] 23)).alloc (.cells #[.string sn, .int .i64 sw, .int .i64 sb, .bool sc, .int .i64 s4, .int .i64 s5, .string s6, .slice s7 sl sk] 28)).alloc (.cells #[.string vn, .int .i64 vw, .int .i64 vb, .string vt, .slice vp vl vk] 31)).alloc (.cells #[.int .i64 oi, .int .i64 oe, .int .i64 ow, .int .i64 ol, .int .i64 of, .int .i64 oq, on, od, os, ov] 36)) (.cells #[.int .i64 pi, .int .i64 pp, .int .i64 pw, .int .i64 pl, .int .i64 pf, .int .i64 pq, pn, pd, ps, pv] 36)
    simp only [World.size_alloc] at h
    rw [hW1]
    exact h
  obtain ⟨g0, hg0⟩ : ∃ g, g = w.heap.size := ⟨_, rfl⟩
  rw [← hg0] at hx0
  have hl0 : g0 < W1.heap.size := (Array.getElem?_eq_some_iff.1 hx0).1
  obtain ⟨g1, hg1⟩ : ∃ g, g = w.heap.size + 1 := ⟨_, rfl⟩
  rw [← hg1] at hx1
  have hl1 : g1 < W1.heap.size := (Array.getElem?_eq_some_iff.1 hx1).1
  obtain ⟨g2, hg2⟩ : ∃ g, g = w.heap.size + 2 := ⟨_, rfl⟩
  rw [← hg2] at hx2
  have hl2 : g2 < W1.heap.size := (Array.getElem?_eq_some_iff.1 hx2).1
  obtain ⟨g3, hg3⟩ : ∃ g, g = w.heap.size + 3 := ⟨_, rfl⟩
  rw [← hg3] at hx3
  have hl3 : g3 < W1.heap.size := (Array.getElem?_eq_some_iff.1 hx3).1
  obtain ⟨g4, hg4⟩ : ∃ g, g = w.heap.size + 4 := ⟨_, rfl⟩
  rw [← hg4] at hx4
  have hl4 : g4 < W1.heap.size := (Array.getElem?_eq_some_iff.1 hx4).1
  have HB0 := Lib.hid hb0
  clear hb0
  have F := Lib.hid (first11_any W1)
  obtain ⟨y, hy⟩ : ∃ y, bits .or .i64 sb x = y := ⟨_, rfl⟩
  obtain ⟨z, hz⟩ : ∃ z, bits .or .i64 vb x = z := ⟨_, rfl⟩
  have hVz : verbB id wz pg op vw z = true := by rw [← hz]; exact verb_or id wz pg op vw vb x hV
  have C0 := Lib.hid (fun W => by have := slot_any id wz pg op (.string sn) (.bool sc) (.int .i64 s4) (.int .i64 s5) (.string s6) (.slice s7 sl sk) sw sb W; rw [hS] at this; exact this)
  have C1 := Lib.hid (fun W => by have := verb_any id wz pg op (.string vn) (.string vt) (.slice vp vl vk) vw vb W; rw [hV] at this; exact this)
  have C2 := Lib.hid (fun W => by have := verb_any id true true op (.string vn) (.string vt) (.slice vp vl vk) vw vb W; rw [verb_all id wz pg op vw vb hV] at this; exact this)
  have C3 := Lib.hid (fun W => by have := object_any id wz pg op oi oe ow ol of oq on od os ov W; rw [hO] at this; exact this)
  have C4 := Lib.hid (fun W => by have := two_any id wz pg op oi oe ow ol of oq on od os ov pi pp pw pl pf pq pn pd ps pv W; rw [hT] at this; exact this)
  have C5 := Lib.hid (fun W => by have := two_any id true true op oi oe ow ol of oq on od os ov pi pp pw pl pf pq pn pd ps pv W; rw [two_all id wz pg op oi ow pf pw hT] at this; exact this)
  have C6 := Lib.hid (fun W => by have := verb_any id wz pg op (.string vn) (.string vt) (.slice vp vl vk) vw z W; rw [hVz] at this; exact this)
  clear hS hV hO hT hVz
  have x0_0 : W1.cell? ⟨g0, 0, none⟩ = some (.int .i64 id) := (cell_of_row _ _ 0 _ _ _ hx0).trans rfl
  have x0_1 : W1.cell? ⟨g0, 1, none⟩ = some (.bool wz) := (cell_of_row _ _ 1 _ _ _ hx0).trans rfl
  have x0_2 : W1.cell? ⟨g0, 2, none⟩ = some (.bool pg) := (cell_of_row _ _ 2 _ _ _ hx0).trans rfl
  have x1_0 : W1.cell? ⟨g1, 0, none⟩ = some (.string sn) := (cell_of_row _ _ 0 _ _ _ hx1).trans rfl
  have x1_1 : W1.cell? ⟨g1, 1, none⟩ = some (.int .i64 sw) := (cell_of_row _ _ 1 _ _ _ hx1).trans rfl
  have x1_2 : W1.cell? ⟨g1, 2, none⟩ = some (.int .i64 sb) := (cell_of_row _ _ 2 _ _ _ hx1).trans rfl
  have x1_3 : W1.cell? ⟨g1, 3, none⟩ = some (.bool sc) := (cell_of_row _ _ 3 _ _ _ hx1).trans rfl
  have x1_4 : W1.cell? ⟨g1, 4, none⟩ = some (.int .i64 s4) := (cell_of_row _ _ 4 _ _ _ hx1).trans rfl
  have x1_5 : W1.cell? ⟨g1, 5, none⟩ = some (.int .i64 s5) := (cell_of_row _ _ 5 _ _ _ hx1).trans rfl
  have x1_6 : W1.cell? ⟨g1, 6, none⟩ = some (.string s6) := (cell_of_row _ _ 6 _ _ _ hx1).trans rfl
  have x1_7 : W1.cell? ⟨g1, 7, none⟩ = some (.slice s7 sl sk) := (cell_of_row _ _ 7 _ _ _ hx1).trans rfl
  have x2_0 : W1.cell? ⟨g2, 0, none⟩ = some (.string vn) := (cell_of_row _ _ 0 _ _ _ hx2).trans rfl
  have x2_1 : W1.cell? ⟨g2, 1, none⟩ = some (.int .i64 vw) := (cell_of_row _ _ 1 _ _ _ hx2).trans rfl
  have x2_2 : W1.cell? ⟨g2, 2, none⟩ = some (.int .i64 vb) := (cell_of_row _ _ 2 _ _ _ hx2).trans rfl
  have x2_3 : W1.cell? ⟨g2, 3, none⟩ = some (.string vt) := (cell_of_row _ _ 3 _ _ _ hx2).trans rfl
  have x2_4 : W1.cell? ⟨g2, 4, none⟩ = some (.slice vp vl vk) := (cell_of_row _ _ 4 _ _ _ hx2).trans rfl
  have x3_0 : W1.cell? ⟨g3, 0, none⟩ = some (.int .i64 oi) := (cell_of_row _ _ 0 _ _ _ hx3).trans rfl
  have x3_1 : W1.cell? ⟨g3, 1, none⟩ = some (.int .i64 oe) := (cell_of_row _ _ 1 _ _ _ hx3).trans rfl
  have x3_2 : W1.cell? ⟨g3, 2, none⟩ = some (.int .i64 ow) := (cell_of_row _ _ 2 _ _ _ hx3).trans rfl
  have x3_3 : W1.cell? ⟨g3, 3, none⟩ = some (.int .i64 ol) := (cell_of_row _ _ 3 _ _ _ hx3).trans rfl
  have x3_4 : W1.cell? ⟨g3, 4, none⟩ = some (.int .i64 of) := (cell_of_row _ _ 4 _ _ _ hx3).trans rfl
  have x3_5 : W1.cell? ⟨g3, 5, none⟩ = some (.int .i64 oq) := (cell_of_row _ _ 5 _ _ _ hx3).trans rfl
  have x3_6 : W1.cell? ⟨g3, 6, none⟩ = some (on) := (cell_of_row _ _ 6 _ _ _ hx3).trans rfl
  have x3_7 : W1.cell? ⟨g3, 7, none⟩ = some (od) := (cell_of_row _ _ 7 _ _ _ hx3).trans rfl
  have x3_8 : W1.cell? ⟨g3, 8, none⟩ = some (os) := (cell_of_row _ _ 8 _ _ _ hx3).trans rfl
  have x3_9 : W1.cell? ⟨g3, 9, none⟩ = some (ov) := (cell_of_row _ _ 9 _ _ _ hx3).trans rfl
  have x4_0 : W1.cell? ⟨g4, 0, none⟩ = some (.int .i64 pi) := (cell_of_row _ _ 0 _ _ _ hx4).trans rfl
  have x4_1 : W1.cell? ⟨g4, 1, none⟩ = some (.int .i64 pp) := (cell_of_row _ _ 1 _ _ _ hx4).trans rfl
  have x4_2 : W1.cell? ⟨g4, 2, none⟩ = some (.int .i64 pw) := (cell_of_row _ _ 2 _ _ _ hx4).trans rfl
  have x4_3 : W1.cell? ⟨g4, 3, none⟩ = some (.int .i64 pl) := (cell_of_row _ _ 3 _ _ _ hx4).trans rfl
  have x4_4 : W1.cell? ⟨g4, 4, none⟩ = some (.int .i64 pf) := (cell_of_row _ _ 4 _ _ _ hx4).trans rfl
  have x4_5 : W1.cell? ⟨g4, 5, none⟩ = some (.int .i64 pq) := (cell_of_row _ _ 5 _ _ _ hx4).trans rfl
  have x4_6 : W1.cell? ⟨g4, 6, none⟩ = some (pn) := (cell_of_row _ _ 6 _ _ _ hx4).trans rfl
  have x4_7 : W1.cell? ⟨g4, 7, none⟩ = some (pd) := (cell_of_row _ _ 7 _ _ _ hx4).trans rfl
  have x4_8 : W1.cell? ⟨g4, 8, none⟩ = some (ps) := (cell_of_row _ _ 8 _ _ _ hx4).trans rfl
  have x4_9 : W1.cell? ⟨g4, 9, none⟩ = some (pv) := (cell_of_row _ _ 9 _ _ _ hx4).trans rfl
  have HX0 := Lib.hid hx0
  clear hx0
  have HX1 := Lib.hid hx1
  clear hx1
  have HX2 := Lib.hid hx2
  clear hx2
  have HX3 := Lib.hid hx3
  clear hx3
  have HX4 := Lib.hid hx4
  clear hx4
  go_enter Try.func4, Try.ntmps4
  go_upto_region 1 with fail
  try simp only [World.size_alloc]
  rw [← hW1, ← hg4, ← hg3, ← hg2, ← hg1, ← hg0]
  clear hW1 hg0 hg1 hg2 hg3 hg4
  go_upto_region 5 with (go_at_call 8; refine F.out.mono ?_; rintro e w1 ⟨rfl, hb1⟩; have HB0 := Lib.hid (HB0.out.trans (hb1.mono HB0.out.size)); have HX0 := Lib.hid ((hb1.block _ hl0).trans HX0.out); have hl0 := Nat.lt_of_lt_of_le hl0 hb1.size; have HX1 := Lib.hid ((hb1.block _ hl1).trans HX1.out); have hl1 := Nat.lt_of_lt_of_le hl1 hb1.size; have HX2 := Lib.hid ((hb1.block _ hl2).trans HX2.out); have hl2 := Nat.lt_of_lt_of_le hl2 hb1.size; have HX3 := Lib.hid ((hb1.block _ hl3).trans HX3.out); have hl3 := Nat.lt_of_lt_of_le hl3 hb1.size; have HX4 := Lib.hid ((hb1.block _ hl4).trans HX4.out); have hl4 := Nat.lt_of_lt_of_le hl4 hb1.size; obtain ⟨x0_0, x0_1, x0_2⟩ := boxs3 HX0.out; obtain ⟨x1_0, x1_1, x1_2, x1_3, x1_4, x1_5, x1_6, x1_7⟩ := boxs8 HX1.out; obtain ⟨x2_0, x2_1, x2_2, x2_3, x2_4⟩ := boxs5 HX2.out; obtain ⟨x3_0, x3_1, x3_2, x3_3, x3_4, x3_5, x3_6, x3_7, x3_8, x3_9⟩ := boxs10 HX3.out; obtain ⟨x4_0, x4_1, x4_2, x4_3, x4_4, x4_5, x4_6, x4_7, x4_8, x4_9⟩ := boxs10 HX4.out; clear hb1)
  have hb : Below w1.heap.size w1 (w1.alloc (.cells #[.int .i64 id, .bool true, .bool true] 23)) := (Below.refl _ _).alloc (Nat.le_refl _) _
  have hx5 := heap_alloc_new w1 (.cells #[.int .i64 id, .bool true, .bool true] 23)
  obtain ⟨W2, hW2⟩ : ∃ W2, W2 = w1.alloc (.cells #[.int .i64 id, .bool true, .bool true] 23) := ⟨_, rfl⟩
  rw [← hW2] at hb hx5
  obtain ⟨g5, hg5⟩ : ∃ g, g = w1.heap.size := ⟨_, rfl⟩
  rw [← hg5] at hx5
  have hl5 : g5 < W2.heap.size := (Array.getElem?_eq_some_iff.1 hx5).1
  have HB0 := Lib.hid (HB0.out.trans (hb.mono HB0.out.size))
  have HX0 := Lib.hid ((hb.block _ hl0).trans HX0.out)
  have hl0 := Nat.lt_of_lt_of_le hl0 hb.size
  have HX1 := Lib.hid ((hb.block _ hl1).trans HX1.out)
  have hl1 := Nat.lt_of_lt_of_le hl1 hb.size
  have HX2 := Lib.hid ((hb.block _ hl2).trans HX2.out)
  have hl2 := Nat.lt_of_lt_of_le hl2 hb.size
  have HX3 := Lib.hid ((hb.block _ hl3).trans HX3.out)
  have hl3 := Nat.lt_of_lt_of_le hl3 hb.size
  have HX4 := Lib.hid ((hb.block _ hl4).trans HX4.out)
  have hl4 := Nat.lt_of_lt_of_le hl4 hb.size
  obtain ⟨x0_0, x0_1, x0_2⟩ := boxs3 HX0.out
  obtain ⟨x1_0, x1_1, x1_2, x1_3, x1_4, x1_5, x1_6, x1_7⟩ := boxs8 HX1.out
  obtain ⟨x2_0, x2_1, x2_2, x2_3, x2_4⟩ := boxs5 HX2.out
  obtain ⟨x3_0, x3_1, x3_2, x3_3, x3_4, x3_5, x3_6, x3_7, x3_8, x3_9⟩ := boxs10 HX3.out
  obtain ⟨x4_0, x4_1, x4_2, x4_3, x4_4, x4_5, x4_6, x4_7, x4_8, x4_9⟩ := boxs10 HX4.out
  have HX5 := Lib.hid hx5
  have x5_0 : W2.cell? ⟨g5, 0, none⟩ = some (.int .i64 id) := (cell_of_row _ _ 0 _ _ _ HX5.out).trans rfl
  have x5_1 : W2.cell? ⟨g5, 1, none⟩ = some (.bool true) := (cell_of_row _ _ 1 _ _ _ HX5.out).trans rfl
  have x5_2 : W2.cell? ⟨g5, 2, none⟩ = some (.bool true) := (cell_of_row _ _ 2 _ _ _ HX5.out).trans rfl
  clear hx5 hb
  rw [← hW2, ← hg5]
  clear hW2 hg5
  go_upto_region 7 with (first
    | (go_at_call 12; (with_reducible refine (C0.out _).mono ?_); rintro e u0 ⟨rfl, hb2⟩; have HB0 := Lib.hid (HB0.out.trans (hb2.mono HB0.out.size)); have HX0 := Lib.hid ((hb2.block _ hl0).trans HX0.out); have hl0 := Nat.lt_of_lt_of_le hl0 hb2.size; have HX1 := Lib.hid ((hb2.block _ hl1).trans HX1.out); have hl1 := Nat.lt_of_lt_of_le hl1 hb2.size; have HX2 := Lib.hid ((hb2.block _ hl2).trans HX2.out); have hl2 := Nat.lt_of_lt_of_le hl2 hb2.size; have HX3 := Lib.hid ((hb2.block _ hl3).trans HX3.out); have hl3 := Nat.lt_of_lt_of_le hl3 hb2.size; have HX4 := Lib.hid ((hb2.block _ hl4).trans HX4.out); have hl4 := Nat.lt_of_lt_of_le hl4 hb2.size; have HX5 := Lib.hid ((hb2.block _ hl5).trans HX5.out); have hl5 := Nat.lt_of_lt_of_le hl5 hb2.size; obtain ⟨x0_0, x0_1, x0_2⟩ := boxs3 HX0.out; obtain ⟨x1_0, x1_1, x1_2, x1_3, x1_4, x1_5, x1_6, x1_7⟩ := boxs8 HX1.out; obtain ⟨x2_0, x2_1, x2_2, x2_3, x2_4⟩ := boxs5 HX2.out; obtain ⟨x3_0, x3_1, x3_2, x3_3, x3_4, x3_5, x3_6, x3_7, x3_8, x3_9⟩ := boxs10 HX3.out; obtain ⟨x4_0, x4_1, x4_2, x4_3, x4_4, x4_5, x4_6, x4_7, x4_8, x4_9⟩ := boxs10 HX4.out; obtain ⟨x5_0, x5_1, x5_2⟩ := boxs3 HX5.out; clear hb2)
    | (go_at_call 14; (with_reducible refine (C1.out _).mono ?_); rintro e u1 ⟨rfl, hb2⟩; have HB0 := Lib.hid (HB0.out.trans (hb2.mono HB0.out.size)); have HX0 := Lib.hid ((hb2.block _ hl0).trans HX0.out); have hl0 := Nat.lt_of_lt_of_le hl0 hb2.size; have HX1 := Lib.hid ((hb2.block _ hl1).trans HX1.out); have hl1 := Nat.lt_of_lt_of_le hl1 hb2.size; have HX2 := Lib.hid ((hb2.block _ hl2).trans HX2.out); have hl2 := Nat.lt_of_lt_of_le hl2 hb2.size; have HX3 := Lib.hid ((hb2.block _ hl3).trans HX3.out); have hl3 := Nat.lt_of_lt_of_le hl3 hb2.size; have HX4 := Lib.hid ((hb2.block _ hl4).trans HX4.out); have hl4 := Nat.lt_of_lt_of_le hl4 hb2.size; have HX5 := Lib.hid ((hb2.block _ hl5).trans HX5.out); have hl5 := Nat.lt_of_lt_of_le hl5 hb2.size; obtain ⟨x0_0, x0_1, x0_2⟩ := boxs3 HX0.out; obtain ⟨x1_0, x1_1, x1_2, x1_3, x1_4, x1_5, x1_6, x1_7⟩ := boxs8 HX1.out; obtain ⟨x2_0, x2_1, x2_2, x2_3, x2_4⟩ := boxs5 HX2.out; obtain ⟨x3_0, x3_1, x3_2, x3_3, x3_4, x3_5, x3_6, x3_7, x3_8, x3_9⟩ := boxs10 HX3.out; obtain ⟨x4_0, x4_1, x4_2, x4_3, x4_4, x4_5, x4_6, x4_7, x4_8, x4_9⟩ := boxs10 HX4.out; obtain ⟨x5_0, x5_1, x5_2⟩ := boxs3 HX5.out; clear hb2)
    | (go_at_call 14; (with_reducible refine (C2.out _).mono ?_); rintro e u2 ⟨rfl, hb2⟩; have HB0 := Lib.hid (HB0.out.trans (hb2.mono HB0.out.size)); have HX0 := Lib.hid ((hb2.block _ hl0).trans HX0.out); have hl0 := Nat.lt_of_lt_of_le hl0 hb2.size; have HX1 := Lib.hid ((hb2.block _ hl1).trans HX1.out); have hl1 := Nat.lt_of_lt_of_le hl1 hb2.size; have HX2 := Lib.hid ((hb2.block _ hl2).trans HX2.out); have hl2 := Nat.lt_of_lt_of_le hl2 hb2.size; have HX3 := Lib.hid ((hb2.block _ hl3).trans HX3.out); have hl3 := Nat.lt_of_lt_of_le hl3 hb2.size; have HX4 := Lib.hid ((hb2.block _ hl4).trans HX4.out); have hl4 := Nat.lt_of_lt_of_le hl4 hb2.size; have HX5 := Lib.hid ((hb2.block _ hl5).trans HX5.out); have hl5 := Nat.lt_of_lt_of_le hl5 hb2.size; obtain ⟨x0_0, x0_1, x0_2⟩ := boxs3 HX0.out; obtain ⟨x1_0, x1_1, x1_2, x1_3, x1_4, x1_5, x1_6, x1_7⟩ := boxs8 HX1.out; obtain ⟨x2_0, x2_1, x2_2, x2_3, x2_4⟩ := boxs5 HX2.out; obtain ⟨x3_0, x3_1, x3_2, x3_3, x3_4, x3_5, x3_6, x3_7, x3_8, x3_9⟩ := boxs10 HX3.out; obtain ⟨x4_0, x4_1, x4_2, x4_3, x4_4, x4_5, x4_6, x4_7, x4_8, x4_9⟩ := boxs10 HX4.out; obtain ⟨x5_0, x5_1, x5_2⟩ := boxs3 HX5.out; clear hb2)
    | (go_at_call 16; (with_reducible refine (C3.out _).mono ?_); rintro e u3 ⟨rfl, hb2⟩; have HB0 := Lib.hid (HB0.out.trans (hb2.mono HB0.out.size)); have HX0 := Lib.hid ((hb2.block _ hl0).trans HX0.out); have hl0 := Nat.lt_of_lt_of_le hl0 hb2.size; have HX1 := Lib.hid ((hb2.block _ hl1).trans HX1.out); have hl1 := Nat.lt_of_lt_of_le hl1 hb2.size; have HX2 := Lib.hid ((hb2.block _ hl2).trans HX2.out); have hl2 := Nat.lt_of_lt_of_le hl2 hb2.size; have HX3 := Lib.hid ((hb2.block _ hl3).trans HX3.out); have hl3 := Nat.lt_of_lt_of_le hl3 hb2.size; have HX4 := Lib.hid ((hb2.block _ hl4).trans HX4.out); have hl4 := Nat.lt_of_lt_of_le hl4 hb2.size; have HX5 := Lib.hid ((hb2.block _ hl5).trans HX5.out); have hl5 := Nat.lt_of_lt_of_le hl5 hb2.size; obtain ⟨x0_0, x0_1, x0_2⟩ := boxs3 HX0.out; obtain ⟨x1_0, x1_1, x1_2, x1_3, x1_4, x1_5, x1_6, x1_7⟩ := boxs8 HX1.out; obtain ⟨x2_0, x2_1, x2_2, x2_3, x2_4⟩ := boxs5 HX2.out; obtain ⟨x3_0, x3_1, x3_2, x3_3, x3_4, x3_5, x3_6, x3_7, x3_8, x3_9⟩ := boxs10 HX3.out; obtain ⟨x4_0, x4_1, x4_2, x4_3, x4_4, x4_5, x4_6, x4_7, x4_8, x4_9⟩ := boxs10 HX4.out; obtain ⟨x5_0, x5_1, x5_2⟩ := boxs3 HX5.out; clear hb2)
    | (go_at_call 18; (with_reducible refine (C4.out _).mono ?_); rintro e u4 ⟨rfl, hb2⟩; have HB0 := Lib.hid (HB0.out.trans (hb2.mono HB0.out.size)); have HX0 := Lib.hid ((hb2.block _ hl0).trans HX0.out); have hl0 := Nat.lt_of_lt_of_le hl0 hb2.size; have HX1 := Lib.hid ((hb2.block _ hl1).trans HX1.out); have hl1 := Nat.lt_of_lt_of_le hl1 hb2.size; have HX2 := Lib.hid ((hb2.block _ hl2).trans HX2.out); have hl2 := Nat.lt_of_lt_of_le hl2 hb2.size; have HX3 := Lib.hid ((hb2.block _ hl3).trans HX3.out); have hl3 := Nat.lt_of_lt_of_le hl3 hb2.size; have HX4 := Lib.hid ((hb2.block _ hl4).trans HX4.out); have hl4 := Nat.lt_of_lt_of_le hl4 hb2.size; have HX5 := Lib.hid ((hb2.block _ hl5).trans HX5.out); have hl5 := Nat.lt_of_lt_of_le hl5 hb2.size; obtain ⟨x0_0, x0_1, x0_2⟩ := boxs3 HX0.out; obtain ⟨x1_0, x1_1, x1_2, x1_3, x1_4, x1_5, x1_6, x1_7⟩ := boxs8 HX1.out; obtain ⟨x2_0, x2_1, x2_2, x2_3, x2_4⟩ := boxs5 HX2.out; obtain ⟨x3_0, x3_1, x3_2, x3_3, x3_4, x3_5, x3_6, x3_7, x3_8, x3_9⟩ := boxs10 HX3.out; obtain ⟨x4_0, x4_1, x4_2, x4_3, x4_4, x4_5, x4_6, x4_7, x4_8, x4_9⟩ := boxs10 HX4.out; obtain ⟨x5_0, x5_1, x5_2⟩ := boxs3 HX5.out; clear hb2)
    | (go_at_call 18; (with_reducible refine (C5.out _).mono ?_); rintro e u5 ⟨rfl, hb2⟩; have HB0 := Lib.hid (HB0.out.trans (hb2.mono HB0.out.size)); have HX0 := Lib.hid ((hb2.block _ hl0).trans HX0.out); have hl0 := Nat.lt_of_lt_of_le hl0 hb2.size; have HX1 := Lib.hid ((hb2.block _ hl1).trans HX1.out); have hl1 := Nat.lt_of_lt_of_le hl1 hb2.size; have HX2 := Lib.hid ((hb2.block _ hl2).trans HX2.out); have hl2 := Nat.lt_of_lt_of_le hl2 hb2.size; have HX3 := Lib.hid ((hb2.block _ hl3).trans HX3.out); have hl3 := Nat.lt_of_lt_of_le hl3 hb2.size; have HX4 := Lib.hid ((hb2.block _ hl4).trans HX4.out); have hl4 := Nat.lt_of_lt_of_le hl4 hb2.size; have HX5 := Lib.hid ((hb2.block _ hl5).trans HX5.out); have hl5 := Nat.lt_of_lt_of_le hl5 hb2.size; obtain ⟨x0_0, x0_1, x0_2⟩ := boxs3 HX0.out; obtain ⟨x1_0, x1_1, x1_2, x1_3, x1_4, x1_5, x1_6, x1_7⟩ := boxs8 HX1.out; obtain ⟨x2_0, x2_1, x2_2, x2_3, x2_4⟩ := boxs5 HX2.out; obtain ⟨x3_0, x3_1, x3_2, x3_3, x3_4, x3_5, x3_6, x3_7, x3_8, x3_9⟩ := boxs10 HX3.out; obtain ⟨x4_0, x4_1, x4_2, x4_3, x4_4, x4_5, x4_6, x4_7, x4_8, x4_9⟩ := boxs10 HX4.out; obtain ⟨x5_0, x5_1, x5_2⟩ := boxs3 HX5.out; clear hb2))
  go_upto_region 11 with fail
  have hb : Below u5.heap.size u5 ((u5.alloc (.cells #[.string sn, .int .i64 sw, .int .i64 y, .bool sc, .int .i64 s4, .int .i64 s5, .string s6, .slice s7 sl sk] 28)).alloc (.cells #[.string vn, .int .i64 vw, .int .i64 z, .string vt, .slice vp vl vk] 31)) := ((Below.refl _ _).alloc (Nat.le_refl _) _).alloc (by simp) _
  have hx6 : ((u5.alloc (.cells #[.string sn, .int .i64 sw, .int .i64 y, .bool sc, .int .i64 s4, .int .i64 s5, .string s6, .slice s7 sl sk] 28)).alloc (.cells #[.string vn, .int .i64 vw, .int .i64 z, .string vt, .slice vp vl vk] 31)).heap[u5.heap.size]? = some (.cells #[.string sn, .int .i64 sw, .int .i64 y, .bool sc, .int .i64 s4, .int .i64 s5, .string s6, .slice s7 sl sk] 28 (0, 0)) := (Below.heap_alloc _ _ _ (by simp)).trans (heap_alloc_new u5 _)
  have hx7 : ((u5.alloc (.cells #[.string sn, .int .i64 sw, .int .i64 y, .bool sc, .int .i64 s4, .int .i64 s5, .string s6, .slice s7 sl sk] 28)).alloc (.cells #[.string vn, .int .i64 vw, .int .i64 z, .string vt, .slice vp vl vk] 31)).heap[u5.heap.size + 1]? = some (.cells #[.string vn, .int .i64 vw, .int .i64 z, .string vt, .slice vp vl vk] 31 (0, 0)) := by have h := heap_alloc_new (u5.alloc (.cells #[.string sn, .int .i64 sw, .int .i64 y, .bool sc, .int .i64 s4, .int .i64 s5, .string s6, .slice s7 sl sk] 28)) (.cells #[.string vn, .int .i64 vw, .int .i64 z, .string vt, .slice vp vl vk] 31); rw [World.size_alloc] at h; exact h
  obtain ⟨W3, hW3⟩ : ∃ W3, W3 = (u5.alloc (.cells #[.string sn, .int .i64 sw, .int .i64 y, .bool sc, .int .i64 s4, .int .i64 s5, .string s6, .slice s7 sl sk] 28)).alloc (.cells #[.string vn, .int .i64 vw, .int .i64 z, .string vt, .slice vp vl vk] 31) := ⟨_, rfl⟩
  rw [← hW3] at hb hx6 hx7
  obtain ⟨g7, hg7⟩ : ∃ g, g = u5.heap.size + 1 := ⟨_, rfl⟩
  obtain ⟨g6, hg6⟩ : ∃ g, g = u5.heap.size := ⟨_, rfl⟩
  rw [← hg6] at hx6
  rw [← hg7] at hx7
  have hl6 : g6 < W3.heap.size := (Array.getElem?_eq_some_iff.1 hx6).1
  have hl7 : g7 < W3.heap.size := (Array.getElem?_eq_some_iff.1 hx7).1
  have HB0 := Lib.hid (HB0.out.trans (hb.mono HB0.out.size))
  have HX0 := Lib.hid ((hb.block _ hl0).trans HX0.out)
  have hl0 := Nat.lt_of_lt_of_le hl0 hb.size
  have HX1 := Lib.hid ((hb.block _ hl1).trans HX1.out)
  have hl1 := Nat.lt_of_lt_of_le hl1 hb.size
  have HX2 := Lib.hid ((hb.block _ hl2).trans HX2.out)
  have hl2 := Nat.lt_of_lt_of_le hl2 hb.size
  have HX3 := Lib.hid ((hb.block _ hl3).trans HX3.out)
  have hl3 := Nat.lt_of_lt_of_le hl3 hb.size
  have HX4 := Lib.hid ((hb.block _ hl4).trans HX4.out)
  have hl4 := Nat.lt_of_lt_of_le hl4 hb.size
  have HX5 := Lib.hid ((hb.block _ hl5).trans HX5.out)
  have hl5 := Nat.lt_of_lt_of_le hl5 hb.size
  obtain ⟨x0_0, x0_1, x0_2⟩ := boxs3 HX0.out
  obtain ⟨x1_0, x1_1, x1_2, x1_3, x1_4, x1_5, x1_6, x1_7⟩ := boxs8 HX1.out
  obtain ⟨x2_0, x2_1, x2_2, x2_3, x2_4⟩ := boxs5 HX2.out
  obtain ⟨x3_0, x3_1, x3_2, x3_3, x3_4, x3_5, x3_6, x3_7, x3_8, x3_9⟩ := boxs10 HX3.out
  obtain ⟨x4_0, x4_1, x4_2, x4_3, x4_4, x4_5, x4_6, x4_7, x4_8, x4_9⟩ := boxs10 HX4.out
  obtain ⟨x5_0, x5_1, x5_2⟩ := boxs3 HX5.out
  have HX6 := Lib.hid hx6
  have HX7 := Lib.hid hx7
  have x6_0 : W3.cell? ⟨g6, 0, none⟩ = some (.string sn) := (cell_of_row _ _ 0 _ _ _ HX6.out).trans rfl
  have x6_1 : W3.cell? ⟨g6, 1, none⟩ = some (.int .i64 sw) := (cell_of_row _ _ 1 _ _ _ HX6.out).trans rfl
  have x6_2 : W3.cell? ⟨g6, 2, none⟩ = some (.int .i64 y) := (cell_of_row _ _ 2 _ _ _ HX6.out).trans rfl
  have x6_3 : W3.cell? ⟨g6, 3, none⟩ = some (.bool sc) := (cell_of_row _ _ 3 _ _ _ HX6.out).trans rfl
  have x6_4 : W3.cell? ⟨g6, 4, none⟩ = some (.int .i64 s4) := (cell_of_row _ _ 4 _ _ _ HX6.out).trans rfl
  have x6_5 : W3.cell? ⟨g6, 5, none⟩ = some (.int .i64 s5) := (cell_of_row _ _ 5 _ _ _ HX6.out).trans rfl
  have x6_6 : W3.cell? ⟨g6, 6, none⟩ = some (.string s6) := (cell_of_row _ _ 6 _ _ _ HX6.out).trans rfl
  have x6_7 : W3.cell? ⟨g6, 7, none⟩ = some (.slice s7 sl sk) := (cell_of_row _ _ 7 _ _ _ HX6.out).trans rfl
  have x7_0 : W3.cell? ⟨g7, 0, none⟩ = some (.string vn) := (cell_of_row _ _ 0 _ _ _ HX7.out).trans rfl
  have x7_1 : W3.cell? ⟨g7, 1, none⟩ = some (.int .i64 vw) := (cell_of_row _ _ 1 _ _ _ HX7.out).trans rfl
  have x7_2 : W3.cell? ⟨g7, 2, none⟩ = some (.int .i64 z) := (cell_of_row _ _ 2 _ _ _ HX7.out).trans rfl
  have x7_3 : W3.cell? ⟨g7, 3, none⟩ = some (.string vt) := (cell_of_row _ _ 3 _ _ _ HX7.out).trans rfl
  have x7_4 : W3.cell? ⟨g7, 4, none⟩ = some (.slice vp vl vk) := (cell_of_row _ _ 4 _ _ _ HX7.out).trans rfl
  clear hx6 hx7 hb
  try simp only [World.size_alloc]
  rw [← hW3, ← hg7, ← hg6]
  clear hW3 hg6 hg7
  go_wp2_with (first
    | (go_at_call 12; (with_reducible refine (C0.out _).mono ?_); rintro e t0 ⟨rfl, hb2⟩; have HB0 := Lib.hid (HB0.out.trans (hb2.mono HB0.out.size)); have HX0 := Lib.hid ((hb2.block _ hl0).trans HX0.out); have hl0 := Nat.lt_of_lt_of_le hl0 hb2.size; have HX1 := Lib.hid ((hb2.block _ hl1).trans HX1.out); have hl1 := Nat.lt_of_lt_of_le hl1 hb2.size; have HX2 := Lib.hid ((hb2.block _ hl2).trans HX2.out); have hl2 := Nat.lt_of_lt_of_le hl2 hb2.size; have HX3 := Lib.hid ((hb2.block _ hl3).trans HX3.out); have hl3 := Nat.lt_of_lt_of_le hl3 hb2.size; have HX4 := Lib.hid ((hb2.block _ hl4).trans HX4.out); have hl4 := Nat.lt_of_lt_of_le hl4 hb2.size; have HX5 := Lib.hid ((hb2.block _ hl5).trans HX5.out); have hl5 := Nat.lt_of_lt_of_le hl5 hb2.size; have HX6 := Lib.hid ((hb2.block _ hl6).trans HX6.out); have hl6 := Nat.lt_of_lt_of_le hl6 hb2.size; have HX7 := Lib.hid ((hb2.block _ hl7).trans HX7.out); have hl7 := Nat.lt_of_lt_of_le hl7 hb2.size; obtain ⟨x0_0, x0_1, x0_2⟩ := boxs3 HX0.out; obtain ⟨x1_0, x1_1, x1_2, x1_3, x1_4, x1_5, x1_6, x1_7⟩ := boxs8 HX1.out; obtain ⟨x2_0, x2_1, x2_2, x2_3, x2_4⟩ := boxs5 HX2.out; obtain ⟨x3_0, x3_1, x3_2, x3_3, x3_4, x3_5, x3_6, x3_7, x3_8, x3_9⟩ := boxs10 HX3.out; obtain ⟨x4_0, x4_1, x4_2, x4_3, x4_4, x4_5, x4_6, x4_7, x4_8, x4_9⟩ := boxs10 HX4.out; obtain ⟨x5_0, x5_1, x5_2⟩ := boxs3 HX5.out; obtain ⟨x6_0, x6_1, x6_2, x6_3, x6_4, x6_5, x6_6, x6_7⟩ := boxs8 HX6.out; obtain ⟨x7_0, x7_1, x7_2, x7_3, x7_4⟩ := boxs5 HX7.out; clear hb2)
    | (go_at_call 14; (with_reducible refine (C1.out _).mono ?_); rintro e t1 ⟨rfl, hb2⟩; have HB0 := Lib.hid (HB0.out.trans (hb2.mono HB0.out.size)); have HX0 := Lib.hid ((hb2.block _ hl0).trans HX0.out); have hl0 := Nat.lt_of_lt_of_le hl0 hb2.size; have HX1 := Lib.hid ((hb2.block _ hl1).trans HX1.out); have hl1 := Nat.lt_of_lt_of_le hl1 hb2.size; have HX2 := Lib.hid ((hb2.block _ hl2).trans HX2.out); have hl2 := Nat.lt_of_lt_of_le hl2 hb2.size; have HX3 := Lib.hid ((hb2.block _ hl3).trans HX3.out); have hl3 := Nat.lt_of_lt_of_le hl3 hb2.size; have HX4 := Lib.hid ((hb2.block _ hl4).trans HX4.out); have hl4 := Nat.lt_of_lt_of_le hl4 hb2.size; have HX5 := Lib.hid ((hb2.block _ hl5).trans HX5.out); have hl5 := Nat.lt_of_lt_of_le hl5 hb2.size; have HX6 := Lib.hid ((hb2.block _ hl6).trans HX6.out); have hl6 := Nat.lt_of_lt_of_le hl6 hb2.size; have HX7 := Lib.hid ((hb2.block _ hl7).trans HX7.out); have hl7 := Nat.lt_of_lt_of_le hl7 hb2.size; obtain ⟨x0_0, x0_1, x0_2⟩ := boxs3 HX0.out; obtain ⟨x1_0, x1_1, x1_2, x1_3, x1_4, x1_5, x1_6, x1_7⟩ := boxs8 HX1.out; obtain ⟨x2_0, x2_1, x2_2, x2_3, x2_4⟩ := boxs5 HX2.out; obtain ⟨x3_0, x3_1, x3_2, x3_3, x3_4, x3_5, x3_6, x3_7, x3_8, x3_9⟩ := boxs10 HX3.out; obtain ⟨x4_0, x4_1, x4_2, x4_3, x4_4, x4_5, x4_6, x4_7, x4_8, x4_9⟩ := boxs10 HX4.out; obtain ⟨x5_0, x5_1, x5_2⟩ := boxs3 HX5.out; obtain ⟨x6_0, x6_1, x6_2, x6_3, x6_4, x6_5, x6_6, x6_7⟩ := boxs8 HX6.out; obtain ⟨x7_0, x7_1, x7_2, x7_3, x7_4⟩ := boxs5 HX7.out; clear hb2)
    | (go_at_call 14; (with_reducible refine (C6.out _).mono ?_); rintro e t2 ⟨rfl, hb2⟩; have HB0 := Lib.hid (HB0.out.trans (hb2.mono HB0.out.size)); have HX0 := Lib.hid ((hb2.block _ hl0).trans HX0.out); have hl0 := Nat.lt_of_lt_of_le hl0 hb2.size; have HX1 := Lib.hid ((hb2.block _ hl1).trans HX1.out); have hl1 := Nat.lt_of_lt_of_le hl1 hb2.size; have HX2 := Lib.hid ((hb2.block _ hl2).trans HX2.out); have hl2 := Nat.lt_of_lt_of_le hl2 hb2.size; have HX3 := Lib.hid ((hb2.block _ hl3).trans HX3.out); have hl3 := Nat.lt_of_lt_of_le hl3 hb2.size; have HX4 := Lib.hid ((hb2.block _ hl4).trans HX4.out); have hl4 := Nat.lt_of_lt_of_le hl4 hb2.size; have HX5 := Lib.hid ((hb2.block _ hl5).trans HX5.out); have hl5 := Nat.lt_of_lt_of_le hl5 hb2.size; have HX6 := Lib.hid ((hb2.block _ hl6).trans HX6.out); have hl6 := Nat.lt_of_lt_of_le hl6 hb2.size; have HX7 := Lib.hid ((hb2.block _ hl7).trans HX7.out); have hl7 := Nat.lt_of_lt_of_le hl7 hb2.size; obtain ⟨x0_0, x0_1, x0_2⟩ := boxs3 HX0.out; obtain ⟨x1_0, x1_1, x1_2, x1_3, x1_4, x1_5, x1_6, x1_7⟩ := boxs8 HX1.out; obtain ⟨x2_0, x2_1, x2_2, x2_3, x2_4⟩ := boxs5 HX2.out; obtain ⟨x3_0, x3_1, x3_2, x3_3, x3_4, x3_5, x3_6, x3_7, x3_8, x3_9⟩ := boxs10 HX3.out; obtain ⟨x4_0, x4_1, x4_2, x4_3, x4_4, x4_5, x4_6, x4_7, x4_8, x4_9⟩ := boxs10 HX4.out; obtain ⟨x5_0, x5_1, x5_2⟩ := boxs3 HX5.out; obtain ⟨x6_0, x6_1, x6_2, x6_3, x6_4, x6_5, x6_6, x6_7⟩ := boxs8 HX6.out; obtain ⟨x7_0, x7_1, x7_2, x7_3, x7_4⟩ := boxs5 HX7.out; clear hb2))
  go_ret
  exact ⟨rfl, HB0.out⟩
set_option maxHeartbeats 8000000 in
theorem more_ftff (id : Int) (wz pg : Bool) (op x : Int) (sn s6 : ByteArray) (sw sb s4 s5 : Int) (sc : Bool) (s7 : Option Addr) (sl sk : Nat) (vn vt : ByteArray) (vw vb : Int) (vp : Option Addr) (vl vk : Nat) (oi oe ow ol of oq : Int) (on od os ov : Value) (pi pp pw pl pf pq : Int) (pn pd ps pv : Value) (w : World) (hS : slotB id wz op sw sb = false) (hV : verbB id wz pg op vw vb = true) (hO : objB id wz pg op ow of = false) (hT : twoB id wz pg op oi ow pf pw = false) : Calls Try.prog 4 #[.agg #[.int .i64 id, .bool wz, .bool pg], .int .i64 op, .int .i64 x, .agg #[.string sn, .int .i64 sw, .int .i64 sb, .bool sc, .int .i64 s4, .int .i64 s5, .string s6, .slice s7 sl sk], .agg #[.string vn, .int .i64 vw, .int .i64 vb, .string vt, .slice vp vl vk], .agg #[.int .i64 oi, .int .i64 oe, .int .i64 ow, .int .i64 ol, .int .i64 of, .int .i64 oq, on, od, os, ov], .agg #[.int .i64 pi, .int .i64 pp, .int .i64 pw, .int .i64 pl, .int .i64 pf, .int .i64 pq, pn, pd, ps, pv]] w fun e w' => e = .returned (.bool true) ∧ Below w.heap.size w w' := by
  obtain ⟨W1, hW1⟩ : ∃ W1, W1 = (((((w.alloc (.cells #[.int .i64 id, .bool wz, .bool pg] 23)).alloc (.cells #[.string sn, .int .i64 sw, .int .i64 sb, .bool sc, .int .i64 s4, .int .i64 s5, .string s6, .slice s7 sl sk] 28)).alloc (.cells #[.string vn, .int .i64 vw, .int .i64 vb, .string vt, .slice vp vl vk] 31)).alloc (.cells #[.int .i64 oi, .int .i64 oe, .int .i64 ow, .int .i64 ol, .int .i64 of, .int .i64 oq, on, od, os, ov] 36)).alloc (.cells #[.int .i64 pi, .int .i64 pp, .int .i64 pw, .int .i64 pl, .int .i64 pf, .int .i64 pq, pn, pd, ps, pv] 36)) := ⟨_, rfl⟩
  have hb0 : Below w.heap.size w W1 := hW1 ▸ (((((Below.refl w.heap.size w).alloc (Nat.le_refl _) _).alloc (by simp) _).alloc (by simp; omega) _).alloc (by simp; omega) _).alloc (by simp; omega) _
  have hx0 : W1.heap[w.heap.size]? = some (.cells #[.int .i64 id, .bool wz, .bool pg] 23 (0, 0)) := by
    have h := heap_alloc_new w (.cells #[.int .i64 id, .bool wz, .bool pg] 23)
    rw [hW1]
    rw [Below.heap_alloc _ _ _ (by simp only [World.size_alloc]; omega)]
    rw [Below.heap_alloc _ _ _ (by simp only [World.size_alloc]; omega)]
    rw [Below.heap_alloc _ _ _ (by simp only [World.size_alloc]; omega)]
    rw [Below.heap_alloc _ _ _ (by simp only [World.size_alloc]; omega)]
    exact h
  have hx1 : W1.heap[w.heap.size + 1]? = some (.cells #[.string sn, .int .i64 sw, .int .i64 sb, .bool sc, .int .i64 s4, .int .i64 s5, .string s6, .slice s7 sl sk] 28 (0, 0)) := by
    have h := heap_alloc_new (w.alloc (.cells #[.int .i64 id, .bool wz, .bool pg] 23)) (.cells #[.string sn, .int .i64 sw, .int .i64 sb, .bool sc, .int .i64 s4, .int .i64 s5, .string s6, .slice s7 sl sk] 28)
    simp only [World.size_alloc] at h
    rw [hW1]
    rw [Below.heap_alloc _ _ _ (by simp only [World.size_alloc]; omega)]
    rw [Below.heap_alloc _ _ _ (by simp only [World.size_alloc]; omega)]
    rw [Below.heap_alloc _ _ _ (by simp only [World.size_alloc]; omega)]
    exact h
  have hx2 : W1.heap[w.heap.size + 2]? = some (.cells #[.string vn, .int .i64 vw, .int .i64 vb, .string vt, .slice vp vl vk] 31 (0, 0)) := by
    have h := heap_alloc_new ((w.alloc (.cells #[.int .i64 id, .bool wz, .bool pg] 23)).alloc (.cells #[.string sn, .int .i64 sw, .int .i64 sb, .bool sc, .int .i64 s4, .int .i64 s5, .string s6, .slice s7 sl sk] 28)) (.cells #[.string vn, .int .i64 vw, .int .i64 vb, .string vt, .slice vp vl vk] 31)
    simp only [World.size_alloc] at h
    rw [hW1]
    rw [Below.heap_alloc _ _ _ (by simp only [World.size_alloc]; omega)]
    rw [Below.heap_alloc _ _ _ (by simp only [World.size_alloc]; omega)]
    exact h
  have hx3 : W1.heap[w.heap.size + 3]? = some (.cells #[.int .i64 oi, .int .i64 oe, .int .i64 ow, .int .i64 ol, .int .i64 of, .int .i64 oq, on, od, os, ov] 36 (0, 0)) := by
    have h := heap_alloc_new (((w.alloc (.cells #[.int .i64 id, .bool wz, .bool pg] 23)).alloc (.cells #[.string sn, .int .i64 sw, .int .i64 sb, .bool sc, .int .i64 s4, .int .i64 s5, .string s6, .slice s7 sl sk] 28)).alloc (.cells #[.string vn, .int .i64 vw, .int .i64 vb, .string vt, .slice vp vl vk] 31)) (.cells #[.int .i64 oi, .int .i64 oe, .int .i64 ow, .int .i64 ol, .int .i64 of, .int .i64 oq, on, od, os, ov] 36)
    simp only [World.size_alloc] at h
    rw [hW1]
    rw [Below.heap_alloc _ _ _ (by simp only [World.size_alloc]; omega)]
    exact h
  have hx4 : W1.heap[w.heap.size + 4]? = some (.cells #[.int .i64 pi, .int .i64 pp, .int .i64 pw, .int .i64 pl, .int .i64 pf, .int .i64 pq, pn, pd, ps, pv] 36 (0, 0)) := by
    have h := heap_alloc_new ((((w.alloc (.cells #[.int .i64 id, .bool wz, .bool pg] 23)).alloc (.cells #[.string sn, .int .i64 sw, .int .i64 sb, .bool sc, .int .i64 s4, .int .i64 s5, .string s6, .slice s7 sl sk] 28)).alloc (.cells #[.string vn, .int .i64 vw, .int .i64 vb, .string vt, .slice vp vl vk] 31)).alloc (.cells #[.int .i64 oi, .int .i64 oe, .int .i64 ow, .int .i64 ol, .int .i64 of, .int .i64 oq, on, od, os, ov] 36)) (.cells #[.int .i64 pi, .int .i64 pp, .int .i64 pw, .int .i64 pl, .int .i64 pf, .int .i64 pq, pn, pd, ps, pv] 36)
    simp only [World.size_alloc] at h
    rw [hW1]
    exact h
  obtain ⟨g0, hg0⟩ : ∃ g, g = w.heap.size := ⟨_, rfl⟩
  rw [← hg0] at hx0
  have hl0 : g0 < W1.heap.size := (Array.getElem?_eq_some_iff.1 hx0).1
  obtain ⟨g1, hg1⟩ : ∃ g, g = w.heap.size + 1 := ⟨_, rfl⟩
  rw [← hg1] at hx1
  have hl1 : g1 < W1.heap.size := (Array.getElem?_eq_some_iff.1 hx1).1
  obtain ⟨g2, hg2⟩ : ∃ g, g = w.heap.size + 2 := ⟨_, rfl⟩
  rw [← hg2] at hx2
  have hl2 : g2 < W1.heap.size := (Array.getElem?_eq_some_iff.1 hx2).1
  obtain ⟨g3, hg3⟩ : ∃ g, g = w.heap.size + 3 := ⟨_, rfl⟩
  rw [← hg3] at hx3
  have hl3 : g3 < W1.heap.size := (Array.getElem?_eq_some_iff.1 hx3).1
  obtain ⟨g4, hg4⟩ : ∃ g, g = w.heap.size + 4 := ⟨_, rfl⟩
  rw [← hg4] at hx4
  have hl4 : g4 < W1.heap.size := (Array.getElem?_eq_some_iff.1 hx4).1
  have HB0 := Lib.hid hb0
  clear hb0
  have F := Lib.hid (first11_any W1)
  obtain ⟨y, hy⟩ : ∃ y, bits .or .i64 sb x = y := ⟨_, rfl⟩
  obtain ⟨z, hz⟩ : ∃ z, bits .or .i64 vb x = z := ⟨_, rfl⟩
  have hVz : verbB id wz pg op vw z = true := by rw [← hz]; exact verb_or id wz pg op vw vb x hV
  have C0 := Lib.hid (fun W => by have := slot_any id wz pg op (.string sn) (.bool sc) (.int .i64 s4) (.int .i64 s5) (.string s6) (.slice s7 sl sk) sw sb W; rw [hS] at this; exact this)
  have C1 := Lib.hid (fun W => by have := verb_any id wz pg op (.string vn) (.string vt) (.slice vp vl vk) vw vb W; rw [hV] at this; exact this)
  have C2 := Lib.hid (fun W => by have := verb_any id true true op (.string vn) (.string vt) (.slice vp vl vk) vw vb W; rw [verb_all id wz pg op vw vb hV] at this; exact this)
  have C3 := Lib.hid (fun W => by have := object_any id wz pg op oi oe ow ol of oq on od os ov W; rw [hO] at this; exact this)
  have C4 := Lib.hid (fun W => by have := two_any id wz pg op oi oe ow ol of oq on od os ov pi pp pw pl pf pq pn pd ps pv W; rw [hT] at this; exact this)
  have C5 := Lib.hid (fun W => by have := verb_any id wz pg op (.string vn) (.string vt) (.slice vp vl vk) vw z W; rw [hVz] at this; exact this)
  clear hS hV hO hT hVz
  have x0_0 : W1.cell? ⟨g0, 0, none⟩ = some (.int .i64 id) := (cell_of_row _ _ 0 _ _ _ hx0).trans rfl
  have x0_1 : W1.cell? ⟨g0, 1, none⟩ = some (.bool wz) := (cell_of_row _ _ 1 _ _ _ hx0).trans rfl
  have x0_2 : W1.cell? ⟨g0, 2, none⟩ = some (.bool pg) := (cell_of_row _ _ 2 _ _ _ hx0).trans rfl
  have x1_0 : W1.cell? ⟨g1, 0, none⟩ = some (.string sn) := (cell_of_row _ _ 0 _ _ _ hx1).trans rfl
  have x1_1 : W1.cell? ⟨g1, 1, none⟩ = some (.int .i64 sw) := (cell_of_row _ _ 1 _ _ _ hx1).trans rfl
  have x1_2 : W1.cell? ⟨g1, 2, none⟩ = some (.int .i64 sb) := (cell_of_row _ _ 2 _ _ _ hx1).trans rfl
  have x1_3 : W1.cell? ⟨g1, 3, none⟩ = some (.bool sc) := (cell_of_row _ _ 3 _ _ _ hx1).trans rfl
  have x1_4 : W1.cell? ⟨g1, 4, none⟩ = some (.int .i64 s4) := (cell_of_row _ _ 4 _ _ _ hx1).trans rfl
  have x1_5 : W1.cell? ⟨g1, 5, none⟩ = some (.int .i64 s5) := (cell_of_row _ _ 5 _ _ _ hx1).trans rfl
  have x1_6 : W1.cell? ⟨g1, 6, none⟩ = some (.string s6) := (cell_of_row _ _ 6 _ _ _ hx1).trans rfl
  have x1_7 : W1.cell? ⟨g1, 7, none⟩ = some (.slice s7 sl sk) := (cell_of_row _ _ 7 _ _ _ hx1).trans rfl
  have x2_0 : W1.cell? ⟨g2, 0, none⟩ = some (.string vn) := (cell_of_row _ _ 0 _ _ _ hx2).trans rfl
  have x2_1 : W1.cell? ⟨g2, 1, none⟩ = some (.int .i64 vw) := (cell_of_row _ _ 1 _ _ _ hx2).trans rfl
  have x2_2 : W1.cell? ⟨g2, 2, none⟩ = some (.int .i64 vb) := (cell_of_row _ _ 2 _ _ _ hx2).trans rfl
  have x2_3 : W1.cell? ⟨g2, 3, none⟩ = some (.string vt) := (cell_of_row _ _ 3 _ _ _ hx2).trans rfl
  have x2_4 : W1.cell? ⟨g2, 4, none⟩ = some (.slice vp vl vk) := (cell_of_row _ _ 4 _ _ _ hx2).trans rfl
  have x3_0 : W1.cell? ⟨g3, 0, none⟩ = some (.int .i64 oi) := (cell_of_row _ _ 0 _ _ _ hx3).trans rfl
  have x3_1 : W1.cell? ⟨g3, 1, none⟩ = some (.int .i64 oe) := (cell_of_row _ _ 1 _ _ _ hx3).trans rfl
  have x3_2 : W1.cell? ⟨g3, 2, none⟩ = some (.int .i64 ow) := (cell_of_row _ _ 2 _ _ _ hx3).trans rfl
  have x3_3 : W1.cell? ⟨g3, 3, none⟩ = some (.int .i64 ol) := (cell_of_row _ _ 3 _ _ _ hx3).trans rfl
  have x3_4 : W1.cell? ⟨g3, 4, none⟩ = some (.int .i64 of) := (cell_of_row _ _ 4 _ _ _ hx3).trans rfl
  have x3_5 : W1.cell? ⟨g3, 5, none⟩ = some (.int .i64 oq) := (cell_of_row _ _ 5 _ _ _ hx3).trans rfl
  have x3_6 : W1.cell? ⟨g3, 6, none⟩ = some (on) := (cell_of_row _ _ 6 _ _ _ hx3).trans rfl
  have x3_7 : W1.cell? ⟨g3, 7, none⟩ = some (od) := (cell_of_row _ _ 7 _ _ _ hx3).trans rfl
  have x3_8 : W1.cell? ⟨g3, 8, none⟩ = some (os) := (cell_of_row _ _ 8 _ _ _ hx3).trans rfl
  have x3_9 : W1.cell? ⟨g3, 9, none⟩ = some (ov) := (cell_of_row _ _ 9 _ _ _ hx3).trans rfl
  have x4_0 : W1.cell? ⟨g4, 0, none⟩ = some (.int .i64 pi) := (cell_of_row _ _ 0 _ _ _ hx4).trans rfl
  have x4_1 : W1.cell? ⟨g4, 1, none⟩ = some (.int .i64 pp) := (cell_of_row _ _ 1 _ _ _ hx4).trans rfl
  have x4_2 : W1.cell? ⟨g4, 2, none⟩ = some (.int .i64 pw) := (cell_of_row _ _ 2 _ _ _ hx4).trans rfl
  have x4_3 : W1.cell? ⟨g4, 3, none⟩ = some (.int .i64 pl) := (cell_of_row _ _ 3 _ _ _ hx4).trans rfl
  have x4_4 : W1.cell? ⟨g4, 4, none⟩ = some (.int .i64 pf) := (cell_of_row _ _ 4 _ _ _ hx4).trans rfl
  have x4_5 : W1.cell? ⟨g4, 5, none⟩ = some (.int .i64 pq) := (cell_of_row _ _ 5 _ _ _ hx4).trans rfl
  have x4_6 : W1.cell? ⟨g4, 6, none⟩ = some (pn) := (cell_of_row _ _ 6 _ _ _ hx4).trans rfl
  have x4_7 : W1.cell? ⟨g4, 7, none⟩ = some (pd) := (cell_of_row _ _ 7 _ _ _ hx4).trans rfl
  have x4_8 : W1.cell? ⟨g4, 8, none⟩ = some (ps) := (cell_of_row _ _ 8 _ _ _ hx4).trans rfl
  have x4_9 : W1.cell? ⟨g4, 9, none⟩ = some (pv) := (cell_of_row _ _ 9 _ _ _ hx4).trans rfl
  have HX0 := Lib.hid hx0
  clear hx0
  have HX1 := Lib.hid hx1
  clear hx1
  have HX2 := Lib.hid hx2
  clear hx2
  have HX3 := Lib.hid hx3
  clear hx3
  have HX4 := Lib.hid hx4
  clear hx4
  go_enter Try.func4, Try.ntmps4
  go_upto_region 1 with fail
  try simp only [World.size_alloc]
  rw [← hW1, ← hg4, ← hg3, ← hg2, ← hg1, ← hg0]
  clear hW1 hg0 hg1 hg2 hg3 hg4
  go_upto_region 5 with (go_at_call 8; refine F.out.mono ?_; rintro e w1 ⟨rfl, hb1⟩; have HB0 := Lib.hid (HB0.out.trans (hb1.mono HB0.out.size)); have HX0 := Lib.hid ((hb1.block _ hl0).trans HX0.out); have hl0 := Nat.lt_of_lt_of_le hl0 hb1.size; have HX1 := Lib.hid ((hb1.block _ hl1).trans HX1.out); have hl1 := Nat.lt_of_lt_of_le hl1 hb1.size; have HX2 := Lib.hid ((hb1.block _ hl2).trans HX2.out); have hl2 := Nat.lt_of_lt_of_le hl2 hb1.size; have HX3 := Lib.hid ((hb1.block _ hl3).trans HX3.out); have hl3 := Nat.lt_of_lt_of_le hl3 hb1.size; have HX4 := Lib.hid ((hb1.block _ hl4).trans HX4.out); have hl4 := Nat.lt_of_lt_of_le hl4 hb1.size; obtain ⟨x0_0, x0_1, x0_2⟩ := boxs3 HX0.out; obtain ⟨x1_0, x1_1, x1_2, x1_3, x1_4, x1_5, x1_6, x1_7⟩ := boxs8 HX1.out; obtain ⟨x2_0, x2_1, x2_2, x2_3, x2_4⟩ := boxs5 HX2.out; obtain ⟨x3_0, x3_1, x3_2, x3_3, x3_4, x3_5, x3_6, x3_7, x3_8, x3_9⟩ := boxs10 HX3.out; obtain ⟨x4_0, x4_1, x4_2, x4_3, x4_4, x4_5, x4_6, x4_7, x4_8, x4_9⟩ := boxs10 HX4.out; clear hb1)
  have hb : Below w1.heap.size w1 (w1.alloc (.cells #[.int .i64 id, .bool true, .bool true] 23)) := (Below.refl _ _).alloc (Nat.le_refl _) _
  have hx5 := heap_alloc_new w1 (.cells #[.int .i64 id, .bool true, .bool true] 23)
  obtain ⟨W2, hW2⟩ : ∃ W2, W2 = w1.alloc (.cells #[.int .i64 id, .bool true, .bool true] 23) := ⟨_, rfl⟩
  rw [← hW2] at hb hx5
  obtain ⟨g5, hg5⟩ : ∃ g, g = w1.heap.size := ⟨_, rfl⟩
  rw [← hg5] at hx5
  have hl5 : g5 < W2.heap.size := (Array.getElem?_eq_some_iff.1 hx5).1
  have HB0 := Lib.hid (HB0.out.trans (hb.mono HB0.out.size))
  have HX0 := Lib.hid ((hb.block _ hl0).trans HX0.out)
  have hl0 := Nat.lt_of_lt_of_le hl0 hb.size
  have HX1 := Lib.hid ((hb.block _ hl1).trans HX1.out)
  have hl1 := Nat.lt_of_lt_of_le hl1 hb.size
  have HX2 := Lib.hid ((hb.block _ hl2).trans HX2.out)
  have hl2 := Nat.lt_of_lt_of_le hl2 hb.size
  have HX3 := Lib.hid ((hb.block _ hl3).trans HX3.out)
  have hl3 := Nat.lt_of_lt_of_le hl3 hb.size
  have HX4 := Lib.hid ((hb.block _ hl4).trans HX4.out)
  have hl4 := Nat.lt_of_lt_of_le hl4 hb.size
  obtain ⟨x0_0, x0_1, x0_2⟩ := boxs3 HX0.out
  obtain ⟨x1_0, x1_1, x1_2, x1_3, x1_4, x1_5, x1_6, x1_7⟩ := boxs8 HX1.out
  obtain ⟨x2_0, x2_1, x2_2, x2_3, x2_4⟩ := boxs5 HX2.out
  obtain ⟨x3_0, x3_1, x3_2, x3_3, x3_4, x3_5, x3_6, x3_7, x3_8, x3_9⟩ := boxs10 HX3.out
  obtain ⟨x4_0, x4_1, x4_2, x4_3, x4_4, x4_5, x4_6, x4_7, x4_8, x4_9⟩ := boxs10 HX4.out
  have HX5 := Lib.hid hx5
  have x5_0 : W2.cell? ⟨g5, 0, none⟩ = some (.int .i64 id) := (cell_of_row _ _ 0 _ _ _ HX5.out).trans rfl
  have x5_1 : W2.cell? ⟨g5, 1, none⟩ = some (.bool true) := (cell_of_row _ _ 1 _ _ _ HX5.out).trans rfl
  have x5_2 : W2.cell? ⟨g5, 2, none⟩ = some (.bool true) := (cell_of_row _ _ 2 _ _ _ HX5.out).trans rfl
  clear hx5 hb
  rw [← hW2, ← hg5]
  clear hW2 hg5
  go_upto_region 7 with (first
    | (go_at_call 12; (with_reducible refine (C0.out _).mono ?_); rintro e u0 ⟨rfl, hb2⟩; have HB0 := Lib.hid (HB0.out.trans (hb2.mono HB0.out.size)); have HX0 := Lib.hid ((hb2.block _ hl0).trans HX0.out); have hl0 := Nat.lt_of_lt_of_le hl0 hb2.size; have HX1 := Lib.hid ((hb2.block _ hl1).trans HX1.out); have hl1 := Nat.lt_of_lt_of_le hl1 hb2.size; have HX2 := Lib.hid ((hb2.block _ hl2).trans HX2.out); have hl2 := Nat.lt_of_lt_of_le hl2 hb2.size; have HX3 := Lib.hid ((hb2.block _ hl3).trans HX3.out); have hl3 := Nat.lt_of_lt_of_le hl3 hb2.size; have HX4 := Lib.hid ((hb2.block _ hl4).trans HX4.out); have hl4 := Nat.lt_of_lt_of_le hl4 hb2.size; have HX5 := Lib.hid ((hb2.block _ hl5).trans HX5.out); have hl5 := Nat.lt_of_lt_of_le hl5 hb2.size; obtain ⟨x0_0, x0_1, x0_2⟩ := boxs3 HX0.out; obtain ⟨x1_0, x1_1, x1_2, x1_3, x1_4, x1_5, x1_6, x1_7⟩ := boxs8 HX1.out; obtain ⟨x2_0, x2_1, x2_2, x2_3, x2_4⟩ := boxs5 HX2.out; obtain ⟨x3_0, x3_1, x3_2, x3_3, x3_4, x3_5, x3_6, x3_7, x3_8, x3_9⟩ := boxs10 HX3.out; obtain ⟨x4_0, x4_1, x4_2, x4_3, x4_4, x4_5, x4_6, x4_7, x4_8, x4_9⟩ := boxs10 HX4.out; obtain ⟨x5_0, x5_1, x5_2⟩ := boxs3 HX5.out; clear hb2)
    | (go_at_call 14; (with_reducible refine (C1.out _).mono ?_); rintro e u1 ⟨rfl, hb2⟩; have HB0 := Lib.hid (HB0.out.trans (hb2.mono HB0.out.size)); have HX0 := Lib.hid ((hb2.block _ hl0).trans HX0.out); have hl0 := Nat.lt_of_lt_of_le hl0 hb2.size; have HX1 := Lib.hid ((hb2.block _ hl1).trans HX1.out); have hl1 := Nat.lt_of_lt_of_le hl1 hb2.size; have HX2 := Lib.hid ((hb2.block _ hl2).trans HX2.out); have hl2 := Nat.lt_of_lt_of_le hl2 hb2.size; have HX3 := Lib.hid ((hb2.block _ hl3).trans HX3.out); have hl3 := Nat.lt_of_lt_of_le hl3 hb2.size; have HX4 := Lib.hid ((hb2.block _ hl4).trans HX4.out); have hl4 := Nat.lt_of_lt_of_le hl4 hb2.size; have HX5 := Lib.hid ((hb2.block _ hl5).trans HX5.out); have hl5 := Nat.lt_of_lt_of_le hl5 hb2.size; obtain ⟨x0_0, x0_1, x0_2⟩ := boxs3 HX0.out; obtain ⟨x1_0, x1_1, x1_2, x1_3, x1_4, x1_5, x1_6, x1_7⟩ := boxs8 HX1.out; obtain ⟨x2_0, x2_1, x2_2, x2_3, x2_4⟩ := boxs5 HX2.out; obtain ⟨x3_0, x3_1, x3_2, x3_3, x3_4, x3_5, x3_6, x3_7, x3_8, x3_9⟩ := boxs10 HX3.out; obtain ⟨x4_0, x4_1, x4_2, x4_3, x4_4, x4_5, x4_6, x4_7, x4_8, x4_9⟩ := boxs10 HX4.out; obtain ⟨x5_0, x5_1, x5_2⟩ := boxs3 HX5.out; clear hb2)
    | (go_at_call 14; (with_reducible refine (C2.out _).mono ?_); rintro e u2 ⟨rfl, hb2⟩; have HB0 := Lib.hid (HB0.out.trans (hb2.mono HB0.out.size)); have HX0 := Lib.hid ((hb2.block _ hl0).trans HX0.out); have hl0 := Nat.lt_of_lt_of_le hl0 hb2.size; have HX1 := Lib.hid ((hb2.block _ hl1).trans HX1.out); have hl1 := Nat.lt_of_lt_of_le hl1 hb2.size; have HX2 := Lib.hid ((hb2.block _ hl2).trans HX2.out); have hl2 := Nat.lt_of_lt_of_le hl2 hb2.size; have HX3 := Lib.hid ((hb2.block _ hl3).trans HX3.out); have hl3 := Nat.lt_of_lt_of_le hl3 hb2.size; have HX4 := Lib.hid ((hb2.block _ hl4).trans HX4.out); have hl4 := Nat.lt_of_lt_of_le hl4 hb2.size; have HX5 := Lib.hid ((hb2.block _ hl5).trans HX5.out); have hl5 := Nat.lt_of_lt_of_le hl5 hb2.size; obtain ⟨x0_0, x0_1, x0_2⟩ := boxs3 HX0.out; obtain ⟨x1_0, x1_1, x1_2, x1_3, x1_4, x1_5, x1_6, x1_7⟩ := boxs8 HX1.out; obtain ⟨x2_0, x2_1, x2_2, x2_3, x2_4⟩ := boxs5 HX2.out; obtain ⟨x3_0, x3_1, x3_2, x3_3, x3_4, x3_5, x3_6, x3_7, x3_8, x3_9⟩ := boxs10 HX3.out; obtain ⟨x4_0, x4_1, x4_2, x4_3, x4_4, x4_5, x4_6, x4_7, x4_8, x4_9⟩ := boxs10 HX4.out; obtain ⟨x5_0, x5_1, x5_2⟩ := boxs3 HX5.out; clear hb2)
    | (go_at_call 16; (with_reducible refine (C3.out _).mono ?_); rintro e u3 ⟨rfl, hb2⟩; have HB0 := Lib.hid (HB0.out.trans (hb2.mono HB0.out.size)); have HX0 := Lib.hid ((hb2.block _ hl0).trans HX0.out); have hl0 := Nat.lt_of_lt_of_le hl0 hb2.size; have HX1 := Lib.hid ((hb2.block _ hl1).trans HX1.out); have hl1 := Nat.lt_of_lt_of_le hl1 hb2.size; have HX2 := Lib.hid ((hb2.block _ hl2).trans HX2.out); have hl2 := Nat.lt_of_lt_of_le hl2 hb2.size; have HX3 := Lib.hid ((hb2.block _ hl3).trans HX3.out); have hl3 := Nat.lt_of_lt_of_le hl3 hb2.size; have HX4 := Lib.hid ((hb2.block _ hl4).trans HX4.out); have hl4 := Nat.lt_of_lt_of_le hl4 hb2.size; have HX5 := Lib.hid ((hb2.block _ hl5).trans HX5.out); have hl5 := Nat.lt_of_lt_of_le hl5 hb2.size; obtain ⟨x0_0, x0_1, x0_2⟩ := boxs3 HX0.out; obtain ⟨x1_0, x1_1, x1_2, x1_3, x1_4, x1_5, x1_6, x1_7⟩ := boxs8 HX1.out; obtain ⟨x2_0, x2_1, x2_2, x2_3, x2_4⟩ := boxs5 HX2.out; obtain ⟨x3_0, x3_1, x3_2, x3_3, x3_4, x3_5, x3_6, x3_7, x3_8, x3_9⟩ := boxs10 HX3.out; obtain ⟨x4_0, x4_1, x4_2, x4_3, x4_4, x4_5, x4_6, x4_7, x4_8, x4_9⟩ := boxs10 HX4.out; obtain ⟨x5_0, x5_1, x5_2⟩ := boxs3 HX5.out; clear hb2)
    | (go_at_call 18; (with_reducible refine (C4.out _).mono ?_); rintro e u4 ⟨rfl, hb2⟩; have HB0 := Lib.hid (HB0.out.trans (hb2.mono HB0.out.size)); have HX0 := Lib.hid ((hb2.block _ hl0).trans HX0.out); have hl0 := Nat.lt_of_lt_of_le hl0 hb2.size; have HX1 := Lib.hid ((hb2.block _ hl1).trans HX1.out); have hl1 := Nat.lt_of_lt_of_le hl1 hb2.size; have HX2 := Lib.hid ((hb2.block _ hl2).trans HX2.out); have hl2 := Nat.lt_of_lt_of_le hl2 hb2.size; have HX3 := Lib.hid ((hb2.block _ hl3).trans HX3.out); have hl3 := Nat.lt_of_lt_of_le hl3 hb2.size; have HX4 := Lib.hid ((hb2.block _ hl4).trans HX4.out); have hl4 := Nat.lt_of_lt_of_le hl4 hb2.size; have HX5 := Lib.hid ((hb2.block _ hl5).trans HX5.out); have hl5 := Nat.lt_of_lt_of_le hl5 hb2.size; obtain ⟨x0_0, x0_1, x0_2⟩ := boxs3 HX0.out; obtain ⟨x1_0, x1_1, x1_2, x1_3, x1_4, x1_5, x1_6, x1_7⟩ := boxs8 HX1.out; obtain ⟨x2_0, x2_1, x2_2, x2_3, x2_4⟩ := boxs5 HX2.out; obtain ⟨x3_0, x3_1, x3_2, x3_3, x3_4, x3_5, x3_6, x3_7, x3_8, x3_9⟩ := boxs10 HX3.out; obtain ⟨x4_0, x4_1, x4_2, x4_3, x4_4, x4_5, x4_6, x4_7, x4_8, x4_9⟩ := boxs10 HX4.out; obtain ⟨x5_0, x5_1, x5_2⟩ := boxs3 HX5.out; clear hb2))
  go_upto_region 11 with fail
  have hb : Below u4.heap.size u4 ((u4.alloc (.cells #[.string sn, .int .i64 sw, .int .i64 y, .bool sc, .int .i64 s4, .int .i64 s5, .string s6, .slice s7 sl sk] 28)).alloc (.cells #[.string vn, .int .i64 vw, .int .i64 z, .string vt, .slice vp vl vk] 31)) := ((Below.refl _ _).alloc (Nat.le_refl _) _).alloc (by simp) _
  have hx6 : ((u4.alloc (.cells #[.string sn, .int .i64 sw, .int .i64 y, .bool sc, .int .i64 s4, .int .i64 s5, .string s6, .slice s7 sl sk] 28)).alloc (.cells #[.string vn, .int .i64 vw, .int .i64 z, .string vt, .slice vp vl vk] 31)).heap[u4.heap.size]? = some (.cells #[.string sn, .int .i64 sw, .int .i64 y, .bool sc, .int .i64 s4, .int .i64 s5, .string s6, .slice s7 sl sk] 28 (0, 0)) := (Below.heap_alloc _ _ _ (by simp)).trans (heap_alloc_new u4 _)
  have hx7 : ((u4.alloc (.cells #[.string sn, .int .i64 sw, .int .i64 y, .bool sc, .int .i64 s4, .int .i64 s5, .string s6, .slice s7 sl sk] 28)).alloc (.cells #[.string vn, .int .i64 vw, .int .i64 z, .string vt, .slice vp vl vk] 31)).heap[u4.heap.size + 1]? = some (.cells #[.string vn, .int .i64 vw, .int .i64 z, .string vt, .slice vp vl vk] 31 (0, 0)) := by have h := heap_alloc_new (u4.alloc (.cells #[.string sn, .int .i64 sw, .int .i64 y, .bool sc, .int .i64 s4, .int .i64 s5, .string s6, .slice s7 sl sk] 28)) (.cells #[.string vn, .int .i64 vw, .int .i64 z, .string vt, .slice vp vl vk] 31); rw [World.size_alloc] at h; exact h
  obtain ⟨W3, hW3⟩ : ∃ W3, W3 = (u4.alloc (.cells #[.string sn, .int .i64 sw, .int .i64 y, .bool sc, .int .i64 s4, .int .i64 s5, .string s6, .slice s7 sl sk] 28)).alloc (.cells #[.string vn, .int .i64 vw, .int .i64 z, .string vt, .slice vp vl vk] 31) := ⟨_, rfl⟩
  rw [← hW3] at hb hx6 hx7
  obtain ⟨g7, hg7⟩ : ∃ g, g = u4.heap.size + 1 := ⟨_, rfl⟩
  obtain ⟨g6, hg6⟩ : ∃ g, g = u4.heap.size := ⟨_, rfl⟩
  rw [← hg6] at hx6
  rw [← hg7] at hx7
  have hl6 : g6 < W3.heap.size := (Array.getElem?_eq_some_iff.1 hx6).1
  have hl7 : g7 < W3.heap.size := (Array.getElem?_eq_some_iff.1 hx7).1
  have HB0 := Lib.hid (HB0.out.trans (hb.mono HB0.out.size))
  have HX0 := Lib.hid ((hb.block _ hl0).trans HX0.out)
  have hl0 := Nat.lt_of_lt_of_le hl0 hb.size
  have HX1 := Lib.hid ((hb.block _ hl1).trans HX1.out)
  have hl1 := Nat.lt_of_lt_of_le hl1 hb.size
  have HX2 := Lib.hid ((hb.block _ hl2).trans HX2.out)
  have hl2 := Nat.lt_of_lt_of_le hl2 hb.size
  have HX3 := Lib.hid ((hb.block _ hl3).trans HX3.out)
  have hl3 := Nat.lt_of_lt_of_le hl3 hb.size
  have HX4 := Lib.hid ((hb.block _ hl4).trans HX4.out)
  have hl4 := Nat.lt_of_lt_of_le hl4 hb.size
  have HX5 := Lib.hid ((hb.block _ hl5).trans HX5.out)
  have hl5 := Nat.lt_of_lt_of_le hl5 hb.size
  obtain ⟨x0_0, x0_1, x0_2⟩ := boxs3 HX0.out
  obtain ⟨x1_0, x1_1, x1_2, x1_3, x1_4, x1_5, x1_6, x1_7⟩ := boxs8 HX1.out
  obtain ⟨x2_0, x2_1, x2_2, x2_3, x2_4⟩ := boxs5 HX2.out
  obtain ⟨x3_0, x3_1, x3_2, x3_3, x3_4, x3_5, x3_6, x3_7, x3_8, x3_9⟩ := boxs10 HX3.out
  obtain ⟨x4_0, x4_1, x4_2, x4_3, x4_4, x4_5, x4_6, x4_7, x4_8, x4_9⟩ := boxs10 HX4.out
  obtain ⟨x5_0, x5_1, x5_2⟩ := boxs3 HX5.out
  have HX6 := Lib.hid hx6
  have HX7 := Lib.hid hx7
  have x6_0 : W3.cell? ⟨g6, 0, none⟩ = some (.string sn) := (cell_of_row _ _ 0 _ _ _ HX6.out).trans rfl
  have x6_1 : W3.cell? ⟨g6, 1, none⟩ = some (.int .i64 sw) := (cell_of_row _ _ 1 _ _ _ HX6.out).trans rfl
  have x6_2 : W3.cell? ⟨g6, 2, none⟩ = some (.int .i64 y) := (cell_of_row _ _ 2 _ _ _ HX6.out).trans rfl
  have x6_3 : W3.cell? ⟨g6, 3, none⟩ = some (.bool sc) := (cell_of_row _ _ 3 _ _ _ HX6.out).trans rfl
  have x6_4 : W3.cell? ⟨g6, 4, none⟩ = some (.int .i64 s4) := (cell_of_row _ _ 4 _ _ _ HX6.out).trans rfl
  have x6_5 : W3.cell? ⟨g6, 5, none⟩ = some (.int .i64 s5) := (cell_of_row _ _ 5 _ _ _ HX6.out).trans rfl
  have x6_6 : W3.cell? ⟨g6, 6, none⟩ = some (.string s6) := (cell_of_row _ _ 6 _ _ _ HX6.out).trans rfl
  have x6_7 : W3.cell? ⟨g6, 7, none⟩ = some (.slice s7 sl sk) := (cell_of_row _ _ 7 _ _ _ HX6.out).trans rfl
  have x7_0 : W3.cell? ⟨g7, 0, none⟩ = some (.string vn) := (cell_of_row _ _ 0 _ _ _ HX7.out).trans rfl
  have x7_1 : W3.cell? ⟨g7, 1, none⟩ = some (.int .i64 vw) := (cell_of_row _ _ 1 _ _ _ HX7.out).trans rfl
  have x7_2 : W3.cell? ⟨g7, 2, none⟩ = some (.int .i64 z) := (cell_of_row _ _ 2 _ _ _ HX7.out).trans rfl
  have x7_3 : W3.cell? ⟨g7, 3, none⟩ = some (.string vt) := (cell_of_row _ _ 3 _ _ _ HX7.out).trans rfl
  have x7_4 : W3.cell? ⟨g7, 4, none⟩ = some (.slice vp vl vk) := (cell_of_row _ _ 4 _ _ _ HX7.out).trans rfl
  clear hx6 hx7 hb
  try simp only [World.size_alloc]
  rw [← hW3, ← hg7, ← hg6]
  clear hW3 hg6 hg7
  go_wp2_with (first
    | (go_at_call 12; (with_reducible refine (C0.out _).mono ?_); rintro e t0 ⟨rfl, hb2⟩; have HB0 := Lib.hid (HB0.out.trans (hb2.mono HB0.out.size)); have HX0 := Lib.hid ((hb2.block _ hl0).trans HX0.out); have hl0 := Nat.lt_of_lt_of_le hl0 hb2.size; have HX1 := Lib.hid ((hb2.block _ hl1).trans HX1.out); have hl1 := Nat.lt_of_lt_of_le hl1 hb2.size; have HX2 := Lib.hid ((hb2.block _ hl2).trans HX2.out); have hl2 := Nat.lt_of_lt_of_le hl2 hb2.size; have HX3 := Lib.hid ((hb2.block _ hl3).trans HX3.out); have hl3 := Nat.lt_of_lt_of_le hl3 hb2.size; have HX4 := Lib.hid ((hb2.block _ hl4).trans HX4.out); have hl4 := Nat.lt_of_lt_of_le hl4 hb2.size; have HX5 := Lib.hid ((hb2.block _ hl5).trans HX5.out); have hl5 := Nat.lt_of_lt_of_le hl5 hb2.size; have HX6 := Lib.hid ((hb2.block _ hl6).trans HX6.out); have hl6 := Nat.lt_of_lt_of_le hl6 hb2.size; have HX7 := Lib.hid ((hb2.block _ hl7).trans HX7.out); have hl7 := Nat.lt_of_lt_of_le hl7 hb2.size; obtain ⟨x0_0, x0_1, x0_2⟩ := boxs3 HX0.out; obtain ⟨x1_0, x1_1, x1_2, x1_3, x1_4, x1_5, x1_6, x1_7⟩ := boxs8 HX1.out; obtain ⟨x2_0, x2_1, x2_2, x2_3, x2_4⟩ := boxs5 HX2.out; obtain ⟨x3_0, x3_1, x3_2, x3_3, x3_4, x3_5, x3_6, x3_7, x3_8, x3_9⟩ := boxs10 HX3.out; obtain ⟨x4_0, x4_1, x4_2, x4_3, x4_4, x4_5, x4_6, x4_7, x4_8, x4_9⟩ := boxs10 HX4.out; obtain ⟨x5_0, x5_1, x5_2⟩ := boxs3 HX5.out; obtain ⟨x6_0, x6_1, x6_2, x6_3, x6_4, x6_5, x6_6, x6_7⟩ := boxs8 HX6.out; obtain ⟨x7_0, x7_1, x7_2, x7_3, x7_4⟩ := boxs5 HX7.out; clear hb2)
    | (go_at_call 14; (with_reducible refine (C1.out _).mono ?_); rintro e t1 ⟨rfl, hb2⟩; have HB0 := Lib.hid (HB0.out.trans (hb2.mono HB0.out.size)); have HX0 := Lib.hid ((hb2.block _ hl0).trans HX0.out); have hl0 := Nat.lt_of_lt_of_le hl0 hb2.size; have HX1 := Lib.hid ((hb2.block _ hl1).trans HX1.out); have hl1 := Nat.lt_of_lt_of_le hl1 hb2.size; have HX2 := Lib.hid ((hb2.block _ hl2).trans HX2.out); have hl2 := Nat.lt_of_lt_of_le hl2 hb2.size; have HX3 := Lib.hid ((hb2.block _ hl3).trans HX3.out); have hl3 := Nat.lt_of_lt_of_le hl3 hb2.size; have HX4 := Lib.hid ((hb2.block _ hl4).trans HX4.out); have hl4 := Nat.lt_of_lt_of_le hl4 hb2.size; have HX5 := Lib.hid ((hb2.block _ hl5).trans HX5.out); have hl5 := Nat.lt_of_lt_of_le hl5 hb2.size; have HX6 := Lib.hid ((hb2.block _ hl6).trans HX6.out); have hl6 := Nat.lt_of_lt_of_le hl6 hb2.size; have HX7 := Lib.hid ((hb2.block _ hl7).trans HX7.out); have hl7 := Nat.lt_of_lt_of_le hl7 hb2.size; obtain ⟨x0_0, x0_1, x0_2⟩ := boxs3 HX0.out; obtain ⟨x1_0, x1_1, x1_2, x1_3, x1_4, x1_5, x1_6, x1_7⟩ := boxs8 HX1.out; obtain ⟨x2_0, x2_1, x2_2, x2_3, x2_4⟩ := boxs5 HX2.out; obtain ⟨x3_0, x3_1, x3_2, x3_3, x3_4, x3_5, x3_6, x3_7, x3_8, x3_9⟩ := boxs10 HX3.out; obtain ⟨x4_0, x4_1, x4_2, x4_3, x4_4, x4_5, x4_6, x4_7, x4_8, x4_9⟩ := boxs10 HX4.out; obtain ⟨x5_0, x5_1, x5_2⟩ := boxs3 HX5.out; obtain ⟨x6_0, x6_1, x6_2, x6_3, x6_4, x6_5, x6_6, x6_7⟩ := boxs8 HX6.out; obtain ⟨x7_0, x7_1, x7_2, x7_3, x7_4⟩ := boxs5 HX7.out; clear hb2)
    | (go_at_call 14; (with_reducible refine (C5.out _).mono ?_); rintro e t2 ⟨rfl, hb2⟩; have HB0 := Lib.hid (HB0.out.trans (hb2.mono HB0.out.size)); have HX0 := Lib.hid ((hb2.block _ hl0).trans HX0.out); have hl0 := Nat.lt_of_lt_of_le hl0 hb2.size; have HX1 := Lib.hid ((hb2.block _ hl1).trans HX1.out); have hl1 := Nat.lt_of_lt_of_le hl1 hb2.size; have HX2 := Lib.hid ((hb2.block _ hl2).trans HX2.out); have hl2 := Nat.lt_of_lt_of_le hl2 hb2.size; have HX3 := Lib.hid ((hb2.block _ hl3).trans HX3.out); have hl3 := Nat.lt_of_lt_of_le hl3 hb2.size; have HX4 := Lib.hid ((hb2.block _ hl4).trans HX4.out); have hl4 := Nat.lt_of_lt_of_le hl4 hb2.size; have HX5 := Lib.hid ((hb2.block _ hl5).trans HX5.out); have hl5 := Nat.lt_of_lt_of_le hl5 hb2.size; have HX6 := Lib.hid ((hb2.block _ hl6).trans HX6.out); have hl6 := Nat.lt_of_lt_of_le hl6 hb2.size; have HX7 := Lib.hid ((hb2.block _ hl7).trans HX7.out); have hl7 := Nat.lt_of_lt_of_le hl7 hb2.size; obtain ⟨x0_0, x0_1, x0_2⟩ := boxs3 HX0.out; obtain ⟨x1_0, x1_1, x1_2, x1_3, x1_4, x1_5, x1_6, x1_7⟩ := boxs8 HX1.out; obtain ⟨x2_0, x2_1, x2_2, x2_3, x2_4⟩ := boxs5 HX2.out; obtain ⟨x3_0, x3_1, x3_2, x3_3, x3_4, x3_5, x3_6, x3_7, x3_8, x3_9⟩ := boxs10 HX3.out; obtain ⟨x4_0, x4_1, x4_2, x4_3, x4_4, x4_5, x4_6, x4_7, x4_8, x4_9⟩ := boxs10 HX4.out; obtain ⟨x5_0, x5_1, x5_2⟩ := boxs3 HX5.out; obtain ⟨x6_0, x6_1, x6_2, x6_3, x6_4, x6_5, x6_6, x6_7⟩ := boxs8 HX6.out; obtain ⟨x7_0, x7_1, x7_2, x7_3, x7_4⟩ := boxs5 HX7.out; clear hb2))
  go_ret
  exact ⟨rfl, HB0.out⟩
end Go.Proofs.Ytemkikjcjhmlaaa.Pm
