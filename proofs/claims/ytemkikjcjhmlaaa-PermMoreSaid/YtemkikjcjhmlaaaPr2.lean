/- What the document says of who may what to an object, and to two; the statements' own functions. Printed by gen_perm.py. -/
import Derived.Test.YtemkikjcjhmlaaaPr
import Derived.Handy
namespace Go.Proofs.Ytemkikjcjhmlaaa.Pm
open Go.RowKit
set_option maxRecDepth 100000

set_option maxHeartbeats 2000000 in
theorem robject_any (id : Int) (wz pg : Bool) (op : Int) (oi oe ow ol of oq : Int) (on od os ov : Value) (w : World) : Calls Try.prog 17 #[.agg #[.int .i64 id, .bool wz, .bool pg], .int .i64 op, .agg #[.int .i64 oi, .int .i64 oe, .int .i64 ow, .int .i64 ol, .int .i64 of, .int .i64 oq, on, od, os, ov]] w fun e w' => e = .returned (.bool (objB id wz pg op ow of)) ∧ Below w.heap.size w w' := by
  obtain ⟨W1, hW1⟩ : ∃ W1, W1 = ((w.alloc (.cells #[.int .i64 id, .bool wz, .bool pg] 38)).alloc (.cells #[.int .i64 oi, .int .i64 oe, .int .i64 ow, .int .i64 ol, .int .i64 of, .int .i64 oq, on, od, os, ov] 36)) := ⟨_, rfl⟩
  have hb0 : Below w.heap.size w W1 := hW1 ▸ ((Below.refl w.heap.size w).alloc (Nat.le_refl _) _).alloc (by simp) _
  have hx0 : W1.heap[w.heap.size]? = some (.cells #[.int .i64 id, .bool wz, .bool pg] 38 (0, 0)) := by
    have h := heap_alloc_new w (.cells #[.int .i64 id, .bool wz, .bool pg] 38)
    rw [hW1]
    rw [Below.heap_alloc _ _ _ (by simp only [World.size_alloc]; omega)]
    exact h
  have hx1 : W1.heap[w.heap.size + 1]? = some (.cells #[.int .i64 oi, .int .i64 oe, .int .i64 ow, .int .i64 ol, .int .i64 of, .int .i64 oq, on, od, os, ov] 36 (0, 0)) := by
    have h := heap_alloc_new (w.alloc (.cells #[.int .i64 id, .bool wz, .bool pg] 38)) (.cells #[.int .i64 oi, .int .i64 oe, .int .i64 ow, .int .i64 ol, .int .i64 of, .int .i64 oq, on, od, os, ov] 36)
    simp only [World.size_alloc] at h
    rw [hW1]
    exact h
  obtain ⟨g0, hg0⟩ : ∃ g, g = w.heap.size := ⟨_, rfl⟩
  rw [← hg0] at hx0
  have hl0 : g0 < W1.heap.size := (Array.getElem?_eq_some_iff.1 hx0).1
  obtain ⟨g1, hg1⟩ : ∃ g, g = w.heap.size + 1 := ⟨_, rfl⟩
  rw [← hg1] at hx1
  have hl1 : g1 < W1.heap.size := (Array.getElem?_eq_some_iff.1 hx1).1
  have HB0 := Lib.hid hb0
  clear hb0
  obtain ⟨G, hG⟩ : ∃ G, goB id wz ow = G := ⟨_, rfl⟩
  have C1 := Lib.hid (by have := rcontrols_any id wz pg oi oe ow ol of oq on od os ov W1; rw [hG] at this; exact this)
  by_cases h3 : op = 3
  · subst h3
    cases G with
    | true =>
      have x0_0 : W1.cell? ⟨g0, 0, none⟩ = some (.int .i64 id) := (cell_of_row _ _ 0 _ _ _ hx0).trans rfl
      have x0_1 : W1.cell? ⟨g0, 1, none⟩ = some (.bool wz) := (cell_of_row _ _ 1 _ _ _ hx0).trans rfl
      have x0_2 : W1.cell? ⟨g0, 2, none⟩ = some (.bool pg) := (cell_of_row _ _ 2 _ _ _ hx0).trans rfl
      have x1_0 : W1.cell? ⟨g1, 0, none⟩ = some (.int .i64 oi) := (cell_of_row _ _ 0 _ _ _ hx1).trans rfl
      have x1_1 : W1.cell? ⟨g1, 1, none⟩ = some (.int .i64 oe) := (cell_of_row _ _ 1 _ _ _ hx1).trans rfl
      have x1_2 : W1.cell? ⟨g1, 2, none⟩ = some (.int .i64 ow) := (cell_of_row _ _ 2 _ _ _ hx1).trans rfl
      have x1_3 : W1.cell? ⟨g1, 3, none⟩ = some (.int .i64 ol) := (cell_of_row _ _ 3 _ _ _ hx1).trans rfl
      have x1_4 : W1.cell? ⟨g1, 4, none⟩ = some (.int .i64 of) := (cell_of_row _ _ 4 _ _ _ hx1).trans rfl
      have x1_5 : W1.cell? ⟨g1, 5, none⟩ = some (.int .i64 oq) := (cell_of_row _ _ 5 _ _ _ hx1).trans rfl
      have x1_6 : W1.cell? ⟨g1, 6, none⟩ = some (on) := (cell_of_row _ _ 6 _ _ _ hx1).trans rfl
      have x1_7 : W1.cell? ⟨g1, 7, none⟩ = some (od) := (cell_of_row _ _ 7 _ _ _ hx1).trans rfl
      have x1_8 : W1.cell? ⟨g1, 8, none⟩ = some (os) := (cell_of_row _ _ 8 _ _ _ hx1).trans rfl
      have x1_9 : W1.cell? ⟨g1, 9, none⟩ = some (ov) := (cell_of_row _ _ 9 _ _ _ hx1).trans rfl
      have HX0 := Lib.hid hx0
      clear hx0
      have HX1 := Lib.hid hx1
      clear hx1
      go_enter Try.func17, Try.ntmps17
      go_upto_region 1 with fail
      try simp only [World.size_alloc]
      rw [← hW1, ← hg1, ← hg0]
      clear hW1 hg0 hg1
      go_wp2_with (first
        | (go_at_call 11; (with_reducible refine C1.out.mono ?_); rintro e w2 ⟨rfl, hb2⟩; have HB0 := Lib.hid (HB0.out.trans (hb2.mono HB0.out.size)); have HX0 := Lib.hid ((hb2.block _ hl0).trans HX0.out); have hl0 := Nat.lt_of_lt_of_le hl0 hb2.size; have HX1 := Lib.hid ((hb2.block _ hl1).trans HX1.out); have hl1 := Nat.lt_of_lt_of_le hl1 hb2.size; have x0_0 : w2.cell? ⟨g0, 0, none⟩ = some (.int .i64 id) := (cell_of_row _ _ 0 _ _ _ HX0.out).trans rfl; have x0_1 : w2.cell? ⟨g0, 1, none⟩ = some (.bool wz) := (cell_of_row _ _ 1 _ _ _ HX0.out).trans rfl; have x0_2 : w2.cell? ⟨g0, 2, none⟩ = some (.bool pg) := (cell_of_row _ _ 2 _ _ _ HX0.out).trans rfl; have x1_0 : w2.cell? ⟨g1, 0, none⟩ = some (.int .i64 oi) := (cell_of_row _ _ 0 _ _ _ HX1.out).trans rfl; have x1_1 : w2.cell? ⟨g1, 1, none⟩ = some (.int .i64 oe) := (cell_of_row _ _ 1 _ _ _ HX1.out).trans rfl; have x1_2 : w2.cell? ⟨g1, 2, none⟩ = some (.int .i64 ow) := (cell_of_row _ _ 2 _ _ _ HX1.out).trans rfl; have x1_3 : w2.cell? ⟨g1, 3, none⟩ = some (.int .i64 ol) := (cell_of_row _ _ 3 _ _ _ HX1.out).trans rfl; have x1_4 : w2.cell? ⟨g1, 4, none⟩ = some (.int .i64 of) := (cell_of_row _ _ 4 _ _ _ HX1.out).trans rfl; have x1_5 : w2.cell? ⟨g1, 5, none⟩ = some (.int .i64 oq) := (cell_of_row _ _ 5 _ _ _ HX1.out).trans rfl; have x1_6 : w2.cell? ⟨g1, 6, none⟩ = some (on) := (cell_of_row _ _ 6 _ _ _ HX1.out).trans rfl; have x1_7 : w2.cell? ⟨g1, 7, none⟩ = some (od) := (cell_of_row _ _ 7 _ _ _ HX1.out).trans rfl; have x1_8 : w2.cell? ⟨g1, 8, none⟩ = some (os) := (cell_of_row _ _ 8 _ _ _ HX1.out).trans rfl; have x1_9 : w2.cell? ⟨g1, 9, none⟩ = some (ov) := (cell_of_row _ _ 9 _ _ _ HX1.out).trans rfl; clear hb2))
      go_ret
      exact ⟨ret_bool (by simp [objB, hG]), HB0.out⟩
    | false =>
      cases hA0 : (bits .and .i64 of 16 != 0) with
      | true =>
        have x0_0 : W1.cell? ⟨g0, 0, none⟩ = some (.int .i64 id) := (cell_of_row _ _ 0 _ _ _ hx0).trans rfl
        have x0_1 : W1.cell? ⟨g0, 1, none⟩ = some (.bool wz) := (cell_of_row _ _ 1 _ _ _ hx0).trans rfl
        have x0_2 : W1.cell? ⟨g0, 2, none⟩ = some (.bool pg) := (cell_of_row _ _ 2 _ _ _ hx0).trans rfl
        have x1_0 : W1.cell? ⟨g1, 0, none⟩ = some (.int .i64 oi) := (cell_of_row _ _ 0 _ _ _ hx1).trans rfl
        have x1_1 : W1.cell? ⟨g1, 1, none⟩ = some (.int .i64 oe) := (cell_of_row _ _ 1 _ _ _ hx1).trans rfl
        have x1_2 : W1.cell? ⟨g1, 2, none⟩ = some (.int .i64 ow) := (cell_of_row _ _ 2 _ _ _ hx1).trans rfl
        have x1_3 : W1.cell? ⟨g1, 3, none⟩ = some (.int .i64 ol) := (cell_of_row _ _ 3 _ _ _ hx1).trans rfl
        have x1_4 : W1.cell? ⟨g1, 4, none⟩ = some (.int .i64 of) := (cell_of_row _ _ 4 _ _ _ hx1).trans rfl
        have x1_5 : W1.cell? ⟨g1, 5, none⟩ = some (.int .i64 oq) := (cell_of_row _ _ 5 _ _ _ hx1).trans rfl
        have x1_6 : W1.cell? ⟨g1, 6, none⟩ = some (on) := (cell_of_row _ _ 6 _ _ _ hx1).trans rfl
        have x1_7 : W1.cell? ⟨g1, 7, none⟩ = some (od) := (cell_of_row _ _ 7 _ _ _ hx1).trans rfl
        have x1_8 : W1.cell? ⟨g1, 8, none⟩ = some (os) := (cell_of_row _ _ 8 _ _ _ hx1).trans rfl
        have x1_9 : W1.cell? ⟨g1, 9, none⟩ = some (ov) := (cell_of_row _ _ 9 _ _ _ hx1).trans rfl
        have HX0 := Lib.hid hx0
        clear hx0
        have HX1 := Lib.hid hx1
        clear hx1
        go_enter Try.func17, Try.ntmps17
        go_upto_region 1 with fail
        try simp only [World.size_alloc]
        rw [← hW1, ← hg1, ← hg0]
        clear hW1 hg0 hg1
        go_wp2_with (first
          | (go_at_call 11; (with_reducible refine C1.out.mono ?_); rintro e w2 ⟨rfl, hb2⟩; have HB0 := Lib.hid (HB0.out.trans (hb2.mono HB0.out.size)); have HX0 := Lib.hid ((hb2.block _ hl0).trans HX0.out); have hl0 := Nat.lt_of_lt_of_le hl0 hb2.size; have HX1 := Lib.hid ((hb2.block _ hl1).trans HX1.out); have hl1 := Nat.lt_of_lt_of_le hl1 hb2.size; have x0_0 : w2.cell? ⟨g0, 0, none⟩ = some (.int .i64 id) := (cell_of_row _ _ 0 _ _ _ HX0.out).trans rfl; have x0_1 : w2.cell? ⟨g0, 1, none⟩ = some (.bool wz) := (cell_of_row _ _ 1 _ _ _ HX0.out).trans rfl; have x0_2 : w2.cell? ⟨g0, 2, none⟩ = some (.bool pg) := (cell_of_row _ _ 2 _ _ _ HX0.out).trans rfl; have x1_0 : w2.cell? ⟨g1, 0, none⟩ = some (.int .i64 oi) := (cell_of_row _ _ 0 _ _ _ HX1.out).trans rfl; have x1_1 : w2.cell? ⟨g1, 1, none⟩ = some (.int .i64 oe) := (cell_of_row _ _ 1 _ _ _ HX1.out).trans rfl; have x1_2 : w2.cell? ⟨g1, 2, none⟩ = some (.int .i64 ow) := (cell_of_row _ _ 2 _ _ _ HX1.out).trans rfl; have x1_3 : w2.cell? ⟨g1, 3, none⟩ = some (.int .i64 ol) := (cell_of_row _ _ 3 _ _ _ HX1.out).trans rfl; have x1_4 : w2.cell? ⟨g1, 4, none⟩ = some (.int .i64 of) := (cell_of_row _ _ 4 _ _ _ HX1.out).trans rfl; have x1_5 : w2.cell? ⟨g1, 5, none⟩ = some (.int .i64 oq) := (cell_of_row _ _ 5 _ _ _ HX1.out).trans rfl; have x1_6 : w2.cell? ⟨g1, 6, none⟩ = some (on) := (cell_of_row _ _ 6 _ _ _ HX1.out).trans rfl; have x1_7 : w2.cell? ⟨g1, 7, none⟩ = some (od) := (cell_of_row _ _ 7 _ _ _ HX1.out).trans rfl; have x1_8 : w2.cell? ⟨g1, 8, none⟩ = some (os) := (cell_of_row _ _ 8 _ _ _ HX1.out).trans rfl; have x1_9 : w2.cell? ⟨g1, 9, none⟩ = some (ov) := (cell_of_row _ _ 9 _ _ _ HX1.out).trans rfl; clear hb2))
        go_ret
        exact ⟨ret_bool (by simp [objB, hG, an, hA0]), HB0.out⟩
      | false =>
        have x0_0 : W1.cell? ⟨g0, 0, none⟩ = some (.int .i64 id) := (cell_of_row _ _ 0 _ _ _ hx0).trans rfl
        have x0_1 : W1.cell? ⟨g0, 1, none⟩ = some (.bool wz) := (cell_of_row _ _ 1 _ _ _ hx0).trans rfl
        have x0_2 : W1.cell? ⟨g0, 2, none⟩ = some (.bool pg) := (cell_of_row _ _ 2 _ _ _ hx0).trans rfl
        have x1_0 : W1.cell? ⟨g1, 0, none⟩ = some (.int .i64 oi) := (cell_of_row _ _ 0 _ _ _ hx1).trans rfl
        have x1_1 : W1.cell? ⟨g1, 1, none⟩ = some (.int .i64 oe) := (cell_of_row _ _ 1 _ _ _ hx1).trans rfl
        have x1_2 : W1.cell? ⟨g1, 2, none⟩ = some (.int .i64 ow) := (cell_of_row _ _ 2 _ _ _ hx1).trans rfl
        have x1_3 : W1.cell? ⟨g1, 3, none⟩ = some (.int .i64 ol) := (cell_of_row _ _ 3 _ _ _ hx1).trans rfl
        have x1_4 : W1.cell? ⟨g1, 4, none⟩ = some (.int .i64 of) := (cell_of_row _ _ 4 _ _ _ hx1).trans rfl
        have x1_5 : W1.cell? ⟨g1, 5, none⟩ = some (.int .i64 oq) := (cell_of_row _ _ 5 _ _ _ hx1).trans rfl
        have x1_6 : W1.cell? ⟨g1, 6, none⟩ = some (on) := (cell_of_row _ _ 6 _ _ _ hx1).trans rfl
        have x1_7 : W1.cell? ⟨g1, 7, none⟩ = some (od) := (cell_of_row _ _ 7 _ _ _ hx1).trans rfl
        have x1_8 : W1.cell? ⟨g1, 8, none⟩ = some (os) := (cell_of_row _ _ 8 _ _ _ hx1).trans rfl
        have x1_9 : W1.cell? ⟨g1, 9, none⟩ = some (ov) := (cell_of_row _ _ 9 _ _ _ hx1).trans rfl
        have HX0 := Lib.hid hx0
        clear hx0
        have HX1 := Lib.hid hx1
        clear hx1
        go_enter Try.func17, Try.ntmps17
        go_upto_region 1 with fail
        try simp only [World.size_alloc]
        rw [← hW1, ← hg1, ← hg0]
        clear hW1 hg0 hg1
        go_wp2_with (first
          | (go_at_call 11; (with_reducible refine C1.out.mono ?_); rintro e w2 ⟨rfl, hb2⟩; have HB0 := Lib.hid (HB0.out.trans (hb2.mono HB0.out.size)); have HX0 := Lib.hid ((hb2.block _ hl0).trans HX0.out); have hl0 := Nat.lt_of_lt_of_le hl0 hb2.size; have HX1 := Lib.hid ((hb2.block _ hl1).trans HX1.out); have hl1 := Nat.lt_of_lt_of_le hl1 hb2.size; have x0_0 : w2.cell? ⟨g0, 0, none⟩ = some (.int .i64 id) := (cell_of_row _ _ 0 _ _ _ HX0.out).trans rfl; have x0_1 : w2.cell? ⟨g0, 1, none⟩ = some (.bool wz) := (cell_of_row _ _ 1 _ _ _ HX0.out).trans rfl; have x0_2 : w2.cell? ⟨g0, 2, none⟩ = some (.bool pg) := (cell_of_row _ _ 2 _ _ _ HX0.out).trans rfl; have x1_0 : w2.cell? ⟨g1, 0, none⟩ = some (.int .i64 oi) := (cell_of_row _ _ 0 _ _ _ HX1.out).trans rfl; have x1_1 : w2.cell? ⟨g1, 1, none⟩ = some (.int .i64 oe) := (cell_of_row _ _ 1 _ _ _ HX1.out).trans rfl; have x1_2 : w2.cell? ⟨g1, 2, none⟩ = some (.int .i64 ow) := (cell_of_row _ _ 2 _ _ _ HX1.out).trans rfl; have x1_3 : w2.cell? ⟨g1, 3, none⟩ = some (.int .i64 ol) := (cell_of_row _ _ 3 _ _ _ HX1.out).trans rfl; have x1_4 : w2.cell? ⟨g1, 4, none⟩ = some (.int .i64 of) := (cell_of_row _ _ 4 _ _ _ HX1.out).trans rfl; have x1_5 : w2.cell? ⟨g1, 5, none⟩ = some (.int .i64 oq) := (cell_of_row _ _ 5 _ _ _ HX1.out).trans rfl; have x1_6 : w2.cell? ⟨g1, 6, none⟩ = some (on) := (cell_of_row _ _ 6 _ _ _ HX1.out).trans rfl; have x1_7 : w2.cell? ⟨g1, 7, none⟩ = some (od) := (cell_of_row _ _ 7 _ _ _ HX1.out).trans rfl; have x1_8 : w2.cell? ⟨g1, 8, none⟩ = some (os) := (cell_of_row _ _ 8 _ _ _ HX1.out).trans rfl; have x1_9 : w2.cell? ⟨g1, 9, none⟩ = some (ov) := (cell_of_row _ _ 9 _ _ _ HX1.out).trans rfl; clear hb2))
        go_ret
        exact ⟨ret_bool (by simp [objB, hG, an, hA0]), HB0.out⟩
  by_cases h8 : op = 8
  · subst h8
    cases pg with
    | false =>
      have x0_0 : W1.cell? ⟨g0, 0, none⟩ = some (.int .i64 id) := (cell_of_row _ _ 0 _ _ _ hx0).trans rfl
      have x0_1 : W1.cell? ⟨g0, 1, none⟩ = some (.bool wz) := (cell_of_row _ _ 1 _ _ _ hx0).trans rfl
      have x0_2 : W1.cell? ⟨g0, 2, none⟩ = some (.bool false) := (cell_of_row _ _ 2 _ _ _ hx0).trans rfl
      have x1_0 : W1.cell? ⟨g1, 0, none⟩ = some (.int .i64 oi) := (cell_of_row _ _ 0 _ _ _ hx1).trans rfl
      have x1_1 : W1.cell? ⟨g1, 1, none⟩ = some (.int .i64 oe) := (cell_of_row _ _ 1 _ _ _ hx1).trans rfl
      have x1_2 : W1.cell? ⟨g1, 2, none⟩ = some (.int .i64 ow) := (cell_of_row _ _ 2 _ _ _ hx1).trans rfl
      have x1_3 : W1.cell? ⟨g1, 3, none⟩ = some (.int .i64 ol) := (cell_of_row _ _ 3 _ _ _ hx1).trans rfl
      have x1_4 : W1.cell? ⟨g1, 4, none⟩ = some (.int .i64 of) := (cell_of_row _ _ 4 _ _ _ hx1).trans rfl
      have x1_5 : W1.cell? ⟨g1, 5, none⟩ = some (.int .i64 oq) := (cell_of_row _ _ 5 _ _ _ hx1).trans rfl
      have x1_6 : W1.cell? ⟨g1, 6, none⟩ = some (on) := (cell_of_row _ _ 6 _ _ _ hx1).trans rfl
      have x1_7 : W1.cell? ⟨g1, 7, none⟩ = some (od) := (cell_of_row _ _ 7 _ _ _ hx1).trans rfl
      have x1_8 : W1.cell? ⟨g1, 8, none⟩ = some (os) := (cell_of_row _ _ 8 _ _ _ hx1).trans rfl
      have x1_9 : W1.cell? ⟨g1, 9, none⟩ = some (ov) := (cell_of_row _ _ 9 _ _ _ hx1).trans rfl
      have HX0 := Lib.hid hx0
      clear hx0
      have HX1 := Lib.hid hx1
      clear hx1
      go_enter Try.func17, Try.ntmps17
      go_upto_region 1 with fail
      try simp only [World.size_alloc]
      rw [← hW1, ← hg1, ← hg0]
      clear hW1 hg0 hg1
      go_wp2_with (first
        | (go_at_call 11; (with_reducible refine C1.out.mono ?_); rintro e w2 ⟨rfl, hb2⟩; have HB0 := Lib.hid (HB0.out.trans (hb2.mono HB0.out.size)); have HX0 := Lib.hid ((hb2.block _ hl0).trans HX0.out); have hl0 := Nat.lt_of_lt_of_le hl0 hb2.size; have HX1 := Lib.hid ((hb2.block _ hl1).trans HX1.out); have hl1 := Nat.lt_of_lt_of_le hl1 hb2.size; have x0_0 : w2.cell? ⟨g0, 0, none⟩ = some (.int .i64 id) := (cell_of_row _ _ 0 _ _ _ HX0.out).trans rfl; have x0_1 : w2.cell? ⟨g0, 1, none⟩ = some (.bool wz) := (cell_of_row _ _ 1 _ _ _ HX0.out).trans rfl; have x0_2 : w2.cell? ⟨g0, 2, none⟩ = some (.bool false) := (cell_of_row _ _ 2 _ _ _ HX0.out).trans rfl; have x1_0 : w2.cell? ⟨g1, 0, none⟩ = some (.int .i64 oi) := (cell_of_row _ _ 0 _ _ _ HX1.out).trans rfl; have x1_1 : w2.cell? ⟨g1, 1, none⟩ = some (.int .i64 oe) := (cell_of_row _ _ 1 _ _ _ HX1.out).trans rfl; have x1_2 : w2.cell? ⟨g1, 2, none⟩ = some (.int .i64 ow) := (cell_of_row _ _ 2 _ _ _ HX1.out).trans rfl; have x1_3 : w2.cell? ⟨g1, 3, none⟩ = some (.int .i64 ol) := (cell_of_row _ _ 3 _ _ _ HX1.out).trans rfl; have x1_4 : w2.cell? ⟨g1, 4, none⟩ = some (.int .i64 of) := (cell_of_row _ _ 4 _ _ _ HX1.out).trans rfl; have x1_5 : w2.cell? ⟨g1, 5, none⟩ = some (.int .i64 oq) := (cell_of_row _ _ 5 _ _ _ HX1.out).trans rfl; have x1_6 : w2.cell? ⟨g1, 6, none⟩ = some (on) := (cell_of_row _ _ 6 _ _ _ HX1.out).trans rfl; have x1_7 : w2.cell? ⟨g1, 7, none⟩ = some (od) := (cell_of_row _ _ 7 _ _ _ HX1.out).trans rfl; have x1_8 : w2.cell? ⟨g1, 8, none⟩ = some (os) := (cell_of_row _ _ 8 _ _ _ HX1.out).trans rfl; have x1_9 : w2.cell? ⟨g1, 9, none⟩ = some (ov) := (cell_of_row _ _ 9 _ _ _ HX1.out).trans rfl; clear hb2))
      go_ret
      exact ⟨ret_bool (by simp [objB]), HB0.out⟩
    | true =>
      cases G with
      | true =>
        have x0_0 : W1.cell? ⟨g0, 0, none⟩ = some (.int .i64 id) := (cell_of_row _ _ 0 _ _ _ hx0).trans rfl
        have x0_1 : W1.cell? ⟨g0, 1, none⟩ = some (.bool wz) := (cell_of_row _ _ 1 _ _ _ hx0).trans rfl
        have x0_2 : W1.cell? ⟨g0, 2, none⟩ = some (.bool true) := (cell_of_row _ _ 2 _ _ _ hx0).trans rfl
        have x1_0 : W1.cell? ⟨g1, 0, none⟩ = some (.int .i64 oi) := (cell_of_row _ _ 0 _ _ _ hx1).trans rfl
        have x1_1 : W1.cell? ⟨g1, 1, none⟩ = some (.int .i64 oe) := (cell_of_row _ _ 1 _ _ _ hx1).trans rfl
        have x1_2 : W1.cell? ⟨g1, 2, none⟩ = some (.int .i64 ow) := (cell_of_row _ _ 2 _ _ _ hx1).trans rfl
        have x1_3 : W1.cell? ⟨g1, 3, none⟩ = some (.int .i64 ol) := (cell_of_row _ _ 3 _ _ _ hx1).trans rfl
        have x1_4 : W1.cell? ⟨g1, 4, none⟩ = some (.int .i64 of) := (cell_of_row _ _ 4 _ _ _ hx1).trans rfl
        have x1_5 : W1.cell? ⟨g1, 5, none⟩ = some (.int .i64 oq) := (cell_of_row _ _ 5 _ _ _ hx1).trans rfl
        have x1_6 : W1.cell? ⟨g1, 6, none⟩ = some (on) := (cell_of_row _ _ 6 _ _ _ hx1).trans rfl
        have x1_7 : W1.cell? ⟨g1, 7, none⟩ = some (od) := (cell_of_row _ _ 7 _ _ _ hx1).trans rfl
        have x1_8 : W1.cell? ⟨g1, 8, none⟩ = some (os) := (cell_of_row _ _ 8 _ _ _ hx1).trans rfl
        have x1_9 : W1.cell? ⟨g1, 9, none⟩ = some (ov) := (cell_of_row _ _ 9 _ _ _ hx1).trans rfl
        have HX0 := Lib.hid hx0
        clear hx0
        have HX1 := Lib.hid hx1
        clear hx1
        go_enter Try.func17, Try.ntmps17
        go_upto_region 1 with fail
        try simp only [World.size_alloc]
        rw [← hW1, ← hg1, ← hg0]
        clear hW1 hg0 hg1
        go_wp2_with (first
          | (go_at_call 11; (with_reducible refine C1.out.mono ?_); rintro e w2 ⟨rfl, hb2⟩; have HB0 := Lib.hid (HB0.out.trans (hb2.mono HB0.out.size)); have HX0 := Lib.hid ((hb2.block _ hl0).trans HX0.out); have hl0 := Nat.lt_of_lt_of_le hl0 hb2.size; have HX1 := Lib.hid ((hb2.block _ hl1).trans HX1.out); have hl1 := Nat.lt_of_lt_of_le hl1 hb2.size; have x0_0 : w2.cell? ⟨g0, 0, none⟩ = some (.int .i64 id) := (cell_of_row _ _ 0 _ _ _ HX0.out).trans rfl; have x0_1 : w2.cell? ⟨g0, 1, none⟩ = some (.bool wz) := (cell_of_row _ _ 1 _ _ _ HX0.out).trans rfl; have x0_2 : w2.cell? ⟨g0, 2, none⟩ = some (.bool true) := (cell_of_row _ _ 2 _ _ _ HX0.out).trans rfl; have x1_0 : w2.cell? ⟨g1, 0, none⟩ = some (.int .i64 oi) := (cell_of_row _ _ 0 _ _ _ HX1.out).trans rfl; have x1_1 : w2.cell? ⟨g1, 1, none⟩ = some (.int .i64 oe) := (cell_of_row _ _ 1 _ _ _ HX1.out).trans rfl; have x1_2 : w2.cell? ⟨g1, 2, none⟩ = some (.int .i64 ow) := (cell_of_row _ _ 2 _ _ _ HX1.out).trans rfl; have x1_3 : w2.cell? ⟨g1, 3, none⟩ = some (.int .i64 ol) := (cell_of_row _ _ 3 _ _ _ HX1.out).trans rfl; have x1_4 : w2.cell? ⟨g1, 4, none⟩ = some (.int .i64 of) := (cell_of_row _ _ 4 _ _ _ HX1.out).trans rfl; have x1_5 : w2.cell? ⟨g1, 5, none⟩ = some (.int .i64 oq) := (cell_of_row _ _ 5 _ _ _ HX1.out).trans rfl; have x1_6 : w2.cell? ⟨g1, 6, none⟩ = some (on) := (cell_of_row _ _ 6 _ _ _ HX1.out).trans rfl; have x1_7 : w2.cell? ⟨g1, 7, none⟩ = some (od) := (cell_of_row _ _ 7 _ _ _ HX1.out).trans rfl; have x1_8 : w2.cell? ⟨g1, 8, none⟩ = some (os) := (cell_of_row _ _ 8 _ _ _ HX1.out).trans rfl; have x1_9 : w2.cell? ⟨g1, 9, none⟩ = some (ov) := (cell_of_row _ _ 9 _ _ _ HX1.out).trans rfl; clear hb2))
        go_ret
        exact ⟨ret_bool (by simp [objB, hG]), HB0.out⟩
      | false =>
        cases hA0 : (bits .and .i64 of 16 != 0) with
        | true =>
          have x0_0 : W1.cell? ⟨g0, 0, none⟩ = some (.int .i64 id) := (cell_of_row _ _ 0 _ _ _ hx0).trans rfl
          have x0_1 : W1.cell? ⟨g0, 1, none⟩ = some (.bool wz) := (cell_of_row _ _ 1 _ _ _ hx0).trans rfl
          have x0_2 : W1.cell? ⟨g0, 2, none⟩ = some (.bool true) := (cell_of_row _ _ 2 _ _ _ hx0).trans rfl
          have x1_0 : W1.cell? ⟨g1, 0, none⟩ = some (.int .i64 oi) := (cell_of_row _ _ 0 _ _ _ hx1).trans rfl
          have x1_1 : W1.cell? ⟨g1, 1, none⟩ = some (.int .i64 oe) := (cell_of_row _ _ 1 _ _ _ hx1).trans rfl
          have x1_2 : W1.cell? ⟨g1, 2, none⟩ = some (.int .i64 ow) := (cell_of_row _ _ 2 _ _ _ hx1).trans rfl
          have x1_3 : W1.cell? ⟨g1, 3, none⟩ = some (.int .i64 ol) := (cell_of_row _ _ 3 _ _ _ hx1).trans rfl
          have x1_4 : W1.cell? ⟨g1, 4, none⟩ = some (.int .i64 of) := (cell_of_row _ _ 4 _ _ _ hx1).trans rfl
          have x1_5 : W1.cell? ⟨g1, 5, none⟩ = some (.int .i64 oq) := (cell_of_row _ _ 5 _ _ _ hx1).trans rfl
          have x1_6 : W1.cell? ⟨g1, 6, none⟩ = some (on) := (cell_of_row _ _ 6 _ _ _ hx1).trans rfl
          have x1_7 : W1.cell? ⟨g1, 7, none⟩ = some (od) := (cell_of_row _ _ 7 _ _ _ hx1).trans rfl
          have x1_8 : W1.cell? ⟨g1, 8, none⟩ = some (os) := (cell_of_row _ _ 8 _ _ _ hx1).trans rfl
          have x1_9 : W1.cell? ⟨g1, 9, none⟩ = some (ov) := (cell_of_row _ _ 9 _ _ _ hx1).trans rfl
          have HX0 := Lib.hid hx0
          clear hx0
          have HX1 := Lib.hid hx1
          clear hx1
          go_enter Try.func17, Try.ntmps17
          go_upto_region 1 with fail
          try simp only [World.size_alloc]
          rw [← hW1, ← hg1, ← hg0]
          clear hW1 hg0 hg1
          go_wp2_with (first
            | (go_at_call 11; (with_reducible refine C1.out.mono ?_); rintro e w2 ⟨rfl, hb2⟩; have HB0 := Lib.hid (HB0.out.trans (hb2.mono HB0.out.size)); have HX0 := Lib.hid ((hb2.block _ hl0).trans HX0.out); have hl0 := Nat.lt_of_lt_of_le hl0 hb2.size; have HX1 := Lib.hid ((hb2.block _ hl1).trans HX1.out); have hl1 := Nat.lt_of_lt_of_le hl1 hb2.size; have x0_0 : w2.cell? ⟨g0, 0, none⟩ = some (.int .i64 id) := (cell_of_row _ _ 0 _ _ _ HX0.out).trans rfl; have x0_1 : w2.cell? ⟨g0, 1, none⟩ = some (.bool wz) := (cell_of_row _ _ 1 _ _ _ HX0.out).trans rfl; have x0_2 : w2.cell? ⟨g0, 2, none⟩ = some (.bool true) := (cell_of_row _ _ 2 _ _ _ HX0.out).trans rfl; have x1_0 : w2.cell? ⟨g1, 0, none⟩ = some (.int .i64 oi) := (cell_of_row _ _ 0 _ _ _ HX1.out).trans rfl; have x1_1 : w2.cell? ⟨g1, 1, none⟩ = some (.int .i64 oe) := (cell_of_row _ _ 1 _ _ _ HX1.out).trans rfl; have x1_2 : w2.cell? ⟨g1, 2, none⟩ = some (.int .i64 ow) := (cell_of_row _ _ 2 _ _ _ HX1.out).trans rfl; have x1_3 : w2.cell? ⟨g1, 3, none⟩ = some (.int .i64 ol) := (cell_of_row _ _ 3 _ _ _ HX1.out).trans rfl; have x1_4 : w2.cell? ⟨g1, 4, none⟩ = some (.int .i64 of) := (cell_of_row _ _ 4 _ _ _ HX1.out).trans rfl; have x1_5 : w2.cell? ⟨g1, 5, none⟩ = some (.int .i64 oq) := (cell_of_row _ _ 5 _ _ _ HX1.out).trans rfl; have x1_6 : w2.cell? ⟨g1, 6, none⟩ = some (on) := (cell_of_row _ _ 6 _ _ _ HX1.out).trans rfl; have x1_7 : w2.cell? ⟨g1, 7, none⟩ = some (od) := (cell_of_row _ _ 7 _ _ _ HX1.out).trans rfl; have x1_8 : w2.cell? ⟨g1, 8, none⟩ = some (os) := (cell_of_row _ _ 8 _ _ _ HX1.out).trans rfl; have x1_9 : w2.cell? ⟨g1, 9, none⟩ = some (ov) := (cell_of_row _ _ 9 _ _ _ HX1.out).trans rfl; clear hb2))
          go_ret
          exact ⟨ret_bool (by simp [objB, hG, an, hA0]), HB0.out⟩
        | false =>
          have x0_0 : W1.cell? ⟨g0, 0, none⟩ = some (.int .i64 id) := (cell_of_row _ _ 0 _ _ _ hx0).trans rfl
          have x0_1 : W1.cell? ⟨g0, 1, none⟩ = some (.bool wz) := (cell_of_row _ _ 1 _ _ _ hx0).trans rfl
          have x0_2 : W1.cell? ⟨g0, 2, none⟩ = some (.bool true) := (cell_of_row _ _ 2 _ _ _ hx0).trans rfl
          have x1_0 : W1.cell? ⟨g1, 0, none⟩ = some (.int .i64 oi) := (cell_of_row _ _ 0 _ _ _ hx1).trans rfl
          have x1_1 : W1.cell? ⟨g1, 1, none⟩ = some (.int .i64 oe) := (cell_of_row _ _ 1 _ _ _ hx1).trans rfl
          have x1_2 : W1.cell? ⟨g1, 2, none⟩ = some (.int .i64 ow) := (cell_of_row _ _ 2 _ _ _ hx1).trans rfl
          have x1_3 : W1.cell? ⟨g1, 3, none⟩ = some (.int .i64 ol) := (cell_of_row _ _ 3 _ _ _ hx1).trans rfl
          have x1_4 : W1.cell? ⟨g1, 4, none⟩ = some (.int .i64 of) := (cell_of_row _ _ 4 _ _ _ hx1).trans rfl
          have x1_5 : W1.cell? ⟨g1, 5, none⟩ = some (.int .i64 oq) := (cell_of_row _ _ 5 _ _ _ hx1).trans rfl
          have x1_6 : W1.cell? ⟨g1, 6, none⟩ = some (on) := (cell_of_row _ _ 6 _ _ _ hx1).trans rfl
          have x1_7 : W1.cell? ⟨g1, 7, none⟩ = some (od) := (cell_of_row _ _ 7 _ _ _ hx1).trans rfl
          have x1_8 : W1.cell? ⟨g1, 8, none⟩ = some (os) := (cell_of_row _ _ 8 _ _ _ hx1).trans rfl
          have x1_9 : W1.cell? ⟨g1, 9, none⟩ = some (ov) := (cell_of_row _ _ 9 _ _ _ hx1).trans rfl
          have HX0 := Lib.hid hx0
          clear hx0
          have HX1 := Lib.hid hx1
          clear hx1
          go_enter Try.func17, Try.ntmps17
          go_upto_region 1 with fail
          try simp only [World.size_alloc]
          rw [← hW1, ← hg1, ← hg0]
          clear hW1 hg0 hg1
          go_wp2_with (first
            | (go_at_call 11; (with_reducible refine C1.out.mono ?_); rintro e w2 ⟨rfl, hb2⟩; have HB0 := Lib.hid (HB0.out.trans (hb2.mono HB0.out.size)); have HX0 := Lib.hid ((hb2.block _ hl0).trans HX0.out); have hl0 := Nat.lt_of_lt_of_le hl0 hb2.size; have HX1 := Lib.hid ((hb2.block _ hl1).trans HX1.out); have hl1 := Nat.lt_of_lt_of_le hl1 hb2.size; have x0_0 : w2.cell? ⟨g0, 0, none⟩ = some (.int .i64 id) := (cell_of_row _ _ 0 _ _ _ HX0.out).trans rfl; have x0_1 : w2.cell? ⟨g0, 1, none⟩ = some (.bool wz) := (cell_of_row _ _ 1 _ _ _ HX0.out).trans rfl; have x0_2 : w2.cell? ⟨g0, 2, none⟩ = some (.bool true) := (cell_of_row _ _ 2 _ _ _ HX0.out).trans rfl; have x1_0 : w2.cell? ⟨g1, 0, none⟩ = some (.int .i64 oi) := (cell_of_row _ _ 0 _ _ _ HX1.out).trans rfl; have x1_1 : w2.cell? ⟨g1, 1, none⟩ = some (.int .i64 oe) := (cell_of_row _ _ 1 _ _ _ HX1.out).trans rfl; have x1_2 : w2.cell? ⟨g1, 2, none⟩ = some (.int .i64 ow) := (cell_of_row _ _ 2 _ _ _ HX1.out).trans rfl; have x1_3 : w2.cell? ⟨g1, 3, none⟩ = some (.int .i64 ol) := (cell_of_row _ _ 3 _ _ _ HX1.out).trans rfl; have x1_4 : w2.cell? ⟨g1, 4, none⟩ = some (.int .i64 of) := (cell_of_row _ _ 4 _ _ _ HX1.out).trans rfl; have x1_5 : w2.cell? ⟨g1, 5, none⟩ = some (.int .i64 oq) := (cell_of_row _ _ 5 _ _ _ HX1.out).trans rfl; have x1_6 : w2.cell? ⟨g1, 6, none⟩ = some (on) := (cell_of_row _ _ 6 _ _ _ HX1.out).trans rfl; have x1_7 : w2.cell? ⟨g1, 7, none⟩ = some (od) := (cell_of_row _ _ 7 _ _ _ HX1.out).trans rfl; have x1_8 : w2.cell? ⟨g1, 8, none⟩ = some (os) := (cell_of_row _ _ 8 _ _ _ HX1.out).trans rfl; have x1_9 : w2.cell? ⟨g1, 9, none⟩ = some (ov) := (cell_of_row _ _ 9 _ _ _ HX1.out).trans rfl; clear hb2))
          go_ret
          exact ⟨ret_bool (by simp [objB, hG, an, hA0]), HB0.out⟩
  by_cases h10 : op = 10
  · subst h10
    have x0_0 : W1.cell? ⟨g0, 0, none⟩ = some (.int .i64 id) := (cell_of_row _ _ 0 _ _ _ hx0).trans rfl
    have x0_1 : W1.cell? ⟨g0, 1, none⟩ = some (.bool wz) := (cell_of_row _ _ 1 _ _ _ hx0).trans rfl
    have x0_2 : W1.cell? ⟨g0, 2, none⟩ = some (.bool pg) := (cell_of_row _ _ 2 _ _ _ hx0).trans rfl
    have x1_0 : W1.cell? ⟨g1, 0, none⟩ = some (.int .i64 oi) := (cell_of_row _ _ 0 _ _ _ hx1).trans rfl
    have x1_1 : W1.cell? ⟨g1, 1, none⟩ = some (.int .i64 oe) := (cell_of_row _ _ 1 _ _ _ hx1).trans rfl
    have x1_2 : W1.cell? ⟨g1, 2, none⟩ = some (.int .i64 ow) := (cell_of_row _ _ 2 _ _ _ hx1).trans rfl
    have x1_3 : W1.cell? ⟨g1, 3, none⟩ = some (.int .i64 ol) := (cell_of_row _ _ 3 _ _ _ hx1).trans rfl
    have x1_4 : W1.cell? ⟨g1, 4, none⟩ = some (.int .i64 of) := (cell_of_row _ _ 4 _ _ _ hx1).trans rfl
    have x1_5 : W1.cell? ⟨g1, 5, none⟩ = some (.int .i64 oq) := (cell_of_row _ _ 5 _ _ _ hx1).trans rfl
    have x1_6 : W1.cell? ⟨g1, 6, none⟩ = some (on) := (cell_of_row _ _ 6 _ _ _ hx1).trans rfl
    have x1_7 : W1.cell? ⟨g1, 7, none⟩ = some (od) := (cell_of_row _ _ 7 _ _ _ hx1).trans rfl
    have x1_8 : W1.cell? ⟨g1, 8, none⟩ = some (os) := (cell_of_row _ _ 8 _ _ _ hx1).trans rfl
    have x1_9 : W1.cell? ⟨g1, 9, none⟩ = some (ov) := (cell_of_row _ _ 9 _ _ _ hx1).trans rfl
    have HX0 := Lib.hid hx0
    clear hx0
    have HX1 := Lib.hid hx1
    clear hx1
    go_enter Try.func17, Try.ntmps17
    go_upto_region 1 with fail
    try simp only [World.size_alloc]
    rw [← hW1, ← hg1, ← hg0]
    clear hW1 hg0 hg1
    go_wp2_with (first
      | (go_at_call 11; (with_reducible refine C1.out.mono ?_); rintro e w2 ⟨rfl, hb2⟩; have HB0 := Lib.hid (HB0.out.trans (hb2.mono HB0.out.size)); have HX0 := Lib.hid ((hb2.block _ hl0).trans HX0.out); have hl0 := Nat.lt_of_lt_of_le hl0 hb2.size; have HX1 := Lib.hid ((hb2.block _ hl1).trans HX1.out); have hl1 := Nat.lt_of_lt_of_le hl1 hb2.size; have x0_0 : w2.cell? ⟨g0, 0, none⟩ = some (.int .i64 id) := (cell_of_row _ _ 0 _ _ _ HX0.out).trans rfl; have x0_1 : w2.cell? ⟨g0, 1, none⟩ = some (.bool wz) := (cell_of_row _ _ 1 _ _ _ HX0.out).trans rfl; have x0_2 : w2.cell? ⟨g0, 2, none⟩ = some (.bool pg) := (cell_of_row _ _ 2 _ _ _ HX0.out).trans rfl; have x1_0 : w2.cell? ⟨g1, 0, none⟩ = some (.int .i64 oi) := (cell_of_row _ _ 0 _ _ _ HX1.out).trans rfl; have x1_1 : w2.cell? ⟨g1, 1, none⟩ = some (.int .i64 oe) := (cell_of_row _ _ 1 _ _ _ HX1.out).trans rfl; have x1_2 : w2.cell? ⟨g1, 2, none⟩ = some (.int .i64 ow) := (cell_of_row _ _ 2 _ _ _ HX1.out).trans rfl; have x1_3 : w2.cell? ⟨g1, 3, none⟩ = some (.int .i64 ol) := (cell_of_row _ _ 3 _ _ _ HX1.out).trans rfl; have x1_4 : w2.cell? ⟨g1, 4, none⟩ = some (.int .i64 of) := (cell_of_row _ _ 4 _ _ _ HX1.out).trans rfl; have x1_5 : w2.cell? ⟨g1, 5, none⟩ = some (.int .i64 oq) := (cell_of_row _ _ 5 _ _ _ HX1.out).trans rfl; have x1_6 : w2.cell? ⟨g1, 6, none⟩ = some (on) := (cell_of_row _ _ 6 _ _ _ HX1.out).trans rfl; have x1_7 : w2.cell? ⟨g1, 7, none⟩ = some (od) := (cell_of_row _ _ 7 _ _ _ HX1.out).trans rfl; have x1_8 : w2.cell? ⟨g1, 8, none⟩ = some (os) := (cell_of_row _ _ 8 _ _ _ HX1.out).trans rfl; have x1_9 : w2.cell? ⟨g1, 9, none⟩ = some (ov) := (cell_of_row _ _ 9 _ _ _ HX1.out).trans rfl; clear hb2))
    go_ret
    exact ⟨ret_bool (by simp [objB, hG]), HB0.out⟩
  by_cases h12 : op = 12
  · subst h12
    have x0_0 : W1.cell? ⟨g0, 0, none⟩ = some (.int .i64 id) := (cell_of_row _ _ 0 _ _ _ hx0).trans rfl
    have x0_1 : W1.cell? ⟨g0, 1, none⟩ = some (.bool wz) := (cell_of_row _ _ 1 _ _ _ hx0).trans rfl
    have x0_2 : W1.cell? ⟨g0, 2, none⟩ = some (.bool pg) := (cell_of_row _ _ 2 _ _ _ hx0).trans rfl
    have x1_0 : W1.cell? ⟨g1, 0, none⟩ = some (.int .i64 oi) := (cell_of_row _ _ 0 _ _ _ hx1).trans rfl
    have x1_1 : W1.cell? ⟨g1, 1, none⟩ = some (.int .i64 oe) := (cell_of_row _ _ 1 _ _ _ hx1).trans rfl
    have x1_2 : W1.cell? ⟨g1, 2, none⟩ = some (.int .i64 ow) := (cell_of_row _ _ 2 _ _ _ hx1).trans rfl
    have x1_3 : W1.cell? ⟨g1, 3, none⟩ = some (.int .i64 ol) := (cell_of_row _ _ 3 _ _ _ hx1).trans rfl
    have x1_4 : W1.cell? ⟨g1, 4, none⟩ = some (.int .i64 of) := (cell_of_row _ _ 4 _ _ _ hx1).trans rfl
    have x1_5 : W1.cell? ⟨g1, 5, none⟩ = some (.int .i64 oq) := (cell_of_row _ _ 5 _ _ _ hx1).trans rfl
    have x1_6 : W1.cell? ⟨g1, 6, none⟩ = some (on) := (cell_of_row _ _ 6 _ _ _ hx1).trans rfl
    have x1_7 : W1.cell? ⟨g1, 7, none⟩ = some (od) := (cell_of_row _ _ 7 _ _ _ hx1).trans rfl
    have x1_8 : W1.cell? ⟨g1, 8, none⟩ = some (os) := (cell_of_row _ _ 8 _ _ _ hx1).trans rfl
    have x1_9 : W1.cell? ⟨g1, 9, none⟩ = some (ov) := (cell_of_row _ _ 9 _ _ _ hx1).trans rfl
    have HX0 := Lib.hid hx0
    clear hx0
    have HX1 := Lib.hid hx1
    clear hx1
    go_enter Try.func17, Try.ntmps17
    go_upto_region 1 with fail
    try simp only [World.size_alloc]
    rw [← hW1, ← hg1, ← hg0]
    clear hW1 hg0 hg1
    go_wp2_with (first
      | (go_at_call 11; (with_reducible refine C1.out.mono ?_); rintro e w2 ⟨rfl, hb2⟩; have HB0 := Lib.hid (HB0.out.trans (hb2.mono HB0.out.size)); have HX0 := Lib.hid ((hb2.block _ hl0).trans HX0.out); have hl0 := Nat.lt_of_lt_of_le hl0 hb2.size; have HX1 := Lib.hid ((hb2.block _ hl1).trans HX1.out); have hl1 := Nat.lt_of_lt_of_le hl1 hb2.size; have x0_0 : w2.cell? ⟨g0, 0, none⟩ = some (.int .i64 id) := (cell_of_row _ _ 0 _ _ _ HX0.out).trans rfl; have x0_1 : w2.cell? ⟨g0, 1, none⟩ = some (.bool wz) := (cell_of_row _ _ 1 _ _ _ HX0.out).trans rfl; have x0_2 : w2.cell? ⟨g0, 2, none⟩ = some (.bool pg) := (cell_of_row _ _ 2 _ _ _ HX0.out).trans rfl; have x1_0 : w2.cell? ⟨g1, 0, none⟩ = some (.int .i64 oi) := (cell_of_row _ _ 0 _ _ _ HX1.out).trans rfl; have x1_1 : w2.cell? ⟨g1, 1, none⟩ = some (.int .i64 oe) := (cell_of_row _ _ 1 _ _ _ HX1.out).trans rfl; have x1_2 : w2.cell? ⟨g1, 2, none⟩ = some (.int .i64 ow) := (cell_of_row _ _ 2 _ _ _ HX1.out).trans rfl; have x1_3 : w2.cell? ⟨g1, 3, none⟩ = some (.int .i64 ol) := (cell_of_row _ _ 3 _ _ _ HX1.out).trans rfl; have x1_4 : w2.cell? ⟨g1, 4, none⟩ = some (.int .i64 of) := (cell_of_row _ _ 4 _ _ _ HX1.out).trans rfl; have x1_5 : w2.cell? ⟨g1, 5, none⟩ = some (.int .i64 oq) := (cell_of_row _ _ 5 _ _ _ HX1.out).trans rfl; have x1_6 : w2.cell? ⟨g1, 6, none⟩ = some (on) := (cell_of_row _ _ 6 _ _ _ HX1.out).trans rfl; have x1_7 : w2.cell? ⟨g1, 7, none⟩ = some (od) := (cell_of_row _ _ 7 _ _ _ HX1.out).trans rfl; have x1_8 : w2.cell? ⟨g1, 8, none⟩ = some (os) := (cell_of_row _ _ 8 _ _ _ HX1.out).trans rfl; have x1_9 : w2.cell? ⟨g1, 9, none⟩ = some (ov) := (cell_of_row _ _ 9 _ _ _ HX1.out).trans rfl; clear hb2))
    go_ret
    exact ⟨ret_bool (by simp [objB, hG]), HB0.out⟩
  by_cases h14 : op = 14
  · subst h14
    have x0_0 : W1.cell? ⟨g0, 0, none⟩ = some (.int .i64 id) := (cell_of_row _ _ 0 _ _ _ hx0).trans rfl
    have x0_1 : W1.cell? ⟨g0, 1, none⟩ = some (.bool wz) := (cell_of_row _ _ 1 _ _ _ hx0).trans rfl
    have x0_2 : W1.cell? ⟨g0, 2, none⟩ = some (.bool pg) := (cell_of_row _ _ 2 _ _ _ hx0).trans rfl
    have x1_0 : W1.cell? ⟨g1, 0, none⟩ = some (.int .i64 oi) := (cell_of_row _ _ 0 _ _ _ hx1).trans rfl
    have x1_1 : W1.cell? ⟨g1, 1, none⟩ = some (.int .i64 oe) := (cell_of_row _ _ 1 _ _ _ hx1).trans rfl
    have x1_2 : W1.cell? ⟨g1, 2, none⟩ = some (.int .i64 ow) := (cell_of_row _ _ 2 _ _ _ hx1).trans rfl
    have x1_3 : W1.cell? ⟨g1, 3, none⟩ = some (.int .i64 ol) := (cell_of_row _ _ 3 _ _ _ hx1).trans rfl
    have x1_4 : W1.cell? ⟨g1, 4, none⟩ = some (.int .i64 of) := (cell_of_row _ _ 4 _ _ _ hx1).trans rfl
    have x1_5 : W1.cell? ⟨g1, 5, none⟩ = some (.int .i64 oq) := (cell_of_row _ _ 5 _ _ _ hx1).trans rfl
    have x1_6 : W1.cell? ⟨g1, 6, none⟩ = some (on) := (cell_of_row _ _ 6 _ _ _ hx1).trans rfl
    have x1_7 : W1.cell? ⟨g1, 7, none⟩ = some (od) := (cell_of_row _ _ 7 _ _ _ hx1).trans rfl
    have x1_8 : W1.cell? ⟨g1, 8, none⟩ = some (os) := (cell_of_row _ _ 8 _ _ _ hx1).trans rfl
    have x1_9 : W1.cell? ⟨g1, 9, none⟩ = some (ov) := (cell_of_row _ _ 9 _ _ _ hx1).trans rfl
    have HX0 := Lib.hid hx0
    clear hx0
    have HX1 := Lib.hid hx1
    clear hx1
    go_enter Try.func17, Try.ntmps17
    go_upto_region 1 with fail
    try simp only [World.size_alloc]
    rw [← hW1, ← hg1, ← hg0]
    clear hW1 hg0 hg1
    go_wp2_with (first
      | (go_at_call 11; (with_reducible refine C1.out.mono ?_); rintro e w2 ⟨rfl, hb2⟩; have HB0 := Lib.hid (HB0.out.trans (hb2.mono HB0.out.size)); have HX0 := Lib.hid ((hb2.block _ hl0).trans HX0.out); have hl0 := Nat.lt_of_lt_of_le hl0 hb2.size; have HX1 := Lib.hid ((hb2.block _ hl1).trans HX1.out); have hl1 := Nat.lt_of_lt_of_le hl1 hb2.size; have x0_0 : w2.cell? ⟨g0, 0, none⟩ = some (.int .i64 id) := (cell_of_row _ _ 0 _ _ _ HX0.out).trans rfl; have x0_1 : w2.cell? ⟨g0, 1, none⟩ = some (.bool wz) := (cell_of_row _ _ 1 _ _ _ HX0.out).trans rfl; have x0_2 : w2.cell? ⟨g0, 2, none⟩ = some (.bool pg) := (cell_of_row _ _ 2 _ _ _ HX0.out).trans rfl; have x1_0 : w2.cell? ⟨g1, 0, none⟩ = some (.int .i64 oi) := (cell_of_row _ _ 0 _ _ _ HX1.out).trans rfl; have x1_1 : w2.cell? ⟨g1, 1, none⟩ = some (.int .i64 oe) := (cell_of_row _ _ 1 _ _ _ HX1.out).trans rfl; have x1_2 : w2.cell? ⟨g1, 2, none⟩ = some (.int .i64 ow) := (cell_of_row _ _ 2 _ _ _ HX1.out).trans rfl; have x1_3 : w2.cell? ⟨g1, 3, none⟩ = some (.int .i64 ol) := (cell_of_row _ _ 3 _ _ _ HX1.out).trans rfl; have x1_4 : w2.cell? ⟨g1, 4, none⟩ = some (.int .i64 of) := (cell_of_row _ _ 4 _ _ _ HX1.out).trans rfl; have x1_5 : w2.cell? ⟨g1, 5, none⟩ = some (.int .i64 oq) := (cell_of_row _ _ 5 _ _ _ HX1.out).trans rfl; have x1_6 : w2.cell? ⟨g1, 6, none⟩ = some (on) := (cell_of_row _ _ 6 _ _ _ HX1.out).trans rfl; have x1_7 : w2.cell? ⟨g1, 7, none⟩ = some (od) := (cell_of_row _ _ 7 _ _ _ HX1.out).trans rfl; have x1_8 : w2.cell? ⟨g1, 8, none⟩ = some (os) := (cell_of_row _ _ 8 _ _ _ HX1.out).trans rfl; have x1_9 : w2.cell? ⟨g1, 9, none⟩ = some (ov) := (cell_of_row _ _ 9 _ _ _ HX1.out).trans rfl; clear hb2))
    go_ret
    exact ⟨ret_bool (by simp [objB, hG]), HB0.out⟩
  by_cases h13 : op = 13
  · subst h13
    cases hA0 : (bits .and .i64 of 1 != 0) with
    | true =>
      have x0_0 : W1.cell? ⟨g0, 0, none⟩ = some (.int .i64 id) := (cell_of_row _ _ 0 _ _ _ hx0).trans rfl
      have x0_1 : W1.cell? ⟨g0, 1, none⟩ = some (.bool wz) := (cell_of_row _ _ 1 _ _ _ hx0).trans rfl
      have x0_2 : W1.cell? ⟨g0, 2, none⟩ = some (.bool pg) := (cell_of_row _ _ 2 _ _ _ hx0).trans rfl
      have x1_0 : W1.cell? ⟨g1, 0, none⟩ = some (.int .i64 oi) := (cell_of_row _ _ 0 _ _ _ hx1).trans rfl
      have x1_1 : W1.cell? ⟨g1, 1, none⟩ = some (.int .i64 oe) := (cell_of_row _ _ 1 _ _ _ hx1).trans rfl
      have x1_2 : W1.cell? ⟨g1, 2, none⟩ = some (.int .i64 ow) := (cell_of_row _ _ 2 _ _ _ hx1).trans rfl
      have x1_3 : W1.cell? ⟨g1, 3, none⟩ = some (.int .i64 ol) := (cell_of_row _ _ 3 _ _ _ hx1).trans rfl
      have x1_4 : W1.cell? ⟨g1, 4, none⟩ = some (.int .i64 of) := (cell_of_row _ _ 4 _ _ _ hx1).trans rfl
      have x1_5 : W1.cell? ⟨g1, 5, none⟩ = some (.int .i64 oq) := (cell_of_row _ _ 5 _ _ _ hx1).trans rfl
      have x1_6 : W1.cell? ⟨g1, 6, none⟩ = some (on) := (cell_of_row _ _ 6 _ _ _ hx1).trans rfl
      have x1_7 : W1.cell? ⟨g1, 7, none⟩ = some (od) := (cell_of_row _ _ 7 _ _ _ hx1).trans rfl
      have x1_8 : W1.cell? ⟨g1, 8, none⟩ = some (os) := (cell_of_row _ _ 8 _ _ _ hx1).trans rfl
      have x1_9 : W1.cell? ⟨g1, 9, none⟩ = some (ov) := (cell_of_row _ _ 9 _ _ _ hx1).trans rfl
      have HX0 := Lib.hid hx0
      clear hx0
      have HX1 := Lib.hid hx1
      clear hx1
      go_enter Try.func17, Try.ntmps17
      go_upto_region 1 with fail
      try simp only [World.size_alloc]
      rw [← hW1, ← hg1, ← hg0]
      clear hW1 hg0 hg1
      go_wp2_with (first
        | (go_at_call 11; (with_reducible refine C1.out.mono ?_); rintro e w2 ⟨rfl, hb2⟩; have HB0 := Lib.hid (HB0.out.trans (hb2.mono HB0.out.size)); have HX0 := Lib.hid ((hb2.block _ hl0).trans HX0.out); have hl0 := Nat.lt_of_lt_of_le hl0 hb2.size; have HX1 := Lib.hid ((hb2.block _ hl1).trans HX1.out); have hl1 := Nat.lt_of_lt_of_le hl1 hb2.size; have x0_0 : w2.cell? ⟨g0, 0, none⟩ = some (.int .i64 id) := (cell_of_row _ _ 0 _ _ _ HX0.out).trans rfl; have x0_1 : w2.cell? ⟨g0, 1, none⟩ = some (.bool wz) := (cell_of_row _ _ 1 _ _ _ HX0.out).trans rfl; have x0_2 : w2.cell? ⟨g0, 2, none⟩ = some (.bool pg) := (cell_of_row _ _ 2 _ _ _ HX0.out).trans rfl; have x1_0 : w2.cell? ⟨g1, 0, none⟩ = some (.int .i64 oi) := (cell_of_row _ _ 0 _ _ _ HX1.out).trans rfl; have x1_1 : w2.cell? ⟨g1, 1, none⟩ = some (.int .i64 oe) := (cell_of_row _ _ 1 _ _ _ HX1.out).trans rfl; have x1_2 : w2.cell? ⟨g1, 2, none⟩ = some (.int .i64 ow) := (cell_of_row _ _ 2 _ _ _ HX1.out).trans rfl; have x1_3 : w2.cell? ⟨g1, 3, none⟩ = some (.int .i64 ol) := (cell_of_row _ _ 3 _ _ _ HX1.out).trans rfl; have x1_4 : w2.cell? ⟨g1, 4, none⟩ = some (.int .i64 of) := (cell_of_row _ _ 4 _ _ _ HX1.out).trans rfl; have x1_5 : w2.cell? ⟨g1, 5, none⟩ = some (.int .i64 oq) := (cell_of_row _ _ 5 _ _ _ HX1.out).trans rfl; have x1_6 : w2.cell? ⟨g1, 6, none⟩ = some (on) := (cell_of_row _ _ 6 _ _ _ HX1.out).trans rfl; have x1_7 : w2.cell? ⟨g1, 7, none⟩ = some (od) := (cell_of_row _ _ 7 _ _ _ HX1.out).trans rfl; have x1_8 : w2.cell? ⟨g1, 8, none⟩ = some (os) := (cell_of_row _ _ 8 _ _ _ HX1.out).trans rfl; have x1_9 : w2.cell? ⟨g1, 9, none⟩ = some (ov) := (cell_of_row _ _ 9 _ _ _ HX1.out).trans rfl; clear hb2))
      go_ret
      exact ⟨ret_bool (by simp [objB, an, hA0]), HB0.out⟩
    | false =>
      have x0_0 : W1.cell? ⟨g0, 0, none⟩ = some (.int .i64 id) := (cell_of_row _ _ 0 _ _ _ hx0).trans rfl
      have x0_1 : W1.cell? ⟨g0, 1, none⟩ = some (.bool wz) := (cell_of_row _ _ 1 _ _ _ hx0).trans rfl
      have x0_2 : W1.cell? ⟨g0, 2, none⟩ = some (.bool pg) := (cell_of_row _ _ 2 _ _ _ hx0).trans rfl
      have x1_0 : W1.cell? ⟨g1, 0, none⟩ = some (.int .i64 oi) := (cell_of_row _ _ 0 _ _ _ hx1).trans rfl
      have x1_1 : W1.cell? ⟨g1, 1, none⟩ = some (.int .i64 oe) := (cell_of_row _ _ 1 _ _ _ hx1).trans rfl
      have x1_2 : W1.cell? ⟨g1, 2, none⟩ = some (.int .i64 ow) := (cell_of_row _ _ 2 _ _ _ hx1).trans rfl
      have x1_3 : W1.cell? ⟨g1, 3, none⟩ = some (.int .i64 ol) := (cell_of_row _ _ 3 _ _ _ hx1).trans rfl
      have x1_4 : W1.cell? ⟨g1, 4, none⟩ = some (.int .i64 of) := (cell_of_row _ _ 4 _ _ _ hx1).trans rfl
      have x1_5 : W1.cell? ⟨g1, 5, none⟩ = some (.int .i64 oq) := (cell_of_row _ _ 5 _ _ _ hx1).trans rfl
      have x1_6 : W1.cell? ⟨g1, 6, none⟩ = some (on) := (cell_of_row _ _ 6 _ _ _ hx1).trans rfl
      have x1_7 : W1.cell? ⟨g1, 7, none⟩ = some (od) := (cell_of_row _ _ 7 _ _ _ hx1).trans rfl
      have x1_8 : W1.cell? ⟨g1, 8, none⟩ = some (os) := (cell_of_row _ _ 8 _ _ _ hx1).trans rfl
      have x1_9 : W1.cell? ⟨g1, 9, none⟩ = some (ov) := (cell_of_row _ _ 9 _ _ _ hx1).trans rfl
      have HX0 := Lib.hid hx0
      clear hx0
      have HX1 := Lib.hid hx1
      clear hx1
      go_enter Try.func17, Try.ntmps17
      go_upto_region 1 with fail
      try simp only [World.size_alloc]
      rw [← hW1, ← hg1, ← hg0]
      clear hW1 hg0 hg1
      go_wp2_with (first
        | (go_at_call 11; (with_reducible refine C1.out.mono ?_); rintro e w2 ⟨rfl, hb2⟩; have HB0 := Lib.hid (HB0.out.trans (hb2.mono HB0.out.size)); have HX0 := Lib.hid ((hb2.block _ hl0).trans HX0.out); have hl0 := Nat.lt_of_lt_of_le hl0 hb2.size; have HX1 := Lib.hid ((hb2.block _ hl1).trans HX1.out); have hl1 := Nat.lt_of_lt_of_le hl1 hb2.size; have x0_0 : w2.cell? ⟨g0, 0, none⟩ = some (.int .i64 id) := (cell_of_row _ _ 0 _ _ _ HX0.out).trans rfl; have x0_1 : w2.cell? ⟨g0, 1, none⟩ = some (.bool wz) := (cell_of_row _ _ 1 _ _ _ HX0.out).trans rfl; have x0_2 : w2.cell? ⟨g0, 2, none⟩ = some (.bool pg) := (cell_of_row _ _ 2 _ _ _ HX0.out).trans rfl; have x1_0 : w2.cell? ⟨g1, 0, none⟩ = some (.int .i64 oi) := (cell_of_row _ _ 0 _ _ _ HX1.out).trans rfl; have x1_1 : w2.cell? ⟨g1, 1, none⟩ = some (.int .i64 oe) := (cell_of_row _ _ 1 _ _ _ HX1.out).trans rfl; have x1_2 : w2.cell? ⟨g1, 2, none⟩ = some (.int .i64 ow) := (cell_of_row _ _ 2 _ _ _ HX1.out).trans rfl; have x1_3 : w2.cell? ⟨g1, 3, none⟩ = some (.int .i64 ol) := (cell_of_row _ _ 3 _ _ _ HX1.out).trans rfl; have x1_4 : w2.cell? ⟨g1, 4, none⟩ = some (.int .i64 of) := (cell_of_row _ _ 4 _ _ _ HX1.out).trans rfl; have x1_5 : w2.cell? ⟨g1, 5, none⟩ = some (.int .i64 oq) := (cell_of_row _ _ 5 _ _ _ HX1.out).trans rfl; have x1_6 : w2.cell? ⟨g1, 6, none⟩ = some (on) := (cell_of_row _ _ 6 _ _ _ HX1.out).trans rfl; have x1_7 : w2.cell? ⟨g1, 7, none⟩ = some (od) := (cell_of_row _ _ 7 _ _ _ HX1.out).trans rfl; have x1_8 : w2.cell? ⟨g1, 8, none⟩ = some (os) := (cell_of_row _ _ 8 _ _ _ HX1.out).trans rfl; have x1_9 : w2.cell? ⟨g1, 9, none⟩ = some (ov) := (cell_of_row _ _ 9 _ _ _ HX1.out).trans rfl; clear hb2))
      go_ret
      exact ⟨ret_bool (by simp [objB, hG, an, hA0]), HB0.out⟩
  by_cases h15 : op = 15
  · subst h15
    have x0_0 : W1.cell? ⟨g0, 0, none⟩ = some (.int .i64 id) := (cell_of_row _ _ 0 _ _ _ hx0).trans rfl
    have x0_1 : W1.cell? ⟨g0, 1, none⟩ = some (.bool wz) := (cell_of_row _ _ 1 _ _ _ hx0).trans rfl
    have x0_2 : W1.cell? ⟨g0, 2, none⟩ = some (.bool pg) := (cell_of_row _ _ 2 _ _ _ hx0).trans rfl
    have x1_0 : W1.cell? ⟨g1, 0, none⟩ = some (.int .i64 oi) := (cell_of_row _ _ 0 _ _ _ hx1).trans rfl
    have x1_1 : W1.cell? ⟨g1, 1, none⟩ = some (.int .i64 oe) := (cell_of_row _ _ 1 _ _ _ hx1).trans rfl
    have x1_2 : W1.cell? ⟨g1, 2, none⟩ = some (.int .i64 ow) := (cell_of_row _ _ 2 _ _ _ hx1).trans rfl
    have x1_3 : W1.cell? ⟨g1, 3, none⟩ = some (.int .i64 ol) := (cell_of_row _ _ 3 _ _ _ hx1).trans rfl
    have x1_4 : W1.cell? ⟨g1, 4, none⟩ = some (.int .i64 of) := (cell_of_row _ _ 4 _ _ _ hx1).trans rfl
    have x1_5 : W1.cell? ⟨g1, 5, none⟩ = some (.int .i64 oq) := (cell_of_row _ _ 5 _ _ _ hx1).trans rfl
    have x1_6 : W1.cell? ⟨g1, 6, none⟩ = some (on) := (cell_of_row _ _ 6 _ _ _ hx1).trans rfl
    have x1_7 : W1.cell? ⟨g1, 7, none⟩ = some (od) := (cell_of_row _ _ 7 _ _ _ hx1).trans rfl
    have x1_8 : W1.cell? ⟨g1, 8, none⟩ = some (os) := (cell_of_row _ _ 8 _ _ _ hx1).trans rfl
    have x1_9 : W1.cell? ⟨g1, 9, none⟩ = some (ov) := (cell_of_row _ _ 9 _ _ _ hx1).trans rfl
    have HX0 := Lib.hid hx0
    clear hx0
    have HX1 := Lib.hid hx1
    clear hx1
    go_enter Try.func17, Try.ntmps17
    go_upto_region 1 with fail
    try simp only [World.size_alloc]
    rw [← hW1, ← hg1, ← hg0]
    clear hW1 hg0 hg1
    go_wp2_with (first
      | (go_at_call 11; (with_reducible refine C1.out.mono ?_); rintro e w2 ⟨rfl, hb2⟩; have HB0 := Lib.hid (HB0.out.trans (hb2.mono HB0.out.size)); have HX0 := Lib.hid ((hb2.block _ hl0).trans HX0.out); have hl0 := Nat.lt_of_lt_of_le hl0 hb2.size; have HX1 := Lib.hid ((hb2.block _ hl1).trans HX1.out); have hl1 := Nat.lt_of_lt_of_le hl1 hb2.size; have x0_0 : w2.cell? ⟨g0, 0, none⟩ = some (.int .i64 id) := (cell_of_row _ _ 0 _ _ _ HX0.out).trans rfl; have x0_1 : w2.cell? ⟨g0, 1, none⟩ = some (.bool wz) := (cell_of_row _ _ 1 _ _ _ HX0.out).trans rfl; have x0_2 : w2.cell? ⟨g0, 2, none⟩ = some (.bool pg) := (cell_of_row _ _ 2 _ _ _ HX0.out).trans rfl; have x1_0 : w2.cell? ⟨g1, 0, none⟩ = some (.int .i64 oi) := (cell_of_row _ _ 0 _ _ _ HX1.out).trans rfl; have x1_1 : w2.cell? ⟨g1, 1, none⟩ = some (.int .i64 oe) := (cell_of_row _ _ 1 _ _ _ HX1.out).trans rfl; have x1_2 : w2.cell? ⟨g1, 2, none⟩ = some (.int .i64 ow) := (cell_of_row _ _ 2 _ _ _ HX1.out).trans rfl; have x1_3 : w2.cell? ⟨g1, 3, none⟩ = some (.int .i64 ol) := (cell_of_row _ _ 3 _ _ _ HX1.out).trans rfl; have x1_4 : w2.cell? ⟨g1, 4, none⟩ = some (.int .i64 of) := (cell_of_row _ _ 4 _ _ _ HX1.out).trans rfl; have x1_5 : w2.cell? ⟨g1, 5, none⟩ = some (.int .i64 oq) := (cell_of_row _ _ 5 _ _ _ HX1.out).trans rfl; have x1_6 : w2.cell? ⟨g1, 6, none⟩ = some (on) := (cell_of_row _ _ 6 _ _ _ HX1.out).trans rfl; have x1_7 : w2.cell? ⟨g1, 7, none⟩ = some (od) := (cell_of_row _ _ 7 _ _ _ HX1.out).trans rfl; have x1_8 : w2.cell? ⟨g1, 8, none⟩ = some (os) := (cell_of_row _ _ 8 _ _ _ HX1.out).trans rfl; have x1_9 : w2.cell? ⟨g1, 9, none⟩ = some (ov) := (cell_of_row _ _ 9 _ _ _ HX1.out).trans rfl; clear hb2))
    go_ret
    exact ⟨ret_bool (by simp [objB]), HB0.out⟩
  have x0_0 : W1.cell? ⟨g0, 0, none⟩ = some (.int .i64 id) := (cell_of_row _ _ 0 _ _ _ hx0).trans rfl
  have x0_1 : W1.cell? ⟨g0, 1, none⟩ = some (.bool wz) := (cell_of_row _ _ 1 _ _ _ hx0).trans rfl
  have x0_2 : W1.cell? ⟨g0, 2, none⟩ = some (.bool pg) := (cell_of_row _ _ 2 _ _ _ hx0).trans rfl
  have x1_0 : W1.cell? ⟨g1, 0, none⟩ = some (.int .i64 oi) := (cell_of_row _ _ 0 _ _ _ hx1).trans rfl
  have x1_1 : W1.cell? ⟨g1, 1, none⟩ = some (.int .i64 oe) := (cell_of_row _ _ 1 _ _ _ hx1).trans rfl
  have x1_2 : W1.cell? ⟨g1, 2, none⟩ = some (.int .i64 ow) := (cell_of_row _ _ 2 _ _ _ hx1).trans rfl
  have x1_3 : W1.cell? ⟨g1, 3, none⟩ = some (.int .i64 ol) := (cell_of_row _ _ 3 _ _ _ hx1).trans rfl
  have x1_4 : W1.cell? ⟨g1, 4, none⟩ = some (.int .i64 of) := (cell_of_row _ _ 4 _ _ _ hx1).trans rfl
  have x1_5 : W1.cell? ⟨g1, 5, none⟩ = some (.int .i64 oq) := (cell_of_row _ _ 5 _ _ _ hx1).trans rfl
  have x1_6 : W1.cell? ⟨g1, 6, none⟩ = some (on) := (cell_of_row _ _ 6 _ _ _ hx1).trans rfl
  have x1_7 : W1.cell? ⟨g1, 7, none⟩ = some (od) := (cell_of_row _ _ 7 _ _ _ hx1).trans rfl
  have x1_8 : W1.cell? ⟨g1, 8, none⟩ = some (os) := (cell_of_row _ _ 8 _ _ _ hx1).trans rfl
  have x1_9 : W1.cell? ⟨g1, 9, none⟩ = some (ov) := (cell_of_row _ _ 9 _ _ _ hx1).trans rfl
  have HX0 := Lib.hid hx0
  clear hx0
  have HX1 := Lib.hid hx1
  clear hx1
  have e3 : (op == 3) = false := by simpa using h3
  have e8 : (op == 8) = false := by simpa using h8
  have e10 : (op == 10) = false := by simpa using h10
  have e12 : (op == 12) = false := by simpa using h12
  have e14 : (op == 14) = false := by simpa using h14
  have e13 : (op == 13) = false := by simpa using h13
  have e15 : (op == 15) = false := by simpa using h15
  go_enter Try.func17, Try.ntmps17
  go_upto_region 1 with fail
  try simp only [World.size_alloc]
  rw [← hW1, ← hg1, ← hg0]
  clear hW1 hg0 hg1
  go_wp2_with (first
    | (go_at_call 11; (with_reducible refine C1.out.mono ?_); rintro e w2 ⟨rfl, hb2⟩; have HB0 := Lib.hid (HB0.out.trans (hb2.mono HB0.out.size)); have HX0 := Lib.hid ((hb2.block _ hl0).trans HX0.out); have hl0 := Nat.lt_of_lt_of_le hl0 hb2.size; have HX1 := Lib.hid ((hb2.block _ hl1).trans HX1.out); have hl1 := Nat.lt_of_lt_of_le hl1 hb2.size; have x0_0 : w2.cell? ⟨g0, 0, none⟩ = some (.int .i64 id) := (cell_of_row _ _ 0 _ _ _ HX0.out).trans rfl; have x0_1 : w2.cell? ⟨g0, 1, none⟩ = some (.bool wz) := (cell_of_row _ _ 1 _ _ _ HX0.out).trans rfl; have x0_2 : w2.cell? ⟨g0, 2, none⟩ = some (.bool pg) := (cell_of_row _ _ 2 _ _ _ HX0.out).trans rfl; have x1_0 : w2.cell? ⟨g1, 0, none⟩ = some (.int .i64 oi) := (cell_of_row _ _ 0 _ _ _ HX1.out).trans rfl; have x1_1 : w2.cell? ⟨g1, 1, none⟩ = some (.int .i64 oe) := (cell_of_row _ _ 1 _ _ _ HX1.out).trans rfl; have x1_2 : w2.cell? ⟨g1, 2, none⟩ = some (.int .i64 ow) := (cell_of_row _ _ 2 _ _ _ HX1.out).trans rfl; have x1_3 : w2.cell? ⟨g1, 3, none⟩ = some (.int .i64 ol) := (cell_of_row _ _ 3 _ _ _ HX1.out).trans rfl; have x1_4 : w2.cell? ⟨g1, 4, none⟩ = some (.int .i64 of) := (cell_of_row _ _ 4 _ _ _ HX1.out).trans rfl; have x1_5 : w2.cell? ⟨g1, 5, none⟩ = some (.int .i64 oq) := (cell_of_row _ _ 5 _ _ _ HX1.out).trans rfl; have x1_6 : w2.cell? ⟨g1, 6, none⟩ = some (on) := (cell_of_row _ _ 6 _ _ _ HX1.out).trans rfl; have x1_7 : w2.cell? ⟨g1, 7, none⟩ = some (od) := (cell_of_row _ _ 7 _ _ _ HX1.out).trans rfl; have x1_8 : w2.cell? ⟨g1, 8, none⟩ = some (os) := (cell_of_row _ _ 8 _ _ _ HX1.out).trans rfl; have x1_9 : w2.cell? ⟨g1, 9, none⟩ = some (ov) := (cell_of_row _ _ 9 _ _ _ HX1.out).trans rfl; clear hb2))
  go_ret
  exact ⟨ret_bool (by simp [objB, h3, h8, h10, h12, h14, h13, h15]), HB0.out⟩
set_option maxHeartbeats 2000000 in
theorem rtwo_any (id : Int) (wz pg : Bool) (op : Int) (oi oe ow ol of oq : Int) (on od os ov : Value) (pi pp pw pl pf pq : Int) (pn pd ps pv : Value) (w : World) : Calls Try.prog 19 #[.agg #[.int .i64 id, .bool wz, .bool pg], .int .i64 op, .agg #[.int .i64 oi, .int .i64 oe, .int .i64 ow, .int .i64 ol, .int .i64 of, .int .i64 oq, on, od, os, ov], .agg #[.int .i64 pi, .int .i64 pp, .int .i64 pw, .int .i64 pl, .int .i64 pf, .int .i64 pq, pn, pd, ps, pv]] w fun e w' => e = .returned (.bool (twoB id wz pg op oi ow pf pw)) ∧ Below w.heap.size w w' := by
  obtain ⟨W1, hW1⟩ : ∃ W1, W1 = (((w.alloc (.cells #[.int .i64 id, .bool wz, .bool pg] 38)).alloc (.cells #[.int .i64 oi, .int .i64 oe, .int .i64 ow, .int .i64 ol, .int .i64 of, .int .i64 oq, on, od, os, ov] 36)).alloc (.cells #[.int .i64 pi, .int .i64 pp, .int .i64 pw, .int .i64 pl, .int .i64 pf, .int .i64 pq, pn, pd, ps, pv] 36)) := ⟨_, rfl⟩
  have hb0 : Below w.heap.size w W1 := hW1 ▸ (((Below.refl w.heap.size w).alloc (Nat.le_refl _) _).alloc (by simp) _).alloc (by simp; omega) _
  have hx0 : W1.heap[w.heap.size]? = some (.cells #[.int .i64 id, .bool wz, .bool pg] 38 (0, 0)) := by
    have h := heap_alloc_new w (.cells #[.int .i64 id, .bool wz, .bool pg] 38)
    rw [hW1]
    rw [Below.heap_alloc _ _ _ (by simp only [World.size_alloc]; omega)]
    rw [Below.heap_alloc _ _ _ (by simp only [World.size_alloc]; omega)]
    exact h
  have hx1 : W1.heap[w.heap.size + 1]? = some (.cells #[.int .i64 oi, .int .i64 oe, .int .i64 ow, .int .i64 ol, .int .i64 of, .int .i64 oq, on, od, os, ov] 36 (0, 0)) := by
    have h := heap_alloc_new (w.alloc (.cells #[.int .i64 id, .bool wz, .bool pg] 38)) (.cells #[.int .i64 oi, .int .i64 oe, .int .i64 ow, .int .i64 ol, .int .i64 of, .int .i64 oq, on, od, os, ov] 36)
    simp only [World.size_alloc] at h
    rw [hW1]
    rw [Below.heap_alloc _ _ _ (by simp only [World.size_alloc]; omega)]
    exact h
  have hx2 : W1.heap[w.heap.size + 2]? = some (.cells #[.int .i64 pi, .int .i64 pp, .int .i64 pw, .int .i64 pl, .int .i64 pf, .int .i64 pq, pn, pd, ps, pv] 36 (0, 0)) := by
    have h := heap_alloc_new ((w.alloc (.cells #[.int .i64 id, .bool wz, .bool pg] 38)).alloc (.cells #[.int .i64 oi, .int .i64 oe, .int .i64 ow, .int .i64 ol, .int .i64 of, .int .i64 oq, on, od, os, ov] 36)) (.cells #[.int .i64 pi, .int .i64 pp, .int .i64 pw, .int .i64 pl, .int .i64 pf, .int .i64 pq, pn, pd, ps, pv] 36)
    simp only [World.size_alloc] at h
    rw [hW1]
    exact h
  obtain ⟨g0, hg0⟩ : ∃ g, g = w.heap.size := ⟨_, rfl⟩
  rw [← hg0] at hx0
  have hl0 : g0 < W1.heap.size := (Array.getElem?_eq_some_iff.1 hx0).1
  obtain ⟨g1, hg1⟩ : ∃ g, g = w.heap.size + 1 := ⟨_, rfl⟩
  rw [← hg1] at hx1
  have hl1 : g1 < W1.heap.size := (Array.getElem?_eq_some_iff.1 hx1).1
  obtain ⟨g2, hg2⟩ : ∃ g, g = w.heap.size + 2 := ⟨_, rfl⟩
  rw [← hg2] at hx2
  have hl2 : g2 < W1.heap.size := (Array.getElem?_eq_some_iff.1 hx2).1
  have HB0 := Lib.hid hb0
  clear hb0
  obtain ⟨G, hG⟩ : ∃ G, goB id wz pw = G := ⟨_, rfl⟩
  have C1 := Lib.hid (fun W => by have := rcontrols_any id wz pg pi pp pw pl pf pq pn pd ps pv W; rw [hG] at this; exact this)
  have C1 := Lib.hid (C1.out W1)
  obtain ⟨G2, hG2⟩ : ∃ G, goB id wz ow = G := ⟨_, rfl⟩
  have C2 := Lib.hid (fun W => by have := rcontrols_any id wz pg oi oe ow ol of oq on od os ov W; rw [hG2] at this; exact this)
  cases hA0 : (bits .and .i64 pf 32 != 0) with
  | true =>
    by_cases h9 : op = 9
    · subst h9
      cases pg with
      | false =>
        have C2 := Lib.hid (C2.out W1)
        have x0_0 : W1.cell? ⟨g0, 0, none⟩ = some (.int .i64 id) := (cell_of_row _ _ 0 _ _ _ hx0).trans rfl
        have x0_1 : W1.cell? ⟨g0, 1, none⟩ = some (.bool wz) := (cell_of_row _ _ 1 _ _ _ hx0).trans rfl
        have x0_2 : W1.cell? ⟨g0, 2, none⟩ = some (.bool false) := (cell_of_row _ _ 2 _ _ _ hx0).trans rfl
        have x1_0 : W1.cell? ⟨g1, 0, none⟩ = some (.int .i64 oi) := (cell_of_row _ _ 0 _ _ _ hx1).trans rfl
        have x1_1 : W1.cell? ⟨g1, 1, none⟩ = some (.int .i64 oe) := (cell_of_row _ _ 1 _ _ _ hx1).trans rfl
        have x1_2 : W1.cell? ⟨g1, 2, none⟩ = some (.int .i64 ow) := (cell_of_row _ _ 2 _ _ _ hx1).trans rfl
        have x1_3 : W1.cell? ⟨g1, 3, none⟩ = some (.int .i64 ol) := (cell_of_row _ _ 3 _ _ _ hx1).trans rfl
        have x1_4 : W1.cell? ⟨g1, 4, none⟩ = some (.int .i64 of) := (cell_of_row _ _ 4 _ _ _ hx1).trans rfl
        have x1_5 : W1.cell? ⟨g1, 5, none⟩ = some (.int .i64 oq) := (cell_of_row _ _ 5 _ _ _ hx1).trans rfl
        have x1_6 : W1.cell? ⟨g1, 6, none⟩ = some (on) := (cell_of_row _ _ 6 _ _ _ hx1).trans rfl
        have x1_7 : W1.cell? ⟨g1, 7, none⟩ = some (od) := (cell_of_row _ _ 7 _ _ _ hx1).trans rfl
        have x1_8 : W1.cell? ⟨g1, 8, none⟩ = some (os) := (cell_of_row _ _ 8 _ _ _ hx1).trans rfl
        have x1_9 : W1.cell? ⟨g1, 9, none⟩ = some (ov) := (cell_of_row _ _ 9 _ _ _ hx1).trans rfl
        have x2_0 : W1.cell? ⟨g2, 0, none⟩ = some (.int .i64 pi) := (cell_of_row _ _ 0 _ _ _ hx2).trans rfl
        have x2_1 : W1.cell? ⟨g2, 1, none⟩ = some (.int .i64 pp) := (cell_of_row _ _ 1 _ _ _ hx2).trans rfl
        have x2_2 : W1.cell? ⟨g2, 2, none⟩ = some (.int .i64 pw) := (cell_of_row _ _ 2 _ _ _ hx2).trans rfl
        have x2_3 : W1.cell? ⟨g2, 3, none⟩ = some (.int .i64 pl) := (cell_of_row _ _ 3 _ _ _ hx2).trans rfl
        have x2_4 : W1.cell? ⟨g2, 4, none⟩ = some (.int .i64 pf) := (cell_of_row _ _ 4 _ _ _ hx2).trans rfl
        have x2_5 : W1.cell? ⟨g2, 5, none⟩ = some (.int .i64 pq) := (cell_of_row _ _ 5 _ _ _ hx2).trans rfl
        have x2_6 : W1.cell? ⟨g2, 6, none⟩ = some (pn) := (cell_of_row _ _ 6 _ _ _ hx2).trans rfl
        have x2_7 : W1.cell? ⟨g2, 7, none⟩ = some (pd) := (cell_of_row _ _ 7 _ _ _ hx2).trans rfl
        have x2_8 : W1.cell? ⟨g2, 8, none⟩ = some (ps) := (cell_of_row _ _ 8 _ _ _ hx2).trans rfl
        have x2_9 : W1.cell? ⟨g2, 9, none⟩ = some (pv) := (cell_of_row _ _ 9 _ _ _ hx2).trans rfl
        have HX0 := Lib.hid hx0
        clear hx0
        have HX1 := Lib.hid hx1
        clear hx1
        have HX2 := Lib.hid hx2
        clear hx2
        go_enter Try.func19, Try.ntmps19
        go_upto_region 1 with fail
        try simp only [World.size_alloc]
        rw [← hW1, ← hg2, ← hg1, ← hg0]
        clear hW1 hg0 hg1 hg2
        go_wp2
        go_ret
        exact ⟨ret_bool (by simp [twoB]), HB0.out⟩
      | true =>
        cases wz with
        | true =>
          have C2 := Lib.hid (C2.out W1)
          have x0_0 : W1.cell? ⟨g0, 0, none⟩ = some (.int .i64 id) := (cell_of_row _ _ 0 _ _ _ hx0).trans rfl
          have x0_1 : W1.cell? ⟨g0, 1, none⟩ = some (.bool true) := (cell_of_row _ _ 1 _ _ _ hx0).trans rfl
          have x0_2 : W1.cell? ⟨g0, 2, none⟩ = some (.bool true) := (cell_of_row _ _ 2 _ _ _ hx0).trans rfl
          have x1_0 : W1.cell? ⟨g1, 0, none⟩ = some (.int .i64 oi) := (cell_of_row _ _ 0 _ _ _ hx1).trans rfl
          have x1_1 : W1.cell? ⟨g1, 1, none⟩ = some (.int .i64 oe) := (cell_of_row _ _ 1 _ _ _ hx1).trans rfl
          have x1_2 : W1.cell? ⟨g1, 2, none⟩ = some (.int .i64 ow) := (cell_of_row _ _ 2 _ _ _ hx1).trans rfl
          have x1_3 : W1.cell? ⟨g1, 3, none⟩ = some (.int .i64 ol) := (cell_of_row _ _ 3 _ _ _ hx1).trans rfl
          have x1_4 : W1.cell? ⟨g1, 4, none⟩ = some (.int .i64 of) := (cell_of_row _ _ 4 _ _ _ hx1).trans rfl
          have x1_5 : W1.cell? ⟨g1, 5, none⟩ = some (.int .i64 oq) := (cell_of_row _ _ 5 _ _ _ hx1).trans rfl
          have x1_6 : W1.cell? ⟨g1, 6, none⟩ = some (on) := (cell_of_row _ _ 6 _ _ _ hx1).trans rfl
          have x1_7 : W1.cell? ⟨g1, 7, none⟩ = some (od) := (cell_of_row _ _ 7 _ _ _ hx1).trans rfl
          have x1_8 : W1.cell? ⟨g1, 8, none⟩ = some (os) := (cell_of_row _ _ 8 _ _ _ hx1).trans rfl
          have x1_9 : W1.cell? ⟨g1, 9, none⟩ = some (ov) := (cell_of_row _ _ 9 _ _ _ hx1).trans rfl
          have x2_0 : W1.cell? ⟨g2, 0, none⟩ = some (.int .i64 pi) := (cell_of_row _ _ 0 _ _ _ hx2).trans rfl
          have x2_1 : W1.cell? ⟨g2, 1, none⟩ = some (.int .i64 pp) := (cell_of_row _ _ 1 _ _ _ hx2).trans rfl
          have x2_2 : W1.cell? ⟨g2, 2, none⟩ = some (.int .i64 pw) := (cell_of_row _ _ 2 _ _ _ hx2).trans rfl
          have x2_3 : W1.cell? ⟨g2, 3, none⟩ = some (.int .i64 pl) := (cell_of_row _ _ 3 _ _ _ hx2).trans rfl
          have x2_4 : W1.cell? ⟨g2, 4, none⟩ = some (.int .i64 pf) := (cell_of_row _ _ 4 _ _ _ hx2).trans rfl
          have x2_5 : W1.cell? ⟨g2, 5, none⟩ = some (.int .i64 pq) := (cell_of_row _ _ 5 _ _ _ hx2).trans rfl
          have x2_6 : W1.cell? ⟨g2, 6, none⟩ = some (pn) := (cell_of_row _ _ 6 _ _ _ hx2).trans rfl
          have x2_7 : W1.cell? ⟨g2, 7, none⟩ = some (pd) := (cell_of_row _ _ 7 _ _ _ hx2).trans rfl
          have x2_8 : W1.cell? ⟨g2, 8, none⟩ = some (ps) := (cell_of_row _ _ 8 _ _ _ hx2).trans rfl
          have x2_9 : W1.cell? ⟨g2, 9, none⟩ = some (pv) := (cell_of_row _ _ 9 _ _ _ hx2).trans rfl
          have HX0 := Lib.hid hx0
          clear hx0
          have HX1 := Lib.hid hx1
          clear hx1
          have HX2 := Lib.hid hx2
          clear hx2
          go_enter Try.func19, Try.ntmps19
          go_upto_region 1 with fail
          try simp only [World.size_alloc]
          rw [← hW1, ← hg2, ← hg1, ← hg0]
          clear hW1 hg0 hg1 hg2
          go_wp2
          go_ret
          exact ⟨ret_bool (by simp [twoB, an, hA0, goB]), HB0.out⟩
        | false =>
          cases hO : (oi == id) with
          | true =>
            have hO2 : goB id false oi = true := by unfold goB; rw [Bool.false_or, ← hO]; exact BEq.comm
            have C2 := Lib.hid (C2.out W1)
            have x0_0 : W1.cell? ⟨g0, 0, none⟩ = some (.int .i64 id) := (cell_of_row _ _ 0 _ _ _ hx0).trans rfl
            have x0_1 : W1.cell? ⟨g0, 1, none⟩ = some (.bool false) := (cell_of_row _ _ 1 _ _ _ hx0).trans rfl
            have x0_2 : W1.cell? ⟨g0, 2, none⟩ = some (.bool true) := (cell_of_row _ _ 2 _ _ _ hx0).trans rfl
            have x1_0 : W1.cell? ⟨g1, 0, none⟩ = some (.int .i64 oi) := (cell_of_row _ _ 0 _ _ _ hx1).trans rfl
            have x1_1 : W1.cell? ⟨g1, 1, none⟩ = some (.int .i64 oe) := (cell_of_row _ _ 1 _ _ _ hx1).trans rfl
            have x1_2 : W1.cell? ⟨g1, 2, none⟩ = some (.int .i64 ow) := (cell_of_row _ _ 2 _ _ _ hx1).trans rfl
            have x1_3 : W1.cell? ⟨g1, 3, none⟩ = some (.int .i64 ol) := (cell_of_row _ _ 3 _ _ _ hx1).trans rfl
            have x1_4 : W1.cell? ⟨g1, 4, none⟩ = some (.int .i64 of) := (cell_of_row _ _ 4 _ _ _ hx1).trans rfl
            have x1_5 : W1.cell? ⟨g1, 5, none⟩ = some (.int .i64 oq) := (cell_of_row _ _ 5 _ _ _ hx1).trans rfl
            have x1_6 : W1.cell? ⟨g1, 6, none⟩ = some (on) := (cell_of_row _ _ 6 _ _ _ hx1).trans rfl
            have x1_7 : W1.cell? ⟨g1, 7, none⟩ = some (od) := (cell_of_row _ _ 7 _ _ _ hx1).trans rfl
            have x1_8 : W1.cell? ⟨g1, 8, none⟩ = some (os) := (cell_of_row _ _ 8 _ _ _ hx1).trans rfl
            have x1_9 : W1.cell? ⟨g1, 9, none⟩ = some (ov) := (cell_of_row _ _ 9 _ _ _ hx1).trans rfl
            have x2_0 : W1.cell? ⟨g2, 0, none⟩ = some (.int .i64 pi) := (cell_of_row _ _ 0 _ _ _ hx2).trans rfl
            have x2_1 : W1.cell? ⟨g2, 1, none⟩ = some (.int .i64 pp) := (cell_of_row _ _ 1 _ _ _ hx2).trans rfl
            have x2_2 : W1.cell? ⟨g2, 2, none⟩ = some (.int .i64 pw) := (cell_of_row _ _ 2 _ _ _ hx2).trans rfl
            have x2_3 : W1.cell? ⟨g2, 3, none⟩ = some (.int .i64 pl) := (cell_of_row _ _ 3 _ _ _ hx2).trans rfl
            have x2_4 : W1.cell? ⟨g2, 4, none⟩ = some (.int .i64 pf) := (cell_of_row _ _ 4 _ _ _ hx2).trans rfl
            have x2_5 : W1.cell? ⟨g2, 5, none⟩ = some (.int .i64 pq) := (cell_of_row _ _ 5 _ _ _ hx2).trans rfl
            have x2_6 : W1.cell? ⟨g2, 6, none⟩ = some (pn) := (cell_of_row _ _ 6 _ _ _ hx2).trans rfl
            have x2_7 : W1.cell? ⟨g2, 7, none⟩ = some (pd) := (cell_of_row _ _ 7 _ _ _ hx2).trans rfl
            have x2_8 : W1.cell? ⟨g2, 8, none⟩ = some (ps) := (cell_of_row _ _ 8 _ _ _ hx2).trans rfl
            have x2_9 : W1.cell? ⟨g2, 9, none⟩ = some (pv) := (cell_of_row _ _ 9 _ _ _ hx2).trans rfl
            have HX0 := Lib.hid hx0
            clear hx0
            have HX1 := Lib.hid hx1
            clear hx1
            have HX2 := Lib.hid hx2
            clear hx2
            go_enter Try.func19, Try.ntmps19
            go_upto_region 1 with fail
            try simp only [World.size_alloc]
            rw [← hW1, ← hg2, ← hg1, ← hg0]
            clear hW1 hg0 hg1 hg2
            go_wp2
            go_ret
            exact ⟨ret_bool (by simp [twoB, an, hA0, hO2]), HB0.out⟩
          | false =>
            have hO2 : goB id false oi = false := by unfold goB; rw [Bool.false_or, ← hO]; exact BEq.comm
            have C2 := Lib.hid (C2.out W1)
            have x0_0 : W1.cell? ⟨g0, 0, none⟩ = some (.int .i64 id) := (cell_of_row _ _ 0 _ _ _ hx0).trans rfl
            have x0_1 : W1.cell? ⟨g0, 1, none⟩ = some (.bool false) := (cell_of_row _ _ 1 _ _ _ hx0).trans rfl
            have x0_2 : W1.cell? ⟨g0, 2, none⟩ = some (.bool true) := (cell_of_row _ _ 2 _ _ _ hx0).trans rfl
            have x1_0 : W1.cell? ⟨g1, 0, none⟩ = some (.int .i64 oi) := (cell_of_row _ _ 0 _ _ _ hx1).trans rfl
            have x1_1 : W1.cell? ⟨g1, 1, none⟩ = some (.int .i64 oe) := (cell_of_row _ _ 1 _ _ _ hx1).trans rfl
            have x1_2 : W1.cell? ⟨g1, 2, none⟩ = some (.int .i64 ow) := (cell_of_row _ _ 2 _ _ _ hx1).trans rfl
            have x1_3 : W1.cell? ⟨g1, 3, none⟩ = some (.int .i64 ol) := (cell_of_row _ _ 3 _ _ _ hx1).trans rfl
            have x1_4 : W1.cell? ⟨g1, 4, none⟩ = some (.int .i64 of) := (cell_of_row _ _ 4 _ _ _ hx1).trans rfl
            have x1_5 : W1.cell? ⟨g1, 5, none⟩ = some (.int .i64 oq) := (cell_of_row _ _ 5 _ _ _ hx1).trans rfl
            have x1_6 : W1.cell? ⟨g1, 6, none⟩ = some (on) := (cell_of_row _ _ 6 _ _ _ hx1).trans rfl
            have x1_7 : W1.cell? ⟨g1, 7, none⟩ = some (od) := (cell_of_row _ _ 7 _ _ _ hx1).trans rfl
            have x1_8 : W1.cell? ⟨g1, 8, none⟩ = some (os) := (cell_of_row _ _ 8 _ _ _ hx1).trans rfl
            have x1_9 : W1.cell? ⟨g1, 9, none⟩ = some (ov) := (cell_of_row _ _ 9 _ _ _ hx1).trans rfl
            have x2_0 : W1.cell? ⟨g2, 0, none⟩ = some (.int .i64 pi) := (cell_of_row _ _ 0 _ _ _ hx2).trans rfl
            have x2_1 : W1.cell? ⟨g2, 1, none⟩ = some (.int .i64 pp) := (cell_of_row _ _ 1 _ _ _ hx2).trans rfl
            have x2_2 : W1.cell? ⟨g2, 2, none⟩ = some (.int .i64 pw) := (cell_of_row _ _ 2 _ _ _ hx2).trans rfl
            have x2_3 : W1.cell? ⟨g2, 3, none⟩ = some (.int .i64 pl) := (cell_of_row _ _ 3 _ _ _ hx2).trans rfl
            have x2_4 : W1.cell? ⟨g2, 4, none⟩ = some (.int .i64 pf) := (cell_of_row _ _ 4 _ _ _ hx2).trans rfl
            have x2_5 : W1.cell? ⟨g2, 5, none⟩ = some (.int .i64 pq) := (cell_of_row _ _ 5 _ _ _ hx2).trans rfl
            have x2_6 : W1.cell? ⟨g2, 6, none⟩ = some (pn) := (cell_of_row _ _ 6 _ _ _ hx2).trans rfl
            have x2_7 : W1.cell? ⟨g2, 7, none⟩ = some (pd) := (cell_of_row _ _ 7 _ _ _ hx2).trans rfl
            have x2_8 : W1.cell? ⟨g2, 8, none⟩ = some (ps) := (cell_of_row _ _ 8 _ _ _ hx2).trans rfl
            have x2_9 : W1.cell? ⟨g2, 9, none⟩ = some (pv) := (cell_of_row _ _ 9 _ _ _ hx2).trans rfl
            have HX0 := Lib.hid hx0
            clear hx0
            have HX1 := Lib.hid hx1
            clear hx1
            have HX2 := Lib.hid hx2
            clear hx2
            go_enter Try.func19, Try.ntmps19
            go_upto_region 1 with fail
            try simp only [World.size_alloc]
            rw [← hW1, ← hg2, ← hg1, ← hg0]
            clear hW1 hg0 hg1 hg2
            go_wp2
            go_ret
            exact ⟨ret_bool (by simp [twoB, hO2]), HB0.out⟩
    by_cases h11 : op = 11
    · subst h11
      cases G2 with
      | true =>
        have C2 := Lib.hid (C2.out W1)
        have x0_0 : W1.cell? ⟨g0, 0, none⟩ = some (.int .i64 id) := (cell_of_row _ _ 0 _ _ _ hx0).trans rfl
        have x0_1 : W1.cell? ⟨g0, 1, none⟩ = some (.bool wz) := (cell_of_row _ _ 1 _ _ _ hx0).trans rfl
        have x0_2 : W1.cell? ⟨g0, 2, none⟩ = some (.bool pg) := (cell_of_row _ _ 2 _ _ _ hx0).trans rfl
        have x1_0 : W1.cell? ⟨g1, 0, none⟩ = some (.int .i64 oi) := (cell_of_row _ _ 0 _ _ _ hx1).trans rfl
        have x1_1 : W1.cell? ⟨g1, 1, none⟩ = some (.int .i64 oe) := (cell_of_row _ _ 1 _ _ _ hx1).trans rfl
        have x1_2 : W1.cell? ⟨g1, 2, none⟩ = some (.int .i64 ow) := (cell_of_row _ _ 2 _ _ _ hx1).trans rfl
        have x1_3 : W1.cell? ⟨g1, 3, none⟩ = some (.int .i64 ol) := (cell_of_row _ _ 3 _ _ _ hx1).trans rfl
        have x1_4 : W1.cell? ⟨g1, 4, none⟩ = some (.int .i64 of) := (cell_of_row _ _ 4 _ _ _ hx1).trans rfl
        have x1_5 : W1.cell? ⟨g1, 5, none⟩ = some (.int .i64 oq) := (cell_of_row _ _ 5 _ _ _ hx1).trans rfl
        have x1_6 : W1.cell? ⟨g1, 6, none⟩ = some (on) := (cell_of_row _ _ 6 _ _ _ hx1).trans rfl
        have x1_7 : W1.cell? ⟨g1, 7, none⟩ = some (od) := (cell_of_row _ _ 7 _ _ _ hx1).trans rfl
        have x1_8 : W1.cell? ⟨g1, 8, none⟩ = some (os) := (cell_of_row _ _ 8 _ _ _ hx1).trans rfl
        have x1_9 : W1.cell? ⟨g1, 9, none⟩ = some (ov) := (cell_of_row _ _ 9 _ _ _ hx1).trans rfl
        have x2_0 : W1.cell? ⟨g2, 0, none⟩ = some (.int .i64 pi) := (cell_of_row _ _ 0 _ _ _ hx2).trans rfl
        have x2_1 : W1.cell? ⟨g2, 1, none⟩ = some (.int .i64 pp) := (cell_of_row _ _ 1 _ _ _ hx2).trans rfl
        have x2_2 : W1.cell? ⟨g2, 2, none⟩ = some (.int .i64 pw) := (cell_of_row _ _ 2 _ _ _ hx2).trans rfl
        have x2_3 : W1.cell? ⟨g2, 3, none⟩ = some (.int .i64 pl) := (cell_of_row _ _ 3 _ _ _ hx2).trans rfl
        have x2_4 : W1.cell? ⟨g2, 4, none⟩ = some (.int .i64 pf) := (cell_of_row _ _ 4 _ _ _ hx2).trans rfl
        have x2_5 : W1.cell? ⟨g2, 5, none⟩ = some (.int .i64 pq) := (cell_of_row _ _ 5 _ _ _ hx2).trans rfl
        have x2_6 : W1.cell? ⟨g2, 6, none⟩ = some (pn) := (cell_of_row _ _ 6 _ _ _ hx2).trans rfl
        have x2_7 : W1.cell? ⟨g2, 7, none⟩ = some (pd) := (cell_of_row _ _ 7 _ _ _ hx2).trans rfl
        have x2_8 : W1.cell? ⟨g2, 8, none⟩ = some (ps) := (cell_of_row _ _ 8 _ _ _ hx2).trans rfl
        have x2_9 : W1.cell? ⟨g2, 9, none⟩ = some (pv) := (cell_of_row _ _ 9 _ _ _ hx2).trans rfl
        have HX0 := Lib.hid hx0
        clear hx0
        have HX1 := Lib.hid hx1
        clear hx1
        have HX2 := Lib.hid hx2
        clear hx2
        go_enter Try.func19, Try.ntmps19
        go_upto_region 1 with fail
        try simp only [World.size_alloc]
        rw [← hW1, ← hg2, ← hg1, ← hg0]
        clear hW1 hg0 hg1 hg2
        go_wp2_with (first
          | (go_at_call 11; (with_reducible refine C2.out.mono ?_); rintro e w3 ⟨rfl, hb2⟩; have HB0 := Lib.hid (HB0.out.trans (hb2.mono HB0.out.size)); have HX0 := Lib.hid ((hb2.block _ hl0).trans HX0.out); have hl0 := Nat.lt_of_lt_of_le hl0 hb2.size; have HX1 := Lib.hid ((hb2.block _ hl1).trans HX1.out); have hl1 := Nat.lt_of_lt_of_le hl1 hb2.size; have HX2 := Lib.hid ((hb2.block _ hl2).trans HX2.out); have hl2 := Nat.lt_of_lt_of_le hl2 hb2.size; have x0_0 : w3.cell? ⟨g0, 0, none⟩ = some (.int .i64 id) := (cell_of_row _ _ 0 _ _ _ HX0.out).trans rfl; have x0_1 : w3.cell? ⟨g0, 1, none⟩ = some (.bool wz) := (cell_of_row _ _ 1 _ _ _ HX0.out).trans rfl; have x0_2 : w3.cell? ⟨g0, 2, none⟩ = some (.bool pg) := (cell_of_row _ _ 2 _ _ _ HX0.out).trans rfl; have x1_0 : w3.cell? ⟨g1, 0, none⟩ = some (.int .i64 oi) := (cell_of_row _ _ 0 _ _ _ HX1.out).trans rfl; have x1_1 : w3.cell? ⟨g1, 1, none⟩ = some (.int .i64 oe) := (cell_of_row _ _ 1 _ _ _ HX1.out).trans rfl; have x1_2 : w3.cell? ⟨g1, 2, none⟩ = some (.int .i64 ow) := (cell_of_row _ _ 2 _ _ _ HX1.out).trans rfl; have x1_3 : w3.cell? ⟨g1, 3, none⟩ = some (.int .i64 ol) := (cell_of_row _ _ 3 _ _ _ HX1.out).trans rfl; have x1_4 : w3.cell? ⟨g1, 4, none⟩ = some (.int .i64 of) := (cell_of_row _ _ 4 _ _ _ HX1.out).trans rfl; have x1_5 : w3.cell? ⟨g1, 5, none⟩ = some (.int .i64 oq) := (cell_of_row _ _ 5 _ _ _ HX1.out).trans rfl; have x1_6 : w3.cell? ⟨g1, 6, none⟩ = some (on) := (cell_of_row _ _ 6 _ _ _ HX1.out).trans rfl; have x1_7 : w3.cell? ⟨g1, 7, none⟩ = some (od) := (cell_of_row _ _ 7 _ _ _ HX1.out).trans rfl; have x1_8 : w3.cell? ⟨g1, 8, none⟩ = some (os) := (cell_of_row _ _ 8 _ _ _ HX1.out).trans rfl; have x1_9 : w3.cell? ⟨g1, 9, none⟩ = some (ov) := (cell_of_row _ _ 9 _ _ _ HX1.out).trans rfl; have x2_0 : w3.cell? ⟨g2, 0, none⟩ = some (.int .i64 pi) := (cell_of_row _ _ 0 _ _ _ HX2.out).trans rfl; have x2_1 : w3.cell? ⟨g2, 1, none⟩ = some (.int .i64 pp) := (cell_of_row _ _ 1 _ _ _ HX2.out).trans rfl; have x2_2 : w3.cell? ⟨g2, 2, none⟩ = some (.int .i64 pw) := (cell_of_row _ _ 2 _ _ _ HX2.out).trans rfl; have x2_3 : w3.cell? ⟨g2, 3, none⟩ = some (.int .i64 pl) := (cell_of_row _ _ 3 _ _ _ HX2.out).trans rfl; have x2_4 : w3.cell? ⟨g2, 4, none⟩ = some (.int .i64 pf) := (cell_of_row _ _ 4 _ _ _ HX2.out).trans rfl; have x2_5 : w3.cell? ⟨g2, 5, none⟩ = some (.int .i64 pq) := (cell_of_row _ _ 5 _ _ _ HX2.out).trans rfl; have x2_6 : w3.cell? ⟨g2, 6, none⟩ = some (pn) := (cell_of_row _ _ 6 _ _ _ HX2.out).trans rfl; have x2_7 : w3.cell? ⟨g2, 7, none⟩ = some (pd) := (cell_of_row _ _ 7 _ _ _ HX2.out).trans rfl; have x2_8 : w3.cell? ⟨g2, 8, none⟩ = some (ps) := (cell_of_row _ _ 8 _ _ _ HX2.out).trans rfl; have x2_9 : w3.cell? ⟨g2, 9, none⟩ = some (pv) := (cell_of_row _ _ 9 _ _ _ HX2.out).trans rfl; clear hb2))
        go_ret
        exact ⟨ret_bool (by simp [twoB, an, hA0, hG2]), HB0.out⟩
      | false =>
        have C2 := Lib.hid (C2.out W1)
        have x0_0 : W1.cell? ⟨g0, 0, none⟩ = some (.int .i64 id) := (cell_of_row _ _ 0 _ _ _ hx0).trans rfl
        have x0_1 : W1.cell? ⟨g0, 1, none⟩ = some (.bool wz) := (cell_of_row _ _ 1 _ _ _ hx0).trans rfl
        have x0_2 : W1.cell? ⟨g0, 2, none⟩ = some (.bool pg) := (cell_of_row _ _ 2 _ _ _ hx0).trans rfl
        have x1_0 : W1.cell? ⟨g1, 0, none⟩ = some (.int .i64 oi) := (cell_of_row _ _ 0 _ _ _ hx1).trans rfl
        have x1_1 : W1.cell? ⟨g1, 1, none⟩ = some (.int .i64 oe) := (cell_of_row _ _ 1 _ _ _ hx1).trans rfl
        have x1_2 : W1.cell? ⟨g1, 2, none⟩ = some (.int .i64 ow) := (cell_of_row _ _ 2 _ _ _ hx1).trans rfl
        have x1_3 : W1.cell? ⟨g1, 3, none⟩ = some (.int .i64 ol) := (cell_of_row _ _ 3 _ _ _ hx1).trans rfl
        have x1_4 : W1.cell? ⟨g1, 4, none⟩ = some (.int .i64 of) := (cell_of_row _ _ 4 _ _ _ hx1).trans rfl
        have x1_5 : W1.cell? ⟨g1, 5, none⟩ = some (.int .i64 oq) := (cell_of_row _ _ 5 _ _ _ hx1).trans rfl
        have x1_6 : W1.cell? ⟨g1, 6, none⟩ = some (on) := (cell_of_row _ _ 6 _ _ _ hx1).trans rfl
        have x1_7 : W1.cell? ⟨g1, 7, none⟩ = some (od) := (cell_of_row _ _ 7 _ _ _ hx1).trans rfl
        have x1_8 : W1.cell? ⟨g1, 8, none⟩ = some (os) := (cell_of_row _ _ 8 _ _ _ hx1).trans rfl
        have x1_9 : W1.cell? ⟨g1, 9, none⟩ = some (ov) := (cell_of_row _ _ 9 _ _ _ hx1).trans rfl
        have x2_0 : W1.cell? ⟨g2, 0, none⟩ = some (.int .i64 pi) := (cell_of_row _ _ 0 _ _ _ hx2).trans rfl
        have x2_1 : W1.cell? ⟨g2, 1, none⟩ = some (.int .i64 pp) := (cell_of_row _ _ 1 _ _ _ hx2).trans rfl
        have x2_2 : W1.cell? ⟨g2, 2, none⟩ = some (.int .i64 pw) := (cell_of_row _ _ 2 _ _ _ hx2).trans rfl
        have x2_3 : W1.cell? ⟨g2, 3, none⟩ = some (.int .i64 pl) := (cell_of_row _ _ 3 _ _ _ hx2).trans rfl
        have x2_4 : W1.cell? ⟨g2, 4, none⟩ = some (.int .i64 pf) := (cell_of_row _ _ 4 _ _ _ hx2).trans rfl
        have x2_5 : W1.cell? ⟨g2, 5, none⟩ = some (.int .i64 pq) := (cell_of_row _ _ 5 _ _ _ hx2).trans rfl
        have x2_6 : W1.cell? ⟨g2, 6, none⟩ = some (pn) := (cell_of_row _ _ 6 _ _ _ hx2).trans rfl
        have x2_7 : W1.cell? ⟨g2, 7, none⟩ = some (pd) := (cell_of_row _ _ 7 _ _ _ hx2).trans rfl
        have x2_8 : W1.cell? ⟨g2, 8, none⟩ = some (ps) := (cell_of_row _ _ 8 _ _ _ hx2).trans rfl
        have x2_9 : W1.cell? ⟨g2, 9, none⟩ = some (pv) := (cell_of_row _ _ 9 _ _ _ hx2).trans rfl
        have HX0 := Lib.hid hx0
        clear hx0
        have HX1 := Lib.hid hx1
        clear hx1
        have HX2 := Lib.hid hx2
        clear hx2
        go_enter Try.func19, Try.ntmps19
        go_upto_region 1 with fail
        try simp only [World.size_alloc]
        rw [← hW1, ← hg2, ← hg1, ← hg0]
        clear hW1 hg0 hg1 hg2
        go_wp2_with (first
          | (go_at_call 11; (with_reducible refine C2.out.mono ?_); rintro e w3 ⟨rfl, hb2⟩; have HB0 := Lib.hid (HB0.out.trans (hb2.mono HB0.out.size)); have HX0 := Lib.hid ((hb2.block _ hl0).trans HX0.out); have hl0 := Nat.lt_of_lt_of_le hl0 hb2.size; have HX1 := Lib.hid ((hb2.block _ hl1).trans HX1.out); have hl1 := Nat.lt_of_lt_of_le hl1 hb2.size; have HX2 := Lib.hid ((hb2.block _ hl2).trans HX2.out); have hl2 := Nat.lt_of_lt_of_le hl2 hb2.size; have x0_0 : w3.cell? ⟨g0, 0, none⟩ = some (.int .i64 id) := (cell_of_row _ _ 0 _ _ _ HX0.out).trans rfl; have x0_1 : w3.cell? ⟨g0, 1, none⟩ = some (.bool wz) := (cell_of_row _ _ 1 _ _ _ HX0.out).trans rfl; have x0_2 : w3.cell? ⟨g0, 2, none⟩ = some (.bool pg) := (cell_of_row _ _ 2 _ _ _ HX0.out).trans rfl; have x1_0 : w3.cell? ⟨g1, 0, none⟩ = some (.int .i64 oi) := (cell_of_row _ _ 0 _ _ _ HX1.out).trans rfl; have x1_1 : w3.cell? ⟨g1, 1, none⟩ = some (.int .i64 oe) := (cell_of_row _ _ 1 _ _ _ HX1.out).trans rfl; have x1_2 : w3.cell? ⟨g1, 2, none⟩ = some (.int .i64 ow) := (cell_of_row _ _ 2 _ _ _ HX1.out).trans rfl; have x1_3 : w3.cell? ⟨g1, 3, none⟩ = some (.int .i64 ol) := (cell_of_row _ _ 3 _ _ _ HX1.out).trans rfl; have x1_4 : w3.cell? ⟨g1, 4, none⟩ = some (.int .i64 of) := (cell_of_row _ _ 4 _ _ _ HX1.out).trans rfl; have x1_5 : w3.cell? ⟨g1, 5, none⟩ = some (.int .i64 oq) := (cell_of_row _ _ 5 _ _ _ HX1.out).trans rfl; have x1_6 : w3.cell? ⟨g1, 6, none⟩ = some (on) := (cell_of_row _ _ 6 _ _ _ HX1.out).trans rfl; have x1_7 : w3.cell? ⟨g1, 7, none⟩ = some (od) := (cell_of_row _ _ 7 _ _ _ HX1.out).trans rfl; have x1_8 : w3.cell? ⟨g1, 8, none⟩ = some (os) := (cell_of_row _ _ 8 _ _ _ HX1.out).trans rfl; have x1_9 : w3.cell? ⟨g1, 9, none⟩ = some (ov) := (cell_of_row _ _ 9 _ _ _ HX1.out).trans rfl; have x2_0 : w3.cell? ⟨g2, 0, none⟩ = some (.int .i64 pi) := (cell_of_row _ _ 0 _ _ _ HX2.out).trans rfl; have x2_1 : w3.cell? ⟨g2, 1, none⟩ = some (.int .i64 pp) := (cell_of_row _ _ 1 _ _ _ HX2.out).trans rfl; have x2_2 : w3.cell? ⟨g2, 2, none⟩ = some (.int .i64 pw) := (cell_of_row _ _ 2 _ _ _ HX2.out).trans rfl; have x2_3 : w3.cell? ⟨g2, 3, none⟩ = some (.int .i64 pl) := (cell_of_row _ _ 3 _ _ _ HX2.out).trans rfl; have x2_4 : w3.cell? ⟨g2, 4, none⟩ = some (.int .i64 pf) := (cell_of_row _ _ 4 _ _ _ HX2.out).trans rfl; have x2_5 : w3.cell? ⟨g2, 5, none⟩ = some (.int .i64 pq) := (cell_of_row _ _ 5 _ _ _ HX2.out).trans rfl; have x2_6 : w3.cell? ⟨g2, 6, none⟩ = some (pn) := (cell_of_row _ _ 6 _ _ _ HX2.out).trans rfl; have x2_7 : w3.cell? ⟨g2, 7, none⟩ = some (pd) := (cell_of_row _ _ 7 _ _ _ HX2.out).trans rfl; have x2_8 : w3.cell? ⟨g2, 8, none⟩ = some (ps) := (cell_of_row _ _ 8 _ _ _ HX2.out).trans rfl; have x2_9 : w3.cell? ⟨g2, 9, none⟩ = some (pv) := (cell_of_row _ _ 9 _ _ _ HX2.out).trans rfl; clear hb2))
        go_ret
        exact ⟨ret_bool (by simp [twoB, hG2]), HB0.out⟩
    have C2 := Lib.hid (C2.out W1)
    have x0_0 : W1.cell? ⟨g0, 0, none⟩ = some (.int .i64 id) := (cell_of_row _ _ 0 _ _ _ hx0).trans rfl
    have x0_1 : W1.cell? ⟨g0, 1, none⟩ = some (.bool wz) := (cell_of_row _ _ 1 _ _ _ hx0).trans rfl
    have x0_2 : W1.cell? ⟨g0, 2, none⟩ = some (.bool pg) := (cell_of_row _ _ 2 _ _ _ hx0).trans rfl
    have x1_0 : W1.cell? ⟨g1, 0, none⟩ = some (.int .i64 oi) := (cell_of_row _ _ 0 _ _ _ hx1).trans rfl
    have x1_1 : W1.cell? ⟨g1, 1, none⟩ = some (.int .i64 oe) := (cell_of_row _ _ 1 _ _ _ hx1).trans rfl
    have x1_2 : W1.cell? ⟨g1, 2, none⟩ = some (.int .i64 ow) := (cell_of_row _ _ 2 _ _ _ hx1).trans rfl
    have x1_3 : W1.cell? ⟨g1, 3, none⟩ = some (.int .i64 ol) := (cell_of_row _ _ 3 _ _ _ hx1).trans rfl
    have x1_4 : W1.cell? ⟨g1, 4, none⟩ = some (.int .i64 of) := (cell_of_row _ _ 4 _ _ _ hx1).trans rfl
    have x1_5 : W1.cell? ⟨g1, 5, none⟩ = some (.int .i64 oq) := (cell_of_row _ _ 5 _ _ _ hx1).trans rfl
    have x1_6 : W1.cell? ⟨g1, 6, none⟩ = some (on) := (cell_of_row _ _ 6 _ _ _ hx1).trans rfl
    have x1_7 : W1.cell? ⟨g1, 7, none⟩ = some (od) := (cell_of_row _ _ 7 _ _ _ hx1).trans rfl
    have x1_8 : W1.cell? ⟨g1, 8, none⟩ = some (os) := (cell_of_row _ _ 8 _ _ _ hx1).trans rfl
    have x1_9 : W1.cell? ⟨g1, 9, none⟩ = some (ov) := (cell_of_row _ _ 9 _ _ _ hx1).trans rfl
    have x2_0 : W1.cell? ⟨g2, 0, none⟩ = some (.int .i64 pi) := (cell_of_row _ _ 0 _ _ _ hx2).trans rfl
    have x2_1 : W1.cell? ⟨g2, 1, none⟩ = some (.int .i64 pp) := (cell_of_row _ _ 1 _ _ _ hx2).trans rfl
    have x2_2 : W1.cell? ⟨g2, 2, none⟩ = some (.int .i64 pw) := (cell_of_row _ _ 2 _ _ _ hx2).trans rfl
    have x2_3 : W1.cell? ⟨g2, 3, none⟩ = some (.int .i64 pl) := (cell_of_row _ _ 3 _ _ _ hx2).trans rfl
    have x2_4 : W1.cell? ⟨g2, 4, none⟩ = some (.int .i64 pf) := (cell_of_row _ _ 4 _ _ _ hx2).trans rfl
    have x2_5 : W1.cell? ⟨g2, 5, none⟩ = some (.int .i64 pq) := (cell_of_row _ _ 5 _ _ _ hx2).trans rfl
    have x2_6 : W1.cell? ⟨g2, 6, none⟩ = some (pn) := (cell_of_row _ _ 6 _ _ _ hx2).trans rfl
    have x2_7 : W1.cell? ⟨g2, 7, none⟩ = some (pd) := (cell_of_row _ _ 7 _ _ _ hx2).trans rfl
    have x2_8 : W1.cell? ⟨g2, 8, none⟩ = some (ps) := (cell_of_row _ _ 8 _ _ _ hx2).trans rfl
    have x2_9 : W1.cell? ⟨g2, 9, none⟩ = some (pv) := (cell_of_row _ _ 9 _ _ _ hx2).trans rfl
    have HX0 := Lib.hid hx0
    clear hx0
    have HX1 := Lib.hid hx1
    clear hx1
    have HX2 := Lib.hid hx2
    clear hx2
    have e9 : (op == 9) = false := by simpa using h9
    have e11 : (op == 11) = false := by simpa using h11
    go_enter Try.func19, Try.ntmps19
    go_upto_region 1 with fail
    try simp only [World.size_alloc]
    rw [← hW1, ← hg2, ← hg1, ← hg0]
    clear hW1 hg0 hg1 hg2
    go_wp2
    go_ret
    exact ⟨ret_bool (by simp [twoB, h9, h11]), HB0.out⟩
  | false =>
    by_cases h9 : op = 9
    · subst h9
      cases pg with
      | false =>
        have x0_0 : W1.cell? ⟨g0, 0, none⟩ = some (.int .i64 id) := (cell_of_row _ _ 0 _ _ _ hx0).trans rfl
        have x0_1 : W1.cell? ⟨g0, 1, none⟩ = some (.bool wz) := (cell_of_row _ _ 1 _ _ _ hx0).trans rfl
        have x0_2 : W1.cell? ⟨g0, 2, none⟩ = some (.bool false) := (cell_of_row _ _ 2 _ _ _ hx0).trans rfl
        have x1_0 : W1.cell? ⟨g1, 0, none⟩ = some (.int .i64 oi) := (cell_of_row _ _ 0 _ _ _ hx1).trans rfl
        have x1_1 : W1.cell? ⟨g1, 1, none⟩ = some (.int .i64 oe) := (cell_of_row _ _ 1 _ _ _ hx1).trans rfl
        have x1_2 : W1.cell? ⟨g1, 2, none⟩ = some (.int .i64 ow) := (cell_of_row _ _ 2 _ _ _ hx1).trans rfl
        have x1_3 : W1.cell? ⟨g1, 3, none⟩ = some (.int .i64 ol) := (cell_of_row _ _ 3 _ _ _ hx1).trans rfl
        have x1_4 : W1.cell? ⟨g1, 4, none⟩ = some (.int .i64 of) := (cell_of_row _ _ 4 _ _ _ hx1).trans rfl
        have x1_5 : W1.cell? ⟨g1, 5, none⟩ = some (.int .i64 oq) := (cell_of_row _ _ 5 _ _ _ hx1).trans rfl
        have x1_6 : W1.cell? ⟨g1, 6, none⟩ = some (on) := (cell_of_row _ _ 6 _ _ _ hx1).trans rfl
        have x1_7 : W1.cell? ⟨g1, 7, none⟩ = some (od) := (cell_of_row _ _ 7 _ _ _ hx1).trans rfl
        have x1_8 : W1.cell? ⟨g1, 8, none⟩ = some (os) := (cell_of_row _ _ 8 _ _ _ hx1).trans rfl
        have x1_9 : W1.cell? ⟨g1, 9, none⟩ = some (ov) := (cell_of_row _ _ 9 _ _ _ hx1).trans rfl
        have x2_0 : W1.cell? ⟨g2, 0, none⟩ = some (.int .i64 pi) := (cell_of_row _ _ 0 _ _ _ hx2).trans rfl
        have x2_1 : W1.cell? ⟨g2, 1, none⟩ = some (.int .i64 pp) := (cell_of_row _ _ 1 _ _ _ hx2).trans rfl
        have x2_2 : W1.cell? ⟨g2, 2, none⟩ = some (.int .i64 pw) := (cell_of_row _ _ 2 _ _ _ hx2).trans rfl
        have x2_3 : W1.cell? ⟨g2, 3, none⟩ = some (.int .i64 pl) := (cell_of_row _ _ 3 _ _ _ hx2).trans rfl
        have x2_4 : W1.cell? ⟨g2, 4, none⟩ = some (.int .i64 pf) := (cell_of_row _ _ 4 _ _ _ hx2).trans rfl
        have x2_5 : W1.cell? ⟨g2, 5, none⟩ = some (.int .i64 pq) := (cell_of_row _ _ 5 _ _ _ hx2).trans rfl
        have x2_6 : W1.cell? ⟨g2, 6, none⟩ = some (pn) := (cell_of_row _ _ 6 _ _ _ hx2).trans rfl
        have x2_7 : W1.cell? ⟨g2, 7, none⟩ = some (pd) := (cell_of_row _ _ 7 _ _ _ hx2).trans rfl
        have x2_8 : W1.cell? ⟨g2, 8, none⟩ = some (ps) := (cell_of_row _ _ 8 _ _ _ hx2).trans rfl
        have x2_9 : W1.cell? ⟨g2, 9, none⟩ = some (pv) := (cell_of_row _ _ 9 _ _ _ hx2).trans rfl
        have HX0 := Lib.hid hx0
        clear hx0
        have HX1 := Lib.hid hx1
        clear hx1
        have HX2 := Lib.hid hx2
        clear hx2
        go_enter Try.func19, Try.ntmps19
        go_upto_region 1 with fail
        try simp only [World.size_alloc]
        rw [← hW1, ← hg2, ← hg1, ← hg0]
        clear hW1 hg0 hg1 hg2
        go_wp2_with (first
          | (go_at_call 11; (with_reducible refine C1.out.mono ?_); rintro e w2 ⟨rfl, hb2⟩; have HB0 := Lib.hid (HB0.out.trans (hb2.mono HB0.out.size)); have HX0 := Lib.hid ((hb2.block _ hl0).trans HX0.out); have hl0 := Nat.lt_of_lt_of_le hl0 hb2.size; have HX1 := Lib.hid ((hb2.block _ hl1).trans HX1.out); have hl1 := Nat.lt_of_lt_of_le hl1 hb2.size; have HX2 := Lib.hid ((hb2.block _ hl2).trans HX2.out); have hl2 := Nat.lt_of_lt_of_le hl2 hb2.size; have x0_0 : w2.cell? ⟨g0, 0, none⟩ = some (.int .i64 id) := (cell_of_row _ _ 0 _ _ _ HX0.out).trans rfl; have x0_1 : w2.cell? ⟨g0, 1, none⟩ = some (.bool wz) := (cell_of_row _ _ 1 _ _ _ HX0.out).trans rfl; have x0_2 : w2.cell? ⟨g0, 2, none⟩ = some (.bool false) := (cell_of_row _ _ 2 _ _ _ HX0.out).trans rfl; have x1_0 : w2.cell? ⟨g1, 0, none⟩ = some (.int .i64 oi) := (cell_of_row _ _ 0 _ _ _ HX1.out).trans rfl; have x1_1 : w2.cell? ⟨g1, 1, none⟩ = some (.int .i64 oe) := (cell_of_row _ _ 1 _ _ _ HX1.out).trans rfl; have x1_2 : w2.cell? ⟨g1, 2, none⟩ = some (.int .i64 ow) := (cell_of_row _ _ 2 _ _ _ HX1.out).trans rfl; have x1_3 : w2.cell? ⟨g1, 3, none⟩ = some (.int .i64 ol) := (cell_of_row _ _ 3 _ _ _ HX1.out).trans rfl; have x1_4 : w2.cell? ⟨g1, 4, none⟩ = some (.int .i64 of) := (cell_of_row _ _ 4 _ _ _ HX1.out).trans rfl; have x1_5 : w2.cell? ⟨g1, 5, none⟩ = some (.int .i64 oq) := (cell_of_row _ _ 5 _ _ _ HX1.out).trans rfl; have x1_6 : w2.cell? ⟨g1, 6, none⟩ = some (on) := (cell_of_row _ _ 6 _ _ _ HX1.out).trans rfl; have x1_7 : w2.cell? ⟨g1, 7, none⟩ = some (od) := (cell_of_row _ _ 7 _ _ _ HX1.out).trans rfl; have x1_8 : w2.cell? ⟨g1, 8, none⟩ = some (os) := (cell_of_row _ _ 8 _ _ _ HX1.out).trans rfl; have x1_9 : w2.cell? ⟨g1, 9, none⟩ = some (ov) := (cell_of_row _ _ 9 _ _ _ HX1.out).trans rfl; have x2_0 : w2.cell? ⟨g2, 0, none⟩ = some (.int .i64 pi) := (cell_of_row _ _ 0 _ _ _ HX2.out).trans rfl; have x2_1 : w2.cell? ⟨g2, 1, none⟩ = some (.int .i64 pp) := (cell_of_row _ _ 1 _ _ _ HX2.out).trans rfl; have x2_2 : w2.cell? ⟨g2, 2, none⟩ = some (.int .i64 pw) := (cell_of_row _ _ 2 _ _ _ HX2.out).trans rfl; have x2_3 : w2.cell? ⟨g2, 3, none⟩ = some (.int .i64 pl) := (cell_of_row _ _ 3 _ _ _ HX2.out).trans rfl; have x2_4 : w2.cell? ⟨g2, 4, none⟩ = some (.int .i64 pf) := (cell_of_row _ _ 4 _ _ _ HX2.out).trans rfl; have x2_5 : w2.cell? ⟨g2, 5, none⟩ = some (.int .i64 pq) := (cell_of_row _ _ 5 _ _ _ HX2.out).trans rfl; have x2_6 : w2.cell? ⟨g2, 6, none⟩ = some (pn) := (cell_of_row _ _ 6 _ _ _ HX2.out).trans rfl; have x2_7 : w2.cell? ⟨g2, 7, none⟩ = some (pd) := (cell_of_row _ _ 7 _ _ _ HX2.out).trans rfl; have x2_8 : w2.cell? ⟨g2, 8, none⟩ = some (ps) := (cell_of_row _ _ 8 _ _ _ HX2.out).trans rfl; have x2_9 : w2.cell? ⟨g2, 9, none⟩ = some (pv) := (cell_of_row _ _ 9 _ _ _ HX2.out).trans rfl; have C2 := Lib.hid (C2.out w2); clear hb2))
        go_ret
        exact ⟨ret_bool (by simp [twoB]), HB0.out⟩
      | true =>
        cases wz with
        | true =>
          have x0_0 : W1.cell? ⟨g0, 0, none⟩ = some (.int .i64 id) := (cell_of_row _ _ 0 _ _ _ hx0).trans rfl
          have x0_1 : W1.cell? ⟨g0, 1, none⟩ = some (.bool true) := (cell_of_row _ _ 1 _ _ _ hx0).trans rfl
          have x0_2 : W1.cell? ⟨g0, 2, none⟩ = some (.bool true) := (cell_of_row _ _ 2 _ _ _ hx0).trans rfl
          have x1_0 : W1.cell? ⟨g1, 0, none⟩ = some (.int .i64 oi) := (cell_of_row _ _ 0 _ _ _ hx1).trans rfl
          have x1_1 : W1.cell? ⟨g1, 1, none⟩ = some (.int .i64 oe) := (cell_of_row _ _ 1 _ _ _ hx1).trans rfl
          have x1_2 : W1.cell? ⟨g1, 2, none⟩ = some (.int .i64 ow) := (cell_of_row _ _ 2 _ _ _ hx1).trans rfl
          have x1_3 : W1.cell? ⟨g1, 3, none⟩ = some (.int .i64 ol) := (cell_of_row _ _ 3 _ _ _ hx1).trans rfl
          have x1_4 : W1.cell? ⟨g1, 4, none⟩ = some (.int .i64 of) := (cell_of_row _ _ 4 _ _ _ hx1).trans rfl
          have x1_5 : W1.cell? ⟨g1, 5, none⟩ = some (.int .i64 oq) := (cell_of_row _ _ 5 _ _ _ hx1).trans rfl
          have x1_6 : W1.cell? ⟨g1, 6, none⟩ = some (on) := (cell_of_row _ _ 6 _ _ _ hx1).trans rfl
          have x1_7 : W1.cell? ⟨g1, 7, none⟩ = some (od) := (cell_of_row _ _ 7 _ _ _ hx1).trans rfl
          have x1_8 : W1.cell? ⟨g1, 8, none⟩ = some (os) := (cell_of_row _ _ 8 _ _ _ hx1).trans rfl
          have x1_9 : W1.cell? ⟨g1, 9, none⟩ = some (ov) := (cell_of_row _ _ 9 _ _ _ hx1).trans rfl
          have x2_0 : W1.cell? ⟨g2, 0, none⟩ = some (.int .i64 pi) := (cell_of_row _ _ 0 _ _ _ hx2).trans rfl
          have x2_1 : W1.cell? ⟨g2, 1, none⟩ = some (.int .i64 pp) := (cell_of_row _ _ 1 _ _ _ hx2).trans rfl
          have x2_2 : W1.cell? ⟨g2, 2, none⟩ = some (.int .i64 pw) := (cell_of_row _ _ 2 _ _ _ hx2).trans rfl
          have x2_3 : W1.cell? ⟨g2, 3, none⟩ = some (.int .i64 pl) := (cell_of_row _ _ 3 _ _ _ hx2).trans rfl
          have x2_4 : W1.cell? ⟨g2, 4, none⟩ = some (.int .i64 pf) := (cell_of_row _ _ 4 _ _ _ hx2).trans rfl
          have x2_5 : W1.cell? ⟨g2, 5, none⟩ = some (.int .i64 pq) := (cell_of_row _ _ 5 _ _ _ hx2).trans rfl
          have x2_6 : W1.cell? ⟨g2, 6, none⟩ = some (pn) := (cell_of_row _ _ 6 _ _ _ hx2).trans rfl
          have x2_7 : W1.cell? ⟨g2, 7, none⟩ = some (pd) := (cell_of_row _ _ 7 _ _ _ hx2).trans rfl
          have x2_8 : W1.cell? ⟨g2, 8, none⟩ = some (ps) := (cell_of_row _ _ 8 _ _ _ hx2).trans rfl
          have x2_9 : W1.cell? ⟨g2, 9, none⟩ = some (pv) := (cell_of_row _ _ 9 _ _ _ hx2).trans rfl
          have HX0 := Lib.hid hx0
          clear hx0
          have HX1 := Lib.hid hx1
          clear hx1
          have HX2 := Lib.hid hx2
          clear hx2
          go_enter Try.func19, Try.ntmps19
          go_upto_region 1 with fail
          try simp only [World.size_alloc]
          rw [← hW1, ← hg2, ← hg1, ← hg0]
          clear hW1 hg0 hg1 hg2
          go_wp2_with (first
            | (go_at_call 11; (with_reducible refine C1.out.mono ?_); rintro e w2 ⟨rfl, hb2⟩; have HB0 := Lib.hid (HB0.out.trans (hb2.mono HB0.out.size)); have HX0 := Lib.hid ((hb2.block _ hl0).trans HX0.out); have hl0 := Nat.lt_of_lt_of_le hl0 hb2.size; have HX1 := Lib.hid ((hb2.block _ hl1).trans HX1.out); have hl1 := Nat.lt_of_lt_of_le hl1 hb2.size; have HX2 := Lib.hid ((hb2.block _ hl2).trans HX2.out); have hl2 := Nat.lt_of_lt_of_le hl2 hb2.size; have x0_0 : w2.cell? ⟨g0, 0, none⟩ = some (.int .i64 id) := (cell_of_row _ _ 0 _ _ _ HX0.out).trans rfl; have x0_1 : w2.cell? ⟨g0, 1, none⟩ = some (.bool true) := (cell_of_row _ _ 1 _ _ _ HX0.out).trans rfl; have x0_2 : w2.cell? ⟨g0, 2, none⟩ = some (.bool true) := (cell_of_row _ _ 2 _ _ _ HX0.out).trans rfl; have x1_0 : w2.cell? ⟨g1, 0, none⟩ = some (.int .i64 oi) := (cell_of_row _ _ 0 _ _ _ HX1.out).trans rfl; have x1_1 : w2.cell? ⟨g1, 1, none⟩ = some (.int .i64 oe) := (cell_of_row _ _ 1 _ _ _ HX1.out).trans rfl; have x1_2 : w2.cell? ⟨g1, 2, none⟩ = some (.int .i64 ow) := (cell_of_row _ _ 2 _ _ _ HX1.out).trans rfl; have x1_3 : w2.cell? ⟨g1, 3, none⟩ = some (.int .i64 ol) := (cell_of_row _ _ 3 _ _ _ HX1.out).trans rfl; have x1_4 : w2.cell? ⟨g1, 4, none⟩ = some (.int .i64 of) := (cell_of_row _ _ 4 _ _ _ HX1.out).trans rfl; have x1_5 : w2.cell? ⟨g1, 5, none⟩ = some (.int .i64 oq) := (cell_of_row _ _ 5 _ _ _ HX1.out).trans rfl; have x1_6 : w2.cell? ⟨g1, 6, none⟩ = some (on) := (cell_of_row _ _ 6 _ _ _ HX1.out).trans rfl; have x1_7 : w2.cell? ⟨g1, 7, none⟩ = some (od) := (cell_of_row _ _ 7 _ _ _ HX1.out).trans rfl; have x1_8 : w2.cell? ⟨g1, 8, none⟩ = some (os) := (cell_of_row _ _ 8 _ _ _ HX1.out).trans rfl; have x1_9 : w2.cell? ⟨g1, 9, none⟩ = some (ov) := (cell_of_row _ _ 9 _ _ _ HX1.out).trans rfl; have x2_0 : w2.cell? ⟨g2, 0, none⟩ = some (.int .i64 pi) := (cell_of_row _ _ 0 _ _ _ HX2.out).trans rfl; have x2_1 : w2.cell? ⟨g2, 1, none⟩ = some (.int .i64 pp) := (cell_of_row _ _ 1 _ _ _ HX2.out).trans rfl; have x2_2 : w2.cell? ⟨g2, 2, none⟩ = some (.int .i64 pw) := (cell_of_row _ _ 2 _ _ _ HX2.out).trans rfl; have x2_3 : w2.cell? ⟨g2, 3, none⟩ = some (.int .i64 pl) := (cell_of_row _ _ 3 _ _ _ HX2.out).trans rfl; have x2_4 : w2.cell? ⟨g2, 4, none⟩ = some (.int .i64 pf) := (cell_of_row _ _ 4 _ _ _ HX2.out).trans rfl; have x2_5 : w2.cell? ⟨g2, 5, none⟩ = some (.int .i64 pq) := (cell_of_row _ _ 5 _ _ _ HX2.out).trans rfl; have x2_6 : w2.cell? ⟨g2, 6, none⟩ = some (pn) := (cell_of_row _ _ 6 _ _ _ HX2.out).trans rfl; have x2_7 : w2.cell? ⟨g2, 7, none⟩ = some (pd) := (cell_of_row _ _ 7 _ _ _ HX2.out).trans rfl; have x2_8 : w2.cell? ⟨g2, 8, none⟩ = some (ps) := (cell_of_row _ _ 8 _ _ _ HX2.out).trans rfl; have x2_9 : w2.cell? ⟨g2, 9, none⟩ = some (pv) := (cell_of_row _ _ 9 _ _ _ HX2.out).trans rfl; have C2 := Lib.hid (C2.out w2); clear hb2))
          go_ret
          exact ⟨ret_bool (by simp [twoB, an, hA0, hG]; simp [goB]), HB0.out⟩
        | false =>
          cases hO : (oi == id) with
          | true =>
            have hO2 : goB id false oi = true := by unfold goB; rw [Bool.false_or, ← hO]; exact BEq.comm
            have x0_0 : W1.cell? ⟨g0, 0, none⟩ = some (.int .i64 id) := (cell_of_row _ _ 0 _ _ _ hx0).trans rfl
            have x0_1 : W1.cell? ⟨g0, 1, none⟩ = some (.bool false) := (cell_of_row _ _ 1 _ _ _ hx0).trans rfl
            have x0_2 : W1.cell? ⟨g0, 2, none⟩ = some (.bool true) := (cell_of_row _ _ 2 _ _ _ hx0).trans rfl
            have x1_0 : W1.cell? ⟨g1, 0, none⟩ = some (.int .i64 oi) := (cell_of_row _ _ 0 _ _ _ hx1).trans rfl
            have x1_1 : W1.cell? ⟨g1, 1, none⟩ = some (.int .i64 oe) := (cell_of_row _ _ 1 _ _ _ hx1).trans rfl
            have x1_2 : W1.cell? ⟨g1, 2, none⟩ = some (.int .i64 ow) := (cell_of_row _ _ 2 _ _ _ hx1).trans rfl
            have x1_3 : W1.cell? ⟨g1, 3, none⟩ = some (.int .i64 ol) := (cell_of_row _ _ 3 _ _ _ hx1).trans rfl
            have x1_4 : W1.cell? ⟨g1, 4, none⟩ = some (.int .i64 of) := (cell_of_row _ _ 4 _ _ _ hx1).trans rfl
            have x1_5 : W1.cell? ⟨g1, 5, none⟩ = some (.int .i64 oq) := (cell_of_row _ _ 5 _ _ _ hx1).trans rfl
            have x1_6 : W1.cell? ⟨g1, 6, none⟩ = some (on) := (cell_of_row _ _ 6 _ _ _ hx1).trans rfl
            have x1_7 : W1.cell? ⟨g1, 7, none⟩ = some (od) := (cell_of_row _ _ 7 _ _ _ hx1).trans rfl
            have x1_8 : W1.cell? ⟨g1, 8, none⟩ = some (os) := (cell_of_row _ _ 8 _ _ _ hx1).trans rfl
            have x1_9 : W1.cell? ⟨g1, 9, none⟩ = some (ov) := (cell_of_row _ _ 9 _ _ _ hx1).trans rfl
            have x2_0 : W1.cell? ⟨g2, 0, none⟩ = some (.int .i64 pi) := (cell_of_row _ _ 0 _ _ _ hx2).trans rfl
            have x2_1 : W1.cell? ⟨g2, 1, none⟩ = some (.int .i64 pp) := (cell_of_row _ _ 1 _ _ _ hx2).trans rfl
            have x2_2 : W1.cell? ⟨g2, 2, none⟩ = some (.int .i64 pw) := (cell_of_row _ _ 2 _ _ _ hx2).trans rfl
            have x2_3 : W1.cell? ⟨g2, 3, none⟩ = some (.int .i64 pl) := (cell_of_row _ _ 3 _ _ _ hx2).trans rfl
            have x2_4 : W1.cell? ⟨g2, 4, none⟩ = some (.int .i64 pf) := (cell_of_row _ _ 4 _ _ _ hx2).trans rfl
            have x2_5 : W1.cell? ⟨g2, 5, none⟩ = some (.int .i64 pq) := (cell_of_row _ _ 5 _ _ _ hx2).trans rfl
            have x2_6 : W1.cell? ⟨g2, 6, none⟩ = some (pn) := (cell_of_row _ _ 6 _ _ _ hx2).trans rfl
            have x2_7 : W1.cell? ⟨g2, 7, none⟩ = some (pd) := (cell_of_row _ _ 7 _ _ _ hx2).trans rfl
            have x2_8 : W1.cell? ⟨g2, 8, none⟩ = some (ps) := (cell_of_row _ _ 8 _ _ _ hx2).trans rfl
            have x2_9 : W1.cell? ⟨g2, 9, none⟩ = some (pv) := (cell_of_row _ _ 9 _ _ _ hx2).trans rfl
            have HX0 := Lib.hid hx0
            clear hx0
            have HX1 := Lib.hid hx1
            clear hx1
            have HX2 := Lib.hid hx2
            clear hx2
            go_enter Try.func19, Try.ntmps19
            go_upto_region 1 with fail
            try simp only [World.size_alloc]
            rw [← hW1, ← hg2, ← hg1, ← hg0]
            clear hW1 hg0 hg1 hg2
            go_wp2_with (first
              | (go_at_call 11; (with_reducible refine C1.out.mono ?_); rintro e w2 ⟨rfl, hb2⟩; have HB0 := Lib.hid (HB0.out.trans (hb2.mono HB0.out.size)); have HX0 := Lib.hid ((hb2.block _ hl0).trans HX0.out); have hl0 := Nat.lt_of_lt_of_le hl0 hb2.size; have HX1 := Lib.hid ((hb2.block _ hl1).trans HX1.out); have hl1 := Nat.lt_of_lt_of_le hl1 hb2.size; have HX2 := Lib.hid ((hb2.block _ hl2).trans HX2.out); have hl2 := Nat.lt_of_lt_of_le hl2 hb2.size; have x0_0 : w2.cell? ⟨g0, 0, none⟩ = some (.int .i64 id) := (cell_of_row _ _ 0 _ _ _ HX0.out).trans rfl; have x0_1 : w2.cell? ⟨g0, 1, none⟩ = some (.bool false) := (cell_of_row _ _ 1 _ _ _ HX0.out).trans rfl; have x0_2 : w2.cell? ⟨g0, 2, none⟩ = some (.bool true) := (cell_of_row _ _ 2 _ _ _ HX0.out).trans rfl; have x1_0 : w2.cell? ⟨g1, 0, none⟩ = some (.int .i64 oi) := (cell_of_row _ _ 0 _ _ _ HX1.out).trans rfl; have x1_1 : w2.cell? ⟨g1, 1, none⟩ = some (.int .i64 oe) := (cell_of_row _ _ 1 _ _ _ HX1.out).trans rfl; have x1_2 : w2.cell? ⟨g1, 2, none⟩ = some (.int .i64 ow) := (cell_of_row _ _ 2 _ _ _ HX1.out).trans rfl; have x1_3 : w2.cell? ⟨g1, 3, none⟩ = some (.int .i64 ol) := (cell_of_row _ _ 3 _ _ _ HX1.out).trans rfl; have x1_4 : w2.cell? ⟨g1, 4, none⟩ = some (.int .i64 of) := (cell_of_row _ _ 4 _ _ _ HX1.out).trans rfl; have x1_5 : w2.cell? ⟨g1, 5, none⟩ = some (.int .i64 oq) := (cell_of_row _ _ 5 _ _ _ HX1.out).trans rfl; have x1_6 : w2.cell? ⟨g1, 6, none⟩ = some (on) := (cell_of_row _ _ 6 _ _ _ HX1.out).trans rfl; have x1_7 : w2.cell? ⟨g1, 7, none⟩ = some (od) := (cell_of_row _ _ 7 _ _ _ HX1.out).trans rfl; have x1_8 : w2.cell? ⟨g1, 8, none⟩ = some (os) := (cell_of_row _ _ 8 _ _ _ HX1.out).trans rfl; have x1_9 : w2.cell? ⟨g1, 9, none⟩ = some (ov) := (cell_of_row _ _ 9 _ _ _ HX1.out).trans rfl; have x2_0 : w2.cell? ⟨g2, 0, none⟩ = some (.int .i64 pi) := (cell_of_row _ _ 0 _ _ _ HX2.out).trans rfl; have x2_1 : w2.cell? ⟨g2, 1, none⟩ = some (.int .i64 pp) := (cell_of_row _ _ 1 _ _ _ HX2.out).trans rfl; have x2_2 : w2.cell? ⟨g2, 2, none⟩ = some (.int .i64 pw) := (cell_of_row _ _ 2 _ _ _ HX2.out).trans rfl; have x2_3 : w2.cell? ⟨g2, 3, none⟩ = some (.int .i64 pl) := (cell_of_row _ _ 3 _ _ _ HX2.out).trans rfl; have x2_4 : w2.cell? ⟨g2, 4, none⟩ = some (.int .i64 pf) := (cell_of_row _ _ 4 _ _ _ HX2.out).trans rfl; have x2_5 : w2.cell? ⟨g2, 5, none⟩ = some (.int .i64 pq) := (cell_of_row _ _ 5 _ _ _ HX2.out).trans rfl; have x2_6 : w2.cell? ⟨g2, 6, none⟩ = some (pn) := (cell_of_row _ _ 6 _ _ _ HX2.out).trans rfl; have x2_7 : w2.cell? ⟨g2, 7, none⟩ = some (pd) := (cell_of_row _ _ 7 _ _ _ HX2.out).trans rfl; have x2_8 : w2.cell? ⟨g2, 8, none⟩ = some (ps) := (cell_of_row _ _ 8 _ _ _ HX2.out).trans rfl; have x2_9 : w2.cell? ⟨g2, 9, none⟩ = some (pv) := (cell_of_row _ _ 9 _ _ _ HX2.out).trans rfl; have C2 := Lib.hid (C2.out w2); clear hb2))
            go_ret
            exact ⟨ret_bool (by simp [twoB, an, hA0, hG, hO2]), HB0.out⟩
          | false =>
            have hO2 : goB id false oi = false := by unfold goB; rw [Bool.false_or, ← hO]; exact BEq.comm
            have x0_0 : W1.cell? ⟨g0, 0, none⟩ = some (.int .i64 id) := (cell_of_row _ _ 0 _ _ _ hx0).trans rfl
            have x0_1 : W1.cell? ⟨g0, 1, none⟩ = some (.bool false) := (cell_of_row _ _ 1 _ _ _ hx0).trans rfl
            have x0_2 : W1.cell? ⟨g0, 2, none⟩ = some (.bool true) := (cell_of_row _ _ 2 _ _ _ hx0).trans rfl
            have x1_0 : W1.cell? ⟨g1, 0, none⟩ = some (.int .i64 oi) := (cell_of_row _ _ 0 _ _ _ hx1).trans rfl
            have x1_1 : W1.cell? ⟨g1, 1, none⟩ = some (.int .i64 oe) := (cell_of_row _ _ 1 _ _ _ hx1).trans rfl
            have x1_2 : W1.cell? ⟨g1, 2, none⟩ = some (.int .i64 ow) := (cell_of_row _ _ 2 _ _ _ hx1).trans rfl
            have x1_3 : W1.cell? ⟨g1, 3, none⟩ = some (.int .i64 ol) := (cell_of_row _ _ 3 _ _ _ hx1).trans rfl
            have x1_4 : W1.cell? ⟨g1, 4, none⟩ = some (.int .i64 of) := (cell_of_row _ _ 4 _ _ _ hx1).trans rfl
            have x1_5 : W1.cell? ⟨g1, 5, none⟩ = some (.int .i64 oq) := (cell_of_row _ _ 5 _ _ _ hx1).trans rfl
            have x1_6 : W1.cell? ⟨g1, 6, none⟩ = some (on) := (cell_of_row _ _ 6 _ _ _ hx1).trans rfl
            have x1_7 : W1.cell? ⟨g1, 7, none⟩ = some (od) := (cell_of_row _ _ 7 _ _ _ hx1).trans rfl
            have x1_8 : W1.cell? ⟨g1, 8, none⟩ = some (os) := (cell_of_row _ _ 8 _ _ _ hx1).trans rfl
            have x1_9 : W1.cell? ⟨g1, 9, none⟩ = some (ov) := (cell_of_row _ _ 9 _ _ _ hx1).trans rfl
            have x2_0 : W1.cell? ⟨g2, 0, none⟩ = some (.int .i64 pi) := (cell_of_row _ _ 0 _ _ _ hx2).trans rfl
            have x2_1 : W1.cell? ⟨g2, 1, none⟩ = some (.int .i64 pp) := (cell_of_row _ _ 1 _ _ _ hx2).trans rfl
            have x2_2 : W1.cell? ⟨g2, 2, none⟩ = some (.int .i64 pw) := (cell_of_row _ _ 2 _ _ _ hx2).trans rfl
            have x2_3 : W1.cell? ⟨g2, 3, none⟩ = some (.int .i64 pl) := (cell_of_row _ _ 3 _ _ _ hx2).trans rfl
            have x2_4 : W1.cell? ⟨g2, 4, none⟩ = some (.int .i64 pf) := (cell_of_row _ _ 4 _ _ _ hx2).trans rfl
            have x2_5 : W1.cell? ⟨g2, 5, none⟩ = some (.int .i64 pq) := (cell_of_row _ _ 5 _ _ _ hx2).trans rfl
            have x2_6 : W1.cell? ⟨g2, 6, none⟩ = some (pn) := (cell_of_row _ _ 6 _ _ _ hx2).trans rfl
            have x2_7 : W1.cell? ⟨g2, 7, none⟩ = some (pd) := (cell_of_row _ _ 7 _ _ _ hx2).trans rfl
            have x2_8 : W1.cell? ⟨g2, 8, none⟩ = some (ps) := (cell_of_row _ _ 8 _ _ _ hx2).trans rfl
            have x2_9 : W1.cell? ⟨g2, 9, none⟩ = some (pv) := (cell_of_row _ _ 9 _ _ _ hx2).trans rfl
            have HX0 := Lib.hid hx0
            clear hx0
            have HX1 := Lib.hid hx1
            clear hx1
            have HX2 := Lib.hid hx2
            clear hx2
            go_enter Try.func19, Try.ntmps19
            go_upto_region 1 with fail
            try simp only [World.size_alloc]
            rw [← hW1, ← hg2, ← hg1, ← hg0]
            clear hW1 hg0 hg1 hg2
            go_wp2_with (first
              | (go_at_call 11; (with_reducible refine C1.out.mono ?_); rintro e w2 ⟨rfl, hb2⟩; have HB0 := Lib.hid (HB0.out.trans (hb2.mono HB0.out.size)); have HX0 := Lib.hid ((hb2.block _ hl0).trans HX0.out); have hl0 := Nat.lt_of_lt_of_le hl0 hb2.size; have HX1 := Lib.hid ((hb2.block _ hl1).trans HX1.out); have hl1 := Nat.lt_of_lt_of_le hl1 hb2.size; have HX2 := Lib.hid ((hb2.block _ hl2).trans HX2.out); have hl2 := Nat.lt_of_lt_of_le hl2 hb2.size; have x0_0 : w2.cell? ⟨g0, 0, none⟩ = some (.int .i64 id) := (cell_of_row _ _ 0 _ _ _ HX0.out).trans rfl; have x0_1 : w2.cell? ⟨g0, 1, none⟩ = some (.bool false) := (cell_of_row _ _ 1 _ _ _ HX0.out).trans rfl; have x0_2 : w2.cell? ⟨g0, 2, none⟩ = some (.bool true) := (cell_of_row _ _ 2 _ _ _ HX0.out).trans rfl; have x1_0 : w2.cell? ⟨g1, 0, none⟩ = some (.int .i64 oi) := (cell_of_row _ _ 0 _ _ _ HX1.out).trans rfl; have x1_1 : w2.cell? ⟨g1, 1, none⟩ = some (.int .i64 oe) := (cell_of_row _ _ 1 _ _ _ HX1.out).trans rfl; have x1_2 : w2.cell? ⟨g1, 2, none⟩ = some (.int .i64 ow) := (cell_of_row _ _ 2 _ _ _ HX1.out).trans rfl; have x1_3 : w2.cell? ⟨g1, 3, none⟩ = some (.int .i64 ol) := (cell_of_row _ _ 3 _ _ _ HX1.out).trans rfl; have x1_4 : w2.cell? ⟨g1, 4, none⟩ = some (.int .i64 of) := (cell_of_row _ _ 4 _ _ _ HX1.out).trans rfl; have x1_5 : w2.cell? ⟨g1, 5, none⟩ = some (.int .i64 oq) := (cell_of_row _ _ 5 _ _ _ HX1.out).trans rfl; have x1_6 : w2.cell? ⟨g1, 6, none⟩ = some (on) := (cell_of_row _ _ 6 _ _ _ HX1.out).trans rfl; have x1_7 : w2.cell? ⟨g1, 7, none⟩ = some (od) := (cell_of_row _ _ 7 _ _ _ HX1.out).trans rfl; have x1_8 : w2.cell? ⟨g1, 8, none⟩ = some (os) := (cell_of_row _ _ 8 _ _ _ HX1.out).trans rfl; have x1_9 : w2.cell? ⟨g1, 9, none⟩ = some (ov) := (cell_of_row _ _ 9 _ _ _ HX1.out).trans rfl; have x2_0 : w2.cell? ⟨g2, 0, none⟩ = some (.int .i64 pi) := (cell_of_row _ _ 0 _ _ _ HX2.out).trans rfl; have x2_1 : w2.cell? ⟨g2, 1, none⟩ = some (.int .i64 pp) := (cell_of_row _ _ 1 _ _ _ HX2.out).trans rfl; have x2_2 : w2.cell? ⟨g2, 2, none⟩ = some (.int .i64 pw) := (cell_of_row _ _ 2 _ _ _ HX2.out).trans rfl; have x2_3 : w2.cell? ⟨g2, 3, none⟩ = some (.int .i64 pl) := (cell_of_row _ _ 3 _ _ _ HX2.out).trans rfl; have x2_4 : w2.cell? ⟨g2, 4, none⟩ = some (.int .i64 pf) := (cell_of_row _ _ 4 _ _ _ HX2.out).trans rfl; have x2_5 : w2.cell? ⟨g2, 5, none⟩ = some (.int .i64 pq) := (cell_of_row _ _ 5 _ _ _ HX2.out).trans rfl; have x2_6 : w2.cell? ⟨g2, 6, none⟩ = some (pn) := (cell_of_row _ _ 6 _ _ _ HX2.out).trans rfl; have x2_7 : w2.cell? ⟨g2, 7, none⟩ = some (pd) := (cell_of_row _ _ 7 _ _ _ HX2.out).trans rfl; have x2_8 : w2.cell? ⟨g2, 8, none⟩ = some (ps) := (cell_of_row _ _ 8 _ _ _ HX2.out).trans rfl; have x2_9 : w2.cell? ⟨g2, 9, none⟩ = some (pv) := (cell_of_row _ _ 9 _ _ _ HX2.out).trans rfl; have C2 := Lib.hid (C2.out w2); clear hb2))
            go_ret
            exact ⟨ret_bool (by simp [twoB, hO2]), HB0.out⟩
    by_cases h11 : op = 11
    · subst h11
      cases G2 with
      | true =>
        have x0_0 : W1.cell? ⟨g0, 0, none⟩ = some (.int .i64 id) := (cell_of_row _ _ 0 _ _ _ hx0).trans rfl
        have x0_1 : W1.cell? ⟨g0, 1, none⟩ = some (.bool wz) := (cell_of_row _ _ 1 _ _ _ hx0).trans rfl
        have x0_2 : W1.cell? ⟨g0, 2, none⟩ = some (.bool pg) := (cell_of_row _ _ 2 _ _ _ hx0).trans rfl
        have x1_0 : W1.cell? ⟨g1, 0, none⟩ = some (.int .i64 oi) := (cell_of_row _ _ 0 _ _ _ hx1).trans rfl
        have x1_1 : W1.cell? ⟨g1, 1, none⟩ = some (.int .i64 oe) := (cell_of_row _ _ 1 _ _ _ hx1).trans rfl
        have x1_2 : W1.cell? ⟨g1, 2, none⟩ = some (.int .i64 ow) := (cell_of_row _ _ 2 _ _ _ hx1).trans rfl
        have x1_3 : W1.cell? ⟨g1, 3, none⟩ = some (.int .i64 ol) := (cell_of_row _ _ 3 _ _ _ hx1).trans rfl
        have x1_4 : W1.cell? ⟨g1, 4, none⟩ = some (.int .i64 of) := (cell_of_row _ _ 4 _ _ _ hx1).trans rfl
        have x1_5 : W1.cell? ⟨g1, 5, none⟩ = some (.int .i64 oq) := (cell_of_row _ _ 5 _ _ _ hx1).trans rfl
        have x1_6 : W1.cell? ⟨g1, 6, none⟩ = some (on) := (cell_of_row _ _ 6 _ _ _ hx1).trans rfl
        have x1_7 : W1.cell? ⟨g1, 7, none⟩ = some (od) := (cell_of_row _ _ 7 _ _ _ hx1).trans rfl
        have x1_8 : W1.cell? ⟨g1, 8, none⟩ = some (os) := (cell_of_row _ _ 8 _ _ _ hx1).trans rfl
        have x1_9 : W1.cell? ⟨g1, 9, none⟩ = some (ov) := (cell_of_row _ _ 9 _ _ _ hx1).trans rfl
        have x2_0 : W1.cell? ⟨g2, 0, none⟩ = some (.int .i64 pi) := (cell_of_row _ _ 0 _ _ _ hx2).trans rfl
        have x2_1 : W1.cell? ⟨g2, 1, none⟩ = some (.int .i64 pp) := (cell_of_row _ _ 1 _ _ _ hx2).trans rfl
        have x2_2 : W1.cell? ⟨g2, 2, none⟩ = some (.int .i64 pw) := (cell_of_row _ _ 2 _ _ _ hx2).trans rfl
        have x2_3 : W1.cell? ⟨g2, 3, none⟩ = some (.int .i64 pl) := (cell_of_row _ _ 3 _ _ _ hx2).trans rfl
        have x2_4 : W1.cell? ⟨g2, 4, none⟩ = some (.int .i64 pf) := (cell_of_row _ _ 4 _ _ _ hx2).trans rfl
        have x2_5 : W1.cell? ⟨g2, 5, none⟩ = some (.int .i64 pq) := (cell_of_row _ _ 5 _ _ _ hx2).trans rfl
        have x2_6 : W1.cell? ⟨g2, 6, none⟩ = some (pn) := (cell_of_row _ _ 6 _ _ _ hx2).trans rfl
        have x2_7 : W1.cell? ⟨g2, 7, none⟩ = some (pd) := (cell_of_row _ _ 7 _ _ _ hx2).trans rfl
        have x2_8 : W1.cell? ⟨g2, 8, none⟩ = some (ps) := (cell_of_row _ _ 8 _ _ _ hx2).trans rfl
        have x2_9 : W1.cell? ⟨g2, 9, none⟩ = some (pv) := (cell_of_row _ _ 9 _ _ _ hx2).trans rfl
        have HX0 := Lib.hid hx0
        clear hx0
        have HX1 := Lib.hid hx1
        clear hx1
        have HX2 := Lib.hid hx2
        clear hx2
        go_enter Try.func19, Try.ntmps19
        go_upto_region 1 with fail
        try simp only [World.size_alloc]
        rw [← hW1, ← hg2, ← hg1, ← hg0]
        clear hW1 hg0 hg1 hg2
        go_wp2_with (first
          | (go_at_call 11; (with_reducible refine C1.out.mono ?_); rintro e w2 ⟨rfl, hb2⟩; have HB0 := Lib.hid (HB0.out.trans (hb2.mono HB0.out.size)); have HX0 := Lib.hid ((hb2.block _ hl0).trans HX0.out); have hl0 := Nat.lt_of_lt_of_le hl0 hb2.size; have HX1 := Lib.hid ((hb2.block _ hl1).trans HX1.out); have hl1 := Nat.lt_of_lt_of_le hl1 hb2.size; have HX2 := Lib.hid ((hb2.block _ hl2).trans HX2.out); have hl2 := Nat.lt_of_lt_of_le hl2 hb2.size; have x0_0 : w2.cell? ⟨g0, 0, none⟩ = some (.int .i64 id) := (cell_of_row _ _ 0 _ _ _ HX0.out).trans rfl; have x0_1 : w2.cell? ⟨g0, 1, none⟩ = some (.bool wz) := (cell_of_row _ _ 1 _ _ _ HX0.out).trans rfl; have x0_2 : w2.cell? ⟨g0, 2, none⟩ = some (.bool pg) := (cell_of_row _ _ 2 _ _ _ HX0.out).trans rfl; have x1_0 : w2.cell? ⟨g1, 0, none⟩ = some (.int .i64 oi) := (cell_of_row _ _ 0 _ _ _ HX1.out).trans rfl; have x1_1 : w2.cell? ⟨g1, 1, none⟩ = some (.int .i64 oe) := (cell_of_row _ _ 1 _ _ _ HX1.out).trans rfl; have x1_2 : w2.cell? ⟨g1, 2, none⟩ = some (.int .i64 ow) := (cell_of_row _ _ 2 _ _ _ HX1.out).trans rfl; have x1_3 : w2.cell? ⟨g1, 3, none⟩ = some (.int .i64 ol) := (cell_of_row _ _ 3 _ _ _ HX1.out).trans rfl; have x1_4 : w2.cell? ⟨g1, 4, none⟩ = some (.int .i64 of) := (cell_of_row _ _ 4 _ _ _ HX1.out).trans rfl; have x1_5 : w2.cell? ⟨g1, 5, none⟩ = some (.int .i64 oq) := (cell_of_row _ _ 5 _ _ _ HX1.out).trans rfl; have x1_6 : w2.cell? ⟨g1, 6, none⟩ = some (on) := (cell_of_row _ _ 6 _ _ _ HX1.out).trans rfl; have x1_7 : w2.cell? ⟨g1, 7, none⟩ = some (od) := (cell_of_row _ _ 7 _ _ _ HX1.out).trans rfl; have x1_8 : w2.cell? ⟨g1, 8, none⟩ = some (os) := (cell_of_row _ _ 8 _ _ _ HX1.out).trans rfl; have x1_9 : w2.cell? ⟨g1, 9, none⟩ = some (ov) := (cell_of_row _ _ 9 _ _ _ HX1.out).trans rfl; have x2_0 : w2.cell? ⟨g2, 0, none⟩ = some (.int .i64 pi) := (cell_of_row _ _ 0 _ _ _ HX2.out).trans rfl; have x2_1 : w2.cell? ⟨g2, 1, none⟩ = some (.int .i64 pp) := (cell_of_row _ _ 1 _ _ _ HX2.out).trans rfl; have x2_2 : w2.cell? ⟨g2, 2, none⟩ = some (.int .i64 pw) := (cell_of_row _ _ 2 _ _ _ HX2.out).trans rfl; have x2_3 : w2.cell? ⟨g2, 3, none⟩ = some (.int .i64 pl) := (cell_of_row _ _ 3 _ _ _ HX2.out).trans rfl; have x2_4 : w2.cell? ⟨g2, 4, none⟩ = some (.int .i64 pf) := (cell_of_row _ _ 4 _ _ _ HX2.out).trans rfl; have x2_5 : w2.cell? ⟨g2, 5, none⟩ = some (.int .i64 pq) := (cell_of_row _ _ 5 _ _ _ HX2.out).trans rfl; have x2_6 : w2.cell? ⟨g2, 6, none⟩ = some (pn) := (cell_of_row _ _ 6 _ _ _ HX2.out).trans rfl; have x2_7 : w2.cell? ⟨g2, 7, none⟩ = some (pd) := (cell_of_row _ _ 7 _ _ _ HX2.out).trans rfl; have x2_8 : w2.cell? ⟨g2, 8, none⟩ = some (ps) := (cell_of_row _ _ 8 _ _ _ HX2.out).trans rfl; have x2_9 : w2.cell? ⟨g2, 9, none⟩ = some (pv) := (cell_of_row _ _ 9 _ _ _ HX2.out).trans rfl; have C2 := Lib.hid (C2.out w2); clear hb2)
          | (go_at_call 11; (with_reducible refine C2.out.mono ?_); rintro e w3 ⟨rfl, hb2⟩; have HB0 := Lib.hid (HB0.out.trans (hb2.mono HB0.out.size)); have HX0 := Lib.hid ((hb2.block _ hl0).trans HX0.out); have hl0 := Nat.lt_of_lt_of_le hl0 hb2.size; have HX1 := Lib.hid ((hb2.block _ hl1).trans HX1.out); have hl1 := Nat.lt_of_lt_of_le hl1 hb2.size; have HX2 := Lib.hid ((hb2.block _ hl2).trans HX2.out); have hl2 := Nat.lt_of_lt_of_le hl2 hb2.size; have x0_0 : w3.cell? ⟨g0, 0, none⟩ = some (.int .i64 id) := (cell_of_row _ _ 0 _ _ _ HX0.out).trans rfl; have x0_1 : w3.cell? ⟨g0, 1, none⟩ = some (.bool wz) := (cell_of_row _ _ 1 _ _ _ HX0.out).trans rfl; have x0_2 : w3.cell? ⟨g0, 2, none⟩ = some (.bool pg) := (cell_of_row _ _ 2 _ _ _ HX0.out).trans rfl; have x1_0 : w3.cell? ⟨g1, 0, none⟩ = some (.int .i64 oi) := (cell_of_row _ _ 0 _ _ _ HX1.out).trans rfl; have x1_1 : w3.cell? ⟨g1, 1, none⟩ = some (.int .i64 oe) := (cell_of_row _ _ 1 _ _ _ HX1.out).trans rfl; have x1_2 : w3.cell? ⟨g1, 2, none⟩ = some (.int .i64 ow) := (cell_of_row _ _ 2 _ _ _ HX1.out).trans rfl; have x1_3 : w3.cell? ⟨g1, 3, none⟩ = some (.int .i64 ol) := (cell_of_row _ _ 3 _ _ _ HX1.out).trans rfl; have x1_4 : w3.cell? ⟨g1, 4, none⟩ = some (.int .i64 of) := (cell_of_row _ _ 4 _ _ _ HX1.out).trans rfl; have x1_5 : w3.cell? ⟨g1, 5, none⟩ = some (.int .i64 oq) := (cell_of_row _ _ 5 _ _ _ HX1.out).trans rfl; have x1_6 : w3.cell? ⟨g1, 6, none⟩ = some (on) := (cell_of_row _ _ 6 _ _ _ HX1.out).trans rfl; have x1_7 : w3.cell? ⟨g1, 7, none⟩ = some (od) := (cell_of_row _ _ 7 _ _ _ HX1.out).trans rfl; have x1_8 : w3.cell? ⟨g1, 8, none⟩ = some (os) := (cell_of_row _ _ 8 _ _ _ HX1.out).trans rfl; have x1_9 : w3.cell? ⟨g1, 9, none⟩ = some (ov) := (cell_of_row _ _ 9 _ _ _ HX1.out).trans rfl; have x2_0 : w3.cell? ⟨g2, 0, none⟩ = some (.int .i64 pi) := (cell_of_row _ _ 0 _ _ _ HX2.out).trans rfl; have x2_1 : w3.cell? ⟨g2, 1, none⟩ = some (.int .i64 pp) := (cell_of_row _ _ 1 _ _ _ HX2.out).trans rfl; have x2_2 : w3.cell? ⟨g2, 2, none⟩ = some (.int .i64 pw) := (cell_of_row _ _ 2 _ _ _ HX2.out).trans rfl; have x2_3 : w3.cell? ⟨g2, 3, none⟩ = some (.int .i64 pl) := (cell_of_row _ _ 3 _ _ _ HX2.out).trans rfl; have x2_4 : w3.cell? ⟨g2, 4, none⟩ = some (.int .i64 pf) := (cell_of_row _ _ 4 _ _ _ HX2.out).trans rfl; have x2_5 : w3.cell? ⟨g2, 5, none⟩ = some (.int .i64 pq) := (cell_of_row _ _ 5 _ _ _ HX2.out).trans rfl; have x2_6 : w3.cell? ⟨g2, 6, none⟩ = some (pn) := (cell_of_row _ _ 6 _ _ _ HX2.out).trans rfl; have x2_7 : w3.cell? ⟨g2, 7, none⟩ = some (pd) := (cell_of_row _ _ 7 _ _ _ HX2.out).trans rfl; have x2_8 : w3.cell? ⟨g2, 8, none⟩ = some (ps) := (cell_of_row _ _ 8 _ _ _ HX2.out).trans rfl; have x2_9 : w3.cell? ⟨g2, 9, none⟩ = some (pv) := (cell_of_row _ _ 9 _ _ _ HX2.out).trans rfl; clear hb2))
        go_ret
        exact ⟨ret_bool (by simp [twoB, an, hA0, hG, hG2]), HB0.out⟩
      | false =>
        have x0_0 : W1.cell? ⟨g0, 0, none⟩ = some (.int .i64 id) := (cell_of_row _ _ 0 _ _ _ hx0).trans rfl
        have x0_1 : W1.cell? ⟨g0, 1, none⟩ = some (.bool wz) := (cell_of_row _ _ 1 _ _ _ hx0).trans rfl
        have x0_2 : W1.cell? ⟨g0, 2, none⟩ = some (.bool pg) := (cell_of_row _ _ 2 _ _ _ hx0).trans rfl
        have x1_0 : W1.cell? ⟨g1, 0, none⟩ = some (.int .i64 oi) := (cell_of_row _ _ 0 _ _ _ hx1).trans rfl
        have x1_1 : W1.cell? ⟨g1, 1, none⟩ = some (.int .i64 oe) := (cell_of_row _ _ 1 _ _ _ hx1).trans rfl
        have x1_2 : W1.cell? ⟨g1, 2, none⟩ = some (.int .i64 ow) := (cell_of_row _ _ 2 _ _ _ hx1).trans rfl
        have x1_3 : W1.cell? ⟨g1, 3, none⟩ = some (.int .i64 ol) := (cell_of_row _ _ 3 _ _ _ hx1).trans rfl
        have x1_4 : W1.cell? ⟨g1, 4, none⟩ = some (.int .i64 of) := (cell_of_row _ _ 4 _ _ _ hx1).trans rfl
        have x1_5 : W1.cell? ⟨g1, 5, none⟩ = some (.int .i64 oq) := (cell_of_row _ _ 5 _ _ _ hx1).trans rfl
        have x1_6 : W1.cell? ⟨g1, 6, none⟩ = some (on) := (cell_of_row _ _ 6 _ _ _ hx1).trans rfl
        have x1_7 : W1.cell? ⟨g1, 7, none⟩ = some (od) := (cell_of_row _ _ 7 _ _ _ hx1).trans rfl
        have x1_8 : W1.cell? ⟨g1, 8, none⟩ = some (os) := (cell_of_row _ _ 8 _ _ _ hx1).trans rfl
        have x1_9 : W1.cell? ⟨g1, 9, none⟩ = some (ov) := (cell_of_row _ _ 9 _ _ _ hx1).trans rfl
        have x2_0 : W1.cell? ⟨g2, 0, none⟩ = some (.int .i64 pi) := (cell_of_row _ _ 0 _ _ _ hx2).trans rfl
        have x2_1 : W1.cell? ⟨g2, 1, none⟩ = some (.int .i64 pp) := (cell_of_row _ _ 1 _ _ _ hx2).trans rfl
        have x2_2 : W1.cell? ⟨g2, 2, none⟩ = some (.int .i64 pw) := (cell_of_row _ _ 2 _ _ _ hx2).trans rfl
        have x2_3 : W1.cell? ⟨g2, 3, none⟩ = some (.int .i64 pl) := (cell_of_row _ _ 3 _ _ _ hx2).trans rfl
        have x2_4 : W1.cell? ⟨g2, 4, none⟩ = some (.int .i64 pf) := (cell_of_row _ _ 4 _ _ _ hx2).trans rfl
        have x2_5 : W1.cell? ⟨g2, 5, none⟩ = some (.int .i64 pq) := (cell_of_row _ _ 5 _ _ _ hx2).trans rfl
        have x2_6 : W1.cell? ⟨g2, 6, none⟩ = some (pn) := (cell_of_row _ _ 6 _ _ _ hx2).trans rfl
        have x2_7 : W1.cell? ⟨g2, 7, none⟩ = some (pd) := (cell_of_row _ _ 7 _ _ _ hx2).trans rfl
        have x2_8 : W1.cell? ⟨g2, 8, none⟩ = some (ps) := (cell_of_row _ _ 8 _ _ _ hx2).trans rfl
        have x2_9 : W1.cell? ⟨g2, 9, none⟩ = some (pv) := (cell_of_row _ _ 9 _ _ _ hx2).trans rfl
        have HX0 := Lib.hid hx0
        clear hx0
        have HX1 := Lib.hid hx1
        clear hx1
        have HX2 := Lib.hid hx2
        clear hx2
        go_enter Try.func19, Try.ntmps19
        go_upto_region 1 with fail
        try simp only [World.size_alloc]
        rw [← hW1, ← hg2, ← hg1, ← hg0]
        clear hW1 hg0 hg1 hg2
        go_wp2_with (first
          | (go_at_call 11; (with_reducible refine C1.out.mono ?_); rintro e w2 ⟨rfl, hb2⟩; have HB0 := Lib.hid (HB0.out.trans (hb2.mono HB0.out.size)); have HX0 := Lib.hid ((hb2.block _ hl0).trans HX0.out); have hl0 := Nat.lt_of_lt_of_le hl0 hb2.size; have HX1 := Lib.hid ((hb2.block _ hl1).trans HX1.out); have hl1 := Nat.lt_of_lt_of_le hl1 hb2.size; have HX2 := Lib.hid ((hb2.block _ hl2).trans HX2.out); have hl2 := Nat.lt_of_lt_of_le hl2 hb2.size; have x0_0 : w2.cell? ⟨g0, 0, none⟩ = some (.int .i64 id) := (cell_of_row _ _ 0 _ _ _ HX0.out).trans rfl; have x0_1 : w2.cell? ⟨g0, 1, none⟩ = some (.bool wz) := (cell_of_row _ _ 1 _ _ _ HX0.out).trans rfl; have x0_2 : w2.cell? ⟨g0, 2, none⟩ = some (.bool pg) := (cell_of_row _ _ 2 _ _ _ HX0.out).trans rfl; have x1_0 : w2.cell? ⟨g1, 0, none⟩ = some (.int .i64 oi) := (cell_of_row _ _ 0 _ _ _ HX1.out).trans rfl; have x1_1 : w2.cell? ⟨g1, 1, none⟩ = some (.int .i64 oe) := (cell_of_row _ _ 1 _ _ _ HX1.out).trans rfl; have x1_2 : w2.cell? ⟨g1, 2, none⟩ = some (.int .i64 ow) := (cell_of_row _ _ 2 _ _ _ HX1.out).trans rfl; have x1_3 : w2.cell? ⟨g1, 3, none⟩ = some (.int .i64 ol) := (cell_of_row _ _ 3 _ _ _ HX1.out).trans rfl; have x1_4 : w2.cell? ⟨g1, 4, none⟩ = some (.int .i64 of) := (cell_of_row _ _ 4 _ _ _ HX1.out).trans rfl; have x1_5 : w2.cell? ⟨g1, 5, none⟩ = some (.int .i64 oq) := (cell_of_row _ _ 5 _ _ _ HX1.out).trans rfl; have x1_6 : w2.cell? ⟨g1, 6, none⟩ = some (on) := (cell_of_row _ _ 6 _ _ _ HX1.out).trans rfl; have x1_7 : w2.cell? ⟨g1, 7, none⟩ = some (od) := (cell_of_row _ _ 7 _ _ _ HX1.out).trans rfl; have x1_8 : w2.cell? ⟨g1, 8, none⟩ = some (os) := (cell_of_row _ _ 8 _ _ _ HX1.out).trans rfl; have x1_9 : w2.cell? ⟨g1, 9, none⟩ = some (ov) := (cell_of_row _ _ 9 _ _ _ HX1.out).trans rfl; have x2_0 : w2.cell? ⟨g2, 0, none⟩ = some (.int .i64 pi) := (cell_of_row _ _ 0 _ _ _ HX2.out).trans rfl; have x2_1 : w2.cell? ⟨g2, 1, none⟩ = some (.int .i64 pp) := (cell_of_row _ _ 1 _ _ _ HX2.out).trans rfl; have x2_2 : w2.cell? ⟨g2, 2, none⟩ = some (.int .i64 pw) := (cell_of_row _ _ 2 _ _ _ HX2.out).trans rfl; have x2_3 : w2.cell? ⟨g2, 3, none⟩ = some (.int .i64 pl) := (cell_of_row _ _ 3 _ _ _ HX2.out).trans rfl; have x2_4 : w2.cell? ⟨g2, 4, none⟩ = some (.int .i64 pf) := (cell_of_row _ _ 4 _ _ _ HX2.out).trans rfl; have x2_5 : w2.cell? ⟨g2, 5, none⟩ = some (.int .i64 pq) := (cell_of_row _ _ 5 _ _ _ HX2.out).trans rfl; have x2_6 : w2.cell? ⟨g2, 6, none⟩ = some (pn) := (cell_of_row _ _ 6 _ _ _ HX2.out).trans rfl; have x2_7 : w2.cell? ⟨g2, 7, none⟩ = some (pd) := (cell_of_row _ _ 7 _ _ _ HX2.out).trans rfl; have x2_8 : w2.cell? ⟨g2, 8, none⟩ = some (ps) := (cell_of_row _ _ 8 _ _ _ HX2.out).trans rfl; have x2_9 : w2.cell? ⟨g2, 9, none⟩ = some (pv) := (cell_of_row _ _ 9 _ _ _ HX2.out).trans rfl; have C2 := Lib.hid (C2.out w2); clear hb2)
          | (go_at_call 11; (with_reducible refine C2.out.mono ?_); rintro e w3 ⟨rfl, hb2⟩; have HB0 := Lib.hid (HB0.out.trans (hb2.mono HB0.out.size)); have HX0 := Lib.hid ((hb2.block _ hl0).trans HX0.out); have hl0 := Nat.lt_of_lt_of_le hl0 hb2.size; have HX1 := Lib.hid ((hb2.block _ hl1).trans HX1.out); have hl1 := Nat.lt_of_lt_of_le hl1 hb2.size; have HX2 := Lib.hid ((hb2.block _ hl2).trans HX2.out); have hl2 := Nat.lt_of_lt_of_le hl2 hb2.size; have x0_0 : w3.cell? ⟨g0, 0, none⟩ = some (.int .i64 id) := (cell_of_row _ _ 0 _ _ _ HX0.out).trans rfl; have x0_1 : w3.cell? ⟨g0, 1, none⟩ = some (.bool wz) := (cell_of_row _ _ 1 _ _ _ HX0.out).trans rfl; have x0_2 : w3.cell? ⟨g0, 2, none⟩ = some (.bool pg) := (cell_of_row _ _ 2 _ _ _ HX0.out).trans rfl; have x1_0 : w3.cell? ⟨g1, 0, none⟩ = some (.int .i64 oi) := (cell_of_row _ _ 0 _ _ _ HX1.out).trans rfl; have x1_1 : w3.cell? ⟨g1, 1, none⟩ = some (.int .i64 oe) := (cell_of_row _ _ 1 _ _ _ HX1.out).trans rfl; have x1_2 : w3.cell? ⟨g1, 2, none⟩ = some (.int .i64 ow) := (cell_of_row _ _ 2 _ _ _ HX1.out).trans rfl; have x1_3 : w3.cell? ⟨g1, 3, none⟩ = some (.int .i64 ol) := (cell_of_row _ _ 3 _ _ _ HX1.out).trans rfl; have x1_4 : w3.cell? ⟨g1, 4, none⟩ = some (.int .i64 of) := (cell_of_row _ _ 4 _ _ _ HX1.out).trans rfl; have x1_5 : w3.cell? ⟨g1, 5, none⟩ = some (.int .i64 oq) := (cell_of_row _ _ 5 _ _ _ HX1.out).trans rfl; have x1_6 : w3.cell? ⟨g1, 6, none⟩ = some (on) := (cell_of_row _ _ 6 _ _ _ HX1.out).trans rfl; have x1_7 : w3.cell? ⟨g1, 7, none⟩ = some (od) := (cell_of_row _ _ 7 _ _ _ HX1.out).trans rfl; have x1_8 : w3.cell? ⟨g1, 8, none⟩ = some (os) := (cell_of_row _ _ 8 _ _ _ HX1.out).trans rfl; have x1_9 : w3.cell? ⟨g1, 9, none⟩ = some (ov) := (cell_of_row _ _ 9 _ _ _ HX1.out).trans rfl; have x2_0 : w3.cell? ⟨g2, 0, none⟩ = some (.int .i64 pi) := (cell_of_row _ _ 0 _ _ _ HX2.out).trans rfl; have x2_1 : w3.cell? ⟨g2, 1, none⟩ = some (.int .i64 pp) := (cell_of_row _ _ 1 _ _ _ HX2.out).trans rfl; have x2_2 : w3.cell? ⟨g2, 2, none⟩ = some (.int .i64 pw) := (cell_of_row _ _ 2 _ _ _ HX2.out).trans rfl; have x2_3 : w3.cell? ⟨g2, 3, none⟩ = some (.int .i64 pl) := (cell_of_row _ _ 3 _ _ _ HX2.out).trans rfl; have x2_4 : w3.cell? ⟨g2, 4, none⟩ = some (.int .i64 pf) := (cell_of_row _ _ 4 _ _ _ HX2.out).trans rfl; have x2_5 : w3.cell? ⟨g2, 5, none⟩ = some (.int .i64 pq) := (cell_of_row _ _ 5 _ _ _ HX2.out).trans rfl; have x2_6 : w3.cell? ⟨g2, 6, none⟩ = some (pn) := (cell_of_row _ _ 6 _ _ _ HX2.out).trans rfl; have x2_7 : w3.cell? ⟨g2, 7, none⟩ = some (pd) := (cell_of_row _ _ 7 _ _ _ HX2.out).trans rfl; have x2_8 : w3.cell? ⟨g2, 8, none⟩ = some (ps) := (cell_of_row _ _ 8 _ _ _ HX2.out).trans rfl; have x2_9 : w3.cell? ⟨g2, 9, none⟩ = some (pv) := (cell_of_row _ _ 9 _ _ _ HX2.out).trans rfl; clear hb2))
        go_ret
        exact ⟨ret_bool (by simp [twoB, hG2]), HB0.out⟩
    have x0_0 : W1.cell? ⟨g0, 0, none⟩ = some (.int .i64 id) := (cell_of_row _ _ 0 _ _ _ hx0).trans rfl
    have x0_1 : W1.cell? ⟨g0, 1, none⟩ = some (.bool wz) := (cell_of_row _ _ 1 _ _ _ hx0).trans rfl
    have x0_2 : W1.cell? ⟨g0, 2, none⟩ = some (.bool pg) := (cell_of_row _ _ 2 _ _ _ hx0).trans rfl
    have x1_0 : W1.cell? ⟨g1, 0, none⟩ = some (.int .i64 oi) := (cell_of_row _ _ 0 _ _ _ hx1).trans rfl
    have x1_1 : W1.cell? ⟨g1, 1, none⟩ = some (.int .i64 oe) := (cell_of_row _ _ 1 _ _ _ hx1).trans rfl
    have x1_2 : W1.cell? ⟨g1, 2, none⟩ = some (.int .i64 ow) := (cell_of_row _ _ 2 _ _ _ hx1).trans rfl
    have x1_3 : W1.cell? ⟨g1, 3, none⟩ = some (.int .i64 ol) := (cell_of_row _ _ 3 _ _ _ hx1).trans rfl
    have x1_4 : W1.cell? ⟨g1, 4, none⟩ = some (.int .i64 of) := (cell_of_row _ _ 4 _ _ _ hx1).trans rfl
    have x1_5 : W1.cell? ⟨g1, 5, none⟩ = some (.int .i64 oq) := (cell_of_row _ _ 5 _ _ _ hx1).trans rfl
    have x1_6 : W1.cell? ⟨g1, 6, none⟩ = some (on) := (cell_of_row _ _ 6 _ _ _ hx1).trans rfl
    have x1_7 : W1.cell? ⟨g1, 7, none⟩ = some (od) := (cell_of_row _ _ 7 _ _ _ hx1).trans rfl
    have x1_8 : W1.cell? ⟨g1, 8, none⟩ = some (os) := (cell_of_row _ _ 8 _ _ _ hx1).trans rfl
    have x1_9 : W1.cell? ⟨g1, 9, none⟩ = some (ov) := (cell_of_row _ _ 9 _ _ _ hx1).trans rfl
    have x2_0 : W1.cell? ⟨g2, 0, none⟩ = some (.int .i64 pi) := (cell_of_row _ _ 0 _ _ _ hx2).trans rfl
    have x2_1 : W1.cell? ⟨g2, 1, none⟩ = some (.int .i64 pp) := (cell_of_row _ _ 1 _ _ _ hx2).trans rfl
    have x2_2 : W1.cell? ⟨g2, 2, none⟩ = some (.int .i64 pw) := (cell_of_row _ _ 2 _ _ _ hx2).trans rfl
    have x2_3 : W1.cell? ⟨g2, 3, none⟩ = some (.int .i64 pl) := (cell_of_row _ _ 3 _ _ _ hx2).trans rfl
    have x2_4 : W1.cell? ⟨g2, 4, none⟩ = some (.int .i64 pf) := (cell_of_row _ _ 4 _ _ _ hx2).trans rfl
    have x2_5 : W1.cell? ⟨g2, 5, none⟩ = some (.int .i64 pq) := (cell_of_row _ _ 5 _ _ _ hx2).trans rfl
    have x2_6 : W1.cell? ⟨g2, 6, none⟩ = some (pn) := (cell_of_row _ _ 6 _ _ _ hx2).trans rfl
    have x2_7 : W1.cell? ⟨g2, 7, none⟩ = some (pd) := (cell_of_row _ _ 7 _ _ _ hx2).trans rfl
    have x2_8 : W1.cell? ⟨g2, 8, none⟩ = some (ps) := (cell_of_row _ _ 8 _ _ _ hx2).trans rfl
    have x2_9 : W1.cell? ⟨g2, 9, none⟩ = some (pv) := (cell_of_row _ _ 9 _ _ _ hx2).trans rfl
    have HX0 := Lib.hid hx0
    clear hx0
    have HX1 := Lib.hid hx1
    clear hx1
    have HX2 := Lib.hid hx2
    clear hx2
    have e9 : (op == 9) = false := by simpa using h9
    have e11 : (op == 11) = false := by simpa using h11
    go_enter Try.func19, Try.ntmps19
    go_upto_region 1 with fail
    try simp only [World.size_alloc]
    rw [← hW1, ← hg2, ← hg1, ← hg0]
    clear hW1 hg0 hg1 hg2
    go_wp2_with (first
      | (go_at_call 11; (with_reducible refine C1.out.mono ?_); rintro e w2 ⟨rfl, hb2⟩; have HB0 := Lib.hid (HB0.out.trans (hb2.mono HB0.out.size)); have HX0 := Lib.hid ((hb2.block _ hl0).trans HX0.out); have hl0 := Nat.lt_of_lt_of_le hl0 hb2.size; have HX1 := Lib.hid ((hb2.block _ hl1).trans HX1.out); have hl1 := Nat.lt_of_lt_of_le hl1 hb2.size; have HX2 := Lib.hid ((hb2.block _ hl2).trans HX2.out); have hl2 := Nat.lt_of_lt_of_le hl2 hb2.size; have x0_0 : w2.cell? ⟨g0, 0, none⟩ = some (.int .i64 id) := (cell_of_row _ _ 0 _ _ _ HX0.out).trans rfl; have x0_1 : w2.cell? ⟨g0, 1, none⟩ = some (.bool wz) := (cell_of_row _ _ 1 _ _ _ HX0.out).trans rfl; have x0_2 : w2.cell? ⟨g0, 2, none⟩ = some (.bool pg) := (cell_of_row _ _ 2 _ _ _ HX0.out).trans rfl; have x1_0 : w2.cell? ⟨g1, 0, none⟩ = some (.int .i64 oi) := (cell_of_row _ _ 0 _ _ _ HX1.out).trans rfl; have x1_1 : w2.cell? ⟨g1, 1, none⟩ = some (.int .i64 oe) := (cell_of_row _ _ 1 _ _ _ HX1.out).trans rfl; have x1_2 : w2.cell? ⟨g1, 2, none⟩ = some (.int .i64 ow) := (cell_of_row _ _ 2 _ _ _ HX1.out).trans rfl; have x1_3 : w2.cell? ⟨g1, 3, none⟩ = some (.int .i64 ol) := (cell_of_row _ _ 3 _ _ _ HX1.out).trans rfl; have x1_4 : w2.cell? ⟨g1, 4, none⟩ = some (.int .i64 of) := (cell_of_row _ _ 4 _ _ _ HX1.out).trans rfl; have x1_5 : w2.cell? ⟨g1, 5, none⟩ = some (.int .i64 oq) := (cell_of_row _ _ 5 _ _ _ HX1.out).trans rfl; have x1_6 : w2.cell? ⟨g1, 6, none⟩ = some (on) := (cell_of_row _ _ 6 _ _ _ HX1.out).trans rfl; have x1_7 : w2.cell? ⟨g1, 7, none⟩ = some (od) := (cell_of_row _ _ 7 _ _ _ HX1.out).trans rfl; have x1_8 : w2.cell? ⟨g1, 8, none⟩ = some (os) := (cell_of_row _ _ 8 _ _ _ HX1.out).trans rfl; have x1_9 : w2.cell? ⟨g1, 9, none⟩ = some (ov) := (cell_of_row _ _ 9 _ _ _ HX1.out).trans rfl; have x2_0 : w2.cell? ⟨g2, 0, none⟩ = some (.int .i64 pi) := (cell_of_row _ _ 0 _ _ _ HX2.out).trans rfl; have x2_1 : w2.cell? ⟨g2, 1, none⟩ = some (.int .i64 pp) := (cell_of_row _ _ 1 _ _ _ HX2.out).trans rfl; have x2_2 : w2.cell? ⟨g2, 2, none⟩ = some (.int .i64 pw) := (cell_of_row _ _ 2 _ _ _ HX2.out).trans rfl; have x2_3 : w2.cell? ⟨g2, 3, none⟩ = some (.int .i64 pl) := (cell_of_row _ _ 3 _ _ _ HX2.out).trans rfl; have x2_4 : w2.cell? ⟨g2, 4, none⟩ = some (.int .i64 pf) := (cell_of_row _ _ 4 _ _ _ HX2.out).trans rfl; have x2_5 : w2.cell? ⟨g2, 5, none⟩ = some (.int .i64 pq) := (cell_of_row _ _ 5 _ _ _ HX2.out).trans rfl; have x2_6 : w2.cell? ⟨g2, 6, none⟩ = some (pn) := (cell_of_row _ _ 6 _ _ _ HX2.out).trans rfl; have x2_7 : w2.cell? ⟨g2, 7, none⟩ = some (pd) := (cell_of_row _ _ 7 _ _ _ HX2.out).trans rfl; have x2_8 : w2.cell? ⟨g2, 8, none⟩ = some (ps) := (cell_of_row _ _ 8 _ _ _ HX2.out).trans rfl; have x2_9 : w2.cell? ⟨g2, 9, none⟩ = some (pv) := (cell_of_row _ _ 9 _ _ _ HX2.out).trans rfl; have C2 := Lib.hid (C2.out w2); clear hb2))
    go_ret
    exact ⟨ret_bool (by simp [twoB, h9, h11]), HB0.out⟩
set_option maxHeartbeats 2000000 in
theorem first11_any (w : World) : Calls Try.prog 8 #[] w fun e w' => e = .returned (.bool true) ∧ Below w.heap.size w w' := by
  have C1 := Lib.hid (controls_any 1 true false 0 0 9 0 0 0 (.string ⟨#[]⟩) (.slice none 0 0) (.slice none 0 0) (.slice none 0 0) w)
  have C2 := Lib.hid (fun W => controls_any 1 false false 0 0 9 0 0 0 (.string ⟨#[]⟩) (.slice none 0 0) (.slice none 0 0) (.slice none 0 0) W)
  go_enter Try.func8, Try.ntmps8
  go_wp2_with (go_at_call 10; first | ((with_reducible refine C1.out.mono ?_); rintro e w2 ⟨rfl, hb2⟩; have HB := Lib.hid hb2; clear hb2) | ((with_reducible refine (C2.out _).mono ?_); rintro e w3 ⟨rfl, hb3⟩; have HB := Lib.hid (HB.out.trans (hb3.mono HB.out.size)); clear hb3))
  go_ret
  exact ⟨rfl, HB.out⟩
set_option maxHeartbeats 2000000 in
theorem plain_any (id : Int) (wz pg : Bool) (w : World) : Calls Try.prog 9 #[.agg #[.int .i64 id, .bool wz, .bool pg]] w fun e w' => e = .returned (.agg #[.int .i64 id, .bool wz, .bool pg]) ∧ Below w.heap.size w w' := by
  have HB := Lib.hid (((Below.refl w.heap.size w).alloc (Nat.le_refl _) (.cells #[.int .i64 id, .bool wz, .bool pg] 23)).alloc (by simp) (.cells #[.int .i64 id, .bool wz, .bool pg] 38))
  go_enter Try.func9, Try.ntmps9
  go_wp2
  go_returns
  exact ⟨rfl, by first | exact HB.out | (go_show; fail)⟩
end Go.Proofs.Ytemkikjcjhmlaaa.Pm
