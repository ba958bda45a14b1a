/- Package perm: who may what to an object, and to two. Printed by gen_perm.py. -/
import Derived.Test.YtemkikjcjhmlaaaPm2
namespace Go.Proofs.Ytemkikjcjhmlaaa.Pm
open Go.RowKit
set_option maxRecDepth 100000

set_option maxHeartbeats 2000000 in
theorem object_any (id : Int) (wz pg : Bool) (op : Int) (oi oe ow ol of oq : Int) (on od os ov : Value) (w : World) : Calls Try.prog 16 #[.agg #[.int .i64 id, .bool wz, .bool pg], .int .i64 op, .agg #[.int .i64 oi, .int .i64 oe, .int .i64 ow, .int .i64 ol, .int .i64 of, .int .i64 oq, on, od, os, ov]] w fun e w' => e = .returned (.bool (objB id wz pg op ow of)) ∧ Below w.heap.size w w' := by
  obtain ⟨W1, hW1⟩ : ∃ W1, W1 = ((w.alloc (.cells #[.int .i64 id, .bool wz, .bool pg] 23)).alloc (.cells #[.int .i64 oi, .int .i64 oe, .int .i64 ow, .int .i64 ol, .int .i64 of, .int .i64 oq, on, od, os, ov] 36)) := ⟨_, rfl⟩
  have hb0 : Below w.heap.size w W1 := hW1 ▸ ((Below.refl w.heap.size w).alloc (Nat.le_refl _) _).alloc (by simp) _
  have hx0 : W1.heap[w.heap.size]? = some (.cells #[.int .i64 id, .bool wz, .bool pg] 23 (0, 0)) := by
    have h := heap_alloc_new w (.cells #[.int .i64 id, .bool wz, .bool pg] 23)
    rw [hW1]
    rw [Below.heap_alloc _ _ _ (by simp only [World.size_alloc]; omega)]
    exact h
  have hx1 : W1.heap[w.heap.size + 1]? = some (.cells #[.int .i64 oi, .int .i64 oe, .int .i64 ow, .int .i64 ol, .int .i64 of, .int .i64 oq, on, od, os, ov] 36 (0, 0)) := by
    have h := heap_alloc_new (w.alloc (.cells #[.int .i64 id, .bool wz, .bool pg] 23)) (.cells #[.int .i64 oi, .int .i64 oe, .int .i64 ow, .int .i64 ol, .int .i64 of, .int .i64 oq, on, od, os, ov] 36)
    simp only [World.size_alloc] at h
    rw [hW1]
    exact h
  obtain ⟨g0, hg0⟩ : ∃ g, g = w.heap.size := ⟨_, rfl⟩
  rw [← hg0] at hx0
  have hl0 : g0 < W1.heap.size := (Array.getElem?_eq_some_iff.1 hx0).1
  obtain ⟨g1, hg1⟩ : ∃ g, g = w.heap.size + 1 := ⟨_, rfl⟩
  rw [← hg1] at hx1
  have hl1 : g1 < W1.heap.size := (Array.getElem?_eq_some_iff.1 hx1).1
  have HB0 := Lib.hid hb0
  clear hb0
  by_cases h8 : op = 8
  · subst h8
    have C1 := Lib.hid (controls_any id wz pg oi oe ow ol of oq on od os ov W1)
    cases pg with
    | true =>
      cases hA1 : (bits .and .i64 of 16 != 0) with
      | true =>
        have x0_0 : W1.cell? ⟨g0, 0, none⟩ = some (.int .i64 id) := (cell_of_row _ _ 0 _ _ _ hx0).trans rfl
        have x0_1 : W1.cell? ⟨g0, 1, none⟩ = some (.bool wz) := (cell_of_row _ _ 1 _ _ _ hx0).trans rfl
        have x0_2 : W1.cell? ⟨g0, 2, none⟩ = some (.bool true) := (cell_of_row _ _ 2 _ _ _ hx0).trans rfl
        have x1_0 : W1.cell? ⟨g1, 0, none⟩ = some (.int .i64 oi) := (cell_of_row _ _ 0 _ _ _ hx1).trans rfl
        have x1_1 : W1.cell? ⟨g1, 1, none⟩ = some (.int .i64 oe) := (cell_of_row _ _ 1 _ _ _ hx1).trans rfl
        have x1_2 : W1.cell? ⟨g1, 2, none⟩ = some (.int .i64 ow) := (cell_of_row _ _ 2 _ _ _ hx1).trans rfl
        have x1_3 : W1.cell? ⟨g1, 3, none⟩ = some (.int .i64 ol) := (cell_of_row _ _ 3 _ _ _ hx1).trans rfl
        have x1_4 : W1.cell? ⟨g1, 4, none⟩ = some (.int .i64 of) := (cell_of_row _ _ 4 _ _ _ hx1).trans rfl
        have x1_5 : W1.cell? ⟨g1, 5, none⟩ = some (.int .i64 oq) := (cell_of_row _ _ 5 _ _ _ hx1).trans rfl
        have x1_6 : W1.cell? ⟨g1, 6, none⟩ = some (on) := (cell_of_row _ _ 6 _ _ _ hx1).trans rfl
        have x1_7 : W1.cell? ⟨g1, 7, none⟩ = some (od) := (cell_of_row _ _ 7 _ _ _ hx1).trans rfl
        have x1_8 : W1.cell? ⟨g1, 8, none⟩ = some (os) := (cell_of_row _ _ 8 _ _ _ hx1).trans rfl
        have x1_9 : W1.cell? ⟨g1, 9, none⟩ = some (ov) := (cell_of_row _ _ 9 _ _ _ hx1).trans rfl
        have HX0 := Lib.hid hx0
        clear hx0
        have HX1 := Lib.hid hx1
        clear hx1
        go_enter Try.func16, Try.ntmps16
        go_upto_region 1 with fail
        try simp only [World.size_alloc]
        rw [← hW1, ← hg1, ← hg0]
        clear hW1 hg0 hg1
        go_wp2_with (first
          | (go_at_call 10; (with_reducible refine C1.out.mono ?_); rintro e w2 ⟨rfl, hb2⟩; have HB0 := Lib.hid (HB0.out.trans (hb2.mono HB0.out.size)); clear hb2))
        go_ret
        exact ⟨ret_bool (by simp [objB, an, hA1]), HB0.out⟩
      | false =>
        have x0_0 : W1.cell? ⟨g0, 0, none⟩ = some (.int .i64 id) := (cell_of_row _ _ 0 _ _ _ hx0).trans rfl
        have x0_1 : W1.cell? ⟨g0, 1, none⟩ = some (.bool wz) := (cell_of_row _ _ 1 _ _ _ hx0).trans rfl
        have x0_2 : W1.cell? ⟨g0, 2, none⟩ = some (.bool true) := (cell_of_row _ _ 2 _ _ _ hx0).trans rfl
        have x1_0 : W1.cell? ⟨g1, 0, none⟩ = some (.int .i64 oi) := (cell_of_row _ _ 0 _ _ _ hx1).trans rfl
        have x1_1 : W1.cell? ⟨g1, 1, none⟩ = some (.int .i64 oe) := (cell_of_row _ _ 1 _ _ _ hx1).trans rfl
        have x1_2 : W1.cell? ⟨g1, 2, none⟩ = some (.int .i64 ow) := (cell_of_row _ _ 2 _ _ _ hx1).trans rfl
        have x1_3 : W1.cell? ⟨g1, 3, none⟩ = some (.int .i64 ol) := (cell_of_row _ _ 3 _ _ _ hx1).trans rfl
        have x1_4 : W1.cell? ⟨g1, 4, none⟩ = some (.int .i64 of) := (cell_of_row _ _ 4 _ _ _ hx1).trans rfl
        have x1_5 : W1.cell? ⟨g1, 5, none⟩ = some (.int .i64 oq) := (cell_of_row _ _ 5 _ _ _ hx1).trans rfl
        have x1_6 : W1.cell? ⟨g1, 6, none⟩ = some (on) := (cell_of_row _ _ 6 _ _ _ hx1).trans rfl
        have x1_7 : W1.cell? ⟨g1, 7, none⟩ = some (od) := (cell_of_row _ _ 7 _ _ _ hx1).trans rfl
        have x1_8 : W1.cell? ⟨g1, 8, none⟩ = some (os) := (cell_of_row _ _ 8 _ _ _ hx1).trans rfl
        have x1_9 : W1.cell? ⟨g1, 9, none⟩ = some (ov) := (cell_of_row _ _ 9 _ _ _ hx1).trans rfl
        have HX0 := Lib.hid hx0
        clear hx0
        have HX1 := Lib.hid hx1
        clear hx1
        go_enter Try.func16, Try.ntmps16
        go_upto_region 1 with fail
        try simp only [World.size_alloc]
        rw [← hW1, ← hg1, ← hg0]
        clear hW1 hg0 hg1
        go_wp2_with (first
          | (go_at_call 10; (with_reducible refine C1.out.mono ?_); rintro e w2 ⟨rfl, hb2⟩; have HB0 := Lib.hid (HB0.out.trans (hb2.mono HB0.out.size)); clear hb2))
        go_ret
        exact ⟨ret_bool (by simp [objB, an, hA1]), HB0.out⟩
    | false =>
      have x0_0 : W1.cell? ⟨g0, 0, none⟩ = some (.int .i64 id) := (cell_of_row _ _ 0 _ _ _ hx0).trans rfl
      have x0_1 : W1.cell? ⟨g0, 1, none⟩ = some (.bool wz) := (cell_of_row _ _ 1 _ _ _ hx0).trans rfl
      have x0_2 : W1.cell? ⟨g0, 2, none⟩ = some (.bool false) := (cell_of_row _ _ 2 _ _ _ hx0).trans rfl
      have x1_0 : W1.cell? ⟨g1, 0, none⟩ = some (.int .i64 oi) := (cell_of_row _ _ 0 _ _ _ hx1).trans rfl
      have x1_1 : W1.cell? ⟨g1, 1, none⟩ = some (.int .i64 oe) := (cell_of_row _ _ 1 _ _ _ hx1).trans rfl
      have x1_2 : W1.cell? ⟨g1, 2, none⟩ = some (.int .i64 ow) := (cell_of_row _ _ 2 _ _ _ hx1).trans rfl
      have x1_3 : W1.cell? ⟨g1, 3, none⟩ = some (.int .i64 ol) := (cell_of_row _ _ 3 _ _ _ hx1).trans rfl
      have x1_4 : W1.cell? ⟨g1, 4, none⟩ = some (.int .i64 of) := (cell_of_row _ _ 4 _ _ _ hx1).trans rfl
      have x1_5 : W1.cell? ⟨g1, 5, none⟩ = some (.int .i64 oq) := (cell_of_row _ _ 5 _ _ _ hx1).trans rfl
      have x1_6 : W1.cell? ⟨g1, 6, none⟩ = some (on) := (cell_of_row _ _ 6 _ _ _ hx1).trans rfl
      have x1_7 : W1.cell? ⟨g1, 7, none⟩ = some (od) := (cell_of_row _ _ 7 _ _ _ hx1).trans rfl
      have x1_8 : W1.cell? ⟨g1, 8, none⟩ = some (os) := (cell_of_row _ _ 8 _ _ _ hx1).trans rfl
      have x1_9 : W1.cell? ⟨g1, 9, none⟩ = some (ov) := (cell_of_row _ _ 9 _ _ _ hx1).trans rfl
      have HX0 := Lib.hid hx0
      clear hx0
      have HX1 := Lib.hid hx1
      clear hx1
      go_enter Try.func16, Try.ntmps16
      go_upto_region 1 with fail
      try simp only [World.size_alloc]
      rw [← hW1, ← hg1, ← hg0]
      clear hW1 hg0 hg1
      go_wp2_with (first
        | (go_at_call 10; (with_reducible refine C1.out.mono ?_); rintro e w2 ⟨rfl, hb2⟩; have HB0 := Lib.hid (HB0.out.trans (hb2.mono HB0.out.size)); clear hb2))
      go_ret
      exact ⟨ret_bool (by simp [objB]), HB0.out⟩
  by_cases h3 : op = 3
  · subst h3
    have C1 := Lib.hid (controls_any id wz pg oi oe ow ol of oq on od os ov W1)
    cases hA0 : (bits .and .i64 of 16 != 0) with
    | true =>
      have x0_0 : W1.cell? ⟨g0, 0, none⟩ = some (.int .i64 id) := (cell_of_row _ _ 0 _ _ _ hx0).trans rfl
      have x0_1 : W1.cell? ⟨g0, 1, none⟩ = some (.bool wz) := (cell_of_row _ _ 1 _ _ _ hx0).trans rfl
      have x0_2 : W1.cell? ⟨g0, 2, none⟩ = some (.bool pg) := (cell_of_row _ _ 2 _ _ _ hx0).trans rfl
      have x1_0 : W1.cell? ⟨g1, 0, none⟩ = some (.int .i64 oi) := (cell_of_row _ _ 0 _ _ _ hx1).trans rfl
      have x1_1 : W1.cell? ⟨g1, 1, none⟩ = some (.int .i64 oe) := (cell_of_row _ _ 1 _ _ _ hx1).trans rfl
      have x1_2 : W1.cell? ⟨g1, 2, none⟩ = some (.int .i64 ow) := (cell_of_row _ _ 2 _ _ _ hx1).trans rfl
      have x1_3 : W1.cell? ⟨g1, 3, none⟩ = some (.int .i64 ol) := (cell_of_row _ _ 3 _ _ _ hx1).trans rfl
      have x1_4 : W1.cell? ⟨g1, 4, none⟩ = some (.int .i64 of) := (cell_of_row _ _ 4 _ _ _ hx1).trans rfl
      have x1_5 : W1.cell? ⟨g1, 5, none⟩ = some (.int .i64 oq) := (cell_of_row _ _ 5 _ _ _ hx1).trans rfl
      have x1_6 : W1.cell? ⟨g1, 6, none⟩ = some (on) := (cell_of_row _ _ 6 _ _ _ hx1).trans rfl
      have x1_7 : W1.cell? ⟨g1, 7, none⟩ = some (od) := (cell_of_row _ _ 7 _ _ _ hx1).trans rfl
      have x1_8 : W1.cell? ⟨g1, 8, none⟩ = some (os) := (cell_of_row _ _ 8 _ _ _ hx1).trans rfl
      have x1_9 : W1.cell? ⟨g1, 9, none⟩ = some (ov) := (cell_of_row _ _ 9 _ _ _ hx1).trans rfl
      have HX0 := Lib.hid hx0
      clear hx0
      have HX1 := Lib.hid hx1
      clear hx1
      go_enter Try.func16, Try.ntmps16
      go_upto_region 1 with fail
      try simp only [World.size_alloc]
      rw [← hW1, ← hg1, ← hg0]
      clear hW1 hg0 hg1
      go_wp2_with (first
        | (go_at_call 10; (with_reducible refine C1.out.mono ?_); rintro e w2 ⟨rfl, hb2⟩; have HB0 := Lib.hid (HB0.out.trans (hb2.mono HB0.out.size)); clear hb2))
      go_ret
      exact ⟨ret_bool (by simp [objB, an, hA0]), HB0.out⟩
    | false =>
      have x0_0 : W1.cell? ⟨g0, 0, none⟩ = some (.int .i64 id) := (cell_of_row _ _ 0 _ _ _ hx0).trans rfl
      have x0_1 : W1.cell? ⟨g0, 1, none⟩ = some (.bool wz) := (cell_of_row _ _ 1 _ _ _ hx0).trans rfl
      have x0_2 : W1.cell? ⟨g0, 2, none⟩ = some (.bool pg) := (cell_of_row _ _ 2 _ _ _ hx0).trans rfl
      have x1_0 : W1.cell? ⟨g1, 0, none⟩ = some (.int .i64 oi) := (cell_of_row _ _ 0 _ _ _ hx1).trans rfl
      have x1_1 : W1.cell? ⟨g1, 1, none⟩ = some (.int .i64 oe) := (cell_of_row _ _ 1 _ _ _ hx1).trans rfl
      have x1_2 : W1.cell? ⟨g1, 2, none⟩ = some (.int .i64 ow) := (cell_of_row _ _ 2 _ _ _ hx1).trans rfl
      have x1_3 : W1.cell? ⟨g1, 3, none⟩ = some (.int .i64 ol) := (cell_of_row _ _ 3 _ _ _ hx1).trans rfl
      have x1_4 : W1.cell? ⟨g1, 4, none⟩ = some (.int .i64 of) := (cell_of_row _ _ 4 _ _ _ hx1).trans rfl
      have x1_5 : W1.cell? ⟨g1, 5, none⟩ = some (.int .i64 oq) := (cell_of_row _ _ 5 _ _ _ hx1).trans rfl
      have x1_6 : W1.cell? ⟨g1, 6, none⟩ = some (on) := (cell_of_row _ _ 6 _ _ _ hx1).trans rfl
      have x1_7 : W1.cell? ⟨g1, 7, none⟩ = some (od) := (cell_of_row _ _ 7 _ _ _ hx1).trans rfl
      have x1_8 : W1.cell? ⟨g1, 8, none⟩ = some (os) := (cell_of_row _ _ 8 _ _ _ hx1).trans rfl
      have x1_9 : W1.cell? ⟨g1, 9, none⟩ = some (ov) := (cell_of_row _ _ 9 _ _ _ hx1).trans rfl
      have HX0 := Lib.hid hx0
      clear hx0
      have HX1 := Lib.hid hx1
      clear hx1
      go_enter Try.func16, Try.ntmps16
      go_upto_region 1 with fail
      try simp only [World.size_alloc]
      rw [← hW1, ← hg1, ← hg0]
      clear hW1 hg0 hg1
      go_wp2_with (first
        | (go_at_call 10; (with_reducible refine C1.out.mono ?_); rintro e w2 ⟨rfl, hb2⟩; have HB0 := Lib.hid (HB0.out.trans (hb2.mono HB0.out.size)); clear hb2))
      go_ret
      exact ⟨ret_bool (by simp [objB, an, hA0]), HB0.out⟩
  by_cases h13 : op = 13
  · subst h13
    have C1 := Lib.hid (controls_any id wz pg oi oe ow ol of oq on od os ov W1)
    cases hA0 : (bits .and .i64 of 1 != 0) with
    | true =>
      have x0_0 : W1.cell? ⟨g0, 0, none⟩ = some (.int .i64 id) := (cell_of_row _ _ 0 _ _ _ hx0).trans rfl
      have x0_1 : W1.cell? ⟨g0, 1, none⟩ = some (.bool wz) := (cell_of_row _ _ 1 _ _ _ hx0).trans rfl
      have x0_2 : W1.cell? ⟨g0, 2, none⟩ = some (.bool pg) := (cell_of_row _ _ 2 _ _ _ hx0).trans rfl
      have x1_0 : W1.cell? ⟨g1, 0, none⟩ = some (.int .i64 oi) := (cell_of_row _ _ 0 _ _ _ hx1).trans rfl
      have x1_1 : W1.cell? ⟨g1, 1, none⟩ = some (.int .i64 oe) := (cell_of_row _ _ 1 _ _ _ hx1).trans rfl
      have x1_2 : W1.cell? ⟨g1, 2, none⟩ = some (.int .i64 ow) := (cell_of_row _ _ 2 _ _ _ hx1).trans rfl
      have x1_3 : W1.cell? ⟨g1, 3, none⟩ = some (.int .i64 ol) := (cell_of_row _ _ 3 _ _ _ hx1).trans rfl
      have x1_4 : W1.cell? ⟨g1, 4, none⟩ = some (.int .i64 of) := (cell_of_row _ _ 4 _ _ _ hx1).trans rfl
      have x1_5 : W1.cell? ⟨g1, 5, none⟩ = some (.int .i64 oq) := (cell_of_row _ _ 5 _ _ _ hx1).trans rfl
      have x1_6 : W1.cell? ⟨g1, 6, none⟩ = some (on) := (cell_of_row _ _ 6 _ _ _ hx1).trans rfl
      have x1_7 : W1.cell? ⟨g1, 7, none⟩ = some (od) := (cell_of_row _ _ 7 _ _ _ hx1).trans rfl
      have x1_8 : W1.cell? ⟨g1, 8, none⟩ = some (os) := (cell_of_row _ _ 8 _ _ _ hx1).trans rfl
      have x1_9 : W1.cell? ⟨g1, 9, none⟩ = some (ov) := (cell_of_row _ _ 9 _ _ _ hx1).trans rfl
      have HX0 := Lib.hid hx0
      clear hx0
      have HX1 := Lib.hid hx1
      clear hx1
      go_enter Try.func16, Try.ntmps16
      go_upto_region 1 with fail
      try simp only [World.size_alloc]
      rw [← hW1, ← hg1, ← hg0]
      clear hW1 hg0 hg1
      go_wp2_with (first
        | (go_at_call 10; (with_reducible refine C1.out.mono ?_); rintro e w2 ⟨rfl, hb2⟩; have HB0 := Lib.hid (HB0.out.trans (hb2.mono HB0.out.size)); clear hb2))
      go_ret
      exact ⟨ret_bool (by simp [objB, an, hA0]), HB0.out⟩
    | false =>
      have x0_0 : W1.cell? ⟨g0, 0, none⟩ = some (.int .i64 id) := (cell_of_row _ _ 0 _ _ _ hx0).trans rfl
      have x0_1 : W1.cell? ⟨g0, 1, none⟩ = some (.bool wz) := (cell_of_row _ _ 1 _ _ _ hx0).trans rfl
      have x0_2 : W1.cell? ⟨g0, 2, none⟩ = some (.bool pg) := (cell_of_row _ _ 2 _ _ _ hx0).trans rfl
      have x1_0 : W1.cell? ⟨g1, 0, none⟩ = some (.int .i64 oi) := (cell_of_row _ _ 0 _ _ _ hx1).trans rfl
      have x1_1 : W1.cell? ⟨g1, 1, none⟩ = some (.int .i64 oe) := (cell_of_row _ _ 1 _ _ _ hx1).trans rfl
      have x1_2 : W1.cell? ⟨g1, 2, none⟩ = some (.int .i64 ow) := (cell_of_row _ _ 2 _ _ _ hx1).trans rfl
      have x1_3 : W1.cell? ⟨g1, 3, none⟩ = some (.int .i64 ol) := (cell_of_row _ _ 3 _ _ _ hx1).trans rfl
      have x1_4 : W1.cell? ⟨g1, 4, none⟩ = some (.int .i64 of) := (cell_of_row _ _ 4 _ _ _ hx1).trans rfl
      have x1_5 : W1.cell? ⟨g1, 5, none⟩ = some (.int .i64 oq) := (cell_of_row _ _ 5 _ _ _ hx1).trans rfl
      have x1_6 : W1.cell? ⟨g1, 6, none⟩ = some (on) := (cell_of_row _ _ 6 _ _ _ hx1).trans rfl
      have x1_7 : W1.cell? ⟨g1, 7, none⟩ = some (od) := (cell_of_row _ _ 7 _ _ _ hx1).trans rfl
      have x1_8 : W1.cell? ⟨g1, 8, none⟩ = some (os) := (cell_of_row _ _ 8 _ _ _ hx1).trans rfl
      have x1_9 : W1.cell? ⟨g1, 9, none⟩ = some (ov) := (cell_of_row _ _ 9 _ _ _ hx1).trans rfl
      have HX0 := Lib.hid hx0
      clear hx0
      have HX1 := Lib.hid hx1
      clear hx1
      go_enter Try.func16, Try.ntmps16
      go_upto_region 1 with fail
      try simp only [World.size_alloc]
      rw [← hW1, ← hg1, ← hg0]
      clear hW1 hg0 hg1
      go_wp2_with (first
        | (go_at_call 10; (with_reducible refine C1.out.mono ?_); rintro e w2 ⟨rfl, hb2⟩; have HB0 := Lib.hid (HB0.out.trans (hb2.mono HB0.out.size)); clear hb2))
      go_ret
      exact ⟨ret_bool (by simp [objB, an, hA0]), HB0.out⟩
  by_cases h10 : op = 10
  · subst h10
    have C1 := Lib.hid (controls_any id wz pg oi oe ow ol of oq on od os ov W1)
    have x0_0 : W1.cell? ⟨g0, 0, none⟩ = some (.int .i64 id) := (cell_of_row _ _ 0 _ _ _ hx0).trans rfl
    have x0_1 : W1.cell? ⟨g0, 1, none⟩ = some (.bool wz) := (cell_of_row _ _ 1 _ _ _ hx0).trans rfl
    have x0_2 : W1.cell? ⟨g0, 2, none⟩ = some (.bool pg) := (cell_of_row _ _ 2 _ _ _ hx0).trans rfl
    have x1_0 : W1.cell? ⟨g1, 0, none⟩ = some (.int .i64 oi) := (cell_of_row _ _ 0 _ _ _ hx1).trans rfl
    have x1_1 : W1.cell? ⟨g1, 1, none⟩ = some (.int .i64 oe) := (cell_of_row _ _ 1 _ _ _ hx1).trans rfl
    have x1_2 : W1.cell? ⟨g1, 2, none⟩ = some (.int .i64 ow) := (cell_of_row _ _ 2 _ _ _ hx1).trans rfl
    have x1_3 : W1.cell? ⟨g1, 3, none⟩ = some (.int .i64 ol) := (cell_of_row _ _ 3 _ _ _ hx1).trans rfl
    have x1_4 : W1.cell? ⟨g1, 4, none⟩ = some (.int .i64 of) := (cell_of_row _ _ 4 _ _ _ hx1).trans rfl
    have x1_5 : W1.cell? ⟨g1, 5, none⟩ = some (.int .i64 oq) := (cell_of_row _ _ 5 _ _ _ hx1).trans rfl
    have x1_6 : W1.cell? ⟨g1, 6, none⟩ = some (on) := (cell_of_row _ _ 6 _ _ _ hx1).trans rfl
    have x1_7 : W1.cell? ⟨g1, 7, none⟩ = some (od) := (cell_of_row _ _ 7 _ _ _ hx1).trans rfl
    have x1_8 : W1.cell? ⟨g1, 8, none⟩ = some (os) := (cell_of_row _ _ 8 _ _ _ hx1).trans rfl
    have x1_9 : W1.cell? ⟨g1, 9, none⟩ = some (ov) := (cell_of_row _ _ 9 _ _ _ hx1).trans rfl
    have HX0 := Lib.hid hx0
    clear hx0
    have HX1 := Lib.hid hx1
    clear hx1
    go_enter Try.func16, Try.ntmps16
    go_upto_region 1 with fail
    try simp only [World.size_alloc]
    rw [← hW1, ← hg1, ← hg0]
    clear hW1 hg0 hg1
    go_wp2_with (first
      | (go_at_call 10; (with_reducible refine C1.out.mono ?_); rintro e w2 ⟨rfl, hb2⟩; have HB0 := Lib.hid (HB0.out.trans (hb2.mono HB0.out.size)); clear hb2))
    go_ret
    exact ⟨ret_bool (by simp [objB]), HB0.out⟩
  by_cases h12 : op = 12
  · subst h12
    have C1 := Lib.hid (controls_any id wz pg oi oe ow ol of oq on od os ov W1)
    have x0_0 : W1.cell? ⟨g0, 0, none⟩ = some (.int .i64 id) := (cell_of_row _ _ 0 _ _ _ hx0).trans rfl
    have x0_1 : W1.cell? ⟨g0, 1, none⟩ = some (.bool wz) := (cell_of_row _ _ 1 _ _ _ hx0).trans rfl
    have x0_2 : W1.cell? ⟨g0, 2, none⟩ = some (.bool pg) := (cell_of_row _ _ 2 _ _ _ hx0).trans rfl
    have x1_0 : W1.cell? ⟨g1, 0, none⟩ = some (.int .i64 oi) := (cell_of_row _ _ 0 _ _ _ hx1).trans rfl
    have x1_1 : W1.cell? ⟨g1, 1, none⟩ = some (.int .i64 oe) := (cell_of_row _ _ 1 _ _ _ hx1).trans rfl
    have x1_2 : W1.cell? ⟨g1, 2, none⟩ = some (.int .i64 ow) := (cell_of_row _ _ 2 _ _ _ hx1).trans rfl
    have x1_3 : W1.cell? ⟨g1, 3, none⟩ = some (.int .i64 ol) := (cell_of_row _ _ 3 _ _ _ hx1).trans rfl
    have x1_4 : W1.cell? ⟨g1, 4, none⟩ = some (.int .i64 of) := (cell_of_row _ _ 4 _ _ _ hx1).trans rfl
    have x1_5 : W1.cell? ⟨g1, 5, none⟩ = some (.int .i64 oq) := (cell_of_row _ _ 5 _ _ _ hx1).trans rfl
    have x1_6 : W1.cell? ⟨g1, 6, none⟩ = some (on) := (cell_of_row _ _ 6 _ _ _ hx1).trans rfl
    have x1_7 : W1.cell? ⟨g1, 7, none⟩ = some (od) := (cell_of_row _ _ 7 _ _ _ hx1).trans rfl
    have x1_8 : W1.cell? ⟨g1, 8, none⟩ = some (os) := (cell_of_row _ _ 8 _ _ _ hx1).trans rfl
    have x1_9 : W1.cell? ⟨g1, 9, none⟩ = some (ov) := (cell_of_row _ _ 9 _ _ _ hx1).trans rfl
    have HX0 := Lib.hid hx0
    clear hx0
    have HX1 := Lib.hid hx1
    clear hx1
    go_enter Try.func16, Try.ntmps16
    go_upto_region 1 with fail
    try simp only [World.size_alloc]
    rw [← hW1, ← hg1, ← hg0]
    clear hW1 hg0 hg1
    go_wp2_with (first
      | (go_at_call 10; (with_reducible refine C1.out.mono ?_); rintro e w2 ⟨rfl, hb2⟩; have HB0 := Lib.hid (HB0.out.trans (hb2.mono HB0.out.size)); clear hb2))
    go_ret
    exact ⟨ret_bool (by simp [objB]), HB0.out⟩
  by_cases h14 : op = 14
  · subst h14
    have C1 := Lib.hid (controls_any id wz pg oi oe ow ol of oq on od os ov W1)
    have x0_0 : W1.cell? ⟨g0, 0, none⟩ = some (.int .i64 id) := (cell_of_row _ _ 0 _ _ _ hx0).trans rfl
    have x0_1 : W1.cell? ⟨g0, 1, none⟩ = some (.bool wz) := (cell_of_row _ _ 1 _ _ _ hx0).trans rfl
    have x0_2 : W1.cell? ⟨g0, 2, none⟩ = some (.bool pg) := (cell_of_row _ _ 2 _ _ _ hx0).trans rfl
    have x1_0 : W1.cell? ⟨g1, 0, none⟩ = some (.int .i64 oi) := (cell_of_row _ _ 0 _ _ _ hx1).trans rfl
    have x1_1 : W1.cell? ⟨g1, 1, none⟩ = some (.int .i64 oe) := (cell_of_row _ _ 1 _ _ _ hx1).trans rfl
    have x1_2 : W1.cell? ⟨g1, 2, none⟩ = some (.int .i64 ow) := (cell_of_row _ _ 2 _ _ _ hx1).trans rfl
    have x1_3 : W1.cell? ⟨g1, 3, none⟩ = some (.int .i64 ol) := (cell_of_row _ _ 3 _ _ _ hx1).trans rfl
    have x1_4 : W1.cell? ⟨g1, 4, none⟩ = some (.int .i64 of) := (cell_of_row _ _ 4 _ _ _ hx1).trans rfl
    have x1_5 : W1.cell? ⟨g1, 5, none⟩ = some (.int .i64 oq) := (cell_of_row _ _ 5 _ _ _ hx1).trans rfl
    have x1_6 : W1.cell? ⟨g1, 6, none⟩ = some (on) := (cell_of_row _ _ 6 _ _ _ hx1).trans rfl
    have x1_7 : W1.cell? ⟨g1, 7, none⟩ = some (od) := (cell_of_row _ _ 7 _ _ _ hx1).trans rfl
    have x1_8 : W1.cell? ⟨g1, 8, none⟩ = some (os) := (cell_of_row _ _ 8 _ _ _ hx1).trans rfl
    have x1_9 : W1.cell? ⟨g1, 9, none⟩ = some (ov) := (cell_of_row _ _ 9 _ _ _ hx1).trans rfl
    have HX0 := Lib.hid hx0
    clear hx0
    have HX1 := Lib.hid hx1
    clear hx1
    go_enter Try.func16, Try.ntmps16
    go_upto_region 1 with fail
    try simp only [World.size_alloc]
    rw [← hW1, ← hg1, ← hg0]
    clear hW1 hg0 hg1
    go_wp2_with (first
      | (go_at_call 10; (with_reducible refine C1.out.mono ?_); rintro e w2 ⟨rfl, hb2⟩; have HB0 := Lib.hid (HB0.out.trans (hb2.mono HB0.out.size)); clear hb2))
    go_ret
    exact ⟨ret_bool (by simp [objB]), HB0.out⟩
  by_cases h15 : op = 15
  · subst h15
    have x0_0 : W1.cell? ⟨g0, 0, none⟩ = some (.int .i64 id) := (cell_of_row _ _ 0 _ _ _ hx0).trans rfl
    have x0_1 : W1.cell? ⟨g0, 1, none⟩ = some (.bool wz) := (cell_of_row _ _ 1 _ _ _ hx0).trans rfl
    have x0_2 : W1.cell? ⟨g0, 2, none⟩ = some (.bool pg) := (cell_of_row _ _ 2 _ _ _ hx0).trans rfl
    have x1_0 : W1.cell? ⟨g1, 0, none⟩ = some (.int .i64 oi) := (cell_of_row _ _ 0 _ _ _ hx1).trans rfl
    have x1_1 : W1.cell? ⟨g1, 1, none⟩ = some (.int .i64 oe) := (cell_of_row _ _ 1 _ _ _ hx1).trans rfl
    have x1_2 : W1.cell? ⟨g1, 2, none⟩ = some (.int .i64 ow) := (cell_of_row _ _ 2 _ _ _ hx1).trans rfl
    have x1_3 : W1.cell? ⟨g1, 3, none⟩ = some (.int .i64 ol) := (cell_of_row _ _ 3 _ _ _ hx1).trans rfl
    have x1_4 : W1.cell? ⟨g1, 4, none⟩ = some (.int .i64 of) := (cell_of_row _ _ 4 _ _ _ hx1).trans rfl
    have x1_5 : W1.cell? ⟨g1, 5, none⟩ = some (.int .i64 oq) := (cell_of_row _ _ 5 _ _ _ hx1).trans rfl
    have x1_6 : W1.cell? ⟨g1, 6, none⟩ = some (on) := (cell_of_row _ _ 6 _ _ _ hx1).trans rfl
    have x1_7 : W1.cell? ⟨g1, 7, none⟩ = some (od) := (cell_of_row _ _ 7 _ _ _ hx1).trans rfl
    have x1_8 : W1.cell? ⟨g1, 8, none⟩ = some (os) := (cell_of_row _ _ 8 _ _ _ hx1).trans rfl
    have x1_9 : W1.cell? ⟨g1, 9, none⟩ = some (ov) := (cell_of_row _ _ 9 _ _ _ hx1).trans rfl
    have HX0 := Lib.hid hx0
    clear hx0
    have HX1 := Lib.hid hx1
    clear hx1
    go_enter Try.func16, Try.ntmps16
    go_upto_region 1 with fail
    try simp only [World.size_alloc]
    rw [← hW1, ← hg1, ← hg0]
    clear hW1 hg0 hg1
    go_wp2
    go_ret
    exact ⟨ret_bool (by simp [objB]), HB0.out⟩
  have x0_0 : W1.cell? ⟨g0, 0, none⟩ = some (.int .i64 id) := (cell_of_row _ _ 0 _ _ _ hx0).trans rfl
  have x0_1 : W1.cell? ⟨g0, 1, none⟩ = some (.bool wz) := (cell_of_row _ _ 1 _ _ _ hx0).trans rfl
  have x0_2 : W1.cell? ⟨g0, 2, none⟩ = some (.bool pg) := (cell_of_row _ _ 2 _ _ _ hx0).trans rfl
  have x1_0 : W1.cell? ⟨g1, 0, none⟩ = some (.int .i64 oi) := (cell_of_row _ _ 0 _ _ _ hx1).trans rfl
  have x1_1 : W1.cell? ⟨g1, 1, none⟩ = some (.int .i64 oe) := (cell_of_row _ _ 1 _ _ _ hx1).trans rfl
  have x1_2 : W1.cell? ⟨g1, 2, none⟩ = some (.int .i64 ow) := (cell_of_row _ _ 2 _ _ _ hx1).trans rfl
  have x1_3 : W1.cell? ⟨g1, 3, none⟩ = some (.int .i64 ol) := (cell_of_row _ _ 3 _ _ _ hx1).trans rfl
  have x1_4 : W1.cell? ⟨g1, 4, none⟩ = some (.int .i64 of) := (cell_of_row _ _ 4 _ _ _ hx1).trans rfl
  have x1_5 : W1.cell? ⟨g1, 5, none⟩ = some (.int .i64 oq) := (cell_of_row _ _ 5 _ _ _ hx1).trans rfl
  have x1_6 : W1.cell? ⟨g1, 6, none⟩ = some (on) := (cell_of_row _ _ 6 _ _ _ hx1).trans rfl
  have x1_7 : W1.cell? ⟨g1, 7, none⟩ = some (od) := (cell_of_row _ _ 7 _ _ _ hx1).trans rfl
  have x1_8 : W1.cell? ⟨g1, 8, none⟩ = some (os) := (cell_of_row _ _ 8 _ _ _ hx1).trans rfl
  have x1_9 : W1.cell? ⟨g1, 9, none⟩ = some (ov) := (cell_of_row _ _ 9 _ _ _ hx1).trans rfl
  have HX0 := Lib.hid hx0
  clear hx0
  have HX1 := Lib.hid hx1
  clear hx1
  have e8 : (op == 8) = false := by simpa using h8
  have e3 : (op == 3) = false := by simpa using h3
  have e13 : (op == 13) = false := by simpa using h13
  have e10 : (op == 10) = false := by simpa using h10
  have e12 : (op == 12) = false := by simpa using h12
  have e14 : (op == 14) = false := by simpa using h14
  have e15 : (op == 15) = false := by simpa using h15
  go_enter Try.func16, Try.ntmps16
  go_upto_region 1 with fail
  try simp only [World.size_alloc]
  rw [← hW1, ← hg1, ← hg0]
  clear hW1 hg0 hg1
  go_wp2
  go_ret
  exact ⟨ret_bool (by simp [objB, h8, h3, h13, h10, h12, h14, h15]), HB0.out⟩
end Go.Proofs.Ytemkikjcjhmlaaa.Pm
