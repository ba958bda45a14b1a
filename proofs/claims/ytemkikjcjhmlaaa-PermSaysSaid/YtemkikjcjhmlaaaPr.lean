/- What the document says of who may what. Printed by gen_perm.py. -/
import Derived.Test.YtemkikjcjhmlaaaPm4
namespace Go.Proofs.Ytemkikjcjhmlaaa.Pm
open Go.RowKit
set_option maxRecDepth 100000

theorem go_comm (id : Int) (wz : Bool) (ow : Int) : (wz || (ow == id)) = goB id wz ow := by unfold goB; rw [show (ow == id) = (id == ow) from BEq.comm]
set_option maxHeartbeats 2000000 in
theorem rcontrols_any (id : Int) (wz pg : Bool) (oi op ow ol of oq : Int) (on od os ov : Value) (w : World) : Calls Try.prog 11 #[.agg #[.int .i64 id, .bool wz, .bool pg], .agg #[.int .i64 oi, .int .i64 op, .int .i64 ow, .int .i64 ol, .int .i64 of, .int .i64 oq, on, od, os, ov]] w fun e w' => e = .returned (.bool (goB id wz ow)) ∧ Below w.heap.size w w' := by
  obtain ⟨W1, hW1⟩ : ∃ W1, W1 = ((w.alloc (.cells #[.int .i64 id, .bool wz, .bool pg] 38)).alloc (.cells #[.int .i64 oi, .int .i64 op, .int .i64 ow, .int .i64 ol, .int .i64 of, .int .i64 oq, on, od, os, ov] 36)) := ⟨_, rfl⟩
  have hb0 : Below w.heap.size w W1 := hW1 ▸ ((Below.refl w.heap.size w).alloc (Nat.le_refl _) _).alloc (by simp) _
  have hx0 : W1.heap[w.heap.size]? = some (.cells #[.int .i64 id, .bool wz, .bool pg] 38 (0, 0)) := by
    have h := heap_alloc_new w (.cells #[.int .i64 id, .bool wz, .bool pg] 38)
    rw [hW1]
    rw [Below.heap_alloc _ _ _ (by simp only [World.size_alloc]; omega)]
    exact h
  have hx1 : W1.heap[w.heap.size + 1]? = some (.cells #[.int .i64 oi, .int .i64 op, .int .i64 ow, .int .i64 ol, .int .i64 of, .int .i64 oq, on, od, os, ov] 36 (0, 0)) := by
    have h := heap_alloc_new (w.alloc (.cells #[.int .i64 id, .bool wz, .bool pg] 38)) (.cells #[.int .i64 oi, .int .i64 op, .int .i64 ow, .int .i64 ol, .int .i64 of, .int .i64 oq, on, od, os, ov] 36)
    simp only [World.size_alloc] at h
    rw [hW1]
    exact h
  obtain ⟨g0, hg0⟩ : ∃ g, g = w.heap.size := ⟨_, rfl⟩
  rw [← hg0] at hx0
  have hl0 : g0 < W1.heap.size := (Array.getElem?_eq_some_iff.1 hx0).1
  obtain ⟨g1, hg1⟩ : ∃ g, g = w.heap.size + 1 := ⟨_, rfl⟩
  rw [← hg1] at hx1
  have hl1 : g1 < W1.heap.size := (Array.getElem?_eq_some_iff.1 hx1).1
  have HB0 := Lib.hid hb0
  clear hb0
  cases wz with
  | true =>
    have x0_0 : W1.cell? ⟨g0, 0, none⟩ = some (.int .i64 id) := (cell_of_row _ _ 0 _ _ _ hx0).trans rfl
    have x0_1 : W1.cell? ⟨g0, 1, none⟩ = some (.bool true) := (cell_of_row _ _ 1 _ _ _ hx0).trans rfl
    have x0_2 : W1.cell? ⟨g0, 2, none⟩ = some (.bool pg) := (cell_of_row _ _ 2 _ _ _ hx0).trans rfl
    have x1_0 : W1.cell? ⟨g1, 0, none⟩ = some (.int .i64 oi) := (cell_of_row _ _ 0 _ _ _ hx1).trans rfl
    have x1_1 : W1.cell? ⟨g1, 1, none⟩ = some (.int .i64 op) := (cell_of_row _ _ 1 _ _ _ hx1).trans rfl
    have x1_2 : W1.cell? ⟨g1, 2, none⟩ = some (.int .i64 ow) := (cell_of_row _ _ 2 _ _ _ hx1).trans rfl
    have x1_3 : W1.cell? ⟨g1, 3, none⟩ = some (.int .i64 ol) := (cell_of_row _ _ 3 _ _ _ hx1).trans rfl
    have x1_4 : W1.cell? ⟨g1, 4, none⟩ = some (.int .i64 of) := (cell_of_row _ _ 4 _ _ _ hx1).trans rfl
    have x1_5 : W1.cell? ⟨g1, 5, none⟩ = some (.int .i64 oq) := (cell_of_row _ _ 5 _ _ _ hx1).trans rfl
    have x1_6 : W1.cell? ⟨g1, 6, none⟩ = some (on) := (cell_of_row _ _ 6 _ _ _ hx1).trans rfl
    have x1_7 : W1.cell? ⟨g1, 7, none⟩ = some (od) := (cell_of_row _ _ 7 _ _ _ hx1).trans rfl
    have x1_8 : W1.cell? ⟨g1, 8, none⟩ = some (os) := (cell_of_row _ _ 8 _ _ _ hx1).trans rfl
    have x1_9 : W1.cell? ⟨g1, 9, none⟩ = some (ov) := (cell_of_row _ _ 9 _ _ _ hx1).trans rfl
    have HX0 := Lib.hid hx0
    clear hx0
    have HX1 := Lib.hid hx1
    clear hx1
    go_enter Try.func11, Try.ntmps11
    go_upto_region 1 with fail
    try simp only [World.size_alloc]
    rw [← hW1, ← hg1, ← hg0]
    clear hW1 hg0 hg1
    go_wp2
    go_ret
    exact ⟨ret_bool (by first | rfl | simp [goB, hO2]), HB0.out⟩
  | false =>
    cases hO : (ow == id) with
    | true =>
      have hO2 : (id == ow) = true := by rw [← hO]; exact BEq.comm
      have x0_0 : W1.cell? ⟨g0, 0, none⟩ = some (.int .i64 id) := (cell_of_row _ _ 0 _ _ _ hx0).trans rfl
      have x0_1 : W1.cell? ⟨g0, 1, none⟩ = some (.bool false) := (cell_of_row _ _ 1 _ _ _ hx0).trans rfl
      have x0_2 : W1.cell? ⟨g0, 2, none⟩ = some (.bool pg) := (cell_of_row _ _ 2 _ _ _ hx0).trans rfl
      have x1_0 : W1.cell? ⟨g1, 0, none⟩ = some (.int .i64 oi) := (cell_of_row _ _ 0 _ _ _ hx1).trans rfl
      have x1_1 : W1.cell? ⟨g1, 1, none⟩ = some (.int .i64 op) := (cell_of_row _ _ 1 _ _ _ hx1).trans rfl
      have x1_2 : W1.cell? ⟨g1, 2, none⟩ = some (.int .i64 ow) := (cell_of_row _ _ 2 _ _ _ hx1).trans rfl
      have x1_3 : W1.cell? ⟨g1, 3, none⟩ = some (.int .i64 ol) := (cell_of_row _ _ 3 _ _ _ hx1).trans rfl
      have x1_4 : W1.cell? ⟨g1, 4, none⟩ = some (.int .i64 of) := (cell_of_row _ _ 4 _ _ _ hx1).trans rfl
      have x1_5 : W1.cell? ⟨g1, 5, none⟩ = some (.int .i64 oq) := (cell_of_row _ _ 5 _ _ _ hx1).trans rfl
      have x1_6 : W1.cell? ⟨g1, 6, none⟩ = some (on) := (cell_of_row _ _ 6 _ _ _ hx1).trans rfl
      have x1_7 : W1.cell? ⟨g1, 7, none⟩ = some (od) := (cell_of_row _ _ 7 _ _ _ hx1).trans rfl
      have x1_8 : W1.cell? ⟨g1, 8, none⟩ = some (os) := (cell_of_row _ _ 8 _ _ _ hx1).trans rfl
      have x1_9 : W1.cell? ⟨g1, 9, none⟩ = some (ov) := (cell_of_row _ _ 9 _ _ _ hx1).trans rfl
      have HX0 := Lib.hid hx0
      clear hx0
      have HX1 := Lib.hid hx1
      clear hx1
      go_enter Try.func11, Try.ntmps11
      go_upto_region 1 with fail
      try simp only [World.size_alloc]
      rw [← hW1, ← hg1, ← hg0]
      clear hW1 hg0 hg1
      go_wp2
      go_ret
      exact ⟨ret_bool (by first | rfl | simp [goB, hO2]), HB0.out⟩
    | false =>
      have hO2 : (id == ow) = false := by rw [← hO]; exact BEq.comm
      have x0_0 : W1.cell? ⟨g0, 0, none⟩ = some (.int .i64 id) := (cell_of_row _ _ 0 _ _ _ hx0).trans rfl
      have x0_1 : W1.cell? ⟨g0, 1, none⟩ = some (.bool false) := (cell_of_row _ _ 1 _ _ _ hx0).trans rfl
      have x0_2 : W1.cell? ⟨g0, 2, none⟩ = some (.bool pg) := (cell_of_row _ _ 2 _ _ _ hx0).trans rfl
      have x1_0 : W1.cell? ⟨g1, 0, none⟩ = some (.int .i64 oi) := (cell_of_row _ _ 0 _ _ _ hx1).trans rfl
      have x1_1 : W1.cell? ⟨g1, 1, none⟩ = some (.int .i64 op) := (cell_of_row _ _ 1 _ _ _ hx1).trans rfl
      have x1_2 : W1.cell? ⟨g1, 2, none⟩ = some (.int .i64 ow) := (cell_of_row _ _ 2 _ _ _ hx1).trans rfl
      have x1_3 : W1.cell? ⟨g1, 3, none⟩ = some (.int .i64 ol) := (cell_of_row _ _ 3 _ _ _ hx1).trans rfl
      have x1_4 : W1.cell? ⟨g1, 4, none⟩ = some (.int .i64 of) := (cell_of_row _ _ 4 _ _ _ hx1).trans rfl
      have x1_5 : W1.cell? ⟨g1, 5, none⟩ = some (.int .i64 oq) := (cell_of_row _ _ 5 _ _ _ hx1).trans rfl
      have x1_6 : W1.cell? ⟨g1, 6, none⟩ = some (on) := (cell_of_row _ _ 6 _ _ _ hx1).trans rfl
      have x1_7 : W1.cell? ⟨g1, 7, none⟩ = some (od) := (cell_of_row _ _ 7 _ _ _ hx1).trans rfl
      have x1_8 : W1.cell? ⟨g1, 8, none⟩ = some (os) := (cell_of_row _ _ 8 _ _ _ hx1).trans rfl
      have x1_9 : W1.cell? ⟨g1, 9, none⟩ = some (ov) := (cell_of_row _ _ 9 _ _ _ hx1).trans rfl
      have HX0 := Lib.hid hx0
      clear hx0
      have HX1 := Lib.hid hx1
      clear hx1
      go_enter Try.func11, Try.ntmps11
      go_upto_region 1 with fail
      try simp only [World.size_alloc]
      rw [← hW1, ← hg1, ← hg0]
      clear hW1 hg0 hg1
      go_wp2
      go_ret
      exact ⟨ret_bool (by first | rfl | simp [goB, hO2]), HB0.out⟩
set_option maxHeartbeats 2000000 in
theorem rslot_any (id : Int) (wz pg : Bool) (op : Int) (sn sc s4 s5 s6 s7 : Value) (sw sb : Int) (w : World) : Calls Try.prog 13 #[.agg #[.int .i64 id, .bool wz, .bool pg], .int .i64 op, .agg #[sn, .int .i64 sw, .int .i64 sb, sc, s4, s5, s6, s7]] w fun e w' => e = .returned (.bool (slotB id wz op sw sb)) ∧ Below w.heap.size w w' := by
  obtain ⟨W1, hW1⟩ : ∃ W1, W1 = ((w.alloc (.cells #[.int .i64 id, .bool wz, .bool pg] 38)).alloc (.cells #[sn, .int .i64 sw, .int .i64 sb, sc, s4, s5, s6, s7] 28)) := ⟨_, rfl⟩
  have hb0 : Below w.heap.size w W1 := hW1 ▸ ((Below.refl w.heap.size w).alloc (Nat.le_refl _) _).alloc (by simp) _
  have hx0 : W1.heap[w.heap.size]? = some (.cells #[.int .i64 id, .bool wz, .bool pg] 38 (0, 0)) := by
    have h := heap_alloc_new w (.cells #[.int .i64 id, .bool wz, .bool pg] 38)
    rw [hW1]
    rw [Below.heap_alloc _ _ _ (by simp only [World.size_alloc]; omega)]
    exact h
  have hx1 : W1.heap[w.heap.size + 1]? = some (.cells #[sn, .int .i64 sw, .int .i64 sb, sc, s4, s5, s6, s7] 28 (0, 0)) := by
    have h := heap_alloc_new (w.alloc (.cells #[.int .i64 id, .bool wz, .bool pg] 38)) (.cells #[sn, .int .i64 sw, .int .i64 sb, sc, s4, s5, s6, s7] 28)
    simp only [World.size_alloc] at h
    rw [hW1]
    exact h
  obtain ⟨g0, hg0⟩ : ∃ g, g = w.heap.size := ⟨_, rfl⟩
  rw [← hg0] at hx0
  have hl0 : g0 < W1.heap.size := (Array.getElem?_eq_some_iff.1 hx0).1
  obtain ⟨g1, hg1⟩ : ∃ g, g = w.heap.size + 1 := ⟨_, rfl⟩
  rw [← hg1] at hx1
  have hl1 : g1 < W1.heap.size := (Array.getElem?_eq_some_iff.1 hx1).1
  have HB0 := Lib.hid hb0
  clear hb0
  by_cases h1 : op = 1
  · subst h1
    cases hA0 : (bits .and .i64 sb 1 != 0) with
    | true =>
      cases wz with
      | true =>
        have x0_0 : W1.cell? ⟨g0, 0, none⟩ = some (.int .i64 id) := (cell_of_row _ _ 0 _ _ _ hx0).trans rfl
        have x0_1 : W1.cell? ⟨g0, 1, none⟩ = some (.bool true) := (cell_of_row _ _ 1 _ _ _ hx0).trans rfl
        have x0_2 : W1.cell? ⟨g0, 2, none⟩ = some (.bool pg) := (cell_of_row _ _ 2 _ _ _ hx0).trans rfl
        have x1_0 : W1.cell? ⟨g1, 0, none⟩ = some (sn) := (cell_of_row _ _ 0 _ _ _ hx1).trans rfl
        have x1_1 : W1.cell? ⟨g1, 1, none⟩ = some (.int .i64 sw) := (cell_of_row _ _ 1 _ _ _ hx1).trans rfl
        have x1_2 : W1.cell? ⟨g1, 2, none⟩ = some (.int .i64 sb) := (cell_of_row _ _ 2 _ _ _ hx1).trans rfl
        have x1_3 : W1.cell? ⟨g1, 3, none⟩ = some (sc) := (cell_of_row _ _ 3 _ _ _ hx1).trans rfl
        have x1_4 : W1.cell? ⟨g1, 4, none⟩ = some (s4) := (cell_of_row _ _ 4 _ _ _ hx1).trans rfl
        have x1_5 : W1.cell? ⟨g1, 5, none⟩ = some (s5) := (cell_of_row _ _ 5 _ _ _ hx1).trans rfl
        have x1_6 : W1.cell? ⟨g1, 6, none⟩ = some (s6) := (cell_of_row _ _ 6 _ _ _ hx1).trans rfl
        have x1_7 : W1.cell? ⟨g1, 7, none⟩ = some (s7) := (cell_of_row _ _ 7 _ _ _ hx1).trans rfl
        have HX0 := Lib.hid hx0
        clear hx0
        have HX1 := Lib.hid hx1
        clear hx1
        go_enter Try.func13, Try.ntmps13
        go_upto_region 1 with fail
        try simp only [World.size_alloc]
        rw [← hW1, ← hg1, ← hg0]
        clear hW1 hg0 hg1
        go_wp2
        go_ret
        exact ⟨ret_bool (by first | rfl | (simp [slotB]; done) | (simp [slotB, goB]; done) | (simp [slotB, goB, hO2]; done) | (simp [slotB, an, hA0]; done) | simp [slotB, goB, hO2, an, hA0]), HB0.out⟩
      | false =>
        cases hO : (sw == id) with
        | true =>
          have hO2 : (id == sw) = true := by rw [← hO]; exact BEq.comm
          have x0_0 : W1.cell? ⟨g0, 0, none⟩ = some (.int .i64 id) := (cell_of_row _ _ 0 _ _ _ hx0).trans rfl
          have x0_1 : W1.cell? ⟨g0, 1, none⟩ = some (.bool false) := (cell_of_row _ _ 1 _ _ _ hx0).trans rfl
          have x0_2 : W1.cell? ⟨g0, 2, none⟩ = some (.bool pg) := (cell_of_row _ _ 2 _ _ _ hx0).trans rfl
          have x1_0 : W1.cell? ⟨g1, 0, none⟩ = some (sn) := (cell_of_row _ _ 0 _ _ _ hx1).trans rfl
          have x1_1 : W1.cell? ⟨g1, 1, none⟩ = some (.int .i64 sw) := (cell_of_row _ _ 1 _ _ _ hx1).trans rfl
          have x1_2 : W1.cell? ⟨g1, 2, none⟩ = some (.int .i64 sb) := (cell_of_row _ _ 2 _ _ _ hx1).trans rfl
          have x1_3 : W1.cell? ⟨g1, 3, none⟩ = some (sc) := (cell_of_row _ _ 3 _ _ _ hx1).trans rfl
          have x1_4 : W1.cell? ⟨g1, 4, none⟩ = some (s4) := (cell_of_row _ _ 4 _ _ _ hx1).trans rfl
          have x1_5 : W1.cell? ⟨g1, 5, none⟩ = some (s5) := (cell_of_row _ _ 5 _ _ _ hx1).trans rfl
          have x1_6 : W1.cell? ⟨g1, 6, none⟩ = some (s6) := (cell_of_row _ _ 6 _ _ _ hx1).trans rfl
          have x1_7 : W1.cell? ⟨g1, 7, none⟩ = some (s7) := (cell_of_row _ _ 7 _ _ _ hx1).trans rfl
          have HX0 := Lib.hid hx0
          clear hx0
          have HX1 := Lib.hid hx1
          clear hx1
          go_enter Try.func13, Try.ntmps13
          go_upto_region 1 with fail
          try simp only [World.size_alloc]
          rw [← hW1, ← hg1, ← hg0]
          clear hW1 hg0 hg1
          go_wp2
          go_ret
          exact ⟨ret_bool (by first | rfl | (simp [slotB]; done) | (simp [slotB, goB]; done) | (simp [slotB, goB, hO2]; done) | (simp [slotB, an, hA0]; done) | simp [slotB, goB, hO2, an, hA0]), HB0.out⟩
        | false =>
          have hO2 : (id == sw) = false := by rw [← hO]; exact BEq.comm
          have x0_0 : W1.cell? ⟨g0, 0, none⟩ = some (.int .i64 id) := (cell_of_row _ _ 0 _ _ _ hx0).trans rfl
          have x0_1 : W1.cell? ⟨g0, 1, none⟩ = some (.bool false) := (cell_of_row _ _ 1 _ _ _ hx0).trans rfl
          have x0_2 : W1.cell? ⟨g0, 2, none⟩ = some (.bool pg) := (cell_of_row _ _ 2 _ _ _ hx0).trans rfl
          have x1_0 : W1.cell? ⟨g1, 0, none⟩ = some (sn) := (cell_of_row _ _ 0 _ _ _ hx1).trans rfl
          have x1_1 : W1.cell? ⟨g1, 1, none⟩ = some (.int .i64 sw) := (cell_of_row _ _ 1 _ _ _ hx1).trans rfl
          have x1_2 : W1.cell? ⟨g1, 2, none⟩ = some (.int .i64 sb) := (cell_of_row _ _ 2 _ _ _ hx1).trans rfl
          have x1_3 : W1.cell? ⟨g1, 3, none⟩ = some (sc) := (cell_of_row _ _ 3 _ _ _ hx1).trans rfl
          have x1_4 : W1.cell? ⟨g1, 4, none⟩ = some (s4) := (cell_of_row _ _ 4 _ _ _ hx1).trans rfl
          have x1_5 : W1.cell? ⟨g1, 5, none⟩ = some (s5) := (cell_of_row _ _ 5 _ _ _ hx1).trans rfl
          have x1_6 : W1.cell? ⟨g1, 6, none⟩ = some (s6) := (cell_of_row _ _ 6 _ _ _ hx1).trans rfl
          have x1_7 : W1.cell? ⟨g1, 7, none⟩ = some (s7) := (cell_of_row _ _ 7 _ _ _ hx1).trans rfl
          have HX0 := Lib.hid hx0
          clear hx0
          have HX1 := Lib.hid hx1
          clear hx1
          go_enter Try.func13, Try.ntmps13
          go_upto_region 1 with fail
          try simp only [World.size_alloc]
          rw [← hW1, ← hg1, ← hg0]
          clear hW1 hg0 hg1
          go_wp2
          go_ret
          exact ⟨ret_bool (by first | rfl | (simp [slotB]; done) | (simp [slotB, goB]; done) | (simp [slotB, goB, hO2]; done) | (simp [slotB, an, hA0]; done) | simp [slotB, goB, hO2, an, hA0]), HB0.out⟩
    | false =>
      cases wz with
      | true =>
        have x0_0 : W1.cell? ⟨g0, 0, none⟩ = some (.int .i64 id) := (cell_of_row _ _ 0 _ _ _ hx0).trans rfl
        have x0_1 : W1.cell? ⟨g0, 1, none⟩ = some (.bool true) := (cell_of_row _ _ 1 _ _ _ hx0).trans rfl
        have x0_2 : W1.cell? ⟨g0, 2, none⟩ = some (.bool pg) := (cell_of_row _ _ 2 _ _ _ hx0).trans rfl
        have x1_0 : W1.cell? ⟨g1, 0, none⟩ = some (sn) := (cell_of_row _ _ 0 _ _ _ hx1).trans rfl
        have x1_1 : W1.cell? ⟨g1, 1, none⟩ = some (.int .i64 sw) := (cell_of_row _ _ 1 _ _ _ hx1).trans rfl
        have x1_2 : W1.cell? ⟨g1, 2, none⟩ = some (.int .i64 sb) := (cell_of_row _ _ 2 _ _ _ hx1).trans rfl
        have x1_3 : W1.cell? ⟨g1, 3, none⟩ = some (sc) := (cell_of_row _ _ 3 _ _ _ hx1).trans rfl
        have x1_4 : W1.cell? ⟨g1, 4, none⟩ = some (s4) := (cell_of_row _ _ 4 _ _ _ hx1).trans rfl
        have x1_5 : W1.cell? ⟨g1, 5, none⟩ = some (s5) := (cell_of_row _ _ 5 _ _ _ hx1).trans rfl
        have x1_6 : W1.cell? ⟨g1, 6, none⟩ = some (s6) := (cell_of_row _ _ 6 _ _ _ hx1).trans rfl
        have x1_7 : W1.cell? ⟨g1, 7, none⟩ = some (s7) := (cell_of_row _ _ 7 _ _ _ hx1).trans rfl
        have HX0 := Lib.hid hx0
        clear hx0
        have HX1 := Lib.hid hx1
        clear hx1
        go_enter Try.func13, Try.ntmps13
        go_upto_region 1 with fail
        try simp only [World.size_alloc]
        rw [← hW1, ← hg1, ← hg0]
        clear hW1 hg0 hg1
        go_wp2
        go_ret
        exact ⟨ret_bool (by first | rfl | (simp [slotB]; done) | (simp [slotB, goB]; done) | (simp [slotB, goB, hO2]; done) | (simp [slotB, an, hA0]; done) | simp [slotB, goB, hO2, an, hA0]), HB0.out⟩
      | false =>
        cases hO : (sw == id) with
        | true =>
          have hO2 : (id == sw) = true := by rw [← hO]; exact BEq.comm
          have x0_0 : W1.cell? ⟨g0, 0, none⟩ = some (.int .i64 id) := (cell_of_row _ _ 0 _ _ _ hx0).trans rfl
          have x0_1 : W1.cell? ⟨g0, 1, none⟩ = some (.bool false) := (cell_of_row _ _ 1 _ _ _ hx0).trans rfl
          have x0_2 : W1.cell? ⟨g0, 2, none⟩ = some (.bool pg) := (cell_of_row _ _ 2 _ _ _ hx0).trans rfl
          have x1_0 : W1.cell? ⟨g1, 0, none⟩ = some (sn) := (cell_of_row _ _ 0 _ _ _ hx1).trans rfl
          have x1_1 : W1.cell? ⟨g1, 1, none⟩ = some (.int .i64 sw) := (cell_of_row _ _ 1 _ _ _ hx1).trans rfl
          have x1_2 : W1.cell? ⟨g1, 2, none⟩ = some (.int .i64 sb) := (cell_of_row _ _ 2 _ _ _ hx1).trans rfl
          have x1_3 : W1.cell? ⟨g1, 3, none⟩ = some (sc) := (cell_of_row _ _ 3 _ _ _ hx1).trans rfl
          have x1_4 : W1.cell? ⟨g1, 4, none⟩ = some (s4) := (cell_of_row _ _ 4 _ _ _ hx1).trans rfl
          have x1_5 : W1.cell? ⟨g1, 5, none⟩ = some (s5) := (cell_of_row _ _ 5 _ _ _ hx1).trans rfl
          have x1_6 : W1.cell? ⟨g1, 6, none⟩ = some (s6) := (cell_of_row _ _ 6 _ _ _ hx1).trans rfl
          have x1_7 : W1.cell? ⟨g1, 7, none⟩ = some (s7) := (cell_of_row _ _ 7 _ _ _ hx1).trans rfl
          have HX0 := Lib.hid hx0
          clear hx0
          have HX1 := Lib.hid hx1
          clear hx1
          go_enter Try.func13, Try.ntmps13
          go_upto_region 1 with fail
          try simp only [World.size_alloc]
          rw [← hW1, ← hg1, ← hg0]
          clear hW1 hg0 hg1
          go_wp2
          go_ret
          exact ⟨ret_bool (by first | rfl | (simp [slotB]; done) | (simp [slotB, goB]; done) | (simp [slotB, goB, hO2]; done) | (simp [slotB, an, hA0]; done) | simp [slotB, goB, hO2, an, hA0]), HB0.out⟩
        | false =>
          have hO2 : (id == sw) = false := by rw [← hO]; exact BEq.comm
          have x0_0 : W1.cell? ⟨g0, 0, none⟩ = some (.int .i64 id) := (cell_of_row _ _ 0 _ _ _ hx0).trans rfl
          have x0_1 : W1.cell? ⟨g0, 1, none⟩ = some (.bool false) := (cell_of_row _ _ 1 _ _ _ hx0).trans rfl
          have x0_2 : W1.cell? ⟨g0, 2, none⟩ = some (.bool pg) := (cell_of_row _ _ 2 _ _ _ hx0).trans rfl
          have x1_0 : W1.cell? ⟨g1, 0, none⟩ = some (sn) := (cell_of_row _ _ 0 _ _ _ hx1).trans rfl
          have x1_1 : W1.cell? ⟨g1, 1, none⟩ = some (.int .i64 sw) := (cell_of_row _ _ 1 _ _ _ hx1).trans rfl
          have x1_2 : W1.cell? ⟨g1, 2, none⟩ = some (.int .i64 sb) := (cell_of_row _ _ 2 _ _ _ hx1).trans rfl
          have x1_3 : W1.cell? ⟨g1, 3, none⟩ = some (sc) := (cell_of_row _ _ 3 _ _ _ hx1).trans rfl
          have x1_4 : W1.cell? ⟨g1, 4, none⟩ = some (s4) := (cell_of_row _ _ 4 _ _ _ hx1).trans rfl
          have x1_5 : W1.cell? ⟨g1, 5, none⟩ = some (s5) := (cell_of_row _ _ 5 _ _ _ hx1).trans rfl
          have x1_6 : W1.cell? ⟨g1, 6, none⟩ = some (s6) := (cell_of_row _ _ 6 _ _ _ hx1).trans rfl
          have x1_7 : W1.cell? ⟨g1, 7, none⟩ = some (s7) := (cell_of_row _ _ 7 _ _ _ hx1).trans rfl
          have HX0 := Lib.hid hx0
          clear hx0
          have HX1 := Lib.hid hx1
          clear hx1
          go_enter Try.func13, Try.ntmps13
          go_upto_region 1 with fail
          try simp only [World.size_alloc]
          rw [← hW1, ← hg1, ← hg0]
          clear hW1 hg0 hg1
          go_wp2
          go_ret
          exact ⟨ret_bool (by first | rfl | (simp [slotB]; done) | (simp [slotB, goB]; done) | (simp [slotB, goB, hO2]; done) | (simp [slotB, an, hA0]; done) | simp [slotB, goB, hO2, an, hA0]), HB0.out⟩
  by_cases h2 : op = 2
  · subst h2
    cases hA0 : (bits .and .i64 sb 2 != 0) with
    | true =>
      cases wz with
      | true =>
        have x0_0 : W1.cell? ⟨g0, 0, none⟩ = some (.int .i64 id) := (cell_of_row _ _ 0 _ _ _ hx0).trans rfl
        have x0_1 : W1.cell? ⟨g0, 1, none⟩ = some (.bool true) := (cell_of_row _ _ 1 _ _ _ hx0).trans rfl
        have x0_2 : W1.cell? ⟨g0, 2, none⟩ = some (.bool pg) := (cell_of_row _ _ 2 _ _ _ hx0).trans rfl
        have x1_0 : W1.cell? ⟨g1, 0, none⟩ = some (sn) := (cell_of_row _ _ 0 _ _ _ hx1).trans rfl
        have x1_1 : W1.cell? ⟨g1, 1, none⟩ = some (.int .i64 sw) := (cell_of_row _ _ 1 _ _ _ hx1).trans rfl
        have x1_2 : W1.cell? ⟨g1, 2, none⟩ = some (.int .i64 sb) := (cell_of_row _ _ 2 _ _ _ hx1).trans rfl
        have x1_3 : W1.cell? ⟨g1, 3, none⟩ = some (sc) := (cell_of_row _ _ 3 _ _ _ hx1).trans rfl
        have x1_4 : W1.cell? ⟨g1, 4, none⟩ = some (s4) := (cell_of_row _ _ 4 _ _ _ hx1).trans rfl
        have x1_5 : W1.cell? ⟨g1, 5, none⟩ = some (s5) := (cell_of_row _ _ 5 _ _ _ hx1).trans rfl
        have x1_6 : W1.cell? ⟨g1, 6, none⟩ = some (s6) := (cell_of_row _ _ 6 _ _ _ hx1).trans rfl
        have x1_7 : W1.cell? ⟨g1, 7, none⟩ = some (s7) := (cell_of_row _ _ 7 _ _ _ hx1).trans rfl
        have HX0 := Lib.hid hx0
        clear hx0
        have HX1 := Lib.hid hx1
        clear hx1
        go_enter Try.func13, Try.ntmps13
        go_upto_region 1 with fail
        try simp only [World.size_alloc]
        rw [← hW1, ← hg1, ← hg0]
        clear hW1 hg0 hg1
        go_wp2
        go_ret
        exact ⟨ret_bool (by first | rfl | (simp [slotB]; done) | (simp [slotB, goB]; done) | (simp [slotB, goB, hO2]; done) | (simp [slotB, an, hA0]; done) | simp [slotB, goB, hO2, an, hA0]), HB0.out⟩
      | false =>
        cases hO : (sw == id) with
        | true =>
          have hO2 : (id == sw) = true := by rw [← hO]; exact BEq.comm
          have x0_0 : W1.cell? ⟨g0, 0, none⟩ = some (.int .i64 id) := (cell_of_row _ _ 0 _ _ _ hx0).trans rfl
          have x0_1 : W1.cell? ⟨g0, 1, none⟩ = some (.bool false) := (cell_of_row _ _ 1 _ _ _ hx0).trans rfl
          have x0_2 : W1.cell? ⟨g0, 2, none⟩ = some (.bool pg) := (cell_of_row _ _ 2 _ _ _ hx0).trans rfl
          have x1_0 : W1.cell? ⟨g1, 0, none⟩ = some (sn) := (cell_of_row _ _ 0 _ _ _ hx1).trans rfl
          have x1_1 : W1.cell? ⟨g1, 1, none⟩ = some (.int .i64 sw) := (cell_of_row _ _ 1 _ _ _ hx1).trans rfl
          have x1_2 : W1.cell? ⟨g1, 2, none⟩ = some (.int .i64 sb) := (cell_of_row _ _ 2 _ _ _ hx1).trans rfl
          have x1_3 : W1.cell? ⟨g1, 3, none⟩ = some (sc) := (cell_of_row _ _ 3 _ _ _ hx1).trans rfl
          have x1_4 : W1.cell? ⟨g1, 4, none⟩ = some (s4) := (cell_of_row _ _ 4 _ _ _ hx1).trans rfl
          have x1_5 : W1.cell? ⟨g1, 5, none⟩ = some (s5) := (cell_of_row _ _ 5 _ _ _ hx1).trans rfl
          have x1_6 : W1.cell? ⟨g1, 6, none⟩ = some (s6) := (cell_of_row _ _ 6 _ _ _ hx1).trans rfl
          have x1_7 : W1.cell? ⟨g1, 7, none⟩ = some (s7) := (cell_of_row _ _ 7 _ _ _ hx1).trans rfl
          have HX0 := Lib.hid hx0
          clear hx0
          have HX1 := Lib.hid hx1
          clear hx1
          go_enter Try.func13, Try.ntmps13
          go_upto_region 1 with fail
          try simp only [World.size_alloc]
          rw [← hW1, ← hg1, ← hg0]
          clear hW1 hg0 hg1
          go_wp2
          go_ret
          exact ⟨ret_bool (by first | rfl | (simp [slotB]; done) | (simp [slotB, goB]; done) | (simp [slotB, goB, hO2]; done) | (simp [slotB, an, hA0]; done) | simp [slotB, goB, hO2, an, hA0]), HB0.out⟩
        | false =>
          have hO2 : (id == sw) = false := by rw [← hO]; exact BEq.comm
          have x0_0 : W1.cell? ⟨g0, 0, none⟩ = some (.int .i64 id) := (cell_of_row _ _ 0 _ _ _ hx0).trans rfl
          have x0_1 : W1.cell? ⟨g0, 1, none⟩ = some (.bool false) := (cell_of_row _ _ 1 _ _ _ hx0).trans rfl
          have x0_2 : W1.cell? ⟨g0, 2, none⟩ = some (.bool pg) := (cell_of_row _ _ 2 _ _ _ hx0).trans rfl
          have x1_0 : W1.cell? ⟨g1, 0, none⟩ = some (sn) := (cell_of_row _ _ 0 _ _ _ hx1).trans rfl
          have x1_1 : W1.cell? ⟨g1, 1, none⟩ = some (.int .i64 sw) := (cell_of_row _ _ 1 _ _ _ hx1).trans rfl
          have x1_2 : W1.cell? ⟨g1, 2, none⟩ = some (.int .i64 sb) := (cell_of_row _ _ 2 _ _ _ hx1).trans rfl
          have x1_3 : W1.cell? ⟨g1, 3, none⟩ = some (sc) := (cell_of_row _ _ 3 _ _ _ hx1).trans rfl
          have x1_4 : W1.cell? ⟨g1, 4, none⟩ = some (s4) := (cell_of_row _ _ 4 _ _ _ hx1).trans rfl
          have x1_5 : W1.cell? ⟨g1, 5, none⟩ = some (s5) := (cell_of_row _ _ 5 _ _ _ hx1).trans rfl
          have x1_6 : W1.cell? ⟨g1, 6, none⟩ = some (s6) := (cell_of_row _ _ 6 _ _ _ hx1).trans rfl
          have x1_7 : W1.cell? ⟨g1, 7, none⟩ = some (s7) := (cell_of_row _ _ 7 _ _ _ hx1).trans rfl
          have HX0 := Lib.hid hx0
          clear hx0
          have HX1 := Lib.hid hx1
          clear hx1
          go_enter Try.func13, Try.ntmps13
          go_upto_region 1 with fail
          try simp only [World.size_alloc]
          rw [← hW1, ← hg1, ← hg0]
          clear hW1 hg0 hg1
          go_wp2
          go_ret
          exact ⟨ret_bool (by first | rfl | (simp [slotB]; done) | (simp [slotB, goB]; done) | (simp [slotB, goB, hO2]; done) | (simp [slotB, an, hA0]; done) | simp [slotB, goB, hO2, an, hA0]), HB0.out⟩
    | false =>
      cases wz with
      | true =>
        have x0_0 : W1.cell? ⟨g0, 0, none⟩ = some (.int .i64 id) := (cell_of_row _ _ 0 _ _ _ hx0).trans rfl
        have x0_1 : W1.cell? ⟨g0, 1, none⟩ = some (.bool true) := (cell_of_row _ _ 1 _ _ _ hx0).trans rfl
        have x0_2 : W1.cell? ⟨g0, 2, none⟩ = some (.bool pg) := (cell_of_row _ _ 2 _ _ _ hx0).trans rfl
        have x1_0 : W1.cell? ⟨g1, 0, none⟩ = some (sn) := (cell_of_row _ _ 0 _ _ _ hx1).trans rfl
        have x1_1 : W1.cell? ⟨g1, 1, none⟩ = some (.int .i64 sw) := (cell_of_row _ _ 1 _ _ _ hx1).trans rfl
        have x1_2 : W1.cell? ⟨g1, 2, none⟩ = some (.int .i64 sb) := (cell_of_row _ _ 2 _ _ _ hx1).trans rfl
        have x1_3 : W1.cell? ⟨g1, 3, none⟩ = some (sc) := (cell_of_row _ _ 3 _ _ _ hx1).trans rfl
        have x1_4 : W1.cell? ⟨g1, 4, none⟩ = some (s4) := (cell_of_row _ _ 4 _ _ _ hx1).trans rfl
        have x1_5 : W1.cell? ⟨g1, 5, none⟩ = some (s5) := (cell_of_row _ _ 5 _ _ _ hx1).trans rfl
        have x1_6 : W1.cell? ⟨g1, 6, none⟩ = some (s6) := (cell_of_row _ _ 6 _ _ _ hx1).trans rfl
        have x1_7 : W1.cell? ⟨g1, 7, none⟩ = some (s7) := (cell_of_row _ _ 7 _ _ _ hx1).trans rfl
        have HX0 := Lib.hid hx0
        clear hx0
        have HX1 := Lib.hid hx1
        clear hx1
        go_enter Try.func13, Try.ntmps13
        go_upto_region 1 with fail
        try simp only [World.size_alloc]
        rw [← hW1, ← hg1, ← hg0]
        clear hW1 hg0 hg1
        go_wp2
        go_ret
        exact ⟨ret_bool (by first | rfl | (simp [slotB]; done) | (simp [slotB, goB]; done) | (simp [slotB, goB, hO2]; done) | (simp [slotB, an, hA0]; done) | simp [slotB, goB, hO2, an, hA0]), HB0.out⟩
      | false =>
        cases hO : (sw == id) with
        | true =>
          have hO2 : (id == sw) = true := by rw [← hO]; exact BEq.comm
          have x0_0 : W1.cell? ⟨g0, 0, none⟩ = some (.int .i64 id) := (cell_of_row _ _ 0 _ _ _ hx0).trans rfl
          have x0_1 : W1.cell? ⟨g0, 1, none⟩ = some (.bool false) := (cell_of_row _ _ 1 _ _ _ hx0).trans rfl
          have x0_2 : W1.cell? ⟨g0, 2, none⟩ = some (.bool pg) := (cell_of_row _ _ 2 _ _ _ hx0).trans rfl
          have x1_0 : W1.cell? ⟨g1, 0, none⟩ = some (sn) := (cell_of_row _ _ 0 _ _ _ hx1).trans rfl
          have x1_1 : W1.cell? ⟨g1, 1, none⟩ = some (.int .i64 sw) := (cell_of_row _ _ 1 _ _ _ hx1).trans rfl
          have x1_2 : W1.cell? ⟨g1, 2, none⟩ = some (.int .i64 sb) := (cell_of_row _ _ 2 _ _ _ hx1).trans rfl
          have x1_3 : W1.cell? ⟨g1, 3, none⟩ = some (sc) := (cell_of_row _ _ 3 _ _ _ hx1).trans rfl
          have x1_4 : W1.cell? ⟨g1, 4, none⟩ = some (s4) := (cell_of_row _ _ 4 _ _ _ hx1).trans rfl
          have x1_5 : W1.cell? ⟨g1, 5, none⟩ = some (s5) := (cell_of_row _ _ 5 _ _ _ hx1).trans rfl
          have x1_6 : W1.cell? ⟨g1, 6, none⟩ = some (s6) := (cell_of_row _ _ 6 _ _ _ hx1).trans rfl
          have x1_7 : W1.cell? ⟨g1, 7, none⟩ = some (s7) := (cell_of_row _ _ 7 _ _ _ hx1).trans rfl
          have HX0 := Lib.hid hx0
          clear hx0
          have HX1 := Lib.hid hx1
          clear hx1
          go_enter Try.func13, Try.ntmps13
          go_upto_region 1 with fail
          try simp only [World.size_alloc]
          rw [← hW1, ← hg1, ← hg0]
          clear hW1 hg0 hg1
          go_wp2
          go_ret
          exact ⟨ret_bool (by first | rfl | (simp [slotB]; done) | (simp [slotB, goB]; done) | (simp [slotB, goB, hO2]; done) | (simp [slotB, an, hA0]; done) | simp [slotB, goB, hO2, an, hA0]), HB0.out⟩
        | false =>
          have hO2 : (id == sw) = false := by rw [← hO]; exact BEq.comm
          have x0_0 : W1.cell? ⟨g0, 0, none⟩ = some (.int .i64 id) := (cell_of_row _ _ 0 _ _ _ hx0).trans rfl
          have x0_1 : W1.cell? ⟨g0, 1, none⟩ = some (.bool false) := (cell_of_row _ _ 1 _ _ _ hx0).trans rfl
          have x0_2 : W1.cell? ⟨g0, 2, none⟩ = some (.bool pg) := (cell_of_row _ _ 2 _ _ _ hx0).trans rfl
          have x1_0 : W1.cell? ⟨g1, 0, none⟩ = some (sn) := (cell_of_row _ _ 0 _ _ _ hx1).trans rfl
          have x1_1 : W1.cell? ⟨g1, 1, none⟩ = some (.int .i64 sw) := (cell_of_row _ _ 1 _ _ _ hx1).trans rfl
          have x1_2 : W1.cell? ⟨g1, 2, none⟩ = some (.int .i64 sb) := (cell_of_row _ _ 2 _ _ _ hx1).trans rfl
          have x1_3 : W1.cell? ⟨g1, 3, none⟩ = some (sc) := (cell_of_row _ _ 3 _ _ _ hx1).trans rfl
          have x1_4 : W1.cell? ⟨g1, 4, none⟩ = some (s4) := (cell_of_row _ _ 4 _ _ _ hx1).trans rfl
          have x1_5 : W1.cell? ⟨g1, 5, none⟩ = some (s5) := (cell_of_row _ _ 5 _ _ _ hx1).trans rfl
          have x1_6 : W1.cell? ⟨g1, 6, none⟩ = some (s6) := (cell_of_row _ _ 6 _ _ _ hx1).trans rfl
          have x1_7 : W1.cell? ⟨g1, 7, none⟩ = some (s7) := (cell_of_row _ _ 7 _ _ _ hx1).trans rfl
          have HX0 := Lib.hid hx0
          clear hx0
          have HX1 := Lib.hid hx1
          clear hx1
          go_enter Try.func13, Try.ntmps13
          go_upto_region 1 with fail
          try simp only [World.size_alloc]
          rw [← hW1, ← hg1, ← hg0]
          clear hW1 hg0 hg1
          go_wp2
          go_ret
          exact ⟨ret_bool (by first | rfl | (simp [slotB]; done) | (simp [slotB, goB]; done) | (simp [slotB, goB, hO2]; done) | (simp [slotB, an, hA0]; done) | simp [slotB, goB, hO2, an, hA0]), HB0.out⟩
  by_cases h4 : op = 4
  · subst h4
    cases wz with
    | true =>
      have x0_0 : W1.cell? ⟨g0, 0, none⟩ = some (.int .i64 id) := (cell_of_row _ _ 0 _ _ _ hx0).trans rfl
      have x0_1 : W1.cell? ⟨g0, 1, none⟩ = some (.bool true) := (cell_of_row _ _ 1 _ _ _ hx0).trans rfl
      have x0_2 : W1.cell? ⟨g0, 2, none⟩ = some (.bool pg) := (cell_of_row _ _ 2 _ _ _ hx0).trans rfl
      have x1_0 : W1.cell? ⟨g1, 0, none⟩ = some (sn) := (cell_of_row _ _ 0 _ _ _ hx1).trans rfl
      have x1_1 : W1.cell? ⟨g1, 1, none⟩ = some (.int .i64 sw) := (cell_of_row _ _ 1 _ _ _ hx1).trans rfl
      have x1_2 : W1.cell? ⟨g1, 2, none⟩ = some (.int .i64 sb) := (cell_of_row _ _ 2 _ _ _ hx1).trans rfl
      have x1_3 : W1.cell? ⟨g1, 3, none⟩ = some (sc) := (cell_of_row _ _ 3 _ _ _ hx1).trans rfl
      have x1_4 : W1.cell? ⟨g1, 4, none⟩ = some (s4) := (cell_of_row _ _ 4 _ _ _ hx1).trans rfl
      have x1_5 : W1.cell? ⟨g1, 5, none⟩ = some (s5) := (cell_of_row _ _ 5 _ _ _ hx1).trans rfl
      have x1_6 : W1.cell? ⟨g1, 6, none⟩ = some (s6) := (cell_of_row _ _ 6 _ _ _ hx1).trans rfl
      have x1_7 : W1.cell? ⟨g1, 7, none⟩ = some (s7) := (cell_of_row _ _ 7 _ _ _ hx1).trans rfl
      have HX0 := Lib.hid hx0
      clear hx0
      have HX1 := Lib.hid hx1
      clear hx1
      go_enter Try.func13, Try.ntmps13
      go_upto_region 1 with fail
      try simp only [World.size_alloc]
      rw [← hW1, ← hg1, ← hg0]
      clear hW1 hg0 hg1
      go_wp2
      go_ret
      exact ⟨ret_bool (by first | rfl | (simp [slotB]; done) | (simp [slotB, goB]; done) | (simp [slotB, goB, hO2]; done) | simp [slotB, goB, hO2, an]), HB0.out⟩
    | false =>
      cases hO : (sw == id) with
      | true =>
        have hO2 : (id == sw) = true := by rw [← hO]; exact BEq.comm
        have x0_0 : W1.cell? ⟨g0, 0, none⟩ = some (.int .i64 id) := (cell_of_row _ _ 0 _ _ _ hx0).trans rfl
        have x0_1 : W1.cell? ⟨g0, 1, none⟩ = some (.bool false) := (cell_of_row _ _ 1 _ _ _ hx0).trans rfl
        have x0_2 : W1.cell? ⟨g0, 2, none⟩ = some (.bool pg) := (cell_of_row _ _ 2 _ _ _ hx0).trans rfl
        have x1_0 : W1.cell? ⟨g1, 0, none⟩ = some (sn) := (cell_of_row _ _ 0 _ _ _ hx1).trans rfl
        have x1_1 : W1.cell? ⟨g1, 1, none⟩ = some (.int .i64 sw) := (cell_of_row _ _ 1 _ _ _ hx1).trans rfl
        have x1_2 : W1.cell? ⟨g1, 2, none⟩ = some (.int .i64 sb) := (cell_of_row _ _ 2 _ _ _ hx1).trans rfl
        have x1_3 : W1.cell? ⟨g1, 3, none⟩ = some (sc) := (cell_of_row _ _ 3 _ _ _ hx1).trans rfl
        have x1_4 : W1.cell? ⟨g1, 4, none⟩ = some (s4) := (cell_of_row _ _ 4 _ _ _ hx1).trans rfl
        have x1_5 : W1.cell? ⟨g1, 5, none⟩ = some (s5) := (cell_of_row _ _ 5 _ _ _ hx1).trans rfl
        have x1_6 : W1.cell? ⟨g1, 6, none⟩ = some (s6) := (cell_of_row _ _ 6 _ _ _ hx1).trans rfl
        have x1_7 : W1.cell? ⟨g1, 7, none⟩ = some (s7) := (cell_of_row _ _ 7 _ _ _ hx1).trans rfl
        have HX0 := Lib.hid hx0
        clear hx0
        have HX1 := Lib.hid hx1
        clear hx1
        go_enter Try.func13, Try.ntmps13
        go_upto_region 1 with fail
        try simp only [World.size_alloc]
        rw [← hW1, ← hg1, ← hg0]
        clear hW1 hg0 hg1
        go_wp2
        go_ret
        exact ⟨ret_bool (by first | rfl | (simp [slotB]; done) | (simp [slotB, goB]; done) | (simp [slotB, goB, hO2]; done) | simp [slotB, goB, hO2, an]), HB0.out⟩
      | false =>
        have hO2 : (id == sw) = false := by rw [← hO]; exact BEq.comm
        have x0_0 : W1.cell? ⟨g0, 0, none⟩ = some (.int .i64 id) := (cell_of_row _ _ 0 _ _ _ hx0).trans rfl
        have x0_1 : W1.cell? ⟨g0, 1, none⟩ = some (.bool false) := (cell_of_row _ _ 1 _ _ _ hx0).trans rfl
        have x0_2 : W1.cell? ⟨g0, 2, none⟩ = some (.bool pg) := (cell_of_row _ _ 2 _ _ _ hx0).trans rfl
        have x1_0 : W1.cell? ⟨g1, 0, none⟩ = some (sn) := (cell_of_row _ _ 0 _ _ _ hx1).trans rfl
        have x1_1 : W1.cell? ⟨g1, 1, none⟩ = some (.int .i64 sw) := (cell_of_row _ _ 1 _ _ _ hx1).trans rfl
        have x1_2 : W1.cell? ⟨g1, 2, none⟩ = some (.int .i64 sb) := (cell_of_row _ _ 2 _ _ _ hx1).trans rfl
        have x1_3 : W1.cell? ⟨g1, 3, none⟩ = some (sc) := (cell_of_row _ _ 3 _ _ _ hx1).trans rfl
        have x1_4 : W1.cell? ⟨g1, 4, none⟩ = some (s4) := (cell_of_row _ _ 4 _ _ _ hx1).trans rfl
        have x1_5 : W1.cell? ⟨g1, 5, none⟩ = some (s5) := (cell_of_row _ _ 5 _ _ _ hx1).trans rfl
        have x1_6 : W1.cell? ⟨g1, 6, none⟩ = some (s6) := (cell_of_row _ _ 6 _ _ _ hx1).trans rfl
        have x1_7 : W1.cell? ⟨g1, 7, none⟩ = some (s7) := (cell_of_row _ _ 7 _ _ _ hx1).trans rfl
        have HX0 := Lib.hid hx0
        clear hx0
        have HX1 := Lib.hid hx1
        clear hx1
        go_enter Try.func13, Try.ntmps13
        go_upto_region 1 with fail
        try simp only [World.size_alloc]
        rw [← hW1, ← hg1, ← hg0]
        clear hW1 hg0 hg1
        go_wp2
        go_ret
        exact ⟨ret_bool (by first | rfl | (simp [slotB]; done) | (simp [slotB, goB]; done) | (simp [slotB, goB, hO2]; done) | simp [slotB, goB, hO2, an]), HB0.out⟩
  have e1 : (op == 1) = false := by simpa using h1
  have e2 : (op == 2) = false := by simpa using h2
  have e4 : (op == 4) = false := by simpa using h4
  cases wz with
  | true =>
    have x0_0 : W1.cell? ⟨g0, 0, none⟩ = some (.int .i64 id) := (cell_of_row _ _ 0 _ _ _ hx0).trans rfl
    have x0_1 : W1.cell? ⟨g0, 1, none⟩ = some (.bool true) := (cell_of_row _ _ 1 _ _ _ hx0).trans rfl
    have x0_2 : W1.cell? ⟨g0, 2, none⟩ = some (.bool pg) := (cell_of_row _ _ 2 _ _ _ hx0).trans rfl
    have x1_0 : W1.cell? ⟨g1, 0, none⟩ = some (sn) := (cell_of_row _ _ 0 _ _ _ hx1).trans rfl
    have x1_1 : W1.cell? ⟨g1, 1, none⟩ = some (.int .i64 sw) := (cell_of_row _ _ 1 _ _ _ hx1).trans rfl
    have x1_2 : W1.cell? ⟨g1, 2, none⟩ = some (.int .i64 sb) := (cell_of_row _ _ 2 _ _ _ hx1).trans rfl
    have x1_3 : W1.cell? ⟨g1, 3, none⟩ = some (sc) := (cell_of_row _ _ 3 _ _ _ hx1).trans rfl
    have x1_4 : W1.cell? ⟨g1, 4, none⟩ = some (s4) := (cell_of_row _ _ 4 _ _ _ hx1).trans rfl
    have x1_5 : W1.cell? ⟨g1, 5, none⟩ = some (s5) := (cell_of_row _ _ 5 _ _ _ hx1).trans rfl
    have x1_6 : W1.cell? ⟨g1, 6, none⟩ = some (s6) := (cell_of_row _ _ 6 _ _ _ hx1).trans rfl
    have x1_7 : W1.cell? ⟨g1, 7, none⟩ = some (s7) := (cell_of_row _ _ 7 _ _ _ hx1).trans rfl
    have HX0 := Lib.hid hx0
    clear hx0
    have HX1 := Lib.hid hx1
    clear hx1
    go_enter Try.func13, Try.ntmps13
    go_upto_region 1 with fail
    try simp only [World.size_alloc]
    rw [← hW1, ← hg1, ← hg0]
    clear hW1 hg0 hg1
    go_wp2
    go_ret
    exact ⟨ret_bool (by simp [slotB, h1, h2, h4]), HB0.out⟩
  | false =>
    cases hO : (sw == id) with
    | true =>
      have hO2 : (id == sw) = true := by rw [← hO]; exact BEq.comm
      have x0_0 : W1.cell? ⟨g0, 0, none⟩ = some (.int .i64 id) := (cell_of_row _ _ 0 _ _ _ hx0).trans rfl
      have x0_1 : W1.cell? ⟨g0, 1, none⟩ = some (.bool false) := (cell_of_row _ _ 1 _ _ _ hx0).trans rfl
      have x0_2 : W1.cell? ⟨g0, 2, none⟩ = some (.bool pg) := (cell_of_row _ _ 2 _ _ _ hx0).trans rfl
      have x1_0 : W1.cell? ⟨g1, 0, none⟩ = some (sn) := (cell_of_row _ _ 0 _ _ _ hx1).trans rfl
      have x1_1 : W1.cell? ⟨g1, 1, none⟩ = some (.int .i64 sw) := (cell_of_row _ _ 1 _ _ _ hx1).trans rfl
      have x1_2 : W1.cell? ⟨g1, 2, none⟩ = some (.int .i64 sb) := (cell_of_row _ _ 2 _ _ _ hx1).trans rfl
      have x1_3 : W1.cell? ⟨g1, 3, none⟩ = some (sc) := (cell_of_row _ _ 3 _ _ _ hx1).trans rfl
      have x1_4 : W1.cell? ⟨g1, 4, none⟩ = some (s4) := (cell_of_row _ _ 4 _ _ _ hx1).trans rfl
      have x1_5 : W1.cell? ⟨g1, 5, none⟩ = some (s5) := (cell_of_row _ _ 5 _ _ _ hx1).trans rfl
      have x1_6 : W1.cell? ⟨g1, 6, none⟩ = some (s6) := (cell_of_row _ _ 6 _ _ _ hx1).trans rfl
      have x1_7 : W1.cell? ⟨g1, 7, none⟩ = some (s7) := (cell_of_row _ _ 7 _ _ _ hx1).trans rfl
      have HX0 := Lib.hid hx0
      clear hx0
      have HX1 := Lib.hid hx1
      clear hx1
      go_enter Try.func13, Try.ntmps13
      go_upto_region 1 with fail
      try simp only [World.size_alloc]
      rw [← hW1, ← hg1, ← hg0]
      clear hW1 hg0 hg1
      go_wp2
      go_ret
      exact ⟨ret_bool (by simp [slotB, h1, h2, h4]), HB0.out⟩
    | false =>
      have hO2 : (id == sw) = false := by rw [← hO]; exact BEq.comm
      have x0_0 : W1.cell? ⟨g0, 0, none⟩ = some (.int .i64 id) := (cell_of_row _ _ 0 _ _ _ hx0).trans rfl
      have x0_1 : W1.cell? ⟨g0, 1, none⟩ = some (.bool false) := (cell_of_row _ _ 1 _ _ _ hx0).trans rfl
      have x0_2 : W1.cell? ⟨g0, 2, none⟩ = some (.bool pg) := (cell_of_row _ _ 2 _ _ _ hx0).trans rfl
      have x1_0 : W1.cell? ⟨g1, 0, none⟩ = some (sn) := (cell_of_row _ _ 0 _ _ _ hx1).trans rfl
      have x1_1 : W1.cell? ⟨g1, 1, none⟩ = some (.int .i64 sw) := (cell_of_row _ _ 1 _ _ _ hx1).trans rfl
      have x1_2 : W1.cell? ⟨g1, 2, none⟩ = some (.int .i64 sb) := (cell_of_row _ _ 2 _ _ _ hx1).trans rfl
      have x1_3 : W1.cell? ⟨g1, 3, none⟩ = some (sc) := (cell_of_row _ _ 3 _ _ _ hx1).trans rfl
      have x1_4 : W1.cell? ⟨g1, 4, none⟩ = some (s4) := (cell_of_row _ _ 4 _ _ _ hx1).trans rfl
      have x1_5 : W1.cell? ⟨g1, 5, none⟩ = some (s5) := (cell_of_row _ _ 5 _ _ _ hx1).trans rfl
      have x1_6 : W1.cell? ⟨g1, 6, none⟩ = some (s6) := (cell_of_row _ _ 6 _ _ _ hx1).trans rfl
      have x1_7 : W1.cell? ⟨g1, 7, none⟩ = some (s7) := (cell_of_row _ _ 7 _ _ _ hx1).trans rfl
      have HX0 := Lib.hid hx0
      clear hx0
      have HX1 := Lib.hid hx1
      clear hx1
      go_enter Try.func13, Try.ntmps13
      go_upto_region 1 with fail
      try simp only [World.size_alloc]
      rw [← hW1, ← hg1, ← hg0]
      clear hW1 hg0 hg1
      go_wp2
      go_ret
      exact ⟨ret_bool (by simp [slotB, h1, h2, h4]), HB0.out⟩
set_option maxHeartbeats 2000000 in
theorem rverb_any (id : Int) (wz pg : Bool) (op : Int) (vn vt vl : Value) (vw vb : Int) (w : World) : Calls Try.prog 15 #[.agg #[.int .i64 id, .bool wz, .bool pg], .int .i64 op, .agg #[vn, .int .i64 vw, .int .i64 vb, vt, vl]] w fun e w' => e = .returned (.bool (verbB id wz pg op vw vb)) ∧ Below w.heap.size w w' := by
  obtain ⟨W1, hW1⟩ : ∃ W1, W1 = ((w.alloc (.cells #[.int .i64 id, .bool wz, .bool pg] 38)).alloc (.cells #[vn, .int .i64 vw, .int .i64 vb, vt, vl] 31)) := ⟨_, rfl⟩
  have hb0 : Below w.heap.size w W1 := hW1 ▸ ((Below.refl w.heap.size w).alloc (Nat.le_refl _) _).alloc (by simp) _
  have hx0 : W1.heap[w.heap.size]? = some (.cells #[.int .i64 id, .bool wz, .bool pg] 38 (0, 0)) := by
    have h := heap_alloc_new w (.cells #[.int .i64 id, .bool wz, .bool pg] 38)
    rw [hW1]
    rw [Below.heap_alloc _ _ _ (by simp only [World.size_alloc]; omega)]
    exact h
  have hx1 : W1.heap[w.heap.size + 1]? = some (.cells #[vn, .int .i64 vw, .int .i64 vb, vt, vl] 31 (0, 0)) := by
    have h := heap_alloc_new (w.alloc (.cells #[.int .i64 id, .bool wz, .bool pg] 38)) (.cells #[vn, .int .i64 vw, .int .i64 vb, vt, vl] 31)
    simp only [World.size_alloc] at h
    rw [hW1]
    exact h
  obtain ⟨g0, hg0⟩ : ∃ g, g = w.heap.size := ⟨_, rfl⟩
  rw [← hg0] at hx0
  have hl0 : g0 < W1.heap.size := (Array.getElem?_eq_some_iff.1 hx0).1
  obtain ⟨g1, hg1⟩ : ∃ g, g = w.heap.size + 1 := ⟨_, rfl⟩
  rw [← hg1] at hx1
  have hl1 : g1 < W1.heap.size := (Array.getElem?_eq_some_iff.1 hx1).1
  have HB0 := Lib.hid hb0
  clear hb0
  by_cases h5 : op = 5
  · subst h5
    cases hA0 : (bits .and .i64 vb 1 != 0) with
    | true =>
      cases wz with
      | true =>
        have x0_0 : W1.cell? ⟨g0, 0, none⟩ = some (.int .i64 id) := (cell_of_row _ _ 0 _ _ _ hx0).trans rfl
        have x0_1 : W1.cell? ⟨g0, 1, none⟩ = some (.bool true) := (cell_of_row _ _ 1 _ _ _ hx0).trans rfl
        have x0_2 : W1.cell? ⟨g0, 2, none⟩ = some (.bool pg) := (cell_of_row _ _ 2 _ _ _ hx0).trans rfl
        have x1_0 : W1.cell? ⟨g1, 0, none⟩ = some (vn) := (cell_of_row _ _ 0 _ _ _ hx1).trans rfl
        have x1_1 : W1.cell? ⟨g1, 1, none⟩ = some (.int .i64 vw) := (cell_of_row _ _ 1 _ _ _ hx1).trans rfl
        have x1_2 : W1.cell? ⟨g1, 2, none⟩ = some (.int .i64 vb) := (cell_of_row _ _ 2 _ _ _ hx1).trans rfl
        have x1_3 : W1.cell? ⟨g1, 3, none⟩ = some (vt) := (cell_of_row _ _ 3 _ _ _ hx1).trans rfl
        have x1_4 : W1.cell? ⟨g1, 4, none⟩ = some (vl) := (cell_of_row _ _ 4 _ _ _ hx1).trans rfl
        have HX0 := Lib.hid hx0
        clear hx0
        have HX1 := Lib.hid hx1
        clear hx1
        go_enter Try.func15, Try.ntmps15
        go_upto_region 1 with fail
        try simp only [World.size_alloc]
        rw [← hW1, ← hg1, ← hg0]
        clear hW1 hg0 hg1
        go_wp2
        go_ret
        exact ⟨ret_bool (by first | rfl | (simp [verbB]; done) | (simp [verbB, goB]; done) | (simp [verbB, goB, hO2]; done) | (simp [verbB, an, hA0]; done) | simp [verbB, goB, hO2, an, hA0]), HB0.out⟩
      | false =>
        cases hO : (vw == id) with
        | true =>
          have hO2 : (id == vw) = true := by rw [← hO]; exact BEq.comm
          have x0_0 : W1.cell? ⟨g0, 0, none⟩ = some (.int .i64 id) := (cell_of_row _ _ 0 _ _ _ hx0).trans rfl
          have x0_1 : W1.cell? ⟨g0, 1, none⟩ = some (.bool false) := (cell_of_row _ _ 1 _ _ _ hx0).trans rfl
          have x0_2 : W1.cell? ⟨g0, 2, none⟩ = some (.bool pg) := (cell_of_row _ _ 2 _ _ _ hx0).trans rfl
          have x1_0 : W1.cell? ⟨g1, 0, none⟩ = some (vn) := (cell_of_row _ _ 0 _ _ _ hx1).trans rfl
          have x1_1 : W1.cell? ⟨g1, 1, none⟩ = some (.int .i64 vw) := (cell_of_row _ _ 1 _ _ _ hx1).trans rfl
          have x1_2 : W1.cell? ⟨g1, 2, none⟩ = some (.int .i64 vb) := (cell_of_row _ _ 2 _ _ _ hx1).trans rfl
          have x1_3 : W1.cell? ⟨g1, 3, none⟩ = some (vt) := (cell_of_row _ _ 3 _ _ _ hx1).trans rfl
          have x1_4 : W1.cell? ⟨g1, 4, none⟩ = some (vl) := (cell_of_row _ _ 4 _ _ _ hx1).trans rfl
          have HX0 := Lib.hid hx0
          clear hx0
          have HX1 := Lib.hid hx1
          clear hx1
          go_enter Try.func15, Try.ntmps15
          go_upto_region 1 with fail
          try simp only [World.size_alloc]
          rw [← hW1, ← hg1, ← hg0]
          clear hW1 hg0 hg1
          go_wp2
          go_ret
          exact ⟨ret_bool (by first | rfl | (simp [verbB]; done) | (simp [verbB, goB]; done) | (simp [verbB, goB, hO2]; done) | (simp [verbB, an, hA0]; done) | simp [verbB, goB, hO2, an, hA0]), HB0.out⟩
        | false =>
          have hO2 : (id == vw) = false := by rw [← hO]; exact BEq.comm
          have x0_0 : W1.cell? ⟨g0, 0, none⟩ = some (.int .i64 id) := (cell_of_row _ _ 0 _ _ _ hx0).trans rfl
          have x0_1 : W1.cell? ⟨g0, 1, none⟩ = some (.bool false) := (cell_of_row _ _ 1 _ _ _ hx0).trans rfl
          have x0_2 : W1.cell? ⟨g0, 2, none⟩ = some (.bool pg) := (cell_of_row _ _ 2 _ _ _ hx0).trans rfl
          have x1_0 : W1.cell? ⟨g1, 0, none⟩ = some (vn) := (cell_of_row _ _ 0 _ _ _ hx1).trans rfl
          have x1_1 : W1.cell? ⟨g1, 1, none⟩ = some (.int .i64 vw) := (cell_of_row _ _ 1 _ _ _ hx1).trans rfl
          have x1_2 : W1.cell? ⟨g1, 2, none⟩ = some (.int .i64 vb) := (cell_of_row _ _ 2 _ _ _ hx1).trans rfl
          have x1_3 : W1.cell? ⟨g1, 3, none⟩ = some (vt) := (cell_of_row _ _ 3 _ _ _ hx1).trans rfl
          have x1_4 : W1.cell? ⟨g1, 4, none⟩ = some (vl) := (cell_of_row _ _ 4 _ _ _ hx1).trans rfl
          have HX0 := Lib.hid hx0
          clear hx0
          have HX1 := Lib.hid hx1
          clear hx1
          go_enter Try.func15, Try.ntmps15
          go_upto_region 1 with fail
          try simp only [World.size_alloc]
          rw [← hW1, ← hg1, ← hg0]
          clear hW1 hg0 hg1
          go_wp2
          go_ret
          exact ⟨ret_bool (by first | rfl | (simp [verbB]; done) | (simp [verbB, goB]; done) | (simp [verbB, goB, hO2]; done) | (simp [verbB, an, hA0]; done) | simp [verbB, goB, hO2, an, hA0]), HB0.out⟩
    | false =>
      cases wz with
      | true =>
        have x0_0 : W1.cell? ⟨g0, 0, none⟩ = some (.int .i64 id) := (cell_of_row _ _ 0 _ _ _ hx0).trans rfl
        have x0_1 : W1.cell? ⟨g0, 1, none⟩ = some (.bool true) := (cell_of_row _ _ 1 _ _ _ hx0).trans rfl
        have x0_2 : W1.cell? ⟨g0, 2, none⟩ = some (.bool pg) := (cell_of_row _ _ 2 _ _ _ hx0).trans rfl
        have x1_0 : W1.cell? ⟨g1, 0, none⟩ = some (vn) := (cell_of_row _ _ 0 _ _ _ hx1).trans rfl
        have x1_1 : W1.cell? ⟨g1, 1, none⟩ = some (.int .i64 vw) := (cell_of_row _ _ 1 _ _ _ hx1).trans rfl
        have x1_2 : W1.cell? ⟨g1, 2, none⟩ = some (.int .i64 vb) := (cell_of_row _ _ 2 _ _ _ hx1).trans rfl
        have x1_3 : W1.cell? ⟨g1, 3, none⟩ = some (vt) := (cell_of_row _ _ 3 _ _ _ hx1).trans rfl
        have x1_4 : W1.cell? ⟨g1, 4, none⟩ = some (vl) := (cell_of_row _ _ 4 _ _ _ hx1).trans rfl
        have HX0 := Lib.hid hx0
        clear hx0
        have HX1 := Lib.hid hx1
        clear hx1
        go_enter Try.func15, Try.ntmps15
        go_upto_region 1 with fail
        try simp only [World.size_alloc]
        rw [← hW1, ← hg1, ← hg0]
        clear hW1 hg0 hg1
        go_wp2
        go_ret
        exact ⟨ret_bool (by first | rfl | (simp [verbB]; done) | (simp [verbB, goB]; done) | (simp [verbB, goB, hO2]; done) | (simp [verbB, an, hA0]; done) | simp [verbB, goB, hO2, an, hA0]), HB0.out⟩
      | false =>
        cases hO : (vw == id) with
        | true =>
          have hO2 : (id == vw) = true := by rw [← hO]; exact BEq.comm
          have x0_0 : W1.cell? ⟨g0, 0, none⟩ = some (.int .i64 id) := (cell_of_row _ _ 0 _ _ _ hx0).trans rfl
          have x0_1 : W1.cell? ⟨g0, 1, none⟩ = some (.bool false) := (cell_of_row _ _ 1 _ _ _ hx0).trans rfl
          have x0_2 : W1.cell? ⟨g0, 2, none⟩ = some (.bool pg) := (cell_of_row _ _ 2 _ _ _ hx0).trans rfl
          have x1_0 : W1.cell? ⟨g1, 0, none⟩ = some (vn) := (cell_of_row _ _ 0 _ _ _ hx1).trans rfl
          have x1_1 : W1.cell? ⟨g1, 1, none⟩ = some (.int .i64 vw) := (cell_of_row _ _ 1 _ _ _ hx1).trans rfl
          have x1_2 : W1.cell? ⟨g1, 2, none⟩ = some (.int .i64 vb) := (cell_of_row _ _ 2 _ _ _ hx1).trans rfl
          have x1_3 : W1.cell? ⟨g1, 3, none⟩ = some (vt) := (cell_of_row _ _ 3 _ _ _ hx1).trans rfl
          have x1_4 : W1.cell? ⟨g1, 4, none⟩ = some (vl) := (cell_of_row _ _ 4 _ _ _ hx1).trans rfl
          have HX0 := Lib.hid hx0
          clear hx0
          have HX1 := Lib.hid hx1
          clear hx1
          go_enter Try.func15, Try.ntmps15
          go_upto_region 1 with fail
          try simp only [World.size_alloc]
          rw [← hW1, ← hg1, ← hg0]
          clear hW1 hg0 hg1
          go_wp2
          go_ret
          exact ⟨ret_bool (by first | rfl | (simp [verbB]; done) | (simp [verbB, goB]; done) | (simp [verbB, goB, hO2]; done) | (simp [verbB, an, hA0]; done) | simp [verbB, goB, hO2, an, hA0]), HB0.out⟩
        | false =>
          have hO2 : (id == vw) = false := by rw [← hO]; exact BEq.comm
          have x0_0 : W1.cell? ⟨g0, 0, none⟩ = some (.int .i64 id) := (cell_of_row _ _ 0 _ _ _ hx0).trans rfl
          have x0_1 : W1.cell? ⟨g0, 1, none⟩ = some (.bool false) := (cell_of_row _ _ 1 _ _ _ hx0).trans rfl
          have x0_2 : W1.cell? ⟨g0, 2, none⟩ = some (.bool pg) := (cell_of_row _ _ 2 _ _ _ hx0).trans rfl
          have x1_0 : W1.cell? ⟨g1, 0, none⟩ = some (vn) := (cell_of_row _ _ 0 _ _ _ hx1).trans rfl
          have x1_1 : W1.cell? ⟨g1, 1, none⟩ = some (.int .i64 vw) := (cell_of_row _ _ 1 _ _ _ hx1).trans rfl
          have x1_2 : W1.cell? ⟨g1, 2, none⟩ = some (.int .i64 vb) := (cell_of_row _ _ 2 _ _ _ hx1).trans rfl
          have x1_3 : W1.cell? ⟨g1, 3, none⟩ = some (vt) := (cell_of_row _ _ 3 _ _ _ hx1).trans rfl
          have x1_4 : W1.cell? ⟨g1, 4, none⟩ = some (vl) := (cell_of_row _ _ 4 _ _ _ hx1).trans rfl
          have HX0 := Lib.hid hx0
          clear hx0
          have HX1 := Lib.hid hx1
          clear hx1
          go_enter Try.func15, Try.ntmps15
          go_upto_region 1 with fail
          try simp only [World.size_alloc]
          rw [← hW1, ← hg1, ← hg0]
          clear hW1 hg0 hg1
          go_wp2
          go_ret
          exact ⟨ret_bool (by first | rfl | (simp [verbB]; done) | (simp [verbB, goB]; done) | (simp [verbB, goB, hO2]; done) | (simp [verbB, an, hA0]; done) | simp [verbB, goB, hO2, an, hA0]), HB0.out⟩
  by_cases h6 : op = 6
  · subst h6
    cases pg with
    | true =>
      cases hA1 : (bits .and .i64 vb 2 != 0) with
      | true =>
        cases wz with
        | true =>
          have x0_0 : W1.cell? ⟨g0, 0, none⟩ = some (.int .i64 id) := (cell_of_row _ _ 0 _ _ _ hx0).trans rfl
          have x0_1 : W1.cell? ⟨g0, 1, none⟩ = some (.bool true) := (cell_of_row _ _ 1 _ _ _ hx0).trans rfl
          have x0_2 : W1.cell? ⟨g0, 2, none⟩ = some (.bool true) := (cell_of_row _ _ 2 _ _ _ hx0).trans rfl
          have x1_0 : W1.cell? ⟨g1, 0, none⟩ = some (vn) := (cell_of_row _ _ 0 _ _ _ hx1).trans rfl
          have x1_1 : W1.cell? ⟨g1, 1, none⟩ = some (.int .i64 vw) := (cell_of_row _ _ 1 _ _ _ hx1).trans rfl
          have x1_2 : W1.cell? ⟨g1, 2, none⟩ = some (.int .i64 vb) := (cell_of_row _ _ 2 _ _ _ hx1).trans rfl
          have x1_3 : W1.cell? ⟨g1, 3, none⟩ = some (vt) := (cell_of_row _ _ 3 _ _ _ hx1).trans rfl
          have x1_4 : W1.cell? ⟨g1, 4, none⟩ = some (vl) := (cell_of_row _ _ 4 _ _ _ hx1).trans rfl
          have HX0 := Lib.hid hx0
          clear hx0
          have HX1 := Lib.hid hx1
          clear hx1
          go_enter Try.func15, Try.ntmps15
          go_upto_region 1 with fail
          try simp only [World.size_alloc]
          rw [← hW1, ← hg1, ← hg0]
          clear hW1 hg0 hg1
          go_wp2
          go_ret
          exact ⟨ret_bool (by first | rfl | (simp [verbB]; done) | (simp [verbB, goB]; done) | (simp [verbB, goB, hO2]; done) | (simp [verbB, an, hA1]; done) | simp [verbB, goB, hO2, an, hA1]), HB0.out⟩
        | false =>
          cases hO : (vw == id) with
          | true =>
            have hO2 : (id == vw) = true := by rw [← hO]; exact BEq.comm
            have x0_0 : W1.cell? ⟨g0, 0, none⟩ = some (.int .i64 id) := (cell_of_row _ _ 0 _ _ _ hx0).trans rfl
            have x0_1 : W1.cell? ⟨g0, 1, none⟩ = some (.bool false) := (cell_of_row _ _ 1 _ _ _ hx0).trans rfl
            have x0_2 : W1.cell? ⟨g0, 2, none⟩ = some (.bool true) := (cell_of_row _ _ 2 _ _ _ hx0).trans rfl
            have x1_0 : W1.cell? ⟨g1, 0, none⟩ = some (vn) := (cell_of_row _ _ 0 _ _ _ hx1).trans rfl
            have x1_1 : W1.cell? ⟨g1, 1, none⟩ = some (.int .i64 vw) := (cell_of_row _ _ 1 _ _ _ hx1).trans rfl
            have x1_2 : W1.cell? ⟨g1, 2, none⟩ = some (.int .i64 vb) := (cell_of_row _ _ 2 _ _ _ hx1).trans rfl
            have x1_3 : W1.cell? ⟨g1, 3, none⟩ = some (vt) := (cell_of_row _ _ 3 _ _ _ hx1).trans rfl
            have x1_4 : W1.cell? ⟨g1, 4, none⟩ = some (vl) := (cell_of_row _ _ 4 _ _ _ hx1).trans rfl
            have HX0 := Lib.hid hx0
            clear hx0
            have HX1 := Lib.hid hx1
            clear hx1
            go_enter Try.func15, Try.ntmps15
            go_upto_region 1 with fail
            try simp only [World.size_alloc]
            rw [← hW1, ← hg1, ← hg0]
            clear hW1 hg0 hg1
            go_wp2
            go_ret
            exact ⟨ret_bool (by first | rfl | (simp [verbB]; done) | (simp [verbB, goB]; done) | (simp [verbB, goB, hO2]; done) | (simp [verbB, an, hA1]; done) | simp [verbB, goB, hO2, an, hA1]), HB0.out⟩
          | false =>
            have hO2 : (id == vw) = false := by rw [← hO]; exact BEq.comm
            have x0_0 : W1.cell? ⟨g0, 0, none⟩ = some (.int .i64 id) := (cell_of_row _ _ 0 _ _ _ hx0).trans rfl
            have x0_1 : W1.cell? ⟨g0, 1, none⟩ = some (.bool false) := (cell_of_row _ _ 1 _ _ _ hx0).trans rfl
            have x0_2 : W1.cell? ⟨g0, 2, none⟩ = some (.bool true) := (cell_of_row _ _ 2 _ _ _ hx0).trans rfl
            have x1_0 : W1.cell? ⟨g1, 0, none⟩ = some (vn) := (cell_of_row _ _ 0 _ _ _ hx1).trans rfl
            have x1_1 : W1.cell? ⟨g1, 1, none⟩ = some (.int .i64 vw) := (cell_of_row _ _ 1 _ _ _ hx1).trans rfl
            have x1_2 : W1.cell? ⟨g1, 2, none⟩ = some (.int .i64 vb) := (cell_of_row _ _ 2 _ _ _ hx1).trans rfl
            have x1_3 : W1.cell? ⟨g1, 3, none⟩ = some (vt) := (cell_of_row _ _ 3 _ _ _ hx1).trans rfl
            have x1_4 : W1.cell? ⟨g1, 4, none⟩ = some (vl) := (cell_of_row _ _ 4 _ _ _ hx1).trans rfl
            have HX0 := Lib.hid hx0
            clear hx0
            have HX1 := Lib.hid hx1
            clear hx1
            go_enter Try.func15, Try.ntmps15
            go_upto_region 1 with fail
            try simp only [World.size_alloc]
            rw [← hW1, ← hg1, ← hg0]
            clear hW1 hg0 hg1
            go_wp2
            go_ret
            exact ⟨ret_bool (by first | rfl | (simp [verbB]; done) | (simp [verbB, goB]; done) | (simp [verbB, goB, hO2]; done) | (simp [verbB, an, hA1]; done) | simp [verbB, goB, hO2, an, hA1]), HB0.out⟩
      | false =>
        cases wz with
        | true =>
          have x0_0 : W1.cell? ⟨g0, 0, none⟩ = some (.int .i64 id) := (cell_of_row _ _ 0 _ _ _ hx0).trans rfl
          have x0_1 : W1.cell? ⟨g0, 1, none⟩ = some (.bool true) := (cell_of_row _ _ 1 _ _ _ hx0).trans rfl
          have x0_2 : W1.cell? ⟨g0, 2, none⟩ = some (.bool true) := (cell_of_row _ _ 2 _ _ _ hx0).trans rfl
          have x1_0 : W1.cell? ⟨g1, 0, none⟩ = some (vn) := (cell_of_row _ _ 0 _ _ _ hx1).trans rfl
          have x1_1 : W1.cell? ⟨g1, 1, none⟩ = some (.int .i64 vw) := (cell_of_row _ _ 1 _ _ _ hx1).trans rfl
          have x1_2 : W1.cell? ⟨g1, 2, none⟩ = some (.int .i64 vb) := (cell_of_row _ _ 2 _ _ _ hx1).trans rfl
          have x1_3 : W1.cell? ⟨g1, 3, none⟩ = some (vt) := (cell_of_row _ _ 3 _ _ _ hx1).trans rfl
          have x1_4 : W1.cell? ⟨g1, 4, none⟩ = some (vl) := (cell_of_row _ _ 4 _ _ _ hx1).trans rfl
          have HX0 := Lib.hid hx0
          clear hx0
          have HX1 := Lib.hid hx1
          clear hx1
          go_enter Try.func15, Try.ntmps15
          go_upto_region 1 with fail
          try simp only [World.size_alloc]
          rw [← hW1, ← hg1, ← hg0]
          clear hW1 hg0 hg1
          go_wp2
          go_ret
          exact ⟨ret_bool (by first | rfl | (simp [verbB]; done) | (simp [verbB, goB]; done) | (simp [verbB, goB, hO2]; done) | (simp [verbB, an, hA1]; done) | simp [verbB, goB, hO2, an, hA1]), HB0.out⟩
        | false =>
          cases hO : (vw == id) with
          | true =>
            have hO2 : (id == vw) = true := by rw [← hO]; exact BEq.comm
            have x0_0 : W1.cell? ⟨g0, 0, none⟩ = some (.int .i64 id) := (cell_of_row _ _ 0 _ _ _ hx0).trans rfl
            have x0_1 : W1.cell? ⟨g0, 1, none⟩ = some (.bool false) := (cell_of_row _ _ 1 _ _ _ hx0).trans rfl
            have x0_2 : W1.cell? ⟨g0, 2, none⟩ = some (.bool true) := (cell_of_row _ _ 2 _ _ _ hx0).trans rfl
            have x1_0 : W1.cell? ⟨g1, 0, none⟩ = some (vn) := (cell_of_row _ _ 0 _ _ _ hx1).trans rfl
            have x1_1 : W1.cell? ⟨g1, 1, none⟩ = some (.int .i64 vw) := (cell_of_row _ _ 1 _ _ _ hx1).trans rfl
            have x1_2 : W1.cell? ⟨g1, 2, none⟩ = some (.int .i64 vb) := (cell_of_row _ _ 2 _ _ _ hx1).trans rfl
            have x1_3 : W1.cell? ⟨g1, 3, none⟩ = some (vt) := (cell_of_row _ _ 3 _ _ _ hx1).trans rfl
            have x1_4 : W1.cell? ⟨g1, 4, none⟩ = some (vl) := (cell_of_row _ _ 4 _ _ _ hx1).trans rfl
            have HX0 := Lib.hid hx0
            clear hx0
            have HX1 := Lib.hid hx1
            clear hx1
            go_enter Try.func15, Try.ntmps15
            go_upto_region 1 with fail
            try simp only [World.size_alloc]
            rw [← hW1, ← hg1, ← hg0]
            clear hW1 hg0 hg1
            go_wp2
            go_ret
            exact ⟨ret_bool (by first | rfl | (simp [verbB]; done) | (simp [verbB, goB]; done) | (simp [verbB, goB, hO2]; done) | (simp [verbB, an, hA1]; done) | simp [verbB, goB, hO2, an, hA1]), HB0.out⟩
          | false =>
            have hO2 : (id == vw) = false := by rw [← hO]; exact BEq.comm
            have x0_0 : W1.cell? ⟨g0, 0, none⟩ = some (.int .i64 id) := (cell_of_row _ _ 0 _ _ _ hx0).trans rfl
            have x0_1 : W1.cell? ⟨g0, 1, none⟩ = some (.bool false) := (cell_of_row _ _ 1 _ _ _ hx0).trans rfl
            have x0_2 : W1.cell? ⟨g0, 2, none⟩ = some (.bool true) := (cell_of_row _ _ 2 _ _ _ hx0).trans rfl
            have x1_0 : W1.cell? ⟨g1, 0, none⟩ = some (vn) := (cell_of_row _ _ 0 _ _ _ hx1).trans rfl
            have x1_1 : W1.cell? ⟨g1, 1, none⟩ = some (.int .i64 vw) := (cell_of_row _ _ 1 _ _ _ hx1).trans rfl
            have x1_2 : W1.cell? ⟨g1, 2, none⟩ = some (.int .i64 vb) := (cell_of_row _ _ 2 _ _ _ hx1).trans rfl
            have x1_3 : W1.cell? ⟨g1, 3, none⟩ = some (vt) := (cell_of_row _ _ 3 _ _ _ hx1).trans rfl
            have x1_4 : W1.cell? ⟨g1, 4, none⟩ = some (vl) := (cell_of_row _ _ 4 _ _ _ hx1).trans rfl
            have HX0 := Lib.hid hx0
            clear hx0
            have HX1 := Lib.hid hx1
            clear hx1
            go_enter Try.func15, Try.ntmps15
            go_upto_region 1 with fail
            try simp only [World.size_alloc]
            rw [← hW1, ← hg1, ← hg0]
            clear hW1 hg0 hg1
            go_wp2
            go_ret
            exact ⟨ret_bool (by first | rfl | (simp [verbB]; done) | (simp [verbB, goB]; done) | (simp [verbB, goB, hO2]; done) | (simp [verbB, an, hA1]; done) | simp [verbB, goB, hO2, an, hA1]), HB0.out⟩
    | false =>
      cases wz with
      | true =>
        have x0_0 : W1.cell? ⟨g0, 0, none⟩ = some (.int .i64 id) := (cell_of_row _ _ 0 _ _ _ hx0).trans rfl
        have x0_1 : W1.cell? ⟨g0, 1, none⟩ = some (.bool true) := (cell_of_row _ _ 1 _ _ _ hx0).trans rfl
        have x0_2 : W1.cell? ⟨g0, 2, none⟩ = some (.bool false) := (cell_of_row _ _ 2 _ _ _ hx0).trans rfl
        have x1_0 : W1.cell? ⟨g1, 0, none⟩ = some (vn) := (cell_of_row _ _ 0 _ _ _ hx1).trans rfl
        have x1_1 : W1.cell? ⟨g1, 1, none⟩ = some (.int .i64 vw) := (cell_of_row _ _ 1 _ _ _ hx1).trans rfl
        have x1_2 : W1.cell? ⟨g1, 2, none⟩ = some (.int .i64 vb) := (cell_of_row _ _ 2 _ _ _ hx1).trans rfl
        have x1_3 : W1.cell? ⟨g1, 3, none⟩ = some (vt) := (cell_of_row _ _ 3 _ _ _ hx1).trans rfl
        have x1_4 : W1.cell? ⟨g1, 4, none⟩ = some (vl) := (cell_of_row _ _ 4 _ _ _ hx1).trans rfl
        have HX0 := Lib.hid hx0
        clear hx0
        have HX1 := Lib.hid hx1
        clear hx1
        go_enter Try.func15, Try.ntmps15
        go_upto_region 1 with fail
        try simp only [World.size_alloc]
        rw [← hW1, ← hg1, ← hg0]
        clear hW1 hg0 hg1
        go_wp2
        go_ret
        exact ⟨ret_bool (by first | rfl | (simp [verbB]; done) | (simp [verbB, goB]; done) | (simp [verbB, goB, hO2]; done) | simp [verbB, goB, hO2, an]), HB0.out⟩
      | false =>
        cases hO : (vw == id) with
        | true =>
          have hO2 : (id == vw) = true := by rw [← hO]; exact BEq.comm
          have x0_0 : W1.cell? ⟨g0, 0, none⟩ = some (.int .i64 id) := (cell_of_row _ _ 0 _ _ _ hx0).trans rfl
          have x0_1 : W1.cell? ⟨g0, 1, none⟩ = some (.bool false) := (cell_of_row _ _ 1 _ _ _ hx0).trans rfl
          have x0_2 : W1.cell? ⟨g0, 2, none⟩ = some (.bool false) := (cell_of_row _ _ 2 _ _ _ hx0).trans rfl
          have x1_0 : W1.cell? ⟨g1, 0, none⟩ = some (vn) := (cell_of_row _ _ 0 _ _ _ hx1).trans rfl
          have x1_1 : W1.cell? ⟨g1, 1, none⟩ = some (.int .i64 vw) := (cell_of_row _ _ 1 _ _ _ hx1).trans rfl
          have x1_2 : W1.cell? ⟨g1, 2, none⟩ = some (.int .i64 vb) := (cell_of_row _ _ 2 _ _ _ hx1).trans rfl
          have x1_3 : W1.cell? ⟨g1, 3, none⟩ = some (vt) := (cell_of_row _ _ 3 _ _ _ hx1).trans rfl
          have x1_4 : W1.cell? ⟨g1, 4, none⟩ = some (vl) := (cell_of_row _ _ 4 _ _ _ hx1).trans rfl
          have HX0 := Lib.hid hx0
          clear hx0
          have HX1 := Lib.hid hx1
          clear hx1
          go_enter Try.func15, Try.ntmps15
          go_upto_region 1 with fail
          try simp only [World.size_alloc]
          rw [← hW1, ← hg1, ← hg0]
          clear hW1 hg0 hg1
          go_wp2
          go_ret
          exact ⟨ret_bool (by first | rfl | (simp [verbB]; done) | (simp [verbB, goB]; done) | (simp [verbB, goB, hO2]; done) | simp [verbB, goB, hO2, an]), HB0.out⟩
        | false =>
          have hO2 : (id == vw) = false := by rw [← hO]; exact BEq.comm
          have x0_0 : W1.cell? ⟨g0, 0, none⟩ = some (.int .i64 id) := (cell_of_row _ _ 0 _ _ _ hx0).trans rfl
          have x0_1 : W1.cell? ⟨g0, 1, none⟩ = some (.bool false) := (cell_of_row _ _ 1 _ _ _ hx0).trans rfl
          have x0_2 : W1.cell? ⟨g0, 2, none⟩ = some (.bool false) := (cell_of_row _ _ 2 _ _ _ hx0).trans rfl
          have x1_0 : W1.cell? ⟨g1, 0, none⟩ = some (vn) := (cell_of_row _ _ 0 _ _ _ hx1).trans rfl
          have x1_1 : W1.cell? ⟨g1, 1, none⟩ = some (.int .i64 vw) := (cell_of_row _ _ 1 _ _ _ hx1).trans rfl
          have x1_2 : W1.cell? ⟨g1, 2, none⟩ = some (.int .i64 vb) := (cell_of_row _ _ 2 _ _ _ hx1).trans rfl
          have x1_3 : W1.cell? ⟨g1, 3, none⟩ = some (vt) := (cell_of_row _ _ 3 _ _ _ hx1).trans rfl
          have x1_4 : W1.cell? ⟨g1, 4, none⟩ = some (vl) := (cell_of_row _ _ 4 _ _ _ hx1).trans rfl
          have HX0 := Lib.hid hx0
          clear hx0
          have HX1 := Lib.hid hx1
          clear hx1
          go_enter Try.func15, Try.ntmps15
          go_upto_region 1 with fail
          try simp only [World.size_alloc]
          rw [← hW1, ← hg1, ← hg0]
          clear hW1 hg0 hg1
          go_wp2
          go_ret
          exact ⟨ret_bool (by first | rfl | (simp [verbB]; done) | (simp [verbB, goB]; done) | (simp [verbB, goB, hO2]; done) | simp [verbB, goB, hO2, an]), HB0.out⟩
  by_cases h7 : op = 7
  · subst h7
    cases hA0 : (bits .and .i64 vb 4 != 0) with
    | true =>
      cases wz with
      | true =>
        have x0_0 : W1.cell? ⟨g0, 0, none⟩ = some (.int .i64 id) := (cell_of_row _ _ 0 _ _ _ hx0).trans rfl
        have x0_1 : W1.cell? ⟨g0, 1, none⟩ = some (.bool true) := (cell_of_row _ _ 1 _ _ _ hx0).trans rfl
        have x0_2 : W1.cell? ⟨g0, 2, none⟩ = some (.bool pg) := (cell_of_row _ _ 2 _ _ _ hx0).trans rfl
        have x1_0 : W1.cell? ⟨g1, 0, none⟩ = some (vn) := (cell_of_row _ _ 0 _ _ _ hx1).trans rfl
        have x1_1 : W1.cell? ⟨g1, 1, none⟩ = some (.int .i64 vw) := (cell_of_row _ _ 1 _ _ _ hx1).trans rfl
        have x1_2 : W1.cell? ⟨g1, 2, none⟩ = some (.int .i64 vb) := (cell_of_row _ _ 2 _ _ _ hx1).trans rfl
        have x1_3 : W1.cell? ⟨g1, 3, none⟩ = some (vt) := (cell_of_row _ _ 3 _ _ _ hx1).trans rfl
        have x1_4 : W1.cell? ⟨g1, 4, none⟩ = some (vl) := (cell_of_row _ _ 4 _ _ _ hx1).trans rfl
        have HX0 := Lib.hid hx0
        clear hx0
        have HX1 := Lib.hid hx1
        clear hx1
        go_enter Try.func15, Try.ntmps15
        go_upto_region 1 with fail
        try simp only [World.size_alloc]
        rw [← hW1, ← hg1, ← hg0]
        clear hW1 hg0 hg1
        go_wp2
        go_ret
        exact ⟨ret_bool (by simp [verbB, an, hA0]), HB0.out⟩
      | false =>
        cases hO : (vw == id) with
        | true =>
          have hO2 : (id == vw) = true := by rw [← hO]; exact BEq.comm
          have x0_0 : W1.cell? ⟨g0, 0, none⟩ = some (.int .i64 id) := (cell_of_row _ _ 0 _ _ _ hx0).trans rfl
          have x0_1 : W1.cell? ⟨g0, 1, none⟩ = some (.bool false) := (cell_of_row _ _ 1 _ _ _ hx0).trans rfl
          have x0_2 : W1.cell? ⟨g0, 2, none⟩ = some (.bool pg) := (cell_of_row _ _ 2 _ _ _ hx0).trans rfl
          have x1_0 : W1.cell? ⟨g1, 0, none⟩ = some (vn) := (cell_of_row _ _ 0 _ _ _ hx1).trans rfl
          have x1_1 : W1.cell? ⟨g1, 1, none⟩ = some (.int .i64 vw) := (cell_of_row _ _ 1 _ _ _ hx1).trans rfl
          have x1_2 : W1.cell? ⟨g1, 2, none⟩ = some (.int .i64 vb) := (cell_of_row _ _ 2 _ _ _ hx1).trans rfl
          have x1_3 : W1.cell? ⟨g1, 3, none⟩ = some (vt) := (cell_of_row _ _ 3 _ _ _ hx1).trans rfl
          have x1_4 : W1.cell? ⟨g1, 4, none⟩ = some (vl) := (cell_of_row _ _ 4 _ _ _ hx1).trans rfl
          have HX0 := Lib.hid hx0
          clear hx0
          have HX1 := Lib.hid hx1
          clear hx1
          go_enter Try.func15, Try.ntmps15
          go_upto_region 1 with fail
          try simp only [World.size_alloc]
          rw [← hW1, ← hg1, ← hg0]
          clear hW1 hg0 hg1
          go_wp2
          go_ret
          exact ⟨ret_bool (by simp [verbB, an, hA0]), HB0.out⟩
        | false =>
          have hO2 : (id == vw) = false := by rw [← hO]; exact BEq.comm
          have x0_0 : W1.cell? ⟨g0, 0, none⟩ = some (.int .i64 id) := (cell_of_row _ _ 0 _ _ _ hx0).trans rfl
          have x0_1 : W1.cell? ⟨g0, 1, none⟩ = some (.bool false) := (cell_of_row _ _ 1 _ _ _ hx0).trans rfl
          have x0_2 : W1.cell? ⟨g0, 2, none⟩ = some (.bool pg) := (cell_of_row _ _ 2 _ _ _ hx0).trans rfl
          have x1_0 : W1.cell? ⟨g1, 0, none⟩ = some (vn) := (cell_of_row _ _ 0 _ _ _ hx1).trans rfl
          have x1_1 : W1.cell? ⟨g1, 1, none⟩ = some (.int .i64 vw) := (cell_of_row _ _ 1 _ _ _ hx1).trans rfl
          have x1_2 : W1.cell? ⟨g1, 2, none⟩ = some (.int .i64 vb) := (cell_of_row _ _ 2 _ _ _ hx1).trans rfl
          have x1_3 : W1.cell? ⟨g1, 3, none⟩ = some (vt) := (cell_of_row _ _ 3 _ _ _ hx1).trans rfl
          have x1_4 : W1.cell? ⟨g1, 4, none⟩ = some (vl) := (cell_of_row _ _ 4 _ _ _ hx1).trans rfl
          have HX0 := Lib.hid hx0
          clear hx0
          have HX1 := Lib.hid hx1
          clear hx1
          go_enter Try.func15, Try.ntmps15
          go_upto_region 1 with fail
          try simp only [World.size_alloc]
          rw [← hW1, ← hg1, ← hg0]
          clear hW1 hg0 hg1
          go_wp2
          go_ret
          exact ⟨ret_bool (by simp [verbB, an, hA0]), HB0.out⟩
    | false =>
      cases wz with
      | true =>
        have x0_0 : W1.cell? ⟨g0, 0, none⟩ = some (.int .i64 id) := (cell_of_row _ _ 0 _ _ _ hx0).trans rfl
        have x0_1 : W1.cell? ⟨g0, 1, none⟩ = some (.bool true) := (cell_of_row _ _ 1 _ _ _ hx0).trans rfl
        have x0_2 : W1.cell? ⟨g0, 2, none⟩ = some (.bool pg) := (cell_of_row _ _ 2 _ _ _ hx0).trans rfl
        have x1_0 : W1.cell? ⟨g1, 0, none⟩ = some (vn) := (cell_of_row _ _ 0 _ _ _ hx1).trans rfl
        have x1_1 : W1.cell? ⟨g1, 1, none⟩ = some (.int .i64 vw) := (cell_of_row _ _ 1 _ _ _ hx1).trans rfl
        have x1_2 : W1.cell? ⟨g1, 2, none⟩ = some (.int .i64 vb) := (cell_of_row _ _ 2 _ _ _ hx1).trans rfl
        have x1_3 : W1.cell? ⟨g1, 3, none⟩ = some (vt) := (cell_of_row _ _ 3 _ _ _ hx1).trans rfl
        have x1_4 : W1.cell? ⟨g1, 4, none⟩ = some (vl) := (cell_of_row _ _ 4 _ _ _ hx1).trans rfl
        have HX0 := Lib.hid hx0
        clear hx0
        have HX1 := Lib.hid hx1
        clear hx1
        go_enter Try.func15, Try.ntmps15
        go_upto_region 1 with fail
        try simp only [World.size_alloc]
        rw [← hW1, ← hg1, ← hg0]
        clear hW1 hg0 hg1
        go_wp2
        go_ret
        exact ⟨ret_bool (by simp [verbB, an, hA0]), HB0.out⟩
      | false =>
        cases hO : (vw == id) with
        | true =>
          have hO2 : (id == vw) = true := by rw [← hO]; exact BEq.comm
          have x0_0 : W1.cell? ⟨g0, 0, none⟩ = some (.int .i64 id) := (cell_of_row _ _ 0 _ _ _ hx0).trans rfl
          have x0_1 : W1.cell? ⟨g0, 1, none⟩ = some (.bool false) := (cell_of_row _ _ 1 _ _ _ hx0).trans rfl
          have x0_2 : W1.cell? ⟨g0, 2, none⟩ = some (.bool pg) := (cell_of_row _ _ 2 _ _ _ hx0).trans rfl
          have x1_0 : W1.cell? ⟨g1, 0, none⟩ = some (vn) := (cell_of_row _ _ 0 _ _ _ hx1).trans rfl
          have x1_1 : W1.cell? ⟨g1, 1, none⟩ = some (.int .i64 vw) := (cell_of_row _ _ 1 _ _ _ hx1).trans rfl
          have x1_2 : W1.cell? ⟨g1, 2, none⟩ = some (.int .i64 vb) := (cell_of_row _ _ 2 _ _ _ hx1).trans rfl
          have x1_3 : W1.cell? ⟨g1, 3, none⟩ = some (vt) := (cell_of_row _ _ 3 _ _ _ hx1).trans rfl
          have x1_4 : W1.cell? ⟨g1, 4, none⟩ = some (vl) := (cell_of_row _ _ 4 _ _ _ hx1).trans rfl
          have HX0 := Lib.hid hx0
          clear hx0
          have HX1 := Lib.hid hx1
          clear hx1
          go_enter Try.func15, Try.ntmps15
          go_upto_region 1 with fail
          try simp only [World.size_alloc]
          rw [← hW1, ← hg1, ← hg0]
          clear hW1 hg0 hg1
          go_wp2
          go_ret
          exact ⟨ret_bool (by simp [verbB, an, hA0]), HB0.out⟩
        | false =>
          have hO2 : (id == vw) = false := by rw [← hO]; exact BEq.comm
          have x0_0 : W1.cell? ⟨g0, 0, none⟩ = some (.int .i64 id) := (cell_of_row _ _ 0 _ _ _ hx0).trans rfl
          have x0_1 : W1.cell? ⟨g0, 1, none⟩ = some (.bool false) := (cell_of_row _ _ 1 _ _ _ hx0).trans rfl
          have x0_2 : W1.cell? ⟨g0, 2, none⟩ = some (.bool pg) := (cell_of_row _ _ 2 _ _ _ hx0).trans rfl
          have x1_0 : W1.cell? ⟨g1, 0, none⟩ = some (vn) := (cell_of_row _ _ 0 _ _ _ hx1).trans rfl
          have x1_1 : W1.cell? ⟨g1, 1, none⟩ = some (.int .i64 vw) := (cell_of_row _ _ 1 _ _ _ hx1).trans rfl
          have x1_2 : W1.cell? ⟨g1, 2, none⟩ = some (.int .i64 vb) := (cell_of_row _ _ 2 _ _ _ hx1).trans rfl
          have x1_3 : W1.cell? ⟨g1, 3, none⟩ = some (vt) := (cell_of_row _ _ 3 _ _ _ hx1).trans rfl
          have x1_4 : W1.cell? ⟨g1, 4, none⟩ = some (vl) := (cell_of_row _ _ 4 _ _ _ hx1).trans rfl
          have HX0 := Lib.hid hx0
          clear hx0
          have HX1 := Lib.hid hx1
          clear hx1
          go_enter Try.func15, Try.ntmps15
          go_upto_region 1 with fail
          try simp only [World.size_alloc]
          rw [← hW1, ← hg1, ← hg0]
          clear hW1 hg0 hg1
          go_wp2
          go_ret
          exact ⟨ret_bool (by simp [verbB, an, hA0]), HB0.out⟩
  have e5 : (op == 5) = false := by simpa using h5
  have e6 : (op == 6) = false := by simpa using h6
  have e7 : (op == 7) = false := by simpa using h7
  cases wz with
  | true =>
    have x0_0 : W1.cell? ⟨g0, 0, none⟩ = some (.int .i64 id) := (cell_of_row _ _ 0 _ _ _ hx0).trans rfl
    have x0_1 : W1.cell? ⟨g0, 1, none⟩ = some (.bool true) := (cell_of_row _ _ 1 _ _ _ hx0).trans rfl
    have x0_2 : W1.cell? ⟨g0, 2, none⟩ = some (.bool pg) := (cell_of_row _ _ 2 _ _ _ hx0).trans rfl
    have x1_0 : W1.cell? ⟨g1, 0, none⟩ = some (vn) := (cell_of_row _ _ 0 _ _ _ hx1).trans rfl
    have x1_1 : W1.cell? ⟨g1, 1, none⟩ = some (.int .i64 vw) := (cell_of_row _ _ 1 _ _ _ hx1).trans rfl
    have x1_2 : W1.cell? ⟨g1, 2, none⟩ = some (.int .i64 vb) := (cell_of_row _ _ 2 _ _ _ hx1).trans rfl
    have x1_3 : W1.cell? ⟨g1, 3, none⟩ = some (vt) := (cell_of_row _ _ 3 _ _ _ hx1).trans rfl
    have x1_4 : W1.cell? ⟨g1, 4, none⟩ = some (vl) := (cell_of_row _ _ 4 _ _ _ hx1).trans rfl
    have HX0 := Lib.hid hx0
    clear hx0
    have HX1 := Lib.hid hx1
    clear hx1
    go_enter Try.func15, Try.ntmps15
    go_upto_region 1 with fail
    try simp only [World.size_alloc]
    rw [← hW1, ← hg1, ← hg0]
    clear hW1 hg0 hg1
    go_wp2
    go_ret
    exact ⟨ret_bool (by simp [verbB, h5, h6, h7]), HB0.out⟩
  | false =>
    cases hO : (vw == id) with
    | true =>
      have hO2 : (id == vw) = true := by rw [← hO]; exact BEq.comm
      have x0_0 : W1.cell? ⟨g0, 0, none⟩ = some (.int .i64 id) := (cell_of_row _ _ 0 _ _ _ hx0).trans rfl
      have x0_1 : W1.cell? ⟨g0, 1, none⟩ = some (.bool false) := (cell_of_row _ _ 1 _ _ _ hx0).trans rfl
      have x0_2 : W1.cell? ⟨g0, 2, none⟩ = some (.bool pg) := (cell_of_row _ _ 2 _ _ _ hx0).trans rfl
      have x1_0 : W1.cell? ⟨g1, 0, none⟩ = some (vn) := (cell_of_row _ _ 0 _ _ _ hx1).trans rfl
      have x1_1 : W1.cell? ⟨g1, 1, none⟩ = some (.int .i64 vw) := (cell_of_row _ _ 1 _ _ _ hx1).trans rfl
      have x1_2 : W1.cell? ⟨g1, 2, none⟩ = some (.int .i64 vb) := (cell_of_row _ _ 2 _ _ _ hx1).trans rfl
      have x1_3 : W1.cell? ⟨g1, 3, none⟩ = some (vt) := (cell_of_row _ _ 3 _ _ _ hx1).trans rfl
      have x1_4 : W1.cell? ⟨g1, 4, none⟩ = some (vl) := (cell_of_row _ _ 4 _ _ _ hx1).trans rfl
      have HX0 := Lib.hid hx0
      clear hx0
      have HX1 := Lib.hid hx1
      clear hx1
      go_enter Try.func15, Try.ntmps15
      go_upto_region 1 with fail
      try simp only [World.size_alloc]
      rw [← hW1, ← hg1, ← hg0]
      clear hW1 hg0 hg1
      go_wp2
      go_ret
      exact ⟨ret_bool (by simp [verbB, h5, h6, h7]), HB0.out⟩
    | false =>
      have hO2 : (id == vw) = false := by rw [← hO]; exact BEq.comm
      have x0_0 : W1.cell? ⟨g0, 0, none⟩ = some (.int .i64 id) := (cell_of_row _ _ 0 _ _ _ hx0).trans rfl
      have x0_1 : W1.cell? ⟨g0, 1, none⟩ = some (.bool false) := (cell_of_row _ _ 1 _ _ _ hx0).trans rfl
      have x0_2 : W1.cell? ⟨g0, 2, none⟩ = some (.bool pg) := (cell_of_row _ _ 2 _ _ _ hx0).trans rfl
      have x1_0 : W1.cell? ⟨g1, 0, none⟩ = some (vn) := (cell_of_row _ _ 0 _ _ _ hx1).trans rfl
      have x1_1 : W1.cell? ⟨g1, 1, none⟩ = some (.int .i64 vw) := (cell_of_row _ _ 1 _ _ _ hx1).trans rfl
      have x1_2 : W1.cell? ⟨g1, 2, none⟩ = some (.int .i64 vb) := (cell_of_row _ _ 2 _ _ _ hx1).trans rfl
      have x1_3 : W1.cell? ⟨g1, 3, none⟩ = some (vt) := (cell_of_row _ _ 3 _ _ _ hx1).trans rfl
      have x1_4 : W1.cell? ⟨g1, 4, none⟩ = some (vl) := (cell_of_row _ _ 4 _ _ _ hx1).trans rfl
      have HX0 := Lib.hid hx0
      clear hx0
      have HX1 := Lib.hid hx1
      clear hx1
      go_enter Try.func15, Try.ntmps15
      go_upto_region 1 with fail
      try simp only [World.size_alloc]
      rw [← hW1, ← hg1, ← hg0]
      clear hW1 hg0 hg1
      go_wp2
      go_ret
      exact ⟨ret_bool (by simp [verbB, h5, h6, h7]), HB0.out⟩
end Go.Proofs.Ytemkikjcjhmlaaa.Pm
