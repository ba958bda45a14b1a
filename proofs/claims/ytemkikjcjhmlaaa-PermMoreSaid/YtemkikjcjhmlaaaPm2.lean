/- Package perm: who may what. Printed by gen_perm.py. -/
import Derived.Test.YtemkikjcjhmlaaaPm
namespace Go.Proofs.Ytemkikjcjhmlaaa.Pm
open Go.RowKit
set_option maxRecDepth 100000

set_option maxHeartbeats 2000000 in
theorem controls_any (id : Int) (wz pg : Bool) (oi op ow ol of oq : Int) (on od os ov : Value) (w : World) : Calls Try.prog 10 #[.agg #[.int .i64 id, .bool wz, .bool pg], .agg #[.int .i64 oi, .int .i64 op, .int .i64 ow, .int .i64 ol, .int .i64 of, .int .i64 oq, on, od, os, ov]] w fun e w' => e = .returned (.bool (goB id wz ow)) ∧ Below w.heap.size w w' := by
  obtain ⟨W1, hW1⟩ : ∃ W1, W1 = ((w.alloc (.cells #[.int .i64 id, .bool wz, .bool pg] 23)).alloc (.cells #[.int .i64 oi, .int .i64 op, .int .i64 ow, .int .i64 ol, .int .i64 of, .int .i64 oq, on, od, os, ov] 36)) := ⟨_, rfl⟩
  have hb0 : Below w.heap.size w W1 := hW1 ▸ ((Below.refl w.heap.size w).alloc (Nat.le_refl _) _).alloc (by simp) _
  have hx0 : W1.heap[w.heap.size]? = some (.cells #[.int .i64 id, .bool wz, .bool pg] 23 (0, 0)) := by
    have h := heap_alloc_new w (.cells #[.int .i64 id, .bool wz, .bool pg] 23)
    rw [hW1]
    rw [Below.heap_alloc _ _ _ (by simp only [World.size_alloc]; omega)]
    exact h
  have hx1 : W1.heap[w.heap.size + 1]? = some (.cells #[.int .i64 oi, .int .i64 op, .int .i64 ow, .int .i64 ol, .int .i64 of, .int .i64 oq, on, od, os, ov] 36 (0, 0)) := by
    have h := heap_alloc_new (w.alloc (.cells #[.int .i64 id, .bool wz, .bool pg] 23)) (.cells #[.int .i64 oi, .int .i64 op, .int .i64 ow, .int .i64 ol, .int .i64 of, .int .i64 oq, on, od, os, ov] 36)
    simp only [World.size_alloc] at h
    rw [hW1]
    exact h
  obtain ⟨g0, hg0⟩ : ∃ g, g = w.heap.size := ⟨_, rfl⟩
  rw [← hg0] at hx0
  have hl0 : g0 < W1.heap.size := (Array.getElem?_eq_some_iff.1 hx0).1
  obtain ⟨g1, hg1⟩ : ∃ g, g = w.heap.size + 1 := ⟨_, rfl⟩
  rw [← hg1] at hx1
  have hl1 : g1 < W1.heap.size := (Array.getElem?_eq_some_iff.1 hx1).1
  have HB0 := Lib.hid hb0
  clear hb0
  have x0_0 : W1.cell? ⟨g0, 0, none⟩ = some (.int .i64 id) := (cell_of_row _ _ 0 _ _ _ hx0).trans rfl
  have x0_1 : W1.cell? ⟨g0, 1, none⟩ = some (.bool wz) := (cell_of_row _ _ 1 _ _ _ hx0).trans rfl
  have x0_2 : W1.cell? ⟨g0, 2, none⟩ = some (.bool pg) := (cell_of_row _ _ 2 _ _ _ hx0).trans rfl
  have x1_0 : W1.cell? ⟨g1, 0, none⟩ = some (.int .i64 oi) := (cell_of_row _ _ 0 _ _ _ hx1).trans rfl
  have x1_1 : W1.cell? ⟨g1, 1, none⟩ = some (.int .i64 op) := (cell_of_row _ _ 1 _ _ _ hx1).trans rfl
  have x1_2 : W1.cell? ⟨g1, 2, none⟩ = some (.int .i64 ow) := (cell_of_row _ _ 2 _ _ _ hx1).trans rfl
  have x1_3 : W1.cell? ⟨g1, 3, none⟩ = some (.int .i64 ol) := (cell_of_row _ _ 3 _ _ _ hx1).trans rfl
  have x1_4 : W1.cell? ⟨g1, 4, none⟩ = some (.int .i64 of) := (cell_of_row _ _ 4 _ _ _ hx1).trans rfl
  have x1_5 : W1.cell? ⟨g1, 5, none⟩ = some (.int .i64 oq) := (cell_of_row _ _ 5 _ _ _ hx1).trans rfl
  have x1_6 : W1.cell? ⟨g1, 6, none⟩ = some (on) := (cell_of_row _ _ 6 _ _ _ hx1).trans rfl
  have x1_7 : W1.cell? ⟨g1, 7, none⟩ = some (od) := (cell_of_row _ _ 7 _ _ _ hx1).trans rfl
  have x1_8 : W1.cell? ⟨g1, 8, none⟩ = some (os) := (cell_of_row _ _ 8 _ _ _ hx1).trans rfl
  have x1_9 : W1.cell? ⟨g1, 9, none⟩ = some (ov) := (cell_of_row _ _ 9 _ _ _ hx1).trans rfl
  have HX0 := Lib.hid hx0
  clear hx0
  have HX1 := Lib.hid hx1
  clear hx1
  have C1 := Lib.hid (goesFor_any id wz pg ow W1)
  go_enter Try.func10, Try.ntmps10
  go_upto_region 1 with fail
  try simp only [World.size_alloc]
  rw [← hW1, ← hg1, ← hg0]
  clear hW1 hg0 hg1
  go_wp2_with (first
    | (go_at_call 21; (with_reducible refine C1.out.mono ?_); rintro e w2 ⟨rfl, hb2⟩; have HB0 := Lib.hid (HB0.out.trans (hb2.mono HB0.out.size)); clear hb2))
  go_ret
  exact ⟨ret_bool (by rfl), HB0.out⟩
set_option maxHeartbeats 2000000 in
theorem parent_any (id : Int) (wz pg : Bool) (pi pp pw pl pf pq : Int) (pn pd ps pv : Value) (w : World) : Calls Try.prog 22 #[.agg #[.int .i64 id, .bool wz, .bool pg], .agg #[.int .i64 pi, .int .i64 pp, .int .i64 pw, .int .i64 pl, .int .i64 pf, .int .i64 pq, pn, pd, ps, pv]] w fun e w' => e = .returned (.bool (an pf 32 || goB id wz pw)) ∧ Below w.heap.size w w' := by
  obtain ⟨W1, hW1⟩ : ∃ W1, W1 = ((w.alloc (.cells #[.int .i64 id, .bool wz, .bool pg] 23)).alloc (.cells #[.int .i64 pi, .int .i64 pp, .int .i64 pw, .int .i64 pl, .int .i64 pf, .int .i64 pq, pn, pd, ps, pv] 36)) := ⟨_, rfl⟩
  have hb0 : Below w.heap.size w W1 := hW1 ▸ ((Below.refl w.heap.size w).alloc (Nat.le_refl _) _).alloc (by simp) _
  have hx0 : W1.heap[w.heap.size]? = some (.cells #[.int .i64 id, .bool wz, .bool pg] 23 (0, 0)) := by
    have h := heap_alloc_new w (.cells #[.int .i64 id, .bool wz, .bool pg] 23)
    rw [hW1]
    rw [Below.heap_alloc _ _ _ (by simp only [World.size_alloc]; omega)]
    exact h
  have hx1 : W1.heap[w.heap.size + 1]? = some (.cells #[.int .i64 pi, .int .i64 pp, .int .i64 pw, .int .i64 pl, .int .i64 pf, .int .i64 pq, pn, pd, ps, pv] 36 (0, 0)) := by
    have h := heap_alloc_new (w.alloc (.cells #[.int .i64 id, .bool wz, .bool pg] 23)) (.cells #[.int .i64 pi, .int .i64 pp, .int .i64 pw, .int .i64 pl, .int .i64 pf, .int .i64 pq, pn, pd, ps, pv] 36)
    simp only [World.size_alloc] at h
    rw [hW1]
    exact h
  obtain ⟨g0, hg0⟩ : ∃ g, g = w.heap.size := ⟨_, rfl⟩
  rw [← hg0] at hx0
  have hl0 : g0 < W1.heap.size := (Array.getElem?_eq_some_iff.1 hx0).1
  obtain ⟨g1, hg1⟩ : ∃ g, g = w.heap.size + 1 := ⟨_, rfl⟩
  rw [← hg1] at hx1
  have hl1 : g1 < W1.heap.size := (Array.getElem?_eq_some_iff.1 hx1).1
  have HB0 := Lib.hid hb0
  clear hb0
  have x0_0 : W1.cell? ⟨g0, 0, none⟩ = some (.int .i64 id) := (cell_of_row _ _ 0 _ _ _ hx0).trans rfl
  have x0_1 : W1.cell? ⟨g0, 1, none⟩ = some (.bool wz) := (cell_of_row _ _ 1 _ _ _ hx0).trans rfl
  have x0_2 : W1.cell? ⟨g0, 2, none⟩ = some (.bool pg) := (cell_of_row _ _ 2 _ _ _ hx0).trans rfl
  have x1_0 : W1.cell? ⟨g1, 0, none⟩ = some (.int .i64 pi) := (cell_of_row _ _ 0 _ _ _ hx1).trans rfl
  have x1_1 : W1.cell? ⟨g1, 1, none⟩ = some (.int .i64 pp) := (cell_of_row _ _ 1 _ _ _ hx1).trans rfl
  have x1_2 : W1.cell? ⟨g1, 2, none⟩ = some (.int .i64 pw) := (cell_of_row _ _ 2 _ _ _ hx1).trans rfl
  have x1_3 : W1.cell? ⟨g1, 3, none⟩ = some (.int .i64 pl) := (cell_of_row _ _ 3 _ _ _ hx1).trans rfl
  have x1_4 : W1.cell? ⟨g1, 4, none⟩ = some (.int .i64 pf) := (cell_of_row _ _ 4 _ _ _ hx1).trans rfl
  have x1_5 : W1.cell? ⟨g1, 5, none⟩ = some (.int .i64 pq) := (cell_of_row _ _ 5 _ _ _ hx1).trans rfl
  have x1_6 : W1.cell? ⟨g1, 6, none⟩ = some (pn) := (cell_of_row _ _ 6 _ _ _ hx1).trans rfl
  have x1_7 : W1.cell? ⟨g1, 7, none⟩ = some (pd) := (cell_of_row _ _ 7 _ _ _ hx1).trans rfl
  have x1_8 : W1.cell? ⟨g1, 8, none⟩ = some (ps) := (cell_of_row _ _ 8 _ _ _ hx1).trans rfl
  have x1_9 : W1.cell? ⟨g1, 9, none⟩ = some (pv) := (cell_of_row _ _ 9 _ _ _ hx1).trans rfl
  have HX0 := Lib.hid hx0
  clear hx0
  have HX1 := Lib.hid hx1
  clear hx1
  have C1 := Lib.hid (controls_any id wz pg pi pp pw pl pf pq pn pd ps pv W1)
  cases hA : an pf 32 with
  | true =>
    have hA2 : (bits .and .i64 pf 32 != 0) = true := hA
    go_enter Try.func22, Try.ntmps22
    go_upto_region 1 with fail
    try simp only [World.size_alloc]
    rw [← hW1, ← hg1, ← hg0]
    clear hW1 hg0 hg1
    go_wp2_with (first
      | (go_at_call 10; (with_reducible refine C1.out.mono ?_); rintro e w2 ⟨rfl, hb2⟩; have HB0 := Lib.hid (HB0.out.trans (hb2.mono HB0.out.size)); clear hb2))
    go_ret
    exact ⟨ret_bool (by rfl), HB0.out⟩
  | false =>
    have hA2 : (bits .and .i64 pf 32 != 0) = false := hA
    go_enter Try.func22, Try.ntmps22
    go_upto_region 1 with fail
    try simp only [World.size_alloc]
    rw [← hW1, ← hg1, ← hg0]
    clear hW1 hg0 hg1
    go_wp2_with (first
      | (go_at_call 10; (with_reducible refine C1.out.mono ?_); rintro e w2 ⟨rfl, hb2⟩; have HB0 := Lib.hid (HB0.out.trans (hb2.mono HB0.out.size)); clear hb2))
    go_ret
    exact ⟨ret_bool (by rfl), HB0.out⟩
set_option maxHeartbeats 2000000 in
theorem slot_any (id : Int) (wz pg : Bool) (op : Int) (sn sc s4 s5 s6 s7 : Value) (sw sb : Int) (w : World) : Calls Try.prog 12 #[.agg #[.int .i64 id, .bool wz, .bool pg], .int .i64 op, .agg #[sn, .int .i64 sw, .int .i64 sb, sc, s4, s5, s6, s7]] w fun e w' => e = .returned (.bool (slotB id wz op sw sb)) ∧ Below w.heap.size w w' := by
  obtain ⟨W1, hW1⟩ : ∃ W1, W1 = ((w.alloc (.cells #[.int .i64 id, .bool wz, .bool pg] 23)).alloc (.cells #[sn, .int .i64 sw, .int .i64 sb, sc, s4, s5, s6, s7] 28)) := ⟨_, rfl⟩
  have hb0 : Below w.heap.size w W1 := hW1 ▸ ((Below.refl w.heap.size w).alloc (Nat.le_refl _) _).alloc (by simp) _
  have hx0 : W1.heap[w.heap.size]? = some (.cells #[.int .i64 id, .bool wz, .bool pg] 23 (0, 0)) := by
    have h := heap_alloc_new w (.cells #[.int .i64 id, .bool wz, .bool pg] 23)
    rw [hW1]
    rw [Below.heap_alloc _ _ _ (by simp only [World.size_alloc]; omega)]
    exact h
  have hx1 : W1.heap[w.heap.size + 1]? = some (.cells #[sn, .int .i64 sw, .int .i64 sb, sc, s4, s5, s6, s7] 28 (0, 0)) := by
    have h := heap_alloc_new (w.alloc (.cells #[.int .i64 id, .bool wz, .bool pg] 23)) (.cells #[sn, .int .i64 sw, .int .i64 sb, sc, s4, s5, s6, s7] 28)
    simp only [World.size_alloc] at h
    rw [hW1]
    exact h
  obtain ⟨g0, hg0⟩ : ∃ g, g = w.heap.size := ⟨_, rfl⟩
  rw [← hg0] at hx0
  have hl0 : g0 < W1.heap.size := (Array.getElem?_eq_some_iff.1 hx0).1
  obtain ⟨g1, hg1⟩ : ∃ g, g = w.heap.size + 1 := ⟨_, rfl⟩
  rw [← hg1] at hx1
  have hl1 : g1 < W1.heap.size := (Array.getElem?_eq_some_iff.1 hx1).1
  have HB0 := Lib.hid hb0
  clear hb0
  by_cases h1 : op = 1
  · subst h1
    have C1 := Lib.hid (goesFor_any id wz pg sw W1)
    cases hA0 : (bits .and .i64 sb 1 != 0) with
    | true =>
      have x0_0 : W1.cell? ⟨g0, 0, none⟩ = some (.int .i64 id) := (cell_of_row _ _ 0 _ _ _ hx0).trans rfl
      have x0_1 : W1.cell? ⟨g0, 1, none⟩ = some (.bool wz) := (cell_of_row _ _ 1 _ _ _ hx0).trans rfl
      have x0_2 : W1.cell? ⟨g0, 2, none⟩ = some (.bool pg) := (cell_of_row _ _ 2 _ _ _ hx0).trans rfl
      have x1_0 : W1.cell? ⟨g1, 0, none⟩ = some (sn) := (cell_of_row _ _ 0 _ _ _ hx1).trans rfl
      have x1_1 : W1.cell? ⟨g1, 1, none⟩ = some (.int .i64 sw) := (cell_of_row _ _ 1 _ _ _ hx1).trans rfl
      have x1_2 : W1.cell? ⟨g1, 2, none⟩ = some (.int .i64 sb) := (cell_of_row _ _ 2 _ _ _ hx1).trans rfl
      have x1_3 : W1.cell? ⟨g1, 3, none⟩ = some (sc) := (cell_of_row _ _ 3 _ _ _ hx1).trans rfl
      have x1_4 : W1.cell? ⟨g1, 4, none⟩ = some (s4) := (cell_of_row _ _ 4 _ _ _ hx1).trans rfl
      have x1_5 : W1.cell? ⟨g1, 5, none⟩ = some (s5) := (cell_of_row _ _ 5 _ _ _ hx1).trans rfl
      have x1_6 : W1.cell? ⟨g1, 6, none⟩ = some (s6) := (cell_of_row _ _ 6 _ _ _ hx1).trans rfl
      have x1_7 : W1.cell? ⟨g1, 7, none⟩ = some (s7) := (cell_of_row _ _ 7 _ _ _ hx1).trans rfl
      have HX0 := Lib.hid hx0
      clear hx0
      have HX1 := Lib.hid hx1
      clear hx1
      go_enter Try.func12, Try.ntmps12
      go_upto_region 1 with fail
      try simp only [World.size_alloc]
      rw [← hW1, ← hg1, ← hg0]
      clear hW1 hg0 hg1
      go_wp2_with (first
        | (go_at_call 21; (with_reducible refine C1.out.mono ?_); rintro e w2 ⟨rfl, hb2⟩; have HB0 := Lib.hid (HB0.out.trans (hb2.mono HB0.out.size)); clear hb2))
      go_ret
      exact ⟨ret_bool (by simp [slotB, an, hA0]), HB0.out⟩
    | false =>
      have x0_0 : W1.cell? ⟨g0, 0, none⟩ = some (.int .i64 id) := (cell_of_row _ _ 0 _ _ _ hx0).trans rfl
      have x0_1 : W1.cell? ⟨g0, 1, none⟩ = some (.bool wz) := (cell_of_row _ _ 1 _ _ _ hx0).trans rfl
      have x0_2 : W1.cell? ⟨g0, 2, none⟩ = some (.bool pg) := (cell_of_row _ _ 2 _ _ _ hx0).trans rfl
      have x1_0 : W1.cell? ⟨g1, 0, none⟩ = some (sn) := (cell_of_row _ _ 0 _ _ _ hx1).trans rfl
      have x1_1 : W1.cell? ⟨g1, 1, none⟩ = some (.int .i64 sw) := (cell_of_row _ _ 1 _ _ _ hx1).trans rfl
      have x1_2 : W1.cell? ⟨g1, 2, none⟩ = some (.int .i64 sb) := (cell_of_row _ _ 2 _ _ _ hx1).trans rfl
      have x1_3 : W1.cell? ⟨g1, 3, none⟩ = some (sc) := (cell_of_row _ _ 3 _ _ _ hx1).trans rfl
      have x1_4 : W1.cell? ⟨g1, 4, none⟩ = some (s4) := (cell_of_row _ _ 4 _ _ _ hx1).trans rfl
      have x1_5 : W1.cell? ⟨g1, 5, none⟩ = some (s5) := (cell_of_row _ _ 5 _ _ _ hx1).trans rfl
      have x1_6 : W1.cell? ⟨g1, 6, none⟩ = some (s6) := (cell_of_row _ _ 6 _ _ _ hx1).trans rfl
      have x1_7 : W1.cell? ⟨g1, 7, none⟩ = some (s7) := (cell_of_row _ _ 7 _ _ _ hx1).trans rfl
      have HX0 := Lib.hid hx0
      clear hx0
      have HX1 := Lib.hid hx1
      clear hx1
      go_enter Try.func12, Try.ntmps12
      go_upto_region 1 with fail
      try simp only [World.size_alloc]
      rw [← hW1, ← hg1, ← hg0]
      clear hW1 hg0 hg1
      go_wp2_with (first
        | (go_at_call 21; (with_reducible refine C1.out.mono ?_); rintro e w2 ⟨rfl, hb2⟩; have HB0 := Lib.hid (HB0.out.trans (hb2.mono HB0.out.size)); clear hb2))
      go_ret
      exact ⟨ret_bool (by simp [slotB, an, hA0]), HB0.out⟩
  by_cases h2 : op = 2
  · subst h2
    have C1 := Lib.hid (goesFor_any id wz pg sw W1)
    cases hA0 : (bits .and .i64 sb 2 != 0) with
    | true =>
      have x0_0 : W1.cell? ⟨g0, 0, none⟩ = some (.int .i64 id) := (cell_of_row _ _ 0 _ _ _ hx0).trans rfl
      have x0_1 : W1.cell? ⟨g0, 1, none⟩ = some (.bool wz) := (cell_of_row _ _ 1 _ _ _ hx0).trans rfl
      have x0_2 : W1.cell? ⟨g0, 2, none⟩ = some (.bool pg) := (cell_of_row _ _ 2 _ _ _ hx0).trans rfl
      have x1_0 : W1.cell? ⟨g1, 0, none⟩ = some (sn) := (cell_of_row _ _ 0 _ _ _ hx1).trans rfl
      have x1_1 : W1.cell? ⟨g1, 1, none⟩ = some (.int .i64 sw) := (cell_of_row _ _ 1 _ _ _ hx1).trans rfl
      have x1_2 : W1.cell? ⟨g1, 2, none⟩ = some (.int .i64 sb) := (cell_of_row _ _ 2 _ _ _ hx1).trans rfl
      have x1_3 : W1.cell? ⟨g1, 3, none⟩ = some (sc) := (cell_of_row _ _ 3 _ _ _ hx1).trans rfl
      have x1_4 : W1.cell? ⟨g1, 4, none⟩ = some (s4) := (cell_of_row _ _ 4 _ _ _ hx1).trans rfl
      have x1_5 : W1.cell? ⟨g1, 5, none⟩ = some (s5) := (cell_of_row _ _ 5 _ _ _ hx1).trans rfl
      have x1_6 : W1.cell? ⟨g1, 6, none⟩ = some (s6) := (cell_of_row _ _ 6 _ _ _ hx1).trans rfl
      have x1_7 : W1.cell? ⟨g1, 7, none⟩ = some (s7) := (cell_of_row _ _ 7 _ _ _ hx1).trans rfl
      have HX0 := Lib.hid hx0
      clear hx0
      have HX1 := Lib.hid hx1
      clear hx1
      go_enter Try.func12, Try.ntmps12
      go_upto_region 1 with fail
      try simp only [World.size_alloc]
      rw [← hW1, ← hg1, ← hg0]
      clear hW1 hg0 hg1
      go_wp2_with (first
        | (go_at_call 21; (with_reducible refine C1.out.mono ?_); rintro e w2 ⟨rfl, hb2⟩; have HB0 := Lib.hid (HB0.out.trans (hb2.mono HB0.out.size)); clear hb2))
      go_ret
      exact ⟨ret_bool (by simp [slotB, an, hA0]), HB0.out⟩
    | false =>
      have x0_0 : W1.cell? ⟨g0, 0, none⟩ = some (.int .i64 id) := (cell_of_row _ _ 0 _ _ _ hx0).trans rfl
      have x0_1 : W1.cell? ⟨g0, 1, none⟩ = some (.bool wz) := (cell_of_row _ _ 1 _ _ _ hx0).trans rfl
      have x0_2 : W1.cell? ⟨g0, 2, none⟩ = some (.bool pg) := (cell_of_row _ _ 2 _ _ _ hx0).trans rfl
      have x1_0 : W1.cell? ⟨g1, 0, none⟩ = some (sn) := (cell_of_row _ _ 0 _ _ _ hx1).trans rfl
      have x1_1 : W1.cell? ⟨g1, 1, none⟩ = some (.int .i64 sw) := (cell_of_row _ _ 1 _ _ _ hx1).trans rfl
      have x1_2 : W1.cell? ⟨g1, 2, none⟩ = some (.int .i64 sb) := (cell_of_row _ _ 2 _ _ _ hx1).trans rfl
      have x1_3 : W1.cell? ⟨g1, 3, none⟩ = some (sc) := (cell_of_row _ _ 3 _ _ _ hx1).trans rfl
      have x1_4 : W1.cell? ⟨g1, 4, none⟩ = some (s4) := (cell_of_row _ _ 4 _ _ _ hx1).trans rfl
      have x1_5 : W1.cell? ⟨g1, 5, none⟩ = some (s5) := (cell_of_row _ _ 5 _ _ _ hx1).trans rfl
      have x1_6 : W1.cell? ⟨g1, 6, none⟩ = some (s6) := (cell_of_row _ _ 6 _ _ _ hx1).trans rfl
      have x1_7 : W1.cell? ⟨g1, 7, none⟩ = some (s7) := (cell_of_row _ _ 7 _ _ _ hx1).trans rfl
      have HX0 := Lib.hid hx0
      clear hx0
      have HX1 := Lib.hid hx1
      clear hx1
      go_enter Try.func12, Try.ntmps12
      go_upto_region 1 with fail
      try simp only [World.size_alloc]
      rw [← hW1, ← hg1, ← hg0]
      clear hW1 hg0 hg1
      go_wp2_with (first
        | (go_at_call 21; (with_reducible refine C1.out.mono ?_); rintro e w2 ⟨rfl, hb2⟩; have HB0 := Lib.hid (HB0.out.trans (hb2.mono HB0.out.size)); clear hb2))
      go_ret
      exact ⟨ret_bool (by simp [slotB, an, hA0]), HB0.out⟩
  by_cases h4 : op = 4
  · subst h4
    have C1 := Lib.hid (goesFor_any id wz pg sw W1)
    have x0_0 : W1.cell? ⟨g0, 0, none⟩ = some (.int .i64 id) := (cell_of_row _ _ 0 _ _ _ hx0).trans rfl
    have x0_1 : W1.cell? ⟨g0, 1, none⟩ = some (.bool wz) := (cell_of_row _ _ 1 _ _ _ hx0).trans rfl
    have x0_2 : W1.cell? ⟨g0, 2, none⟩ = some (.bool pg) := (cell_of_row _ _ 2 _ _ _ hx0).trans rfl
    have x1_0 : W1.cell? ⟨g1, 0, none⟩ = some (sn) := (cell_of_row _ _ 0 _ _ _ hx1).trans rfl
    have x1_1 : W1.cell? ⟨g1, 1, none⟩ = some (.int .i64 sw) := (cell_of_row _ _ 1 _ _ _ hx1).trans rfl
    have x1_2 : W1.cell? ⟨g1, 2, none⟩ = some (.int .i64 sb) := (cell_of_row _ _ 2 _ _ _ hx1).trans rfl
    have x1_3 : W1.cell? ⟨g1, 3, none⟩ = some (sc) := (cell_of_row _ _ 3 _ _ _ hx1).trans rfl
    have x1_4 : W1.cell? ⟨g1, 4, none⟩ = some (s4) := (cell_of_row _ _ 4 _ _ _ hx1).trans rfl
    have x1_5 : W1.cell? ⟨g1, 5, none⟩ = some (s5) := (cell_of_row _ _ 5 _ _ _ hx1).trans rfl
    have x1_6 : W1.cell? ⟨g1, 6, none⟩ = some (s6) := (cell_of_row _ _ 6 _ _ _ hx1).trans rfl
    have x1_7 : W1.cell? ⟨g1, 7, none⟩ = some (s7) := (cell_of_row _ _ 7 _ _ _ hx1).trans rfl
    have HX0 := Lib.hid hx0
    clear hx0
    have HX1 := Lib.hid hx1
    clear hx1
    go_enter Try.func12, Try.ntmps12
    go_upto_region 1 with fail
    try simp only [World.size_alloc]
    rw [← hW1, ← hg1, ← hg0]
    clear hW1 hg0 hg1
    go_wp2_with (first
      | (go_at_call 21; (with_reducible refine C1.out.mono ?_); rintro e w2 ⟨rfl, hb2⟩; have HB0 := Lib.hid (HB0.out.trans (hb2.mono HB0.out.size)); clear hb2))
    go_ret
    exact ⟨ret_bool (by simp [slotB]), HB0.out⟩
  have x0_0 : W1.cell? ⟨g0, 0, none⟩ = some (.int .i64 id) := (cell_of_row _ _ 0 _ _ _ hx0).trans rfl
  have x0_1 : W1.cell? ⟨g0, 1, none⟩ = some (.bool wz) := (cell_of_row _ _ 1 _ _ _ hx0).trans rfl
  have x0_2 : W1.cell? ⟨g0, 2, none⟩ = some (.bool pg) := (cell_of_row _ _ 2 _ _ _ hx0).trans rfl
  have x1_0 : W1.cell? ⟨g1, 0, none⟩ = some (sn) := (cell_of_row _ _ 0 _ _ _ hx1).trans rfl
  have x1_1 : W1.cell? ⟨g1, 1, none⟩ = some (.int .i64 sw) := (cell_of_row _ _ 1 _ _ _ hx1).trans rfl
  have x1_2 : W1.cell? ⟨g1, 2, none⟩ = some (.int .i64 sb) := (cell_of_row _ _ 2 _ _ _ hx1).trans rfl
  have x1_3 : W1.cell? ⟨g1, 3, none⟩ = some (sc) := (cell_of_row _ _ 3 _ _ _ hx1).trans rfl
  have x1_4 : W1.cell? ⟨g1, 4, none⟩ = some (s4) := (cell_of_row _ _ 4 _ _ _ hx1).trans rfl
  have x1_5 : W1.cell? ⟨g1, 5, none⟩ = some (s5) := (cell_of_row _ _ 5 _ _ _ hx1).trans rfl
  have x1_6 : W1.cell? ⟨g1, 6, none⟩ = some (s6) := (cell_of_row _ _ 6 _ _ _ hx1).trans rfl
  have x1_7 : W1.cell? ⟨g1, 7, none⟩ = some (s7) := (cell_of_row _ _ 7 _ _ _ hx1).trans rfl
  have HX0 := Lib.hid hx0
  clear hx0
  have HX1 := Lib.hid hx1
  clear hx1
  have e1 : (op == 1) = false := by simpa using h1
  have e2 : (op == 2) = false := by simpa using h2
  have e4 : (op == 4) = false := by simpa using h4
  go_enter Try.func12, Try.ntmps12
  go_upto_region 1 with fail
  try simp only [World.size_alloc]
  rw [← hW1, ← hg1, ← hg0]
  clear hW1 hg0 hg1
  go_wp2
  go_ret
  exact ⟨ret_bool (by simp [slotB, h1, h2, h4]), HB0.out⟩
set_option maxHeartbeats 2000000 in
theorem verb_any (id : Int) (wz pg : Bool) (op : Int) (vn vt vl : Value) (vw vb : Int) (w : World) : Calls Try.prog 14 #[.agg #[.int .i64 id, .bool wz, .bool pg], .int .i64 op, .agg #[vn, .int .i64 vw, .int .i64 vb, vt, vl]] w fun e w' => e = .returned (.bool (verbB id wz pg op vw vb)) ∧ Below w.heap.size w w' := by
  obtain ⟨W1, hW1⟩ : ∃ W1, W1 = ((w.alloc (.cells #[.int .i64 id, .bool wz, .bool pg] 23)).alloc (.cells #[vn, .int .i64 vw, .int .i64 vb, vt, vl] 31)) := ⟨_, rfl⟩
  have hb0 : Below w.heap.size w W1 := hW1 ▸ ((Below.refl w.heap.size w).alloc (Nat.le_refl _) _).alloc (by simp) _
  have hx0 : W1.heap[w.heap.size]? = some (.cells #[.int .i64 id, .bool wz, .bool pg] 23 (0, 0)) := by
    have h := heap_alloc_new w (.cells #[.int .i64 id, .bool wz, .bool pg] 23)
    rw [hW1]
    rw [Below.heap_alloc _ _ _ (by simp only [World.size_alloc]; omega)]
    exact h
  have hx1 : W1.heap[w.heap.size + 1]? = some (.cells #[vn, .int .i64 vw, .int .i64 vb, vt, vl] 31 (0, 0)) := by
    have h := heap_alloc_new (w.alloc (.cells #[.int .i64 id, .bool wz, .bool pg] 23)) (.cells #[vn, .int .i64 vw, .int .i64 vb, vt, vl] 31)
    simp only [World.size_alloc] at h
    rw [hW1]
    exact h
  obtain ⟨g0, hg0⟩ : ∃ g, g = w.heap.size := ⟨_, rfl⟩
  rw [← hg0] at hx0
  have hl0 : g0 < W1.heap.size := (Array.getElem?_eq_some_iff.1 hx0).1
  obtain ⟨g1, hg1⟩ : ∃ g, g = w.heap.size + 1 := ⟨_, rfl⟩
  rw [← hg1] at hx1
  have hl1 : g1 < W1.heap.size := (Array.getElem?_eq_some_iff.1 hx1).1
  have HB0 := Lib.hid hb0
  clear hb0
  by_cases h5 : op = 5
  · subst h5
    have C1 := Lib.hid (goesFor_any id wz pg vw W1)
    cases hA0 : (bits .and .i64 vb 1 != 0) with
    | true =>
      have x0_0 : W1.cell? ⟨g0, 0, none⟩ = some (.int .i64 id) := (cell_of_row _ _ 0 _ _ _ hx0).trans rfl
      have x0_1 : W1.cell? ⟨g0, 1, none⟩ = some (.bool wz) := (cell_of_row _ _ 1 _ _ _ hx0).trans rfl
      have x0_2 : W1.cell? ⟨g0, 2, none⟩ = some (.bool pg) := (cell_of_row _ _ 2 _ _ _ hx0).trans rfl
      have x1_0 : W1.cell? ⟨g1, 0, none⟩ = some (vn) := (cell_of_row _ _ 0 _ _ _ hx1).trans rfl
      have x1_1 : W1.cell? ⟨g1, 1, none⟩ = some (.int .i64 vw) := (cell_of_row _ _ 1 _ _ _ hx1).trans rfl
      have x1_2 : W1.cell? ⟨g1, 2, none⟩ = some (.int .i64 vb) := (cell_of_row _ _ 2 _ _ _ hx1).trans rfl
      have x1_3 : W1.cell? ⟨g1, 3, none⟩ = some (vt) := (cell_of_row _ _ 3 _ _ _ hx1).trans rfl
      have x1_4 : W1.cell? ⟨g1, 4, none⟩ = some (vl) := (cell_of_row _ _ 4 _ _ _ hx1).trans rfl
      have HX0 := Lib.hid hx0
      clear hx0
      have HX1 := Lib.hid hx1
      clear hx1
      go_enter Try.func14, Try.ntmps14
      go_upto_region 1 with fail
      try simp only [World.size_alloc]
      rw [← hW1, ← hg1, ← hg0]
      clear hW1 hg0 hg1
      go_wp2_with (first
        | (go_at_call 21; (with_reducible refine C1.out.mono ?_); rintro e w2 ⟨rfl, hb2⟩; have HB0 := Lib.hid (HB0.out.trans (hb2.mono HB0.out.size)); clear hb2))
      go_ret
      exact ⟨ret_bool (by simp [verbB, an, hA0]), HB0.out⟩
    | false =>
      have x0_0 : W1.cell? ⟨g0, 0, none⟩ = some (.int .i64 id) := (cell_of_row _ _ 0 _ _ _ hx0).trans rfl
      have x0_1 : W1.cell? ⟨g0, 1, none⟩ = some (.bool wz) := (cell_of_row _ _ 1 _ _ _ hx0).trans rfl
      have x0_2 : W1.cell? ⟨g0, 2, none⟩ = some (.bool pg) := (cell_of_row _ _ 2 _ _ _ hx0).trans rfl
      have x1_0 : W1.cell? ⟨g1, 0, none⟩ = some (vn) := (cell_of_row _ _ 0 _ _ _ hx1).trans rfl
      have x1_1 : W1.cell? ⟨g1, 1, none⟩ = some (.int .i64 vw) := (cell_of_row _ _ 1 _ _ _ hx1).trans rfl
      have x1_2 : W1.cell? ⟨g1, 2, none⟩ = some (.int .i64 vb) := (cell_of_row _ _ 2 _ _ _ hx1).trans rfl
      have x1_3 : W1.cell? ⟨g1, 3, none⟩ = some (vt) := (cell_of_row _ _ 3 _ _ _ hx1).trans rfl
      have x1_4 : W1.cell? ⟨g1, 4, none⟩ = some (vl) := (cell_of_row _ _ 4 _ _ _ hx1).trans rfl
      have HX0 := Lib.hid hx0
      clear hx0
      have HX1 := Lib.hid hx1
      clear hx1
      go_enter Try.func14, Try.ntmps14
      go_upto_region 1 with fail
      try simp only [World.size_alloc]
      rw [← hW1, ← hg1, ← hg0]
      clear hW1 hg0 hg1
      go_wp2_with (first
        | (go_at_call 21; (with_reducible refine C1.out.mono ?_); rintro e w2 ⟨rfl, hb2⟩; have HB0 := Lib.hid (HB0.out.trans (hb2.mono HB0.out.size)); clear hb2))
      go_ret
      exact ⟨ret_bool (by simp [verbB, an, hA0]), HB0.out⟩
  by_cases h6 : op = 6
  · subst h6
    have C1 := Lib.hid (goesFor_any id wz pg vw W1)
    cases pg with
    | true =>
      cases hA1 : (bits .and .i64 vb 2 != 0) with
      | true =>
        have x0_0 : W1.cell? ⟨g0, 0, none⟩ = some (.int .i64 id) := (cell_of_row _ _ 0 _ _ _ hx0).trans rfl
        have x0_1 : W1.cell? ⟨g0, 1, none⟩ = some (.bool wz) := (cell_of_row _ _ 1 _ _ _ hx0).trans rfl
        have x0_2 : W1.cell? ⟨g0, 2, none⟩ = some (.bool true) := (cell_of_row _ _ 2 _ _ _ hx0).trans rfl
        have x1_0 : W1.cell? ⟨g1, 0, none⟩ = some (vn) := (cell_of_row _ _ 0 _ _ _ hx1).trans rfl
        have x1_1 : W1.cell? ⟨g1, 1, none⟩ = some (.int .i64 vw) := (cell_of_row _ _ 1 _ _ _ hx1).trans rfl
        have x1_2 : W1.cell? ⟨g1, 2, none⟩ = some (.int .i64 vb) := (cell_of_row _ _ 2 _ _ _ hx1).trans rfl
        have x1_3 : W1.cell? ⟨g1, 3, none⟩ = some (vt) := (cell_of_row _ _ 3 _ _ _ hx1).trans rfl
        have x1_4 : W1.cell? ⟨g1, 4, none⟩ = some (vl) := (cell_of_row _ _ 4 _ _ _ hx1).trans rfl
        have HX0 := Lib.hid hx0
        clear hx0
        have HX1 := Lib.hid hx1
        clear hx1
        go_enter Try.func14, Try.ntmps14
        go_upto_region 1 with fail
        try simp only [World.size_alloc]
        rw [← hW1, ← hg1, ← hg0]
        clear hW1 hg0 hg1
        go_wp2_with (first
          | (go_at_call 21; (with_reducible refine C1.out.mono ?_); rintro e w2 ⟨rfl, hb2⟩; have HB0 := Lib.hid (HB0.out.trans (hb2.mono HB0.out.size)); clear hb2))
        go_ret
        exact ⟨ret_bool (by simp [verbB, an, hA1]), HB0.out⟩
      | false =>
        have x0_0 : W1.cell? ⟨g0, 0, none⟩ = some (.int .i64 id) := (cell_of_row _ _ 0 _ _ _ hx0).trans rfl
        have x0_1 : W1.cell? ⟨g0, 1, none⟩ = some (.bool wz) := (cell_of_row _ _ 1 _ _ _ hx0).trans rfl
        have x0_2 : W1.cell? ⟨g0, 2, none⟩ = some (.bool true) := (cell_of_row _ _ 2 _ _ _ hx0).trans rfl
        have x1_0 : W1.cell? ⟨g1, 0, none⟩ = some (vn) := (cell_of_row _ _ 0 _ _ _ hx1).trans rfl
        have x1_1 : W1.cell? ⟨g1, 1, none⟩ = some (.int .i64 vw) := (cell_of_row _ _ 1 _ _ _ hx1).trans rfl
        have x1_2 : W1.cell? ⟨g1, 2, none⟩ = some (.int .i64 vb) := (cell_of_row _ _ 2 _ _ _ hx1).trans rfl
        have x1_3 : W1.cell? ⟨g1, 3, none⟩ = some (vt) := (cell_of_row _ _ 3 _ _ _ hx1).trans rfl
        have x1_4 : W1.cell? ⟨g1, 4, none⟩ = some (vl) := (cell_of_row _ _ 4 _ _ _ hx1).trans rfl
        have HX0 := Lib.hid hx0
        clear hx0
        have HX1 := Lib.hid hx1
        clear hx1
        go_enter Try.func14, Try.ntmps14
        go_upto_region 1 with fail
        try simp only [World.size_alloc]
        rw [← hW1, ← hg1, ← hg0]
        clear hW1 hg0 hg1
        go_wp2_with (first
          | (go_at_call 21; (with_reducible refine C1.out.mono ?_); rintro e w2 ⟨rfl, hb2⟩; have HB0 := Lib.hid (HB0.out.trans (hb2.mono HB0.out.size)); clear hb2))
        go_ret
        exact ⟨ret_bool (by simp [verbB, an, hA1]), HB0.out⟩
    | false =>
      have x0_0 : W1.cell? ⟨g0, 0, none⟩ = some (.int .i64 id) := (cell_of_row _ _ 0 _ _ _ hx0).trans rfl
      have x0_1 : W1.cell? ⟨g0, 1, none⟩ = some (.bool wz) := (cell_of_row _ _ 1 _ _ _ hx0).trans rfl
      have x0_2 : W1.cell? ⟨g0, 2, none⟩ = some (.bool false) := (cell_of_row _ _ 2 _ _ _ hx0).trans rfl
      have x1_0 : W1.cell? ⟨g1, 0, none⟩ = some (vn) := (cell_of_row _ _ 0 _ _ _ hx1).trans rfl
      have x1_1 : W1.cell? ⟨g1, 1, none⟩ = some (.int .i64 vw) := (cell_of_row _ _ 1 _ _ _ hx1).trans rfl
      have x1_2 : W1.cell? ⟨g1, 2, none⟩ = some (.int .i64 vb) := (cell_of_row _ _ 2 _ _ _ hx1).trans rfl
      have x1_3 : W1.cell? ⟨g1, 3, none⟩ = some (vt) := (cell_of_row _ _ 3 _ _ _ hx1).trans rfl
      have x1_4 : W1.cell? ⟨g1, 4, none⟩ = some (vl) := (cell_of_row _ _ 4 _ _ _ hx1).trans rfl
      have HX0 := Lib.hid hx0
      clear hx0
      have HX1 := Lib.hid hx1
      clear hx1
      go_enter Try.func14, Try.ntmps14
      go_upto_region 1 with fail
      try simp only [World.size_alloc]
      rw [← hW1, ← hg1, ← hg0]
      clear hW1 hg0 hg1
      go_wp2_with (first
        | (go_at_call 21; (with_reducible refine C1.out.mono ?_); rintro e w2 ⟨rfl, hb2⟩; have HB0 := Lib.hid (HB0.out.trans (hb2.mono HB0.out.size)); clear hb2))
      go_ret
      exact ⟨ret_bool (by simp [verbB]), HB0.out⟩
  by_cases h7 : op = 7
  · subst h7
    have x0_0 : W1.cell? ⟨g0, 0, none⟩ = some (.int .i64 id) := (cell_of_row _ _ 0 _ _ _ hx0).trans rfl
    have x0_1 : W1.cell? ⟨g0, 1, none⟩ = some (.bool wz) := (cell_of_row _ _ 1 _ _ _ hx0).trans rfl
    have x0_2 : W1.cell? ⟨g0, 2, none⟩ = some (.bool pg) := (cell_of_row _ _ 2 _ _ _ hx0).trans rfl
    have x1_0 : W1.cell? ⟨g1, 0, none⟩ = some (vn) := (cell_of_row _ _ 0 _ _ _ hx1).trans rfl
    have x1_1 : W1.cell? ⟨g1, 1, none⟩ = some (.int .i64 vw) := (cell_of_row _ _ 1 _ _ _ hx1).trans rfl
    have x1_2 : W1.cell? ⟨g1, 2, none⟩ = some (.int .i64 vb) := (cell_of_row _ _ 2 _ _ _ hx1).trans rfl
    have x1_3 : W1.cell? ⟨g1, 3, none⟩ = some (vt) := (cell_of_row _ _ 3 _ _ _ hx1).trans rfl
    have x1_4 : W1.cell? ⟨g1, 4, none⟩ = some (vl) := (cell_of_row _ _ 4 _ _ _ hx1).trans rfl
    have HX0 := Lib.hid hx0
    clear hx0
    have HX1 := Lib.hid hx1
    clear hx1
    go_enter Try.func14, Try.ntmps14
    go_upto_region 1 with fail
    try simp only [World.size_alloc]
    rw [← hW1, ← hg1, ← hg0]
    clear hW1 hg0 hg1
    go_wp2
    go_ret
    exact ⟨ret_bool (by simp [verbB, an]), HB0.out⟩
  have x0_0 : W1.cell? ⟨g0, 0, none⟩ = some (.int .i64 id) := (cell_of_row _ _ 0 _ _ _ hx0).trans rfl
  have x0_1 : W1.cell? ⟨g0, 1, none⟩ = some (.bool wz) := (cell_of_row _ _ 1 _ _ _ hx0).trans rfl
  have x0_2 : W1.cell? ⟨g0, 2, none⟩ = some (.bool pg) := (cell_of_row _ _ 2 _ _ _ hx0).trans rfl
  have x1_0 : W1.cell? ⟨g1, 0, none⟩ = some (vn) := (cell_of_row _ _ 0 _ _ _ hx1).trans rfl
  have x1_1 : W1.cell? ⟨g1, 1, none⟩ = some (.int .i64 vw) := (cell_of_row _ _ 1 _ _ _ hx1).trans rfl
  have x1_2 : W1.cell? ⟨g1, 2, none⟩ = some (.int .i64 vb) := (cell_of_row _ _ 2 _ _ _ hx1).trans rfl
  have x1_3 : W1.cell? ⟨g1, 3, none⟩ = some (vt) := (cell_of_row _ _ 3 _ _ _ hx1).trans rfl
  have x1_4 : W1.cell? ⟨g1, 4, none⟩ = some (vl) := (cell_of_row _ _ 4 _ _ _ hx1).trans rfl
  have HX0 := Lib.hid hx0
  clear hx0
  have HX1 := Lib.hid hx1
  clear hx1
  have e5 : (op == 5) = false := by simpa using h5
  have e6 : (op == 6) = false := by simpa using h6
  have e7 : (op == 7) = false := by simpa using h7
  go_enter Try.func14, Try.ntmps14
  go_upto_region 1 with fail
  try simp only [World.size_alloc]
  rw [← hW1, ← hg1, ← hg0]
  clear hW1 hg0 hg1
  go_wp2
  go_ret
  exact ⟨ret_bool (by simp [verbB, h5, h6, h7]), HB0.out⟩
end Go.Proofs.Ytemkikjcjhmlaaa.Pm
