/- Package perm: what may be done to two. Printed by gen_perm.py. -/
import Derived.Test.YtemkikjcjhmlaaaPm3
namespace Go.Proofs.Ytemkikjcjhmlaaa.Pm
open Go.RowKit
set_option maxRecDepth 100000

set_option maxHeartbeats 2000000 in
theorem two_any (id : Int) (wz pg : Bool) (op : Int) (oi oe ow ol of oq : Int) (on od os ov : Value) (pi pp pw pl pf pq : Int) (pn pd ps pv : Value) (w : World) : Calls Try.prog 18 #[.agg #[.int .i64 id, .bool wz, .bool pg], .int .i64 op, .agg #[.int .i64 oi, .int .i64 oe, .int .i64 ow, .int .i64 ol, .int .i64 of, .int .i64 oq, on, od, os, ov], .agg #[.int .i64 pi, .int .i64 pp, .int .i64 pw, .int .i64 pl, .int .i64 pf, .int .i64 pq, pn, pd, ps, pv]] w fun e w' => e = .returned (.bool (twoB id wz pg op oi ow pf pw)) ∧ Below w.heap.size w w' := by
  obtain ⟨W1, hW1⟩ : ∃ W1, W1 = (((w.alloc (.cells #[.int .i64 id, .bool wz, .bool pg] 23)).alloc (.cells #[.int .i64 oi, .int .i64 oe, .int .i64 ow, .int .i64 ol, .int .i64 of, .int .i64 oq, on, od, os, ov] 36)).alloc (.cells #[.int .i64 pi, .int .i64 pp, .int .i64 pw, .int .i64 pl, .int .i64 pf, .int .i64 pq, pn, pd, ps, pv] 36)) := ⟨_, rfl⟩
  have hb0 : Below w.heap.size w W1 := hW1 ▸ (((Below.refl w.heap.size w).alloc (Nat.le_refl _) _).alloc (by simp) _).alloc (by simp; omega) _
  have hx0 : W1.heap[w.heap.size]? = some (.cells #[.int .i64 id, .bool wz, .bool pg] 23 (0, 0)) := by
    have h := heap_alloc_new w (.cells #[.int .i64 id, .bool wz, .bool pg] 23)
    rw [hW1]
    rw [Below.heap_alloc _ _ _ (by simp only [World.size_alloc]; omega)]
    rw [Below.heap_alloc _ _ _ (by simp only [World.size_alloc]; omega)]
    exact h
  have hx1 : W1.heap[w.heap.size + 1]? = some (.cells #[.int .i64 oi, .int .i64 oe, .int .i64 ow, .int .i64 ol, .int .i64 of, .int .i64 oq, on, od, os, ov] 36 (0, 0)) := by
    have h := heap_alloc_new (w.alloc (.cells #[.int .i64 id, .bool wz, .bool pg] 23)) (.cells #[.int .i64 oi, .int .i64 oe, .int .i64 ow, .int .i64 ol, .int .i64 of, .int .i64 oq, on, od, os, ov] 36)
    simp only [World.size_alloc] at h
    rw [hW1]
    rw [Below.heap_alloc _ _ _ (by simp only [World.size_alloc]; omega)]
    exact h
  have hx2 : W1.heap[w.heap.size + 2]? = some (.cells #[.int .i64 pi, .int .i64 pp, .int .i64 pw, .int .i64 pl, .int .i64 pf, .int .i64 pq, pn, pd, ps, pv] 36 (0, 0)) := by
    have h := heap_alloc_new ((w.alloc (.cells #[.int .i64 id, .bool wz, .bool pg] 23)).alloc (.cells #[.int .i64 oi, .int .i64 oe, .int .i64 ow, .int .i64 ol, .int .i64 of, .int .i64 oq, on, od, os, ov] 36)) (.cells #[.int .i64 pi, .int .i64 pp, .int .i64 pw, .int .i64 pl, .int .i64 pf, .int .i64 pq, pn, pd, ps, pv] 36)
    simp only [World.size_alloc] at h
    rw [hW1]
    exact h
  obtain ⟨g0, hg0⟩ : ∃ g, g = w.heap.size := ⟨_, rfl⟩
  rw [← hg0] at hx0
  have hl0 : g0 < W1.heap.size := (Array.getElem?_eq_some_iff.1 hx0).1
  obtain ⟨g1, hg1⟩ : ∃ g, g = w.heap.size + 1 := ⟨_, rfl⟩
  rw [← hg1] at hx1
  have hl1 : g1 < W1.heap.size := (Array.getElem?_eq_some_iff.1 hx1).1
  obtain ⟨g2, hg2⟩ : ∃ g, g = w.heap.size + 2 := ⟨_, rfl⟩
  rw [← hg2] at hx2
  have hl2 : g2 < W1.heap.size := (Array.getElem?_eq_some_iff.1 hx2).1
  have HB0 := Lib.hid hb0
  clear hb0
  by_cases h9 : op = 9
  · subst h9
    cases pg with
    | true =>
      cases hG : goB id wz oi with
      | true =>
        have C1 := Lib.hid (fun W => by have := goesFor_any id wz true oi W; rw [hG] at this; exact this)
        have C1 := Lib.hid (C1.out W1)
        have C2 := Lib.hid (fun W => parent_any id wz true pi pp pw pl pf pq pn pd ps pv W)
        have x0_0 : W1.cell? ⟨g0, 0, none⟩ = some (.int .i64 id) := (cell_of_row _ _ 0 _ _ _ hx0).trans rfl
        have x0_1 : W1.cell? ⟨g0, 1, none⟩ = some (.bool wz) := (cell_of_row _ _ 1 _ _ _ hx0).trans rfl
        have x0_2 : W1.cell? ⟨g0, 2, none⟩ = some (.bool true) := (cell_of_row _ _ 2 _ _ _ hx0).trans rfl
        have x1_0 : W1.cell? ⟨g1, 0, none⟩ = some (.int .i64 oi) := (cell_of_row _ _ 0 _ _ _ hx1).trans rfl
        have x1_1 : W1.cell? ⟨g1, 1, none⟩ = some (.int .i64 oe) := (cell_of_row _ _ 1 _ _ _ hx1).trans rfl
        have x1_2 : W1.cell? ⟨g1, 2, none⟩ = some (.int .i64 ow) := (cell_of_row _ _ 2 _ _ _ hx1).trans rfl
        have x1_3 : W1.cell? ⟨g1, 3, none⟩ = some (.int .i64 ol) := (cell_of_row _ _ 3 _ _ _ hx1).trans rfl
        have x1_4 : W1.cell? ⟨g1, 4, none⟩ = some (.int .i64 of) := (cell_of_row _ _ 4 _ _ _ hx1).trans rfl
        have x1_5 : W1.cell? ⟨g1, 5, none⟩ = some (.int .i64 oq) := (cell_of_row _ _ 5 _ _ _ hx1).trans rfl
        have x1_6 : W1.cell? ⟨g1, 6, none⟩ = some (on) := (cell_of_row _ _ 6 _ _ _ hx1).trans rfl
        have x1_7 : W1.cell? ⟨g1, 7, none⟩ = some (od) := (cell_of_row _ _ 7 _ _ _ hx1).trans rfl
        have x1_8 : W1.cell? ⟨g1, 8, none⟩ = some (os) := (cell_of_row _ _ 8 _ _ _ hx1).trans rfl
        have x1_9 : W1.cell? ⟨g1, 9, none⟩ = some (ov) := (cell_of_row _ _ 9 _ _ _ hx1).trans rfl
        have x2_0 : W1.cell? ⟨g2, 0, none⟩ = some (.int .i64 pi) := (cell_of_row _ _ 0 _ _ _ hx2).trans rfl
        have x2_1 : W1.cell? ⟨g2, 1, none⟩ = some (.int .i64 pp) := (cell_of_row _ _ 1 _ _ _ hx2).trans rfl
        have x2_2 : W1.cell? ⟨g2, 2, none⟩ = some (.int .i64 pw) := (cell_of_row _ _ 2 _ _ _ hx2).trans rfl
        have x2_3 : W1.cell? ⟨g2, 3, none⟩ = some (.int .i64 pl) := (cell_of_row _ _ 3 _ _ _ hx2).trans rfl
        have x2_4 : W1.cell? ⟨g2, 4, none⟩ = some (.int .i64 pf) := (cell_of_row _ _ 4 _ _ _ hx2).trans rfl
        have x2_5 : W1.cell? ⟨g2, 5, none⟩ = some (.int .i64 pq) := (cell_of_row _ _ 5 _ _ _ hx2).trans rfl
        have x2_6 : W1.cell? ⟨g2, 6, none⟩ = some (pn) := (cell_of_row _ _ 6 _ _ _ hx2).trans rfl
        have x2_7 : W1.cell? ⟨g2, 7, none⟩ = some (pd) := (cell_of_row _ _ 7 _ _ _ hx2).trans rfl
        have x2_8 : W1.cell? ⟨g2, 8, none⟩ = some (ps) := (cell_of_row _ _ 8 _ _ _ hx2).trans rfl
        have x2_9 : W1.cell? ⟨g2, 9, none⟩ = some (pv) := (cell_of_row _ _ 9 _ _ _ hx2).trans rfl
        have HX0 := Lib.hid hx0
        clear hx0
        have HX1 := Lib.hid hx1
        clear hx1
        have HX2 := Lib.hid hx2
        clear hx2
        go_enter Try.func18, Try.ntmps18
        go_upto_region 1 with fail
        try simp only [World.size_alloc]
        rw [← hW1, ← hg2, ← hg1, ← hg0]
        clear hW1 hg0 hg1 hg2
        go_wp2_with (first
          | (go_at_call 21; (with_reducible refine C1.out.mono ?_); rintro e w2 ⟨rfl, hb2⟩; have HB0 := Lib.hid (HB0.out.trans (hb2.mono HB0.out.size)); have HX0 := Lib.hid ((hb2.block _ hl0).trans HX0.out); have hl0 := Nat.lt_of_lt_of_le hl0 hb2.size; have HX1 := Lib.hid ((hb2.block _ hl1).trans HX1.out); have hl1 := Nat.lt_of_lt_of_le hl1 hb2.size; have HX2 := Lib.hid ((hb2.block _ hl2).trans HX2.out); have hl2 := Nat.lt_of_lt_of_le hl2 hb2.size; have x0_0 : w2.cell? ⟨g0, 0, none⟩ = some (.int .i64 id) := (cell_of_row _ _ 0 _ _ _ HX0.out).trans rfl; have x0_1 : w2.cell? ⟨g0, 1, none⟩ = some (.bool wz) := (cell_of_row _ _ 1 _ _ _ HX0.out).trans rfl; have x0_2 : w2.cell? ⟨g0, 2, none⟩ = some (.bool true) := (cell_of_row _ _ 2 _ _ _ HX0.out).trans rfl; have x2_0 : w2.cell? ⟨g2, 0, none⟩ = some (.int .i64 pi) := (cell_of_row _ _ 0 _ _ _ HX2.out).trans rfl; have x2_1 : w2.cell? ⟨g2, 1, none⟩ = some (.int .i64 pp) := (cell_of_row _ _ 1 _ _ _ HX2.out).trans rfl; have x2_2 : w2.cell? ⟨g2, 2, none⟩ = some (.int .i64 pw) := (cell_of_row _ _ 2 _ _ _ HX2.out).trans rfl; have x2_3 : w2.cell? ⟨g2, 3, none⟩ = some (.int .i64 pl) := (cell_of_row _ _ 3 _ _ _ HX2.out).trans rfl; have x2_4 : w2.cell? ⟨g2, 4, none⟩ = some (.int .i64 pf) := (cell_of_row _ _ 4 _ _ _ HX2.out).trans rfl; have x2_5 : w2.cell? ⟨g2, 5, none⟩ = some (.int .i64 pq) := (cell_of_row _ _ 5 _ _ _ HX2.out).trans rfl; have x2_6 : w2.cell? ⟨g2, 6, none⟩ = some (pn) := (cell_of_row _ _ 6 _ _ _ HX2.out).trans rfl; have x2_7 : w2.cell? ⟨g2, 7, none⟩ = some (pd) := (cell_of_row _ _ 7 _ _ _ HX2.out).trans rfl; have x2_8 : w2.cell? ⟨g2, 8, none⟩ = some (ps) := (cell_of_row _ _ 8 _ _ _ HX2.out).trans rfl; have x2_9 : w2.cell? ⟨g2, 9, none⟩ = some (pv) := (cell_of_row _ _ 9 _ _ _ HX2.out).trans rfl; have C2 := Lib.hid (C2.out w2); clear hb2)
          | (go_at_call 22; (with_reducible refine C2.out.mono ?_); rintro e w3 ⟨rfl, hb2⟩; have HB0 := Lib.hid (HB0.out.trans (hb2.mono HB0.out.size)); have HX0 := Lib.hid ((hb2.block _ hl0).trans HX0.out); have hl0 := Nat.lt_of_lt_of_le hl0 hb2.size; have HX1 := Lib.hid ((hb2.block _ hl1).trans HX1.out); have hl1 := Nat.lt_of_lt_of_le hl1 hb2.size; have HX2 := Lib.hid ((hb2.block _ hl2).trans HX2.out); have hl2 := Nat.lt_of_lt_of_le hl2 hb2.size; clear hb2))
        go_ret
        exact ⟨ret_bool (by simp [twoB, hG]), HB0.out⟩
      | false =>
        have C1 := Lib.hid (fun W => by have := goesFor_any id wz true oi W; rw [hG] at this; exact this)
        have C1 := Lib.hid (C1.out W1)
        have x0_0 : W1.cell? ⟨g0, 0, none⟩ = some (.int .i64 id) := (cell_of_row _ _ 0 _ _ _ hx0).trans rfl
        have x0_1 : W1.cell? ⟨g0, 1, none⟩ = some (.bool wz) := (cell_of_row _ _ 1 _ _ _ hx0).trans rfl
        have x0_2 : W1.cell? ⟨g0, 2, none⟩ = some (.bool true) := (cell_of_row _ _ 2 _ _ _ hx0).trans rfl
        have x1_0 : W1.cell? ⟨g1, 0, none⟩ = some (.int .i64 oi) := (cell_of_row _ _ 0 _ _ _ hx1).trans rfl
        have x1_1 : W1.cell? ⟨g1, 1, none⟩ = some (.int .i64 oe) := (cell_of_row _ _ 1 _ _ _ hx1).trans rfl
        have x1_2 : W1.cell? ⟨g1, 2, none⟩ = some (.int .i64 ow) := (cell_of_row _ _ 2 _ _ _ hx1).trans rfl
        have x1_3 : W1.cell? ⟨g1, 3, none⟩ = some (.int .i64 ol) := (cell_of_row _ _ 3 _ _ _ hx1).trans rfl
        have x1_4 : W1.cell? ⟨g1, 4, none⟩ = some (.int .i64 of) := (cell_of_row _ _ 4 _ _ _ hx1).trans rfl
        have x1_5 : W1.cell? ⟨g1, 5, none⟩ = some (.int .i64 oq) := (cell_of_row _ _ 5 _ _ _ hx1).trans rfl
        have x1_6 : W1.cell? ⟨g1, 6, none⟩ = some (on) := (cell_of_row _ _ 6 _ _ _ hx1).trans rfl
        have x1_7 : W1.cell? ⟨g1, 7, none⟩ = some (od) := (cell_of_row _ _ 7 _ _ _ hx1).trans rfl
        have x1_8 : W1.cell? ⟨g1, 8, none⟩ = some (os) := (cell_of_row _ _ 8 _ _ _ hx1).trans rfl
        have x1_9 : W1.cell? ⟨g1, 9, none⟩ = some (ov) := (cell_of_row _ _ 9 _ _ _ hx1).trans rfl
        have x2_0 : W1.cell? ⟨g2, 0, none⟩ = some (.int .i64 pi) := (cell_of_row _ _ 0 _ _ _ hx2).trans rfl
        have x2_1 : W1.cell? ⟨g2, 1, none⟩ = some (.int .i64 pp) := (cell_of_row _ _ 1 _ _ _ hx2).trans rfl
        have x2_2 : W1.cell? ⟨g2, 2, none⟩ = some (.int .i64 pw) := (cell_of_row _ _ 2 _ _ _ hx2).trans rfl
        have x2_3 : W1.cell? ⟨g2, 3, none⟩ = some (.int .i64 pl) := (cell_of_row _ _ 3 _ _ _ hx2).trans rfl
        have x2_4 : W1.cell? ⟨g2, 4, none⟩ = some (.int .i64 pf) := (cell_of_row _ _ 4 _ _ _ hx2).trans rfl
        have x2_5 : W1.cell? ⟨g2, 5, none⟩ = some (.int .i64 pq) := (cell_of_row _ _ 5 _ _ _ hx2).trans rfl
        have x2_6 : W1.cell? ⟨g2, 6, none⟩ = some (pn) := (cell_of_row _ _ 6 _ _ _ hx2).trans rfl
        have x2_7 : W1.cell? ⟨g2, 7, none⟩ = some (pd) := (cell_of_row _ _ 7 _ _ _ hx2).trans rfl
        have x2_8 : W1.cell? ⟨g2, 8, none⟩ = some (ps) := (cell_of_row _ _ 8 _ _ _ hx2).trans rfl
        have x2_9 : W1.cell? ⟨g2, 9, none⟩ = some (pv) := (cell_of_row _ _ 9 _ _ _ hx2).trans rfl
        have HX0 := Lib.hid hx0
        clear hx0
        have HX1 := Lib.hid hx1
        clear hx1
        have HX2 := Lib.hid hx2
        clear hx2
        go_enter Try.func18, Try.ntmps18
        go_upto_region 1 with fail
        try simp only [World.size_alloc]
        rw [← hW1, ← hg2, ← hg1, ← hg0]
        clear hW1 hg0 hg1 hg2
        go_wp2_with (first
          | (go_at_call 21; (with_reducible refine C1.out.mono ?_); rintro e w2 ⟨rfl, hb2⟩; have HB0 := Lib.hid (HB0.out.trans (hb2.mono HB0.out.size)); have HX0 := Lib.hid ((hb2.block _ hl0).trans HX0.out); have hl0 := Nat.lt_of_lt_of_le hl0 hb2.size; have HX1 := Lib.hid ((hb2.block _ hl1).trans HX1.out); have hl1 := Nat.lt_of_lt_of_le hl1 hb2.size; have HX2 := Lib.hid ((hb2.block _ hl2).trans HX2.out); have hl2 := Nat.lt_of_lt_of_le hl2 hb2.size; clear hb2))
        go_ret
        exact ⟨ret_bool (by simp [twoB, hG]), HB0.out⟩
    | false =>
        have x0_0 : W1.cell? ⟨g0, 0, none⟩ = some (.int .i64 id) := (cell_of_row _ _ 0 _ _ _ hx0).trans rfl
        have x0_1 : W1.cell? ⟨g0, 1, none⟩ = some (.bool wz) := (cell_of_row _ _ 1 _ _ _ hx0).trans rfl
        have x0_2 : W1.cell? ⟨g0, 2, none⟩ = some (.bool false) := (cell_of_row _ _ 2 _ _ _ hx0).trans rfl
        have x1_0 : W1.cell? ⟨g1, 0, none⟩ = some (.int .i64 oi) := (cell_of_row _ _ 0 _ _ _ hx1).trans rfl
        have x1_1 : W1.cell? ⟨g1, 1, none⟩ = some (.int .i64 oe) := (cell_of_row _ _ 1 _ _ _ hx1).trans rfl
        have x1_2 : W1.cell? ⟨g1, 2, none⟩ = some (.int .i64 ow) := (cell_of_row _ _ 2 _ _ _ hx1).trans rfl
        have x1_3 : W1.cell? ⟨g1, 3, none⟩ = some (.int .i64 ol) := (cell_of_row _ _ 3 _ _ _ hx1).trans rfl
        have x1_4 : W1.cell? ⟨g1, 4, none⟩ = some (.int .i64 of) := (cell_of_row _ _ 4 _ _ _ hx1).trans rfl
        have x1_5 : W1.cell? ⟨g1, 5, none⟩ = some (.int .i64 oq) := (cell_of_row _ _ 5 _ _ _ hx1).trans rfl
        have x1_6 : W1.cell? ⟨g1, 6, none⟩ = some (on) := (cell_of_row _ _ 6 _ _ _ hx1).trans rfl
        have x1_7 : W1.cell? ⟨g1, 7, none⟩ = some (od) := (cell_of_row _ _ 7 _ _ _ hx1).trans rfl
        have x1_8 : W1.cell? ⟨g1, 8, none⟩ = some (os) := (cell_of_row _ _ 8 _ _ _ hx1).trans rfl
        have x1_9 : W1.cell? ⟨g1, 9, none⟩ = some (ov) := (cell_of_row _ _ 9 _ _ _ hx1).trans rfl
        have x2_0 : W1.cell? ⟨g2, 0, none⟩ = some (.int .i64 pi) := (cell_of_row _ _ 0 _ _ _ hx2).trans rfl
        have x2_1 : W1.cell? ⟨g2, 1, none⟩ = some (.int .i64 pp) := (cell_of_row _ _ 1 _ _ _ hx2).trans rfl
        have x2_2 : W1.cell? ⟨g2, 2, none⟩ = some (.int .i64 pw) := (cell_of_row _ _ 2 _ _ _ hx2).trans rfl
        have x2_3 : W1.cell? ⟨g2, 3, none⟩ = some (.int .i64 pl) := (cell_of_row _ _ 3 _ _ _ hx2).trans rfl
        have x2_4 : W1.cell? ⟨g2, 4, none⟩ = some (.int .i64 pf) := (cell_of_row _ _ 4 _ _ _ hx2).trans rfl
        have x2_5 : W1.cell? ⟨g2, 5, none⟩ = some (.int .i64 pq) := (cell_of_row _ _ 5 _ _ _ hx2).trans rfl
        have x2_6 : W1.cell? ⟨g2, 6, none⟩ = some (pn) := (cell_of_row _ _ 6 _ _ _ hx2).trans rfl
        have x2_7 : W1.cell? ⟨g2, 7, none⟩ = some (pd) := (cell_of_row _ _ 7 _ _ _ hx2).trans rfl
        have x2_8 : W1.cell? ⟨g2, 8, none⟩ = some (ps) := (cell_of_row _ _ 8 _ _ _ hx2).trans rfl
        have x2_9 : W1.cell? ⟨g2, 9, none⟩ = some (pv) := (cell_of_row _ _ 9 _ _ _ hx2).trans rfl
        have HX0 := Lib.hid hx0
        clear hx0
        have HX1 := Lib.hid hx1
        clear hx1
        have HX2 := Lib.hid hx2
        clear hx2
        go_enter Try.func18, Try.ntmps18
        go_upto_region 1 with fail
        try simp only [World.size_alloc]
        rw [← hW1, ← hg2, ← hg1, ← hg0]
        clear hW1 hg0 hg1 hg2
        go_wp2
        go_ret
        exact ⟨ret_bool (by simp [twoB]), HB0.out⟩
  by_cases h11 : op = 11
  · subst h11
    cases hG : goB id wz ow with
    | true =>
      have C1 := Lib.hid (by have := controls_any id wz pg oi oe ow ol of oq on od os ov W1; rw [hG] at this; exact this)
      have C2 := Lib.hid (fun W => parent_any id wz pg pi pp pw pl pf pq pn pd ps pv W)
      have x0_0 : W1.cell? ⟨g0, 0, none⟩ = some (.int .i64 id) := (cell_of_row _ _ 0 _ _ _ hx0).trans rfl
      have x0_1 : W1.cell? ⟨g0, 1, none⟩ = some (.bool wz) := (cell_of_row _ _ 1 _ _ _ hx0).trans rfl
      have x0_2 : W1.cell? ⟨g0, 2, none⟩ = some (.bool pg) := (cell_of_row _ _ 2 _ _ _ hx0).trans rfl
      have x1_0 : W1.cell? ⟨g1, 0, none⟩ = some (.int .i64 oi) := (cell_of_row _ _ 0 _ _ _ hx1).trans rfl
      have x1_1 : W1.cell? ⟨g1, 1, none⟩ = some (.int .i64 oe) := (cell_of_row _ _ 1 _ _ _ hx1).trans rfl
      have x1_2 : W1.cell? ⟨g1, 2, none⟩ = some (.int .i64 ow) := (cell_of_row _ _ 2 _ _ _ hx1).trans rfl
      have x1_3 : W1.cell? ⟨g1, 3, none⟩ = some (.int .i64 ol) := (cell_of_row _ _ 3 _ _ _ hx1).trans rfl
      have x1_4 : W1.cell? ⟨g1, 4, none⟩ = some (.int .i64 of) := (cell_of_row _ _ 4 _ _ _ hx1).trans rfl
      have x1_5 : W1.cell? ⟨g1, 5, none⟩ = some (.int .i64 oq) := (cell_of_row _ _ 5 _ _ _ hx1).trans rfl
      have x1_6 : W1.cell? ⟨g1, 6, none⟩ = some (on) := (cell_of_row _ _ 6 _ _ _ hx1).trans rfl
      have x1_7 : W1.cell? ⟨g1, 7, none⟩ = some (od) := (cell_of_row _ _ 7 _ _ _ hx1).trans rfl
      have x1_8 : W1.cell? ⟨g1, 8, none⟩ = some (os) := (cell_of_row _ _ 8 _ _ _ hx1).trans rfl
      have x1_9 : W1.cell? ⟨g1, 9, none⟩ = some (ov) := (cell_of_row _ _ 9 _ _ _ hx1).trans rfl
      have x2_0 : W1.cell? ⟨g2, 0, none⟩ = some (.int .i64 pi) := (cell_of_row _ _ 0 _ _ _ hx2).trans rfl
      have x2_1 : W1.cell? ⟨g2, 1, none⟩ = some (.int .i64 pp) := (cell_of_row _ _ 1 _ _ _ hx2).trans rfl
      have x2_2 : W1.cell? ⟨g2, 2, none⟩ = some (.int .i64 pw) := (cell_of_row _ _ 2 _ _ _ hx2).trans rfl
      have x2_3 : W1.cell? ⟨g2, 3, none⟩ = some (.int .i64 pl) := (cell_of_row _ _ 3 _ _ _ hx2).trans rfl
      have x2_4 : W1.cell? ⟨g2, 4, none⟩ = some (.int .i64 pf) := (cell_of_row _ _ 4 _ _ _ hx2).trans rfl
      have x2_5 : W1.cell? ⟨g2, 5, none⟩ = some (.int .i64 pq) := (cell_of_row _ _ 5 _ _ _ hx2).trans rfl
      have x2_6 : W1.cell? ⟨g2, 6, none⟩ = some (pn) := (cell_of_row _ _ 6 _ _ _ hx2).trans rfl
      have x2_7 : W1.cell? ⟨g2, 7, none⟩ = some (pd) := (cell_of_row _ _ 7 _ _ _ hx2).trans rfl
      have x2_8 : W1.cell? ⟨g2, 8, none⟩ = some (ps) := (cell_of_row _ _ 8 _ _ _ hx2).trans rfl
      have x2_9 : W1.cell? ⟨g2, 9, none⟩ = some (pv) := (cell_of_row _ _ 9 _ _ _ hx2).trans rfl
      have HX0 := Lib.hid hx0
      clear hx0
      have HX1 := Lib.hid hx1
      clear hx1
      have HX2 := Lib.hid hx2
      clear hx2
      go_enter Try.func18, Try.ntmps18
      go_upto_region 1 with fail
      try simp only [World.size_alloc]
      rw [← hW1, ← hg2, ← hg1, ← hg0]
      clear hW1 hg0 hg1 hg2
      go_wp2_with (first
        | (go_at_call 10; (with_reducible refine C1.out.mono ?_); rintro e w2 ⟨rfl, hb2⟩; have HB0 := Lib.hid (HB0.out.trans (hb2.mono HB0.out.size)); have HX0 := Lib.hid ((hb2.block _ hl0).trans HX0.out); have hl0 := Nat.lt_of_lt_of_le hl0 hb2.size; have HX1 := Lib.hid ((hb2.block _ hl1).trans HX1.out); have hl1 := Nat.lt_of_lt_of_le hl1 hb2.size; have HX2 := Lib.hid ((hb2.block _ hl2).trans HX2.out); have hl2 := Nat.lt_of_lt_of_le hl2 hb2.size; have x0_0 : w2.cell? ⟨g0, 0, none⟩ = some (.int .i64 id) := (cell_of_row _ _ 0 _ _ _ HX0.out).trans rfl; have x0_1 : w2.cell? ⟨g0, 1, none⟩ = some (.bool wz) := (cell_of_row _ _ 1 _ _ _ HX0.out).trans rfl; have x0_2 : w2.cell? ⟨g0, 2, none⟩ = some (.bool pg) := (cell_of_row _ _ 2 _ _ _ HX0.out).trans rfl; have x2_0 : w2.cell? ⟨g2, 0, none⟩ = some (.int .i64 pi) := (cell_of_row _ _ 0 _ _ _ HX2.out).trans rfl; have x2_1 : w2.cell? ⟨g2, 1, none⟩ = some (.int .i64 pp) := (cell_of_row _ _ 1 _ _ _ HX2.out).trans rfl; have x2_2 : w2.cell? ⟨g2, 2, none⟩ = some (.int .i64 pw) := (cell_of_row _ _ 2 _ _ _ HX2.out).trans rfl; have x2_3 : w2.cell? ⟨g2, 3, none⟩ = some (.int .i64 pl) := (cell_of_row _ _ 3 _ _ _ HX2.out).trans rfl; have x2_4 : w2.cell? ⟨g2, 4, none⟩ = some (.int .i64 pf) := (cell_of_row _ _ 4 _ _ _ HX2.out).trans rfl; have x2_5 : w2.cell? ⟨g2, 5, none⟩ = some (.int .i64 pq) := (cell_of_row _ _ 5 _ _ _ HX2.out).trans rfl; have x2_6 : w2.cell? ⟨g2, 6, none⟩ = some (pn) := (cell_of_row _ _ 6 _ _ _ HX2.out).trans rfl; have x2_7 : w2.cell? ⟨g2, 7, none⟩ = some (pd) := (cell_of_row _ _ 7 _ _ _ HX2.out).trans rfl; have x2_8 : w2.cell? ⟨g2, 8, none⟩ = some (ps) := (cell_of_row _ _ 8 _ _ _ HX2.out).trans rfl; have x2_9 : w2.cell? ⟨g2, 9, none⟩ = some (pv) := (cell_of_row _ _ 9 _ _ _ HX2.out).trans rfl; have C2 := Lib.hid (C2.out w2); clear hb2)
        | (go_at_call 22; (with_reducible refine C2.out.mono ?_); rintro e w3 ⟨rfl, hb2⟩; have HB0 := Lib.hid (HB0.out.trans (hb2.mono HB0.out.size)); have HX0 := Lib.hid ((hb2.block _ hl0).trans HX0.out); have hl0 := Nat.lt_of_lt_of_le hl0 hb2.size; have HX1 := Lib.hid ((hb2.block _ hl1).trans HX1.out); have hl1 := Nat.lt_of_lt_of_le hl1 hb2.size; have HX2 := Lib.hid ((hb2.block _ hl2).trans HX2.out); have hl2 := Nat.lt_of_lt_of_le hl2 hb2.size; clear hb2))
      go_ret
      exact ⟨ret_bool (by simp [twoB, hG]), HB0.out⟩
    | false =>
      have C1 := Lib.hid (by have := controls_any id wz pg oi oe ow ol of oq on od os ov W1; rw [hG] at this; exact this)
      have x0_0 : W1.cell? ⟨g0, 0, none⟩ = some (.int .i64 id) := (cell_of_row _ _ 0 _ _ _ hx0).trans rfl
      have x0_1 : W1.cell? ⟨g0, 1, none⟩ = some (.bool wz) := (cell_of_row _ _ 1 _ _ _ hx0).trans rfl
      have x0_2 : W1.cell? ⟨g0, 2, none⟩ = some (.bool pg) := (cell_of_row _ _ 2 _ _ _ hx0).trans rfl
      have x1_0 : W1.cell? ⟨g1, 0, none⟩ = some (.int .i64 oi) := (cell_of_row _ _ 0 _ _ _ hx1).trans rfl
      have x1_1 : W1.cell? ⟨g1, 1, none⟩ = some (.int .i64 oe) := (cell_of_row _ _ 1 _ _ _ hx1).trans rfl
      have x1_2 : W1.cell? ⟨g1, 2, none⟩ = some (.int .i64 ow) := (cell_of_row _ _ 2 _ _ _ hx1).trans rfl
      have x1_3 : W1.cell? ⟨g1, 3, none⟩ = some (.int .i64 ol) := (cell_of_row _ _ 3 _ _ _ hx1).trans rfl
      have x1_4 : W1.cell? ⟨g1, 4, none⟩ = some (.int .i64 of) := (cell_of_row _ _ 4 _ _ _ hx1).trans rfl
      have x1_5 : W1.cell? ⟨g1, 5, none⟩ = some (.int .i64 oq) := (cell_of_row _ _ 5 _ _ _ hx1).trans rfl
      have x1_6 : W1.cell? ⟨g1, 6, none⟩ = some (on) := (cell_of_row _ _ 6 _ _ _ hx1).trans rfl
      have x1_7 : W1.cell? ⟨g1, 7, none⟩ = some (od) := (cell_of_row _ _ 7 _ _ _ hx1).trans rfl
      have x1_8 : W1.cell? ⟨g1, 8, none⟩ = some (os) := (cell_of_row _ _ 8 _ _ _ hx1).trans rfl
      have x1_9 : W1.cell? ⟨g1, 9, none⟩ = some (ov) := (cell_of_row _ _ 9 _ _ _ hx1).trans rfl
      have x2_0 : W1.cell? ⟨g2, 0, none⟩ = some (.int .i64 pi) := (cell_of_row _ _ 0 _ _ _ hx2).trans rfl
      have x2_1 : W1.cell? ⟨g2, 1, none⟩ = some (.int .i64 pp) := (cell_of_row _ _ 1 _ _ _ hx2).trans rfl
      have x2_2 : W1.cell? ⟨g2, 2, none⟩ = some (.int .i64 pw) := (cell_of_row _ _ 2 _ _ _ hx2).trans rfl
      have x2_3 : W1.cell? ⟨g2, 3, none⟩ = some (.int .i64 pl) := (cell_of_row _ _ 3 _ _ _ hx2).trans rfl
      have x2_4 : W1.cell? ⟨g2, 4, none⟩ = some (.int .i64 pf) := (cell_of_row _ _ 4 _ _ _ hx2).trans rfl
      have x2_5 : W1.cell? ⟨g2, 5, none⟩ = some (.int .i64 pq) := (cell_of_row _ _ 5 _ _ _ hx2).trans rfl
      have x2_6 : W1.cell? ⟨g2, 6, none⟩ = some (pn) := (cell_of_row _ _ 6 _ _ _ hx2).trans rfl
      have x2_7 : W1.cell? ⟨g2, 7, none⟩ = some (pd) := (cell_of_row _ _ 7 _ _ _ hx2).trans rfl
      have x2_8 : W1.cell? ⟨g2, 8, none⟩ = some (ps) := (cell_of_row _ _ 8 _ _ _ hx2).trans rfl
      have x2_9 : W1.cell? ⟨g2, 9, none⟩ = some (pv) := (cell_of_row _ _ 9 _ _ _ hx2).trans rfl
      have HX0 := Lib.hid hx0
      clear hx0
      have HX1 := Lib.hid hx1
      clear hx1
      have HX2 := Lib.hid hx2
      clear hx2
      go_enter Try.func18, Try.ntmps18
      go_upto_region 1 with fail
      try simp only [World.size_alloc]
      rw [← hW1, ← hg2, ← hg1, ← hg0]
      clear hW1 hg0 hg1 hg2
      go_wp2_with (first
        | (go_at_call 10; (with_reducible refine C1.out.mono ?_); rintro e w2 ⟨rfl, hb2⟩; have HB0 := Lib.hid (HB0.out.trans (hb2.mono HB0.out.size)); have HX0 := Lib.hid ((hb2.block _ hl0).trans HX0.out); have hl0 := Nat.lt_of_lt_of_le hl0 hb2.size; have HX1 := Lib.hid ((hb2.block _ hl1).trans HX1.out); have hl1 := Nat.lt_of_lt_of_le hl1 hb2.size; have HX2 := Lib.hid ((hb2.block _ hl2).trans HX2.out); have hl2 := Nat.lt_of_lt_of_le hl2 hb2.size; clear hb2))
      go_ret
      exact ⟨ret_bool (by simp [twoB, hG]), HB0.out⟩
  have x0_0 : W1.cell? ⟨g0, 0, none⟩ = some (.int .i64 id) := (cell_of_row _ _ 0 _ _ _ hx0).trans rfl
  have x0_1 : W1.cell? ⟨g0, 1, none⟩ = some (.bool wz) := (cell_of_row _ _ 1 _ _ _ hx0).trans rfl
  have x0_2 : W1.cell? ⟨g0, 2, none⟩ = some (.bool pg) := (cell_of_row _ _ 2 _ _ _ hx0).trans rfl
  have x1_0 : W1.cell? ⟨g1, 0, none⟩ = some (.int .i64 oi) := (cell_of_row _ _ 0 _ _ _ hx1).trans rfl
  have x1_1 : W1.cell? ⟨g1, 1, none⟩ = some (.int .i64 oe) := (cell_of_row _ _ 1 _ _ _ hx1).trans rfl
  have x1_2 : W1.cell? ⟨g1, 2, none⟩ = some (.int .i64 ow) := (cell_of_row _ _ 2 _ _ _ hx1).trans rfl
  have x1_3 : W1.cell? ⟨g1, 3, none⟩ = some (.int .i64 ol) := (cell_of_row _ _ 3 _ _ _ hx1).trans rfl
  have x1_4 : W1.cell? ⟨g1, 4, none⟩ = some (.int .i64 of) := (cell_of_row _ _ 4 _ _ _ hx1).trans rfl
  have x1_5 : W1.cell? ⟨g1, 5, none⟩ = some (.int .i64 oq) := (cell_of_row _ _ 5 _ _ _ hx1).trans rfl
  have x1_6 : W1.cell? ⟨g1, 6, none⟩ = some (on) := (cell_of_row _ _ 6 _ _ _ hx1).trans rfl
  have x1_7 : W1.cell? ⟨g1, 7, none⟩ = some (od) := (cell_of_row _ _ 7 _ _ _ hx1).trans rfl
  have x1_8 : W1.cell? ⟨g1, 8, none⟩ = some (os) := (cell_of_row _ _ 8 _ _ _ hx1).trans rfl
  have x1_9 : W1.cell? ⟨g1, 9, none⟩ = some (ov) := (cell_of_row _ _ 9 _ _ _ hx1).trans rfl
  have x2_0 : W1.cell? ⟨g2, 0, none⟩ = some (.int .i64 pi) := (cell_of_row _ _ 0 _ _ _ hx2).trans rfl
  have x2_1 : W1.cell? ⟨g2, 1, none⟩ = some (.int .i64 pp) := (cell_of_row _ _ 1 _ _ _ hx2).trans rfl
  have x2_2 : W1.cell? ⟨g2, 2, none⟩ = some (.int .i64 pw) := (cell_of_row _ _ 2 _ _ _ hx2).trans rfl
  have x2_3 : W1.cell? ⟨g2, 3, none⟩ = some (.int .i64 pl) := (cell_of_row _ _ 3 _ _ _ hx2).trans rfl
  have x2_4 : W1.cell? ⟨g2, 4, none⟩ = some (.int .i64 pf) := (cell_of_row _ _ 4 _ _ _ hx2).trans rfl
  have x2_5 : W1.cell? ⟨g2, 5, none⟩ = some (.int .i64 pq) := (cell_of_row _ _ 5 _ _ _ hx2).trans rfl
  have x2_6 : W1.cell? ⟨g2, 6, none⟩ = some (pn) := (cell_of_row _ _ 6 _ _ _ hx2).trans rfl
  have x2_7 : W1.cell? ⟨g2, 7, none⟩ = some (pd) := (cell_of_row _ _ 7 _ _ _ hx2).trans rfl
  have x2_8 : W1.cell? ⟨g2, 8, none⟩ = some (ps) := (cell_of_row _ _ 8 _ _ _ hx2).trans rfl
  have x2_9 : W1.cell? ⟨g2, 9, none⟩ = some (pv) := (cell_of_row _ _ 9 _ _ _ hx2).trans rfl
  have HX0 := Lib.hid hx0
  clear hx0
  have HX1 := Lib.hid hx1
  clear hx1
  have HX2 := Lib.hid hx2
  clear hx2
  have e9 : (op == 9) = false := by simpa using h9
  have e11 : (op == 11) = false := by simpa using h11
  go_enter Try.func18, Try.ntmps18
  go_upto_region 1 with fail
  try simp only [World.size_alloc]
  rw [← hW1, ← hg2, ← hg1, ← hg0]
  clear hW1 hg0 hg1 hg2
  go_wp2
  go_ret
  exact ⟨ret_bool (by simp [twoB, h9, h11]), HB0.out⟩
end Go.Proofs.Ytemkikjcjhmlaaa.Pm
