/- The reader's lists: beginning one; laying a value that stands behind all lists. -/
import Derived.Test.YtlinclbodbbemaaDoorY16
import Derived.Test.YtlinclbodbbemaaDoorY12
import Derived.Outline
namespace Go.Proofs.YtlinclbodbbemaaDoor
open Go.RowKit
set_option maxRecDepth 100000

theorem room_val (s : ByteArray) (x : Rd) (g : Nat) (w : World) (hx : RdIs w g s x) (b : Bool) (hb : decide (x.md ≤ 4096) = b) :
    Calls Tryd.prog 167 #[.pointer (some ⟨g, 0, none⟩)] w fun e w' => e = .returned (.bool b) ∧ w = w' := by
  subst hb; exact (room_any s x g w hx).mono fun _ _ ⟨h1, h2⟩ => ⟨h1, h2.symm⟩

set_option maxHeartbeats 1000000 in
theorem begin_skip (s : ByteArray) (x : Rd) (g : Nat) (w : World) (hx : RdIs w g s x) (hm : ¬ x.md ≤ 4096) (hsk : x.sk ≤ 4611686018427387904) :
    Calls Tryd.prog 157 #[.pointer (some ⟨g, 0, none⟩)] w fun e w' => e = .returned (.tuple #[]) ∧ RdIs w' g s { x with sk := x.sk + 1 } ∧ But g w w' := by
  obtain ⟨h0, h1, h2, h3, h4, h5, h6, h7, h8, hf, hlt⟩ := hx.open
  have HX := Lib.hid hx; clear hx
  have HB := Lib.hid (show decide (x.md ≤ 4096) = false from by simpa using hm)
  go_enter Tryd.func157, Tryd.ntmps157
  go_wp2_with (go_at_call 167; refine (room_val s x g _ HX.out false HB.out).mono ?_; rintro e w2 ⟨rfl, rfl⟩)
  go_returns
  exact ⟨rfl, HX.out.setSk _ (by simp), (But.refl _ _).setCell _ _⟩

/-- What beginning a list leaves. -/
def BegPost (s : ByteArray) (x : Rd) (g : Nat) (w : World) (N : Nat) (xs : List Value) (e : Ending) (w' : World) : Prop :=
  e = .returned (.tuple #[]) ∧ ∃ gb cb, RdIs w' g s { x with md := x.md + 1, ov := .slice (some ⟨gb, 0, none⟩) (N + 1) cb } ∧
    w'.ownsRow (g + 1) 32 4 (.slice (some ⟨gb, 0, none⟩) (N + 1) cb) (N + 1) (xs ++ [.int .i64 4, .int .i64 0, .string ⟨#[]⟩, .slice none 0 0]) ∧ (x.ov.ownBlock = some gb ∨ w.heap.size ≤ gb) ∧
    w'.os = w.os ∧ w'.tape = w.tape ∧ w'.output = w.output ∧ w.heap.size ≤ w'.heap.size ∧ ∀ j, j < w.heap.size → j ≠ g → some j ≠ x.ov.ownBlock → w'.heap[j]? = w.heap[j]?

theorem BegPost.mk_ {s : ByteArray} {x : Rd} {g : Nat} {w : World} {N : Nat} {lp : Option Addr} {lc gb cb : Nat} {xs : List Value} {w1 w2 : World} (hov : x.ov = .slice lp N lc)
    (hr : RdIs w2 g s { x with md := x.md + 1, ov := .slice (some ⟨gb, 0, none⟩) (N + 1) cb })
    (ho : w2.ownsRow (g + 1) 32 4 (.slice (some ⟨gb, 0, none⟩) (N + 1) cb) (N + 1) (xs ++ [.int .i64 4, .int .i64 0, .string ⟨#[]⟩, .slice none 0 0]))
    (hat : (Value.slice lp N lc).ownBlock = some gb ∨ w.heap.size ≤ gb)
    (h1 : w1.os = w.os ∧ w1.tape = w.tape ∧ w1.output = w.output ∧ w.heap.size ≤ w1.heap.size ∧ ∀ j, j < w.heap.size → j ≠ g → some j ≠ (Value.slice lp N lc).ownBlock → w1.heap[j]? = w.heap[j]?)
    (h2 : w2.os = w1.os ∧ w2.tape = w1.tape ∧ w2.output = w1.output ∧ w2.heap.size = w1.heap.size ∧ ∀ j, j ≠ g → j ≠ gb → w2.heap[j]? = w1.heap[j]?) :
    BegPost s x g w N xs (.returned (.tuple #[])) w2 := by
  refine ⟨rfl, gb, cb, hr, ho, by rw [hov]; exact hat, h2.1.trans h1.1, h2.2.1.trans h1.2.1, h2.2.2.1.trans h1.2.2.1, by rw [h2.2.2.2.1]; exact h1.2.2.2.1, fun j hj hjg hn => ?_⟩
  rw [hov] at hn
  refine (h2.2.2.2.2 j hjg (fun e => ?_)).trans (h1.2.2.2.2 j hj hjg hn)
  subst e
  rcases hat with e | e
  · exact hn e.symm
  · omega
theorem heap_set4' (w : World) (b o1 o2 o3 o4 j : Nat) (c0 c1 c2 c3 : Value) (h : j ≠ b) : ((((w.setCell ⟨b, o1, none⟩ c0).setCell ⟨b, o2, none⟩ c1).setCell ⟨b, o3, none⟩ c2).setCell ⟨b, o4, none⟩ c3).heap[j]? = w.heap[j]? := by
  rw [Below.heap_setCell _ _ _ _ h, Below.heap_setCell _ _ _ _ h, Below.heap_setCell _ _ _ _ h, Below.heap_setCell _ _ _ _ h]
theorem owns_set_far {w : World} {B : Nat} {e : TypeId} {size n : Nat} {v : Value} {xs : List Value} (h : w.ownsRow B e size v n xs) (p : Addr) (u : Value) (hp : v.ownBlock ≠ some p.block) : (w.setCell p u).ownsRow B e size v n xs :=
  owns_same h (fun b hb => Below.heap_setCell _ _ _ _ (fun e => hp (by rw [hb, e])))

theorem os_setCell (w : World) (p : Addr) (v : Value) : (w.setCell p v).os = w.os := rfl
theorem tape_setCell (w : World) (p : Addr) (v : Value) : (w.setCell p v).tape = w.tape := rfl
theorem output_setCell (w : World) (p : Addr) (v : Value) : (w.setCell p v).output = w.output := rfl
theorem RdIs.set4 {w : World} {g b : Nat} {s : ByteArray} {x : Rd} (h : RdIs w g s x) (hb : b ≠ g) (o1 o2 o3 o4 : Nat) (c0 c1 c2 c3 : Value) : RdIs ((((w.setCell ⟨b, o1, none⟩ c0).setCell ⟨b, o2, none⟩ c1).setCell ⟨b, o3, none⟩ c2).setCell ⟨b, o4, none⟩ c3) g s x := by
  have h' := h
  unfold RdIs at h ⊢
  rw [heap_set4' _ _ _ _ _ _ _ _ _ _ _ (fun e => hb e.symm)]
  exact h'
/-- The two orders in which the new list and its row are laid. -/
theorem beg_close1 {s : ByteArray} {x : Rd} {g : Nat} {w : World} {N : Nat} {lp : Option Addr} {lc gb cb : Nat} {xs : List Value} {w1 : World} {z0 z1 z2 z3 : Value} (hov : x.ov = .slice lp N lc)
    (hx : RdIs w1 g s { x with md := x.md + 1 }) (ho : w1.ownsRow (g + 1) 32 4 (.slice (some ⟨gb, 0, none⟩) (N + 1) cb) (N + 1) (xs ++ [z0, z1, z2, z3])) (hgb : gb ≠ g)
    (hat : (Value.slice lp N lc).ownBlock = some gb ∨ w.heap.size ≤ gb)
    (h1 : w1.os = w.os ∧ w1.tape = w.tape ∧ w1.output = w.output ∧ w.heap.size ≤ w1.heap.size ∧ ∀ j, j < w.heap.size → j ≠ g → some j ≠ (Value.slice lp N lc).ownBlock → w1.heap[j]? = w.heap[j]?) :
    BegPost s x g w N xs (.returned (.tuple #[])) (((((w1.setCell ⟨gb, N * 4, none⟩ (.int .i64 4)).setCell ⟨gb, N * 4 + 1, none⟩ (.int .i64 0)).setCell ⟨gb, N * 4 + 2, none⟩ (.string ⟨#[]⟩)).setCell ⟨gb, N * 4 + 3, none⟩ (.slice none 0 0)).setCell ⟨g, 2, none⟩ (.slice (some ⟨gb, 0, none⟩) (N + 1) cb)) :=
  BegPost.mk_ hov (RdIs.setOv (RdIs.set4 hx hgb _ _ _ _ _ _ _ _) _) (owns_set_far (tail_set ho _ _ _ _) ⟨g, 2, none⟩ _ (by simp [Value.ownBlock]; exact hgb)) hat h1
    ⟨by simp only [os_setCell], by simp only [tape_setCell], by simp only [output_setCell], by simp only [World.size_setCell], fun j hj hjb => (Below.heap_setCell _ _ _ _ hj).trans (heap_set4' _ _ _ _ _ _ _ _ _ _ _ hjb)⟩
theorem beg_close2 {s : ByteArray} {x : Rd} {g : Nat} {w : World} {N : Nat} {lp : Option Addr} {lc gb cb : Nat} {xs : List Value} {w1 : World} {z0 z1 z2 z3 : Value} (hov : x.ov = .slice lp N lc)
    (hx : RdIs w1 g s { x with md := x.md + 1 }) (ho : w1.ownsRow (g + 1) 32 4 (.slice (some ⟨gb, 0, none⟩) (N + 1) cb) (N + 1) (xs ++ [z0, z1, z2, z3])) (hgb : gb ≠ g)
    (hat : (Value.slice lp N lc).ownBlock = some gb ∨ w.heap.size ≤ gb)
    (h1 : w1.os = w.os ∧ w1.tape = w.tape ∧ w1.output = w.output ∧ w.heap.size ≤ w1.heap.size ∧ ∀ j, j < w.heap.size → j ≠ g → some j ≠ (Value.slice lp N lc).ownBlock → w1.heap[j]? = w.heap[j]?) :
    BegPost s x g w N xs (.returned (.tuple #[])) (((((w1.setCell ⟨g, 2, none⟩ (.slice (some ⟨gb, 0, none⟩) (N + 1) cb)).setCell ⟨gb, N * 4, none⟩ (.int .i64 4)).setCell ⟨gb, N * 4 + 1, none⟩ (.int .i64 0)).setCell ⟨gb, N * 4 + 2, none⟩ (.string ⟨#[]⟩)).setCell ⟨gb, N * 4 + 3, none⟩ (.slice none 0 0)) :=
  BegPost.mk_ hov (RdIs.set4 (RdIs.setOv hx _) hgb _ _ _ _ _ _ _ _) (tail_set (owns_set_far ho ⟨g, 2, none⟩ _ (by simp [Value.ownBlock]; exact hgb)) _ _ _ _) hat h1
    ⟨by simp only [os_setCell], by simp only [tape_setCell], by simp only [output_setCell], by simp only [World.size_setCell], fun j hj hjb => (heap_set4' _ _ _ _ _ _ _ _ _ _ _ hjb).trans (Below.heap_setCell _ _ _ _ hj)⟩
theorem beg_mid {g : Nat} {w W w1 : World} {v : Value} {o : Obj} (hg : (W.alloc o).grownBy w1 v.ownBlock) (hb : But g w W) :
    w1.os = w.os ∧ w1.tape = w.tape ∧ w1.output = w.output ∧ w.heap.size ≤ w1.heap.size ∧ ∀ j, j < w.heap.size → j ≠ g → some j ≠ v.ownBlock → w1.heap[j]? = w.heap[j]? := by
  have hz := hb.size
  refine ⟨hg.os.trans hb.os, hg.tape.trans hb.tape, hg.output.trans hb.output, Nat.le_trans (by simp; omega) hg.size, fun j hj hjg hn => ?_⟩
  exact (hg.block j (by simp; omega) hn).trans ((Below.heap_alloc W _ j (by omega)).trans (hb.block j hj hjg))

set_option maxHeartbeats 4000000 in
theorem begin_new (s : ByteArray) (x : Rd) (g : Nat) (w : World) (hx : RdIs w g s x) (hm : x.md ≤ 4096) (lp : Option Addr) (N lc : Nat) (hov : x.ov = .slice lp N lc) (xs : List Value) (hown : w.ownsRow (g + 1) 32 4 (.slice lp N lc) N xs) (hN : (N + 1) * 56 ≤ 140737488355328) :
    Calls Tryd.prog 157 #[.pointer (some ⟨g, 0, none⟩)] w (BegPost s x g w N xs) := by
  obtain ⟨i0, hi, hz0, hz1, hz2⟩ := info_parts Tryd.info_V
  obtain ⟨h0, h1, h2, h3, h4, h5, h6, h7, h8, hf, hlt⟩ := hx.open
  rw [hov] at h2
  have HX := Lib.hid hx; clear hx
  have HO := Lib.hid hown; clear hown
  have HOV := Lib.hid hov; clear hov
  have HB := Lib.hid (show decide (x.md ≤ 4096) = true from by simpa using hm)
  go_enter Tryd.func157, Tryd.ntmps157
  go_upto_region 3 with (go_at_call 167; refine (room_val s x g _ HX.out true HB.out).mono ?_; rintro e w2 ⟨rfl, rfl⟩)
  have HX1 := Lib.hid (HX.out.setMd (x.md + 1) (q := (x.md : Int) + 1) (by simp))
  have HB1 := Lib.hid ((But.refl g w).setCell 4 (.int .i64 ((x.md : Int) + 1)))
  have HO1 := Lib.hid (owns_but HO.out HB1.out (Nat.lt_succ_self g))
  clear h0 h1 h2 h3 h4 h5 h6 h7 h8 hf
  have hWs := Lib.hid (show (w.setCell ⟨g, 4, none⟩ (.int .i64 ((x.md : Int) + 1))).heap.size = w.heap.size from World.size_setCell _ _ _)
  have hgW : g + 1 ≤ (w.setCell ⟨g, 4, none⟩ (.int .i64 ((x.md : Int) + 1))).heap.size := by rw [hWs.out]; omega
  generalize w.setCell ⟨g, 4, none⟩ (.int .i64 ((x.md : Int) + 1)) = W at *
  obtain ⟨h0, h1, h2, h3, h4, h5, h6, h7, h8, hf, hltW⟩ := HX1.out.open
  rw [HOV.out] at h2
  have hNN : (N : Int) < (N : Int) + 1 := by omega
  go_region_law (first
    | (refine step_append_lies _ rfl (.tmp 22) (.tmp 25) 30 rfl (g + 1) 32 i0 _ 4 56 Tryd.underlying30 hi hz0 hz1 hz2 rfl (by decide) (.slice lp N lc) N xs rfl (HO1.out.alloc _) ⟨W.heap.size, 0, none⟩ 1 1 [.int .i64 0, .int .i64 0, .string ⟨#[]⟩, .slice none 0 0] rfl rfl (World.news_of_block (cs := #[.int .i64 0, .int .i64 0, .string ⟨#[]⟩, .slice none 0 0]) (t := 32) (fr := (0, 0)) (heap_alloc_new W _)) (by simp [Value.oneCell']) (by omega) (by unfold maxLen; omega) (by omega) (by simp; omega) (W.heap.size + 1) (by simp) ?_; intro gb cb w1 hown1 hgr1 hat1 hlt1; have hvB := fun k hk => (HO1.out.lt k hk); have hgr2 : (W.alloc (.cells #[.int .i64 0, .int .i64 0, .string ⟨#[]⟩, .slice none 0 0] 32)).grownBy w1 (Value.slice lp N lc).ownBlock := ⟨hgr1.os, hgr1.tape, hgr1.output, hgr1.size, hgr1.block⟩; have HX5 := Lib.hid (rd_grown (HX1.out.alloc _) hgr2 (fun k hk => (hvB k hk).1) (Nat.lt_succ_self g)); have HG5 := Lib.hid hgr2; clear hgr2; have HO5 := Lib.hid hown1; have HAT := Lib.hid hat1; have hgbg : gb ≠ g := (by rcases hat1 with e | e; have := (hvB gb e).1; omega; omega); have hggb : g ≠ gb := hgbg.symm; obtain ⟨z0, z1, z2, z3, zf⟩ := tail_cells hown1; obtain ⟨q0, q1, q2, q3, q4, q5, q6, q7, q8, qf, qlt⟩ := HX5.out.open; clear hown1 hgr1 hat1 hvB))
  all_goals
    have hat2 : (Value.slice lp N lc).ownBlock = some gb ∨ w.heap.size ≤ gb := by
      rcases HAT.out with e | e
      · exact .inl e
      · right; have := hWs.out; omega
    have A1 := Lib.hid (beg_mid HG5.out HB1.out)
    clear h0 h1 h2 h3 h4 h5 h6 h7 h8 hf z0 z1 z2 z3 zf q0 q1 q2 q3 q4 q5 q6 q7 q8 qf
    go_end0
    have B1 := beg_close1 HOV.out HX5.out HO5.out hgbg hat2 A1.out
    have B2 := beg_close2 HOV.out HX5.out HO5.out hgbg hat2 A1.out
    first
      | with_reducible exact B1
      | with_reducible exact B2

end Go.Proofs.YtlinclbodbbemaaDoor
