/- val.Less; what seq.Sort hands to the sorting. -/
import Derived.Test.YtjipchloebbldaaMade
import Derived.Test.YtjipchloebbldaaOrd
import Derived.Test.YtjipchloebbldaaMach
namespace Go.Proofs.Ytjipchloebbldaa
open Go.RowKit Go.Sort
set_option maxRecDepth 100000

set_option maxHeartbeats 400000 in
theorem less_any (t t' : T) (w : World) (lo hi lo' hi' : Nat) (v v' : Value) (hr : Rep w lo hi t v) (hhi : hi ≤ w.heap.size) (hr' : Rep w lo' hi' t' v') (hhi' : hi' ≤ w.heap.size) :
      Calls Try.prog 34 #[v, v'] w fun e w' => e = .returned (.bool (decide (ord t t' < 0))) ∧ Below w.heap.size w w' := by
  have hr0 := hr
  have hr0' := hr'
  match t, t', hr0, hr0' with
  | .mk k n s l, .mk k' n' s' l', hr0, hr0' =>
    unfold Rep at hr0 hr0'
    obtain ⟨p, cap, rfl, _⟩ := hr0
    obtain ⟨p', cap', rfl, _⟩ := hr0'
    go_enter Try.func34, Try.ntmps34
    go_wp2_with (go_at_call 55; refine (order_any _ _ _ lo hi lo' hi' _ _ ((hr.alloc (by omega) _).alloc (by simp; omega) _) (by simp; omega) ((hr'.alloc (by omega) _).alloc (by simp; omega) _) (by simp; omega)).mono ?_; rintro e w2 ⟨rfl, hb2⟩)
    go_ret
    exact ⟨rfl, (((Below.refl _ _).alloc (Nat.le_refl _) _).alloc (by simp) _).trans (hb2.mono (by simp; omega))⟩

set_option maxHeartbeats 2000000 in
theorem sortf_any (W : World) (gx bo off n i j lo : Nat) (hi : i < n) (hj : j < n) (hgl : gx < W.heap.size) (hbl : bo < W.heap.size) (hg : W.cell? ⟨gx, 0, none⟩ = some (.slice (some ⟨bo, off, none⟩) n n))
    (x y : T) (xk xn : Int) (xs : ByteArray) (xp : Option Addr) (xl xc : Nat) (yk yn : Int) (ys : ByteArray) (yp : Option Addr) (yl yc : Nat)
    (x0 : W.cell? ⟨bo, off + i * 4, none⟩ = some (.int .i64 xk)) (x1 : W.cell? ⟨bo, off + i * 4 + 1, none⟩ = some (.int .i64 xn)) (x2 : W.cell? ⟨bo, off + i * 4 + 2, none⟩ = some (.string xs)) (x3 : W.cell? ⟨bo, off + i * 4 + 3, none⟩ = some (.slice xp xl xc))
    (y0 : W.cell? ⟨bo, off + j * 4, none⟩ = some (.int .i64 yk)) (y1 : W.cell? ⟨bo, off + j * 4 + 1, none⟩ = some (.int .i64 yn)) (y2 : W.cell? ⟨bo, off + j * 4 + 2, none⟩ = some (.string ys)) (y3 : W.cell? ⟨bo, off + j * 4 + 3, none⟩ = some (.slice yp yl yc))
    (hx : Rep W lo W.heap.size x (.agg #[.int .i64 xk, .int .i64 xn, .string xs, .slice xp xl xc])) (hy : Rep W lo W.heap.size y (.agg #[.int .i64 yk, .int .i64 yn, .string ys, .slice yp yl yc])) :
    Calls Try.prog 54 #[.int .i64 i, .int .i64 j, .pointer (some ⟨gx, 0, none⟩)] W fun e w' => e = .returned (.bool (decide (ord x y < 0))) ∧ Below W.heap.size W w' := by
  have HL := Lib.hid (less_any x y W.drew lo W.heap.size lo W.heap.size _ _ hx.drew (Nat.le_refl _) hy.drew (Nat.le_refl _))
  have HW := Lib.hid ((Below.refl W.heap.size W).drew)
  have HS : Hid (∀ w', Below W.heap.size W w' → (fun w' => w'.cell? ⟨gx, 0, none⟩ = some (.slice (some ⟨bo, off, none⟩) n n) ∧ w'.cell? ⟨bo, off + i * 4, none⟩ = some (.int .i64 xk) ∧ w'.cell? ⟨bo, off + i * 4 + 1, none⟩ = some (.int .i64 xn) ∧ w'.cell? ⟨bo, off + i * 4 + 2, none⟩ = some (.string xs) ∧ w'.cell? ⟨bo, off + i * 4 + 3, none⟩ = some (.slice xp xl xc) ∧ w'.cell? ⟨bo, off + j * 4, none⟩ = some (.int .i64 yk) ∧ w'.cell? ⟨bo, off + j * 4 + 1, none⟩ = some (.int .i64 yn) ∧ w'.cell? ⟨bo, off + j * 4 + 2, none⟩ = some (.string ys) ∧ w'.cell? ⟨bo, off + j * 4 + 3, none⟩ = some (.slice yp yl yc)) w') := fun w' h => by
    have c : ∀ p : Addr, p.block < W.heap.size → w'.cell? p = W.cell? p := fun p hp => h.cell hp
    exact ⟨(c _ hgl).trans hg, (c _ hbl).trans x0, (c _ hbl).trans x1, (c _ hbl).trans x2, (c _ hbl).trans x3, (c _ hbl).trans y0, (c _ hbl).trans y1, (c _ hbl).trans y2, (c _ hbl).trans y3⟩
  clear hx hy
  generalize decide (ord x y < 0) = B at *
  go_enter Try.func54, Try.ntmps54
  go_wp2
  go_region_held3 (fun w' => w'.cell? ⟨gx, 0, none⟩ = some (.slice (some ⟨bo, off, none⟩) n n) ∧ w'.cell? ⟨bo, off + i * 4, none⟩ = some (.int .i64 xk) ∧ w'.cell? ⟨bo, off + i * 4 + 1, none⟩ = some (.int .i64 xn) ∧ w'.cell? ⟨bo, off + i * 4 + 2, none⟩ = some (.string xs) ∧ w'.cell? ⟨bo, off + i * 4 + 3, none⟩ = some (.slice xp xl xc) ∧ w'.cell? ⟨bo, off + j * 4, none⟩ = some (.int .i64 yk) ∧ w'.cell? ⟨bo, off + j * 4 + 1, none⟩ = some (.int .i64 yn) ∧ w'.cell? ⟨bo, off + j * 4 + 2, none⟩ = some (.string ys) ∧ w'.cell? ⟨bo, off + j * 4 + 3, none⟩ = some (.slice yp yl yc)) (first | exact HS.out _ HW.out | exact HS.out _ (HW.out.trans hb2) | exact HS.out _ (Below.refl _ _) | (go_show; fail)) (first | (go_at_call 34; (with_reducible refine HL.out.mono ?_); rintro e w2 ⟨rfl, hb2⟩))
  go_wp2
  go_ret
  exact ⟨rfl, HW.out.trans hb2⟩
end Go.Proofs.Ytjipchloebbldaa
