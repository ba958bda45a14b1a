/- The machine of seq.Sort. -/
import Derived.Test.YtjipchloebbldaaLess
import Derived.Test.YtjipchloebbldaaLay
import Derived.Test.YtjipchloebbldaaGetS
import Derived.Shelf.GgSortFunc.SmallK
namespace Go.Proofs.Ytjipchloebbldaa
open Go.RowKit Go.Sort Go.Shelf Go.Lib
set_option maxRecDepth 100000

theorem heap_putRowK_other (enc : Nat → List Value) (w : World) (n bo : Nat) (d : Array Nat) (k : Nat) (h : k ≠ bo) : (putRowK enc 4 (Sort.ahead w n) bo 0 d).heap[k]? = w.heap[k]? := by
  unfold putRowK putRow mapBlock; simp only [Array.getElem?_modify]; rw [if_neg (fun e => h e.symm)]; rfl
theorem size_putRowK (enc : Nat → List Value) (w : World) (n bo : Nat) (d : Array Nat) : (putRowK enc 4 (Sort.ahead w n) bo 0 d).heap.size = w.heap.size := by unfold putRowK putRow; simp [mapBlock, Sort.ahead]
theorem keeps_putRowK (enc : Nat → List Value) (w : World) (n bo : Nat) (d : Array Nat) : Keeps bo w (putRowK enc 4 (Sort.ahead w n) bo 0 d) :=
  ⟨rfl, rfl, rfl, by rw [size_putRowK]; exact Nat.le_refl _, fun k _ h => heap_putRowK_other enc w n bo d k h⟩
theorem HoldsK.below {enc : Nat → List Value} {W W' : World} {bo : Nat} {d : Array Nat} (h : HoldsK enc 4 W bo 0 d) (hb : Below W.heap.size W W') (hbo : bo < W.heap.size) : HoldsK enc 4 W' bo 0 d := fun j hj =>
  ⟨(hb.cell (p := ⟨bo, 0 + j, none⟩) hbo).trans (h j hj).1, (hb.frozen (p := ⟨bo, 0 + j, none⟩) hbo).trans (h j hj).2⟩

/-- Less, at places. -/
def ltP (l : List T) (x y : Nat) : Bool := decide (ord (l.getD x zeroT) (l.getD y zeroT) < 0)
structure SortS (l : List T) (enc : Nat → List Value) (bo gx : Nat) (d : Array Nat) (W : World) : Prop where
  row : HoldsK enc 4 W bo 0 d
  size : d.size = l.length
  all : ∀ i, i < l.length → d[i]! < l.length
  lies : Lies W bo l enc
  box : W.cell? ⟨gx, 0, none⟩ = some (.slice (some ⟨bo, 0, none⟩) l.length l.length)
  bo_lt : bo < W.heap.size
  gx_lt : gx < W.heap.size
  ne : gx ≠ bo

theorem mach (l : List T) (enc : Nat → List Value) (bo gx : Nat) (hlen : l.length ≤ 1000000) :
    Mach bo l.length (ltP l) 54 #[.pointer (some ⟨gx, 0, none⟩)] 82 #[.slice (some ⟨bo, 0, none⟩) l.length l.length, typeHandle Try.prog 24] (SortS l enc bo gx) where
  eg := enters_of Try.func54 (by kernel_rfl) rfl
  size := fun d W h => h.size
  blk := fun d W h => h.bo_lt
  big := by omega
  step := fun d W W' h hb => ⟨HoldsK.below h.row hb h.bo_lt, h.size, h.all, h.lies.keep hb.size (fun k _ h2 => hb.block k h2), (hb.cell (p := ⟨gx, 0, none⟩) h.gx_lt).trans h.box, Nat.lt_of_lt_of_le h.bo_lt hb.size, Nat.lt_of_lt_of_le h.gx_lt hb.size, h.ne⟩
  less := fun d W i j h hi hj => by
    have c : ∀ x, x < l.length → ∃ xk xn xs xp xl xc, W.cell? ⟨bo, 0 + x * 4, none⟩ = some (.int .i64 xk) ∧ W.cell? ⟨bo, 0 + x * 4 + 1, none⟩ = some (.int .i64 xn) ∧ W.cell? ⟨bo, 0 + x * 4 + 2, none⟩ = some (.string xs) ∧ W.cell? ⟨bo, 0 + x * 4 + 3, none⟩ = some (.slice xp xl xc) ∧ Rep W (bo + 1) W.heap.size (l.getD d[x]! zeroT) (.agg #[.int .i64 xk, .int .i64 xn, .string xs, .slice xp xl xc]) := fun x hx => by
      have hd := h.all x hx
      have hr := h.lies.rep _ hd
      have cc := fun c (hc : c < 4) => (h.row.cell (i := x) (by rw [h.size]; exact hx) hc).1
      rw [show l.getD d[x]! zeroT = l[d[x]!] by simp [List.getD, hd]]
      obtain ⟨k, n, s, p, len, cap, hf⟩ := rep_form hr
      have hl := h.lies.len d[x]!
      match hm : enc d[x]!, hl with
      | [c0, c1, c2, c3], _ =>
        rw [hm] at cc hf hr
        simp only [Value.agg.injEq, Array.mk.injEq, List.cons.injEq, and_true] at hf
        obtain ⟨rfl, rfl, rfl, rfl⟩ := hf
        exact ⟨k, n, s, p, len, cap, cc 0 (by omega), cc 1 (by omega), cc 2 (by omega), cc 3 (by omega), hr⟩
    obtain ⟨xk, xn, xs, xp, xl, xc, x0, x1, x2, x3, hx⟩ := c i hi
    obtain ⟨yk, yn, ys, yp, yl, yc, y0, y1, y2, y3, hy⟩ := c j hj
    exact sortf_any W gx bo 0 l.length i j (bo + 1) hi hj h.gx_lt h.bo_lt h.box _ _ xk xn xs xp xl xc yk yn ys yp yl yc x0 x1 x2 x3 y0 y1 y2 y3 hx hy
  swap := fun d W i j h hi hj => by
    obtain ⟨i0, hi0, hz0, hz1, hz2⟩ := info_parts Try.info_V
    have hsw := swapSwapsK_of_literal (P := Try.prog) false 82 (fun args W => run_callFunc_extern Try.func82 (by kernel_rfl) (by kernel_rfl) (by kernel_rfl) (e := Extern.ReflectliteSwapper.swap false) (by kernel_rfl) args W)
      24 i0 hi0 enc 4 h.lies.len hz1 Try.isAgg24 h.lies.one bo 0 l.length l.length W d h.row h.size i j hi hj
    have e : (W.setCells bo (0 + i * 4) (enc d[j]!)).setCells bo (0 + j * 4) (enc d[i]!) = putRowK enc 4 (Sort.ahead W 0) bo 0 (swp d i j) := by
      have := swap_worldK enc 4 h.lies.len W 0 0 bo 0 d i j (by rw [h.size]; exact hi) (by rw [h.size]; exact hj)
      rw [← this, Sort.ahead_zero, putRowK_self enc 4 W bo 0 d h.row]
      rfl
    rw [e] at hsw
    refine ⟨_, hsw, ⟨holdsK_putRowK enc 4 _ bo 0 d _ h.row (size_swp d i j), by rw [size_swp]; exact h.size, fun x hx => ?_, h.lies.keep (by rw [size_putRowK]; exact Nat.le_refl _) (fun k h1 _ => heap_putRowK_other enc W 0 bo _ k (by omega)), ?_, by rw [size_putRowK]; exact h.bo_lt, by rw [size_putRowK]; exact h.gx_lt, h.ne⟩, keeps_putRowK enc W 0 bo _⟩
    · rw [swp_get d (by rw [h.size]; exact hi) (by rw [h.size]; exact hj)]
      split
      · exact h.all i hi
      · split
        · exact h.all j hj
        · exact h.all x hx
    · exact (cell?_putRowK_other enc 4 _ bo 0 _ _ h.ne).trans h.box
end Go.Proofs.Ytjipchloebbldaa
