/- A slice of bytes that a call makes itself, byte by byte and text by text. -/
import Derived.Test.YtnlbibfjhobmjaaDoorBytes
import Derived.Lib.Builder
import Derived.Lib.UnsafeStr
import Derived.Laws.IdiomCopy
import Derived.Laws.BitsLemmas
import Derived.Lib.AppendStr
import Derived.Lib.BufferRead
namespace Go.Proofs.YtnlbibfjhobmjaaDoor
open Go.RowKit
set_option maxRecDepth 100000

theorem Tryd.info_u8 : (Tryd.prog.info? 5).map (fun i => (i.zero, i.size, i.bytes)) = some (some (.int .u8 0), 1, 1) := by kernel_rfl
theorem one_byte (w : World) (c : Value) (t : TypeId) : ∀ (j : Nat) (u : Value), [c][j]? = some u → (w.alloc (.cells #[c] t)).cell? ((⟨w.heap.size, 0, none⟩ : Addr).add j) = some u := by
  intro j u hj
  match j, hj with
  | 0, hj =>
    simp at hj; subst hj
    exact (cell_of_row _ _ 0 _ _ _ (heap_alloc_new w (.cells #[c] t))).trans rfl

theorem byteCells_snoc (acc : Bs) (c : UInt8) {d : Int} (h : (c.toNat : Int) = d) : Lib.byteCells acc ++ [.int .u8 d] = Lib.byteCells (acc ++ [c]) := by subst h; simp [Lib.byteCells]
/-- A slice of bytes of the call's own: what was written so far; all that stood below block B stands. -/
structure Buf (B : Nat) (acc : Bs) (v : Value) (W0 w : World) : Prop where
  own : w.ownsRow B 5 1 v acc.length (Lib.byteCells acc)
  bel : Below B W0 w
  le : B ≤ w.heap.size
theorem Buf.alloc {B : Nat} {acc : Bs} {v : Value} {W0 w : World} (h : Buf B acc v W0 w) (o : Obj) : Buf B acc v W0 (w.alloc o) :=
  ⟨h.own.alloc o, h.bel.alloc h.le o, by have := h.le; simp; omega⟩
theorem below_grown {B : Nat} {W0 w w' : World} {v : Value} (h : Below B W0 w) (hg : w.grownBy w' v.ownBlock) (hv : ∀ k, v.ownBlock = some k → B ≤ k) (hB : B ≤ w.heap.size) : Below B W0 w' :=
  h.trans ⟨hg.os, hg.tape, hg.output, hg.size, fun k hk => hg.block k (by omega) (fun e => by have := hv k e.symm; omega)⟩
theorem Buf.grown {B : Nat} {acc acc' : Bs} {v v' : Value} {W0 w w' : World} (h : Buf B acc v W0 w) (ho : w'.ownsRow B 5 1 v' acc'.length (Lib.byteCells acc')) (hg : w.grownBy w' v.ownBlock) : Buf B acc' v' W0 w' :=
  ⟨ho, below_grown h.bel hg (fun k hk => (h.own.lt k hk).1) h.le, Nat.le_trans h.le hg.size⟩
theorem Buf.start (w : World) : Buf w.heap.size [] (.slice none 0 0) w w := ⟨World.ownsRow_nil _ _ _ _, Below.refl _ _, Nat.le_refl _⟩
theorem byteCells_app (a b : Bs) : Lib.byteCells a ++ Lib.byteCells b = Lib.byteCells (a ++ b) := by simp [Lib.byteCells]
theorem byteCells_str (s : ByteArray) : Lib.strCells s = Lib.byteCells s.data.toList := by
  unfold Lib.strCells Lib.byteCells; first | rfl | simp
theorem byteCells_len (a : Bs) : (Lib.byteCells a).length = a.length := by simp [Lib.byteCells]

theorem buf_byte {ops : Array Oper} {rest : List Oper} {o : Oper} {a : Act} {Q : Exit → Act → World → Prop} (hgd : o.guard = none) (s x : Operand)
    (ho : o.op = .call { callee := .builtin .append, args := #[s, x], argTypes := #[39, 39] })
    (B : Nat) (acc : Bs) (v : Value) (W0 w0 : World) (hs : a.eval s = v) (hb : Buf B acc v W0 w0) (c : UInt8) (d : Int) (hcd : (c.toNat : Int) = d) (H : Nat) (hH : w0.heap.size = H) (hx : a.eval x = .slice (some ⟨H, 0, none⟩) 1 1) (hlen : acc.length + 1 ≤ 140737488355328)
    (h : ∀ v' w', Buf B (acc ++ [c]) v' W0 w' → wpList Tryd.prog ops Q rest (a.put o.dst v') w') : wpList Tryd.prog ops Q (o :: rest) a (w0.alloc (.cells #[.int .u8 d] 5)) := by
  obtain ⟨i0, hi, hz0, hz1, hz2⟩ := info_parts Tryd.info_u8
  subst hH
  have hle := hb.le
  refine wpList_append_own _ hgd s x 39 ho B 5 i0 (.int .u8 0) 1 1 Tryd.underlying39 hi hz0 hz1 hz2 rfl (by decide) v acc.length (Lib.byteCells acc) hs (hb.own.alloc _) ⟨w0.heap.size, 0, none⟩ 1 1 [.int .u8 d] hx rfl (one_byte w0 _ _) (by intro u hu; simp at hu; subst hu; rfl) (by unfold maxLen; omega) (by omega) (by simp; omega) ?_
  intro v' w' hown hgr _
  refine h v' w' ((hb.alloc _).grown ?_ hgr)
  rw [← byteCells_snoc acc c hcd, List.length_append]
  exact hown
theorem buf_str {ops : Array Oper} {rest : List Oper} {o : Oper} {a : Act} {Q : Exit → Act → World → Prop} (hgd : o.guard = none) (sl x : Operand)
    (ho : o.op = .call { callee := .builtin .append, args := #[sl, x], argTypes := #[39, 9] })
    (B : Nat) (acc : Bs) (v : Value) (W0 w : World) (hs : a.eval sl = v) (hb : Buf B acc v W0 w) (s : ByteArray) (hx : a.eval x = .string s) (hlen : acc.length + s.size ≤ 140737488355328)
    (h : ∀ v' w', Buf B (acc ++ s.data.toList) v' W0 w' → wpList Tryd.prog ops Q rest (a.put o.dst v') w') : wpList Tryd.prog ops Q (o :: rest) a w := by
  obtain ⟨i0, hi, hz0, hz1, hz2⟩ := info_parts Tryd.info_u8
  refine Lib.wpList_append_own_string w hgd sl x 39 9 ho B 5 i0 Tryd.underlying39 Tryd.underlying9 hi hz0 hz1 hz2 v acc.length (Lib.byteCells acc) hs hb.own s hx (by unfold maxLen; omega) hlen hb.le ?_
  intro v' w' hown hgr _
  refine h v' w' (hb.grown ?_ hgr)
  rw [byteCells_str, byteCells_app] at hown
  rw [List.length_append, show s.data.toList.length = s.size by simp]
  exact hown
theorem conv_own {w : World} {B : Nat} {v : Value} {l : Bs} (h : w.ownsRow B 5 1 v l.length (Lib.byteCells l)) : (convert 39 9 v).run Tryd.prog w = .ok (.string ⟨l.toArray⟩) w := by
  obtain ⟨_, ⟨rfl, hn⟩ | ⟨g, cap, cur, rfl, hB, hh, hnc, hcm, hcs, htk⟩⟩ := h
  · have hl : l = [] := List.eq_nil_of_length_eq_zero hn
    subst hl
    exact Lib.run_convert_nil_bytes w _ _ _ _ Tryd.underlying39 Tryd.underlying5 Tryd.underlying9
  · rw [Nat.mul_one] at htk
    exact run_convert_bytes_back w _ _ _ ⟨g, 0, none⟩ cap l Tryd.underlying39 Tryd.underlying5 Tryd.underlying9 (Lib.bytes_of_row hh htk)
theorem Buf.form {B : Nat} {acc : Bs} {v : Value} {W0 w : World} (h : Buf B acc v W0 w) : ∃ ao cap, v = .slice ao acc.length cap := by
  rcases h.own.2 with ⟨hv, h0⟩ | ⟨g, cap, cur, hv, _⟩
  · exact ⟨none, 0, by rw [hv, h0]⟩
  · exact ⟨_, _, hv⟩
theorem Buf.back {B : Nat} {acc : Bs} {v : Value} {W0 w : World} (h : Buf B acc v W0 w) : (convert 39 9 v).run Tryd.prog w = .ok (.string ⟨acc.toArray⟩) w := conv_own h.own
end Go.Proofs.YtnlbibfjhobmjaaDoor
