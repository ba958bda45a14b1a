/- How arguments that are who acts, a slot, a verb, an object are read: the cells that they are. -/
import Derived.Test.YtemkikjcjhmlaaaProg
import Derived.Test.YtemkikjcjhmlaaaBase
import Derived.ChangeArms
import Derived.SizedLaws
import Derived.KernelRfl
namespace Go.Proofs.Ytemkikjcjhmlaaa.Pm
open Go.RowKit
set_option maxRecDepth 100000

theorem cellsI : Try.prog.cellsOf 3 = 1 := by kernel_rfl
theorem cellsL : Try.prog.cellsOf 2 = 1 := by kernel_rfl
theorem cellsS : Try.prog.cellsOf 9 = 1 := by kernel_rfl
theorem cellsB : Try.prog.cellsOf 4 = 1 := by kernel_rfl
theorem cellsVs : Try.prog.cellsOf 24 = 1 := by kernel_rfl
theorem cellsNs : Try.prog.cellsOf 29 = 1 := by kernel_rfl
theorem cellsSs : Try.prog.cellsOf 32 = 1 := by kernel_rfl
theorem cellsSl : Try.prog.cellsOf 33 = 1 := by kernel_rfl
theorem cellsVb : Try.prog.cellsOf 34 = 1 := by kernel_rfl
theorem cellsV : Try.prog.cellsOf 26 = 4 := by kernel_rfl
theorem cellsW : Try.prog.cellsOf 23 = 3 := by kernel_rfl
theorem cellsSt : Try.prog.cellsOf 28 = 8 := by kernel_rfl
theorem cellsVe : Try.prog.cellsOf 31 = 5 := by kernel_rfl
theorem cellsO : Try.prog.cellsOf 36 = 10 := by kernel_rfl

section
variable {H : Type} {enc : TypeId × Value → H} {w : World} {spare : Nat → Bool} {held : Bool} {fuel : Nat} {cs : List Value} {x : DataW H × List MemPlace}

theorem slice_form {t e : TypeId} (ht : Try.prog.underlying t = some (.slice e)) (h : DataW.trod enc Try.prog w 0 spare held fuel t cs = some x) : ∃ p l c, cs = [.slice p l c] := by
  rcases DataW.trod_slice ht h with ⟨rfl, _⟩ | ⟨a, len, cap, _, _, _, _, rfl, _⟩
  · exact ⟨_, _, _, rfl⟩
  · exact ⟨_, _, _, rfl⟩
theorem who_form (h : DataW.trod enc Try.prog w 0 spare held fuel 23 cs = some x) : ∃ id wz pg, cs = [.int .i64 id, .bool wz, .bool pg] := by
  obtain ⟨xs, n, hn, hx, hlen, hxl, hg⟩ := DataW.trod_struct Try.underlying23 h
  rw [cellsW] at hlen
  match cs, hlen with
  | [c0, c1, c2], _ =>
    match xs, hxl with
    | [y0, y1, y2], _ =>
      have g0 := hg 0 _ rfl
      have g1 := hg 1 _ rfl
      have g2 := hg 2 _ rfl
      simp [cellsI, cellsB] at g0 g1 g2
      obtain ⟨a, ha, _⟩ := DataW.trod_int Try.underlying3 g0
      obtain ⟨b, hb, _⟩ := DataW.trod_bool Try.underlying4 g1
      obtain ⟨c, hc, _⟩ := DataW.trod_bool Try.underlying4 g2
      simp only [List.cons.injEq, and_true] at ha hb hc
      exact ⟨a, b, c, by rw [ha, hb, hc]⟩
theorem value_form (h : DataW.trod enc Try.prog w 0 spare held fuel 26 cs = some x) : ∃ k m s p l c, cs = [.int .i64 k, .int .i64 m, .string s, .slice p l c] := by
  obtain ⟨xs, n, hn, hx, hlen, hxl, hg⟩ := DataW.trod_struct Try.underlying26 h
  rw [cellsV] at hlen
  match cs, hlen with
  | [c0, c1, c2, c3], _ =>
    match xs, hxl with
    | [y0, y1, y2, y3], _ =>
      have g0 := hg 0 _ rfl
      have g1 := hg 1 _ rfl
      have g2 := hg 2 _ rfl
      have g3 := hg 3 _ rfl
      simp [cellsI, cellsL, cellsS, cellsVs] at g0 g1 g2 g3
      obtain ⟨a, ha, _⟩ := DataW.trod_int Try.underlying3 g0
      obtain ⟨b, hb, _⟩ := DataW.trod_int Try.underlying2 g1
      obtain ⟨c, hc, _⟩ := DataW.trod_string Try.underlying9 g2
      obtain ⟨p, l, q, hp⟩ := slice_form Try.underlying24 g3
      simp only [List.cons.injEq, and_true] at ha hb hc hp
      exact ⟨a, b, c, p, l, q, by rw [ha, hb, hc, hp]⟩
theorem slot_form (h : DataW.trod enc Try.prog w 0 spare held fuel 28 cs = some x) : ∃ sn sw sb sc s4 s5 s6 s7 sl sk, cs = [.string sn, .int .i64 sw, .int .i64 sb, .bool sc, .int .i64 s4, .int .i64 s5, .string s6, .slice s7 sl sk] := by
  obtain ⟨xs, n, hn, hx, hlen, hxl, hg⟩ := DataW.trod_struct Try.underlying28 h
  rw [cellsSt] at hlen
  match cs, hlen with
  | [c0, c1, c2, c3, c4, c5, c6, c7], _ =>
    match xs, hxl with
    | [y0, y1, y2, y3, y4], _ =>
      have g0 := hg 0 _ rfl
      have g1 := hg 1 _ rfl
      have g2 := hg 2 _ rfl
      have g3 := hg 3 _ rfl
      have g4 := hg 4 _ rfl
      simp [cellsI, cellsS, cellsB, cellsV] at g0 g1 g2 g3 g4
      obtain ⟨a, ha, _⟩ := DataW.trod_string Try.underlying9 g0
      obtain ⟨b, hb, _⟩ := DataW.trod_int Try.underlying3 g1
      obtain ⟨c, hc, _⟩ := DataW.trod_int Try.underlying3 g2
      obtain ⟨d, hd, _⟩ := DataW.trod_bool Try.underlying4 g3
      obtain ⟨k, m, s, p, l, q, hv⟩ := value_form g4
      simp only [List.cons.injEq, and_true] at ha hb hc hd hv
      obtain ⟨rfl, rfl, rfl, rfl⟩ := hv
      exact ⟨a, b, c, d, k, m, s, p, l, q, by rw [ha, hb, hc, hd]⟩
theorem verb_form (h : DataW.trod enc Try.prog w 0 spare held fuel 31 cs = some x) : ∃ vn vw vb vt vp vl vk, cs = [.string vn, .int .i64 vw, .int .i64 vb, .string vt, .slice vp vl vk] := by
  obtain ⟨xs, n, hn, hx, hlen, hxl, hg⟩ := DataW.trod_struct Try.underlying31 h
  rw [cellsVe] at hlen
  match cs, hlen with
  | [c0, c1, c2, c3, c4], _ =>
    match xs, hxl with
    | [y0, y1, y2, y3, y4], _ =>
      have g0 := hg 0 _ rfl
      have g1 := hg 1 _ rfl
      have g2 := hg 2 _ rfl
      have g3 := hg 3 _ rfl
      have g4 := hg 4 _ rfl
      simp [cellsI, cellsS, cellsNs] at g0 g1 g2 g3 g4
      obtain ⟨a, ha, _⟩ := DataW.trod_string Try.underlying9 g0
      obtain ⟨b, hb, _⟩ := DataW.trod_int Try.underlying3 g1
      obtain ⟨c, hc, _⟩ := DataW.trod_int Try.underlying3 g2
      obtain ⟨d, hd, _⟩ := DataW.trod_string Try.underlying9 g3
      obtain ⟨p, l, q, hv⟩ := slice_form Try.underlying29 g4
      simp only [List.cons.injEq, and_true] at ha hb hc hd hv
      exact ⟨a, b, c, d, p, l, q, by rw [ha, hb, hc, hd, hv]⟩
theorem object_form (h : DataW.trod enc Try.prog w 0 spare held fuel 36 cs = some x) : ∃ oi oe ow ol of oq on od os ov, cs = [.int .i64 oi, .int .i64 oe, .int .i64 ow, .int .i64 ol, .int .i64 of, .int .i64 oq, on, od, os, ov] := by
  obtain ⟨xs, n, hn, hx, hlen, hxl, hg⟩ := DataW.trod_struct Try.underlying36 h
  rw [cellsO] at hlen
  match cs, hlen with
  | [c0, c1, c2, c3, c4, c5, c6, c7, c8, c9], _ =>
    match xs, hxl with
    | [y0, y1, y2, y3, y4, y5, y6, y7, y8, y9], _ =>
      have g0 := hg 0 _ rfl
      have g1 := hg 1 _ rfl
      have g2 := hg 2 _ rfl
      have g3 := hg 3 _ rfl
      have g4 := hg 4 _ rfl
      have g5 := hg 5 _ rfl
      simp [cellsI] at g0 g1 g2 g3 g4 g5
      obtain ⟨a, ha, _⟩ := DataW.trod_int Try.underlying3 g0
      obtain ⟨b, hb, _⟩ := DataW.trod_int Try.underlying3 g1
      obtain ⟨c, hc, _⟩ := DataW.trod_int Try.underlying3 g2
      obtain ⟨d, hd, _⟩ := DataW.trod_int Try.underlying3 g3
      obtain ⟨e, he, _⟩ := DataW.trod_int Try.underlying3 g4
      obtain ⟨f, hf, _⟩ := DataW.trod_int Try.underlying3 g5
      simp only [List.cons.injEq, and_true] at ha hb hc hd he hf
      exact ⟨a, b, c, d, e, f, c6, c7, c8, c9, by rw [ha, hb, hc, hd, he, hf]⟩
theorem agg_of {cs : Array Value} {l : List Value} (h : (Value.agg cs).cells.toList = l) : cs = l.toArray := by
  have h1 : cs.toList = l := by simpa [Value.cells] using h
  rw [← h1]
end
end Go.Proofs.Ytemkikjcjhmlaaa.Pm
