/- The reader's lists: laying a value into the innermost open one. -/
import Derived.Test.YtlinclbodbbemaaDoorY10
import Derived.Test.YtlinclbodbbemaaDoorY02
import Derived.Deep.AppendLies
import Derived.Deep.RegionLaw
import Derived.Deep.DeepCutAuto
namespace Go.Proofs.YtlinclbodbbemaaDoor
open Go.RowKit
set_option maxRecDepth 100000

structure AddMid (s : ByteArray) (x : Rd) (g : Nat) (w : World) (bo N : Nat) (lv : Value) (k n : Int) (u : ByteArray) (p : Option Addr) (len cap : Nat) (wx : World) : Prop where
  rd : RdIs wx g s x
  lvc : wx.cell? ⟨bo, (N - 1) * 4 + 3, none⟩ = some lv
  fz : wx.frozen? ⟨bo, (N - 1) * 4 + 3, none⟩ = false
  box : wx.heap[w.heap.size]? = some (.cells #[.int .i64 k, .int .i64 n, .string u, .slice p len cap] 32 (0, 0))
  os : wx.os = w.os
  tape : wx.tape = w.tape
  output : wx.output = w.output
  size : w.heap.size < wx.heap.size
  block : ∀ j, j < w.heap.size → some j ≠ lv.ownBlock → wx.heap[j]? = w.heap[j]?
  hbo : wx.heap[bo]? = w.heap[bo]?
theorem AddMid.grown {s : ByteArray} {x : Rd} {g : Nat} {w : World} {bo N : Nat} {lv : Value} {k n : Int} {u : ByteArray} {p : Option Addr} {len cap : Nat} {wx w1 : World} (o : Obj) (h : AddMid s x g w bo N lv k n u p len cap wx)
    (hg : (wx.alloc o).grownBy w1 lv.ownBlock) (hv : ∀ j, lv.ownBlock = some j → g < j ∧ j < w.heap.size ∧ j ≠ bo) (hb : bo < w.heap.size) : AddMid s x g w bo N lv k n u p len cap w1 := by
  have hsz := h.size
  have hgl := h.rd.lt
  have hs2 : wx.heap.size < (wx.alloc o).heap.size := by simp
  have hk : ∀ j, j < wx.heap.size → some j ≠ lv.ownBlock → w1.heap[j]? = wx.heap[j]? := fun j hj hn => (hg.block j (by omega) hn).trans (Below.heap_alloc _ _ _ hj)
  have h1 : some g ≠ lv.ownBlock := fun e => by have := hv g e.symm; omega
  have h2 : some bo ≠ lv.ownBlock := fun e => (hv bo e.symm).2.2 rfl
  have h3 : some w.heap.size ≠ lv.ownBlock := fun e => by have := hv _ e.symm; omega
  refine ⟨(hk g hgl h1).trans h.rd, ?_, ?_, (hk _ hsz h3).trans h.box, hg.os.trans h.os, hg.tape.trans h.tape, hg.output.trans h.output, ?_, fun j hj hn => (hk j (by omega) hn).trans (h.block j hj hn), (hk bo (by omega) h2).trans h.hbo⟩
  · rw [World.cell?_of_block (hk bo (by omega) h2)]; exact h.lvc
  · rw [World.frozen?_of_block (hk bo (by omega) h2)]; exact h.fz
  · have := hg.size; omega
theorem heap_setCell_congr {w1 w : World} {p : Addr} (h : w1.heap[p.block]? = w.heap[p.block]?) (v : Value) : (w1.setCell p v).heap[p.block]? = (w.setCell p v).heap[p.block]? := by
  simp [World.setCell, Array.getElem?_modify, h]

/-- What laying a value into the innermost list leaves. -/
def AddPost (s : ByteArray) (x : Rd) (g : Nat) (w : World) (bo N : Nat) (lv : Value) (L : Nat) (xs news : List Value) (e : Ending) (w' : World) : Prop :=
  e = .returned (.tuple #[]) ∧ ∃ gb cb, RdIs w' g s x ∧ w'.heap[bo]? = (w.setCell ⟨bo, (N - 1) * 4 + 3, none⟩ (.slice (some ⟨gb, 0, none⟩) (L + 1) cb)).heap[bo]? ∧
    w'.ownsRow (g + 1) 32 4 (.slice (some ⟨gb, 0, none⟩) (L + 1) cb) (L + 1) (xs ++ news) ∧ (lv.ownBlock = some gb ∨ w.heap.size ≤ gb) ∧ gb ≠ bo ∧
    w'.os = w.os ∧ w'.tape = w.tape ∧ w'.output = w.output ∧ w.heap.size ≤ w'.heap.size ∧ ∀ j, j < w.heap.size → j ≠ bo → some j ≠ lv.ownBlock → w'.heap[j]? = w.heap[j]?

theorem AddMid.post {s : ByteArray} {x : Rd} {g : Nat} {w : World} {bo N : Nat} {lv : Value} {k n : Int} {u : ByteArray} {p : Option Addr} {len cap : Nat} {w1 : World} {L gb cb : Nat} {xs : List Value}
    (h : AddMid s x g w bo N lv k n u p len cap w1) (hown : w1.ownsRow (g + 1) 32 4 (.slice (some ⟨gb, 0, none⟩) (L + 1) cb) (L + 1) (xs ++ [.int .i64 k, .int .i64 n, .string u, .slice p len cap]))
    (hat : lv.ownBlock = some gb ∨ w.heap.size ≤ gb) (hv : ∀ j, lv.ownBlock = some j → g < j ∧ j < w.heap.size ∧ j ≠ bo) (hb : bo < w.heap.size) (hgb : g ≠ bo) :
    AddPost s x g w bo N lv L xs [.int .i64 k, .int .i64 n, .string u, .slice p len cap] (.returned (.tuple #[])) (w1.setCell ⟨bo, (N - 1) * 4 + 3, none⟩ (.slice (some ⟨gb, 0, none⟩) (L + 1) cb)) := by
  have hne : gb ≠ bo := by
    rcases hat with e | e
    · exact (hv gb e).2.2
    · omega
  have hsz := h.size
  refine ⟨rfl, gb, cb, h.rd.other _ (fun e => hgb e.symm) _, heap_setCell_congr h.hbo _, ?_, hat, hne, h.os, h.tape, h.output, by rw [World.size_setCell]; omega, fun j hj hjb hn => (Below.heap_setCell _ _ _ _ hjb).trans (h.block j hj hn)⟩
  refine hown.kept (row := some bo) ⟨rfl, rfl, rfl, by simp, fun k _ hk => Below.heap_setCell _ _ _ _ (fun e => hk (by rw [e]))⟩ (.inr ?_)
  simp [Value.ownBlock, hne]

theorem tail_cells {w : World} {B : Nat} {t : TypeId} {L gb cb : Nat} {xs : List Value} {z0 z1 z2 z3 : Value} (h : w.ownsRow B t 4 (.slice (some ⟨gb, 0, none⟩) (L + 1) cb) (L + 1) (xs ++ [z0, z1, z2, z3])) :
    w.cell? ⟨gb, L * 4, none⟩ = some z0 ∧ w.cell? ⟨gb, L * 4 + 1, none⟩ = some z1 ∧ w.cell? ⟨gb, L * 4 + 2, none⟩ = some z2 ∧ w.cell? ⟨gb, L * 4 + 3, none⟩ = some z3 ∧ ∀ o, w.frozen? ⟨gb, o, none⟩ = false := by
  have hl : xs.length = L * 4 := by have := h.1; simp at this; omega
  have hc := fun j (hj : j < (L + 1) * 4) => World.ownsRow.cellAt h j hj
  refine ⟨?_, ?_, ?_, ?_, fun o => World.ownsRow.frozenAt h o⟩
  · rw [hc _ (by omega), List.getElem?_append_right (by omega), hl]; simp
  · rw [hc _ (by omega), List.getElem?_append_right (by omega), hl, show L * 4 + 1 - L * 4 = 1 by omega]; rfl
  · rw [hc _ (by omega), List.getElem?_append_right (by omega), hl, show L * 4 + 2 - L * 4 = 2 by omega]; rfl
  · rw [hc _ (by omega), List.getElem?_append_right (by omega), hl, show L * 4 + 3 - L * 4 = 3 by omega]; rfl
theorem tail_set {w : World} {B : Nat} {t : TypeId} {L gb cb : Nat} {xs : List Value} {z0 z1 z2 z3 : Value} (h : w.ownsRow B t 4 (.slice (some ⟨gb, 0, none⟩) (L + 1) cb) (L + 1) (xs ++ [z0, z1, z2, z3])) (v0 v1 v2 v3 : Value) :
    ((((w.setCell ⟨gb, L * 4, none⟩ v0).setCell ⟨gb, L * 4 + 1, none⟩ v1).setCell ⟨gb, L * 4 + 2, none⟩ v2).setCell ⟨gb, L * 4 + 3, none⟩ v3).ownsRow B t 4 (.slice (some ⟨gb, 0, none⟩) (L + 1) cb) (L + 1) (xs ++ [v0, v1, v2, v3]) := by
  have hl : xs.length = L * 4 := by have := h.1; simp at this; omega
  have h4 := (World.ownsRow.stored (World.ownsRow.stored (World.ownsRow.stored (World.ownsRow.stored h (L * 4) v0).1 (L * 4 + 1) v1).1 (L * 4 + 2) v2).1 (L * 4 + 3) v3).1
  have e : ((((xs ++ [z0, z1, z2, z3]).set (L * 4) v0).set (L * 4 + 1) v1).set (L * 4 + 2) v2).set (L * 4 + 3) v3 = xs ++ [v0, v1, v2, v3] := by
    rw [← hl]
    simp
  rw [e] at h4
  exact h4
theorem AddPost.more {s : ByteArray} {x : Rd} {g : Nat} {w : World} {bo N : Nat} {lv : Value} {L gb cb : Nat} {xs news : List Value} {w1 w2 : World}
    (h1 : RdIs w1 g s x) (h2 : w1.heap[bo]? = (w.setCell ⟨bo, (N - 1) * 4 + 3, none⟩ (.slice (some ⟨gb, 0, none⟩) (L + 1) cb)).heap[bo]?) (h4 : lv.ownBlock = some gb ∨ w.heap.size ≤ gb) (h5 : gb ≠ bo) (hgg : gb ≠ g)
    (h6 : w1.os = w.os ∧ w1.tape = w.tape ∧ w1.output = w.output ∧ w.heap.size ≤ w1.heap.size ∧ ∀ j, j < w.heap.size → j ≠ bo → some j ≠ lv.ownBlock → w1.heap[j]? = w.heap[j]?)
    (hg : w1.grownBy w2 (some gb)) (h3 : w2.ownsRow (g + 1) 32 4 (.slice (some ⟨gb, 0, none⟩) (L + 1) cb) (L + 1) (xs ++ news)) (hb : bo < w1.heap.size) :
    AddPost s x g w bo N lv L xs news (.returned (.tuple #[])) w2 := by
  refine ⟨rfl, gb, cb, (hg.block g h1.lt (fun e => hgg (by injection e with e; exact e.symm))).trans h1, (hg.block bo hb (fun e => h5 (by injection e with e; exact e.symm))).trans h2, h3, h4, h5, hg.os.trans h6.1, hg.tape.trans h6.2.1, hg.output.trans h6.2.2.1, Nat.le_trans h6.2.2.2.1 hg.size, fun j hj hjb hn => ?_⟩
  refine (hg.block j (Nat.lt_of_lt_of_le hj h6.2.2.2.1) (fun e => ?_)).trans (h6.2.2.2.2 j hj hjb hn)
  injection e with e
  subst e
  rcases h4 with h4 | h4
  · exact hn h4.symm
  · omega

set_option maxHeartbeats 4000000 in
theorem add_in (s : ByteArray) (x : Rd) (g : Nat) (w : World) (hx : RdIs w g s x) (bo N capo : Nat) (hov : x.ov = .slice (some ⟨bo, 0, none⟩) N capo) (hN : 0 < N) (hNm : N ≤ 4611686018427387904)
    (lv : Value) (hbl : bo < w.heap.size) (hlv : w.cell? ⟨bo, (N - 1) * 4 + 3, none⟩ = some lv) (hfz : w.frozen? ⟨bo, (N - 1) * 4 + 3, none⟩ = false) (L : Nat) (xs : List Value) (hown : w.ownsRow (g + 1) 32 4 lv L xs)
    (hne : ∀ b, lv.ownBlock = some b → b ≠ bo) (hgb : g ≠ bo) (k n : Int) (u : ByteArray) (p : Option Addr) (len cap : Nat) (hL : (L + 1) * 56 ≤ 140737488355328) :
    Calls Tryd.prog 160 #[.pointer (some ⟨g, 0, none⟩), .agg #[.int .i64 k, .int .i64 n, .string u, .slice p len cap]] w (AddPost s x g w bo N lv L xs [.int .i64 k, .int .i64 n, .string u, .slice p len cap]) := by
  obtain ⟨i0, hi, hz0, hz1, hz2⟩ := info_parts Tryd.info_V
  obtain ⟨h0, h1, h2, h3, h4, h5, h6, h7, h8, hf, hlt⟩ := hx.open
  rw [hov] at h2
  have HX := Lib.hid hx; clear hx
  have HV := Lib.hid (show ∀ j, lv.ownBlock = some j → g < j ∧ j < w.heap.size ∧ j ≠ bo from fun j hj => ⟨by have := (hown.lt j hj).1; omega, (hown.lt j hj).2, hne j hj⟩); clear hne
  have HO := Lib.hid hown; clear hown
  have HLV := Lib.hid hlv; clear hlv
  have HFZ := Lib.hid hfz; clear hfz
  obtain ⟨lp, lc, rfl⟩ : ∃ lp lc, lv = .slice lp L lc := by
    rcases HO.out.2 with ⟨e, e0⟩ | ⟨gl, cl, _, e, _⟩
    · exact ⟨none, 0, by rw [e, e0]⟩
    · exact ⟨_, _, e⟩
  go_enter Tryd.func160, Tryd.ntmps160
  go_upto_region 4 with fail
  go_cut [18] (fun b wx => (b = .bool true ∨ b = .bool false) ∧ Hid (AddMid s x g w bo N (.slice lp L lc) k n u p len cap wx) ∧ Hid (wx.ownsRow (g + 1) 32 4 (.slice lp L lc) L xs))
  case first =>
    go_region
    all_goals
      go_wp2_with fail
      go_meet
      have hs1 : w.heap.size < (w.alloc (.cells #[.int .i64 k, .int .i64 n, .string u, .slice p len cap] 32)).heap.size := by simp
      have hb2 : ∀ o : Obj, Below w.heap.size w ((w.alloc (.cells #[.int .i64 k, .int .i64 n, .string u, .slice p len cap] 32)).alloc o) := fun o => ((Below.refl _ _).alloc (Nat.le_refl _) _).alloc (by simp) _
      refine ⟨by simp, ⟨((HX.out.alloc _).alloc _).drew, ((hb2 _).cell (p := ⟨bo, _, none⟩) hbl).trans HLV.out, ((hb2 _).frozen (p := ⟨bo, _, none⟩) hbl).trans HFZ.out, heap_alloc_ _ _ _ _ (heap_alloc_new w _), rfl, rfl, rfl, by simp; omega, fun j hj _ => (hb2 _).block j hj, (hb2 _).block bo hbl⟩, ((HO.out.alloc _).alloc _).drew⟩
  case rest =>
    obtain ⟨hb, hmid, hown⟩ := hcut
    have hq := hmid.out.rd.open
    obtain ⟨q0, q1, q2, q3, q4, q5, q6, q7, q8, qf, qlt⟩ := hq
    rw [hov] at q2
    have qlv := hmid.out.lvc
    have qfz := hmid.out.fz
    obtain ⟨b0, b1, b2, b3, _⟩ := box4_in wc w.heap.size _ _ _ _ _ hmid.out.box
    have qsz := hmid.out.size
    have hblc : bo < wc.heap.size := by omega
    have e1 : (0 : Int) ≤ (N : Int) - 1 := by omega
    have e4 : (1 : Int) ≤ (N : Int) := by omega
    have e2 : (N : Int) - 1 < (N : Int) := by omega
    have e3 : ((N : Int) - 1).toNat = N - 1 := by omega
    rcases hb with rfl | rfl
    · go_upto_region 5 with fail
      go_region_law (first
        | (refine step_append_lies _ rfl (.tmp 26) (.tmp 29) 30 rfl (g + 1) 32 i0 _ 4 56 Tryd.underlying30 hi hz0 hz1 hz2 rfl (by decide) (.slice lp L lc) L xs rfl (hown.out.alloc _) ⟨wc.heap.size, 0, none⟩ 1 1 [.int .i64 0, .int .i64 0, .string ⟨#[]⟩, .slice none 0 0] rfl rfl (World.news_of_block (cs := #[.int .i64 0, .int .i64 0, .string ⟨#[]⟩, .slice none 0 0]) (t := 32) (fr := (0, 0)) (heap_alloc_new wc _)) (by simp [Value.oneCell']) (by omega) (by unfold maxLen; omega) (by omega) (by simp; omega) (wc.heap.size + 1) (by simp) ?_; intro gb cb w1 hown1 hgr1 hat1 hlt1; have hgr2 : (wc.alloc (.cells #[.int .i64 0, .int .i64 0, .string ⟨#[]⟩, .slice none 0 0] 32)).grownBy w1 (Value.slice lp L lc).ownBlock := ⟨hgr1.os, hgr1.tape, hgr1.output, hgr1.size, hgr1.block⟩; have hm1 := Lib.hid (AddMid.grown _ hmid.out hgr2 HV.out hbl); have HO1 := Lib.hid hown1; have hat2 : (Value.slice lp L lc).ownBlock = some gb ∨ w.heap.size ≤ gb := (by rcases hat1 with e | e; exact .inl e; right; omega); have HAT := Lib.hid hat2; have r1 := hm1.out.lvc; have r2 := hm1.out.fz; have r3 := hm1.out.size; obtain ⟨c0, c1, c2, c3, _⟩ := box4_in w1 w.heap.size _ _ _ _ _ hm1.out.box; obtain ⟨r10, r11, r12, r13, r14, r15, r16, r17, r18, rf, rlt⟩ := hm1.out.rd.open; rw [hov] at r12; clear hown1 hgr1 hgr2 hat1 hat2; have hgbo : gb ≠ bo := (by rcases HAT.out with e | e; exact (HV.out gb e).2.2; omega); have hbog : bo ≠ gb := hgbo.symm; have hgbg : gb ≠ g := (by rcases HAT.out with e | e; have := (HV.out gb e).1; omega; omega); obtain ⟨z0, z1, z2, z3, zf⟩ := tail_cells HO1.out))
      all_goals
        try go_wp2
        have A1 := Lib.hid (hm1.out.rd.other ⟨bo, (N - 1) * 4 + 3, none⟩ (fun e => hgb e.symm) (.slice (some ⟨gb, 0, none⟩) (L + 1) cb))
        have A2 := Lib.hid (heap_setCell_congr (p := ⟨bo, (N - 1) * 4 + 3, none⟩) hm1.out.hbo (.slice (some ⟨gb, 0, none⟩) (L + 1) cb))
        have A3 : Hid ((w1.setCell ⟨bo, (N - 1) * 4 + 3, none⟩ (.slice (some ⟨gb, 0, none⟩) (L + 1) cb)).ownsRow (g + 1) 32 4 (.slice (some ⟨gb, 0, none⟩) (L + 1) cb) (L + 1) (xs ++ [.int .i64 0, .int .i64 0, .string ⟨#[]⟩, .slice none 0 0])) :=
          HO1.out.kept (row := some bo) ⟨rfl, rfl, rfl, by simp, fun k _ hk => Below.heap_setCell _ _ _ _ (fun e => hk (by rw [e]))⟩ (.inr (by simp [Value.ownBlock, hgbo]))
        have A4 := Lib.hid (show (w1.setCell ⟨bo, (N - 1) * 4 + 3, none⟩ (.slice (some ⟨gb, 0, none⟩) (L + 1) cb)).os = w.os ∧ (w1.setCell ⟨bo, (N - 1) * 4 + 3, none⟩ (.slice (some ⟨gb, 0, none⟩) (L + 1) cb)).tape = w.tape ∧ (w1.setCell ⟨bo, (N - 1) * 4 + 3, none⟩ (.slice (some ⟨gb, 0, none⟩) (L + 1) cb)).output = w.output ∧ w.heap.size ≤ (w1.setCell ⟨bo, (N - 1) * 4 + 3, none⟩ (.slice (some ⟨gb, 0, none⟩) (L + 1) cb)).heap.size ∧ ∀ j, j < w.heap.size → j ≠ bo → some j ≠ (Value.slice lp L lc).ownBlock → (w1.setCell ⟨bo, (N - 1) * 4 + 3, none⟩ (.slice (some ⟨gb, 0, none⟩) (L + 1) cb)).heap[j]? = w.heap[j]? from
          ⟨hm1.out.os, hm1.out.tape, hm1.out.output, by rw [World.size_setCell]; omega, fun j hj hjb hn => (Below.heap_setCell _ _ _ _ hjb).trans (hm1.out.block j hj hn)⟩)
        have A5 : bo < (w1.setCell ⟨bo, (N - 1) * 4 + 3, none⟩ (.slice (some ⟨gb, 0, none⟩) (L + 1) cb)).heap.size := by rw [World.size_setCell]; omega
        go_end0
        refine AddPost.more A1.out A2.out HAT.out hgbo hgbg A4.out ⟨rfl, rfl, rfl, by simp, fun k _ hk => ?_⟩ (tail_set A3.out _ _ _ _) A5
        have hk' : k ≠ gb := fun e => hk (by rw [e])
        rw [Below.heap_setCell _ _ _ _ hk', Below.heap_setCell _ _ _ _ hk', Below.heap_setCell _ _ _ _ hk', Below.heap_setCell _ _ _ _ hk']
    · go_upto_region 7 with fail
      go_region_law (first
        | (refine step_append_lies _ rfl (.tmp 46) (.tmp 48) 30 rfl (g + 1) 32 i0 _ 4 56 Tryd.underlying30 hi hz0 hz1 hz2 rfl (by decide) (.slice lp L lc) L xs rfl (hown.out.alloc _) ⟨wc.heap.size, 0, none⟩ 1 1 [.int .i64 k, .int .i64 n, .string u, .slice p len cap] rfl rfl (World.news_of_block (cs := #[.int .i64 k, .int .i64 n, .string u, .slice p len cap]) (t := 32) (fr := (0, 0)) (heap_alloc_new wc _)) (by simp [Value.oneCell']) (by omega) (by unfold maxLen; omega) (by omega) (by simp; omega) (wc.heap.size + 1) (by simp) ?_; intro gb cb w1 hown1 hgr1 hat1 hlt1; have hgr2 : (wc.alloc (.cells #[.int .i64 k, .int .i64 n, .string u, .slice p len cap] 32)).grownBy w1 (Value.slice lp L lc).ownBlock := ⟨hgr1.os, hgr1.tape, hgr1.output, hgr1.size, hgr1.block⟩; have hm1 := Lib.hid (AddMid.grown _ hmid.out hgr2 HV.out hbl); have HO1 := Lib.hid hown1; have hat2 : (Value.slice lp L lc).ownBlock = some gb ∨ w.heap.size ≤ gb := (by rcases hat1 with e | e; exact .inl e; right; omega); have HAT := Lib.hid hat2; have r1 := hm1.out.lvc; have r2 := hm1.out.fz; have r3 := hm1.out.size; obtain ⟨c0, c1, c2, c3, _⟩ := box4_in w1 w.heap.size _ _ _ _ _ hm1.out.box; obtain ⟨r10, r11, r12, r13, r14, r15, r16, r17, r18, rf, rlt⟩ := hm1.out.rd.open; rw [hov] at r12; clear hown1 hgr1 hgr2 hat1 hat2))
      all_goals
        go_end0
        exact AddMid.post hm1.out HO1.out HAT.out HV.out hbl hgb

end Go.Proofs.YtlinclbodbbemaaDoor
