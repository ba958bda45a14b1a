/- The document's reader of texts: its lists. -/
import Derived.Test.YtcinhndidkllbaaDoorRefVal
import Derived.Test.YtcinhndidkllbaaDoorClone
import Derived.Deep.CutRange
import Derived.Deep.DeepCutAuto
namespace Go.Proofs.YtcinhndidkllbaaDoor
open Go.RowKit
set_option maxRecDepth 100000

/-- The blocks that the items read so far lie in: none of them is the one that the list grows in. -/
def InP (w : World) (lv : Value) (wr : World) (b : Nat) : Prop := w.heap.size + 2 ≤ b ∧ b < wr.heap.size ∧ lv.ownBlock ≠ some b
abbrev vbox (lv : Value) : Obj := .cells #[.int .i64 4, .int .i64 0, .string ⟨#[]⟩, lv] 26 (0, 0)
/-- Where the reading of a list stands. -/
structure LAt (s : ByteArray) (g : Nat) (w : World) (q : Nat) (l : List T) (lv : Value) (cs : List Value) (wr : World) : Prop where
  own : wr.ownsRow (w.heap.size + 2) 26 4 lv l.length cs
  itm : Itm wr (InP w lv wr) l cs
  rd : RrIs wr g s q
  but : But g w wr
  rbox : wr.heap[w.heap.size]? = some zbox
  vb : wr.heap[w.heap.size + 1]? = some (vbox lv)
theorem heap_lt_ {w : World} {b : Nat} {o : Obj} (h : w.heap[b]? = some o) : b < w.heap.size := by
  rcases Nat.lt_or_ge b w.heap.size with h1 | h1
  · exact h1
  · rw [Array.getElem?_eq_none h1] at h; cases h
theorem LAt.drewN {s : ByteArray} {g : Nat} {w : World} {q : Nat} {l : List T} {lv : Value} {cs : List Value} {wr : World} (h : LAt s g w q l lv cs wr) (n : Nat) : LAt s g w q l lv cs (wr.drewN n) :=
  ⟨owns_drewN h.own, Itm.keep (w := wr) (w' := wr.drewN n) (P := InP w lv wr) (P' := InP w lv (wr.drewN n)) (fun _ hb => ⟨hb.1, hb.2.1, hb.2.2⟩) (fun _ _ => rfl) h.itm, h.rd, h.but.drewN n, h.rbox, h.vb⟩
theorem LAt.lt {s : ByteArray} {g : Nat} {w : World} {q : Nat} {l : List T} {lv : Value} {cs : List Value} {wr : World} (h : LAt s g w q l lv cs wr) : w.heap.size + 1 < wr.heap.size := heap_lt_ h.vb
/-- Another call goes on with the reader: nothing else of the list is touched. -/
theorem LAt.on {s : ByteArray} {g : Nat} {w : World} {q q' : Nat} {l : List T} {lv : Value} {cs : List Value} {wr w2 : World} (h : LAt s g w q l lv cs wr) (hg : g < w.heap.size) (hb : But g wr w2) (hr : RrIs w2 g s q') : LAt s g w q' l lv cs w2 :=
  ⟨owns_but h.own hb (by omega), h.itm.keep (fun _ hp => ⟨hp.1, Nat.lt_of_lt_of_le hp.2.1 hb.size, hp.2.2⟩) (fun p hp => hb.cell hp.2.1 (by have := hp.1; omega)), hr, h.but.trans hb,
    (hb.block _ (heap_lt_ h.rbox) (by omega)).trans h.rbox, (hb.block _ (heap_lt_ h.vb) (by omega)).trans h.vb⟩
theorem LAt.setPos {s : ByteArray} {g : Nat} {w : World} {q : Nat} {l : List T} {lv : Value} {cs : List Value} {wr : World} (h : LAt s g w q l lv cs wr) (hg : g < w.heap.size) (q' : Nat) {z : Int} (hz : z = (q' : Int)) : LAt s g w q' l lv cs (wr.setCell ⟨g, 1, none⟩ (.int .i64 z)) :=
  h.on hg ((But.refl g wr).setCell 1 _) (h.rd.setPos q' hz)
theorem LAt.alloc {s : ByteArray} {g : Nat} {w : World} {q : Nat} {l : List T} {lv : Value} {cs : List Value} {wr : World} (h : LAt s g w q l lv cs wr) (hg : g < w.heap.size) (o : Obj) : LAt s g w q l lv cs (wr.alloc o) :=
  h.on hg ((But.refl g wr).alloc o) (h.rd.alloc o)

/-- The list with one item more. -/
theorem LAt.grown {s : ByteArray} {g : Nat} {w : World} {q : Nat} {l : List T} {lv : Value} {cs : List Value} {W w5 : World} {t : T} {c0 c1 c2 c3 : Value} {gb cb : Nat} (h : LAt s g w q l lv cs W) (hg : g < w.heap.size)
    (ht : RepP W (InP w lv W) t (.agg #[c0, c1, c2, c3])) (hgr : W.grownBy w5 lv.ownBlock) (hat : lv.ownBlock = some gb ∨ gb = W.heap.size)
    (ho : w5.ownsRow (w.heap.size + 2) 26 4 (.slice (some ⟨gb, 0, none⟩) (l.length + 1) cb) (l.length + 1) (cs ++ [c0, c1, c2, c3])) :
    LAt s g w q (l ++ [t]) (.slice (some ⟨gb, 0, none⟩) (l.length + 1) cb) (cs ++ [c0, c1, c2, c3]) (w5.setCell ⟨w.heap.size + 1, 3, none⟩ (.slice (some ⟨gb, 0, none⟩) (l.length + 1) cb)) := by
  have hv : ∀ k, lv.ownBlock = some k → w.heap.size + 2 ≤ k := fun k hk => (h.own.lt k hk).1
  have hgb : w.heap.size + 2 ≤ gb := by
    rcases hat with e | e
    · exact hv gb e
    · have := h.lt; omega
  have hlt := h.lt
  have hsz := hgr.size
  have hold : ∀ k, k < W.heap.size → k < w.heap.size + 2 → w5.heap[k]? = W.heap[k]? := fun k h1 h2 => hgr.block k h1 (fun e => by have := hv k e.symm; omega)
  have hP : ∀ b, InP w lv W b → InP w (.slice (some ⟨gb, 0, none⟩) (l.length + 1) cb) (w5.setCell ⟨w.heap.size + 1, 3, none⟩ (.slice (some ⟨gb, 0, none⟩) (l.length + 1) cb)) b := fun b hb => ⟨hb.1, by rw [World.size_setCell]; exact Nat.lt_of_lt_of_le hb.2.1 hsz, fun e => by
    have e2 : gb = b := by simpa [Value.ownBlock] using e
    rcases hat with e3 | e3
    · exact hb.2.2 (by rw [e3, e2])
    · have := hb.2.1; omega⟩
  have hk : ∀ p : Addr, InP w lv W p.block → (w5.setCell ⟨w.heap.size + 1, 3, none⟩ (.slice (some ⟨gb, 0, none⟩) (l.length + 1) cb)).cell? p = W.cell? p := fun p hp => by
    have hne : p.block ≠ w.heap.size + 1 := by have := hp.1; omega
    exact World.cell?_of_block ((Below.heap_setCell _ _ _ _ hne).trans (hgr.block p.block hp.2.1 (fun e => hp.2.2 e.symm)))
  refine ⟨?_, Itm.snoc (RepP.keep hP hk _ _ ht) (h.itm.keep hP hk), ?_, ?_, ?_, ?_⟩
  · rw [List.length_append]
    exact owns_same ho (fun b hb => by
      have e2 : gb = b := by simpa [Value.ownBlock] using hb
      exact Below.heap_setCell _ _ _ _ (by show b ≠ w.heap.size + 1; omega))
  · have hr5 : RrIs w5 g s q := (hold g (by omega) (by omega)).trans h.rd
    exact hr5.other ⟨w.heap.size + 1, 3, none⟩ (by show w.heap.size + 1 ≠ g; omega) _
  · exact (but_grown h.but hgr (fun k hk => by have := hv k hk; omega)).far (p := ⟨w.heap.size + 1, 3, none⟩) (by show w.heap.size ≤ w.heap.size + 1; omega) _
  · exact (Below.heap_setCell _ _ _ _ (by show w.heap.size ≠ w.heap.size + 1; omega)).trans ((hold _ (by omega) (by omega)).trans h.rbox)
  · have hb5 := (hold (w.heap.size + 1) hlt (by omega)).trans h.vb
    simp [World.setCell, Array.getElem?_modify, hb5]

/-- The list read so far, as a value. -/
theorem LAt.rep {s : ByteArray} {g : Nat} {w : World} {q : Nat} {l : List T} {lp : Option Addr} {lc : Nat} {cs : List Value} {wr : World} (h : LAt s g w q l (.slice lp l.length lc) cs wr) (hl : l.length ≤ 1000000) : RepP wr (fun b => w.heap.size + 2 ≤ b ∧ b < wr.heap.size) (.mk 4 0 ByteArray.empty l) (vf 4 0 ⟨#[]⟩ lp l.length lc) := by
  obtain ⟨p, cap, e1, e2, e3⟩ := list_of_row (P := fun b => w.heap.size + 2 ≤ b ∧ b < wr.heap.size) h.own (h.itm.keep (fun _ hb => ⟨hb.1, hb.2.1⟩) (fun _ _ => rfl)) (fun b hb => h.own.lt b hb)
  unfold RepP
  exact ⟨p, cap, by rw [← e1]; rfl, by unfold I64; omega, by unfold I64; omega, by simp, e2, by omega, e3⟩
theorem LAt.rep' {s : ByteArray} {g : Nat} {w : World} {q : Nat} {l : List T} {lp : Option Addr} {ll lc : Nat} {cs : List Value} {wr : World} (h : LAt s g w q l (.slice lp ll lc) cs wr) (hl : l.length ≤ 1000000) : RepP wr (fun b => w.heap.size + 2 ≤ b ∧ b < wr.heap.size) (.mk 4 0 ByteArray.empty l) (vf 4 0 ⟨#[]⟩ lp ll lc) := by
  obtain ⟨p, cap, e1, _⟩ := list_of_row (P := fun b => w.heap.size + 2 ≤ b ∧ b < wr.heap.size) h.own (h.itm.keep (fun _ hb => ⟨hb.1, hb.2.1⟩) (fun _ _ => rfl)) (fun b hb => h.own.lt b hb)
  injection e1 with e1 e2 e3
  subst e2
  exact h.rep hl
theorem rval_list {s : ByteArray} {g p p' : Nat} {w W : World} {k n : Int} {u : ByteArray} {lp : Option Addr} {ll lc : Nat} {t : T} (hb : But g w W) (hne : w.heap.size ≠ g) (hp : p' ≤ s.size) (hr : RrIs W g s p') (hG : Go .val (s.data.toList.drop p) (.ok t (s.data.toList.drop p')))
    (hrep : RepP W (fun b => w.heap.size + 2 ≤ b ∧ b < W.heap.size) t (vf k n u lp ll lc)) (a0 a1 a2 a3 : Value) : RVal s g p w (.returned (.tuple #[vf k n u lp ll lc, .bool true])) (set4 W w.heap.size a0 a1 a2 a3) := by
  have hsz : (set4 W w.heap.size a0 a1 a2 a3).heap.size = W.heap.size := by simp [World.size_setCell]
  refine ⟨p', k, n, u, lp, ll, lc, true, rfl, hp, hr.set4 hne _ _ _ _, hb.set4 (Nat.le_refl _) _ _ _ _, t, hG, RepP.keep (fun b hb => ⟨by omega, by rw [hsz]; exact hb.2⟩) (fun q hq => ?_) _ _ hrep⟩
  have hqne : q.block ≠ w.heap.size := by have := hq.1; omega
  exact World.cell?_of_block (heap_set4' _ _ _ _ _ _ _ _ _ _ _ hqne)
theorem go_lt {s : ByteArray} {q p' : Nat} {t : T} (hq : q ≤ s.size) (hp : p' ≤ s.size) (h : Go .val (s.data.toList.drop q) (.ok t (s.data.toList.drop p'))) : q < p' := by
  obtain ⟨e, hok⟩ := h.sound
  have h1 := congrArg List.length e
  have h2 := (tx_head hok []).2
  simp at h1
  omega
theorem hd_no {s : ByteArray} {q n : Nat} (hn : 0 < n) (h : ¬ ∃ h : q < s.size, (s[q]).toNat = n) : hd n (s.data.toList.drop q) = false := by
  by_cases hq : q < s.size
  · rw [hd_at2 hq hn]
    simpa using fun e => h ⟨hq, e⟩
  · exact hd_end hq
theorem hdD_no {n : Nat} {r : Bs} (h : hdD r = true) (hn : n < 48 ∨ 57 < n) : hd n r = false := by
  cases r with
  | nil => rfl
  | cons c r =>
    have := isD_iff.1 (show isD c = true from h)
    simp [hd]; omega
theorem drop_byte {s : ByteArray} {q : Nat} {c : UInt8} (h : q < s.size) (hc : (s[q]).toNat = c.toNat) : s.data.toList.drop q = c :: s.data.toList.drop (q + 1) := by
  rw [drop_cons h, show s[q] = c from UInt8.toNat_inj.1 hc]

/-- How far the two bytes between items are read. -/
def NextPh (s : ByteArray) (p' j qj : Nat) : Prop :=
  (j = 0 ∧ Hid (qj = p')) ∨ (j = 1 ∧ Hid (qj = p' + 1) ∧ Hid (s.data.toList.drop p' = 44 :: s.data.toList.drop (p' + 1))) ∨ (j = 2 ∧ Hid (qj = p' + 2) ∧ Hid (s.data.toList.drop p' = 44 :: 32 :: s.data.toList.drop (p' + 2)))
theorem boolOf (P : Prop) : ∃ B : Bool, Hid (B = true ↔ P) := by
  by_cases h : P
  · exact ⟨true, Lib.hid (by simp [h])⟩
  · exact ⟨false, Lib.hid (by simp [h])⟩
theorem boolNo {P : Prop} {B : Bool} (h : Hid (B = true ↔ P)) (hp : ¬ P) : B = false := by
  cases B with
  | false => rfl
  | true => exact absurd (h.out.1 rfl) hp
theorem sep0 (W : World) : (Instr.index 9 (.string ⟨#[44, 32]⟩) (.int .i64 0)).run Tryd.prog W = .ok (.int .u8 44) W := by kernel_rfl
theorem sep1 (W : World) : (Instr.index 9 (.string ⟨#[44, 32]⟩) (.int .i64 1)).run Tryd.prog W = .ok (.int .u8 32) W := by kernel_rfl
attribute [local go_sem] sep0 sep1
/-- What an item's reading comes to, for the list. -/
def LRes (s : ByteArray) (p q p' : Nat) (W : World) (P : Nat → Prop) (v : Value) : Bool → Prop
  | true => ∃ t, Go .val (s.data.toList.drop q) (.ok t (s.data.toList.drop p')) ∧ RepP W P t v
  | false => Go .val (s.data.toList.drop p) (.bad (s.data.toList.drop p'))

set_option maxHeartbeats 4000000 in
theorem list_of (s : ByteArray) (p : Nat) (hs : s.size ≤ 1000000) (hps : p < s.size) (hc : (s[p]).toNat = 123) (hv : ∀ q, p < q → q ≤ s.size → ValueAt s q) : ListAt s p := fun g w hx => by
  obtain ⟨i0, hi, hz0, hz1, hz2⟩ := info_parts Tryd.info_V
  obtain ⟨x0, x1, xf, hlt⟩ := hx.open
  have hne : w.heap.size ≠ g := by omega
  obtain ⟨q0, hq0⟩ : ∃ q0, q0 = p + 1 := ⟨_, rfl⟩
  have HD := Lib.hid (show s.data.toList.drop p = 123 :: s.data.toList.drop q0 from by rw [hq0]; exact drop_byte hps hc)
  have HV := Lib.hid hv; clear hv hc
  have hb1 : (((w.setCell ⟨g, 1, none⟩ (.int .i64 ((p : Int) + 1))).alloc (.cells #[.int .i64 0, .int .i64 0, .string ⟨#[]⟩, .slice none 0 0] 26)).alloc (.cells #[.int .i64 4, .int .i64 0, .string ⟨#[]⟩, .slice none 0 0] 26)).heap[w.heap.size]? = some zbox := by
    have h := heap_alloc_new (w.setCell ⟨g, 1, none⟩ (.int .i64 ((p : Int) + 1))) zbox
    rw [World.size_setCell] at h
    exact heap_alloc_ _ _ _ _ h
  have hb2 : (((w.setCell ⟨g, 1, none⟩ (.int .i64 ((p : Int) + 1))).alloc (.cells #[.int .i64 0, .int .i64 0, .string ⟨#[]⟩, .slice none 0 0] 26)).alloc (.cells #[.int .i64 4, .int .i64 0, .string ⟨#[]⟩, .slice none 0 0] 26)).heap[w.heap.size + 1]? = some (vbox (.slice none 0 0)) := by
    have h := heap_alloc_new ((w.setCell ⟨g, 1, none⟩ (.int .i64 ((p : Int) + 1))).alloc zbox) (vbox (.slice none 0 0))
    rw [World.size_alloc, World.size_setCell] at h
    exact h
  have HL0 := Lib.hid (show LAt s g w q0 [] (.slice none 0 0) [] (((w.setCell ⟨g, 1, none⟩ (.int .i64 ((p : Int) + 1))).alloc (.cells #[.int .i64 0, .int .i64 0, .string ⟨#[]⟩, .slice none 0 0] 26)).alloc (.cells #[.int .i64 4, .int .i64 0, .string ⟨#[]⟩, .slice none 0 0] 26)) from
    ⟨World.ownsRow_nil _ _ _ _, by unfold Itm; rfl, ((hx.setPos q0 (by omega)).alloc _).alloc _, (((But.refl g w).setCell 1 _).alloc _).alloc _, hb1, hb2⟩)
  clear hx hb1 hb2
  go_enter Tryd.func78, Tryd.ntmps78
  go_upto_region 3 with fail
  clear x0 x1 xf
  generalize (((w.setCell ⟨g, 1, none⟩ (.int .i64 ((p : Int) + 1))).alloc (.cells #[.int .i64 0, .int .i64 0, .string ⟨#[]⟩, .slice none 0 0] 26)).alloc (.cells #[.int .i64 4, .int .i64 0, .string ⟨#[]⟩, .slice none 0 0] 26)) = W1 at *
  obtain ⟨x0, x1, xf, hlt1⟩ := HL0.out.rd.open
  have hq0s : q0 ≤ s.size := by omega
  have HQ0 := Lib.hid hq0; clear hq0
  obtain ⟨B0, HB0⟩ := boolOf (∃ h : q0 < s.size, (s[q0]).toNat = 125)
  go_cut [38] (fun c wx => c = .bool B0 ∧ ∃ m, wx = W1.drewN m)
  case first =>
    by_cases hq : q0 < s.size
    · by_cases he : (s[q0]).toNat = 125
      · obtain rfl : B0 = true := HB0.out.2 ⟨hq, he⟩
        have k1 : ((s[q0]).toNat : Int) = 125 := by omega
        clear he
        go_wp2_with (go_quiet (fail))
        go_meet
        exact ⟨rfl, _, rfl⟩
      · obtain rfl : B0 = false := boolNo HB0 (fun ⟨_, h⟩ => he h)
        have k1 : (((s[q0]).toNat : Int) == 125) = false := by simp; omega
        clear he
        go_wp2_with (go_quiet (fail))
        go_meet
        exact ⟨rfl, _, rfl⟩
    · obtain rfl : B0 = false := boolNo HB0 (fun ⟨h, _⟩ => hq h)
      have k1 : decide ((q0 : Int) < (s.size : Int)) = false := by simp; omega
      have k2 : decide (q0 < s.size) = false := by simp; omega
      go_wp2_with (go_quiet (fail))
      go_meet
      exact ⟨rfl, _, rfl⟩
  case rest =>
    obtain ⟨rfl, m0, rfl⟩ := hcut
    clear x0 x1 xf hlt1
    have HL1 := Lib.hid (HL0.out.drewN m0); clear HL0
    generalize W1.drewN m0 = W2 at *
    clear W1
    obtain ⟨x0, x1, xf, hlt1⟩ := HL1.out.rd.open
    cases B0 with
    | true =>
      obtain ⟨hlq, he⟩ := HB0.out.1 rfl
      have HG := Lib.hid (show Go .val (s.data.toList.drop p) (.ok (.mk 4 0 ByteArray.empty []) (s.data.toList.drop (q0 + 1))) from by
        rw [HD.out, drop_byte (c := 125) hlq he]; exact Go.none)
      obtain ⟨v0, v1, v2, v3, _⟩ := box4_in _ _ _ _ _ _ _ HL1.out.vb
      obtain ⟨r0, r1, r2, r3, rf⟩ := box4_in _ _ _ _ _ _ _ HL1.out.rbox
      have f0 := rf 0; have f1 := rf 1; have f2 := rf 2; have f3 := rf 3
      clear rf he
      have hne1 : w.heap.size + 1 ≠ g := by omega
      go_wp2_with fail
      refine bodyPost_ret (v := .tuple #[vf 4 0 ⟨#[]⟩ none 0 0, .bool true]) (by simp [results, Tryd.results78, go_sem, r0, r1, r2, r3]) rfl ?_
      have HQ := Lib.hid (HL1.out.setPos hlt (q0 + 1) (z := (q0 : Int) + 1) (by omega))
      exact rval_list (p' := q0 + 1) HQ.out.but hne (by omega) HQ.out.rd HG.out (RepP.bare 4 0 ⟨#[]⟩ (by unfold I64; omega) (by unfold I64; omega) (by decide)) _ _ _ _
    | false =>
      have HG0 := Lib.hid (show ∀ R, Go (.items []) (s.data.toList.drop q0) R → Go .val (s.data.toList.drop p) R from fun R h => by
        rw [HD.out]; exact Go.list (hd_no (by omega) (fun h2 => by cases HB0.out.2 h2)) h)
      go_wp2_with fail
      go_loopw [] (fun wr => ∃ (l : List T) (lp : Option Addr) (lc : Nat) (cs : List Value) (q : Nat), p < q ∧ q ≤ s.size ∧ l.length ≤ q ∧ Hid (LAt s g w q l (.slice lp l.length lc) cs wr) ∧ Hid (∀ R, Go (.items l) (s.data.toList.drop q) R → Go .val (s.data.toList.drop p) R)) (fun wr => s.size - rrPos wr g)
      case atStart => exact ⟨[], none, 0, [], q0, by have := HQ0.out; omega, hq0s, by simp, HL1, HG0⟩
      case round =>
        obtain ⟨l, lp, lc, cs, q, hpq, hqs, hll, HL, HG⟩ := hrel
        clear HG0 HL1 x0 x1 xf hlt1 HQ0 HD HB0 hq0s
        have hne1 : w.heap.size + 1 ≠ g := by omega
        obtain ⟨x0, x1, xf, hlt1⟩ := HL.out.rd.open
        have hlw := HL.out.lt
        go_upto_region 7 with (go_at_call 46; refine (HV.out q hpq hqs g _ HL.out.rd hqs).mono ?_; rintro e w2 ⟨p', k, n, u, yp, yl, yc, is, rfl, hp', hr2, hb2, hres⟩; have HLa := Lib.hid (HL.out.on hlt hb2 hr2); have HB2 := Lib.hid hb2; have HRS := Lib.hid hres; clear hb2 hr2 hres)
        have HX2 := Lib.hid (heap_alloc_new w2 (.cells #[.int .i64 k, .int .i64 n, .string u, .slice yp yl yc] 26))
        have HL2 := Lib.hid (HLa.out.alloc hlt (.cells #[.int .i64 k, .int .i64 n, .string u, .slice yp yl yc] 26))
        have hW3 : (w2.alloc (.cells #[.int .i64 k, .int .i64 n, .string u, .slice yp yl yc] 26)).heap.size = w2.heap.size + 1 := by simp
        have hwr2 := HB2.out.size
        have HRS2 : Hid (LRes s p q p' (w2.alloc (.cells #[.int .i64 k, .int .i64 n, .string u, .slice yp yl yc] 26)) (InP w (.slice lp l.length lc) (w2.alloc (.cells #[.int .i64 k, .int .i64 n, .string u, .slice yp yl yc] 26))) (vf k n u yp yl yc) is) := by
          cases is with
          | true =>
            obtain ⟨t, h1, h2⟩ := HRS.out
            refine ⟨t, h1, RepP.keep (fun b hb => ⟨by omega, by rw [hW3]; omega, fun e => by have := (HL.out.own.lt b e).2; omega⟩) (fun a ha => World.cell?_alloc_lt _ _ _ ha.2) _ _ h2⟩
          | false =>
            rcases HRS.out with h1 | ⟨t, h1, h2⟩
            · exact HG.out _ (Go.itemBad h1)
            · exact HG.out _ (Go.item h1 (Go.tailBad (hdD_no h2 (by omega)) (hdD_no h2 (by omega))))
        have HLo := HL
        clear HRS HLa HB2 HL x0 x1 xf hlt1
        clear hW3
        generalize (w2.alloc (.cells #[.int .i64 k, .int .i64 n, .string u, .slice yp yl yc] 26)) = W3 at *
        generalize w2.heap.size = b2 at *
        clear w2
        have hlW := HL2.out.lt
        obtain ⟨x0, x1, xf, hlt1⟩ := HL2.out.rd.open
        obtain ⟨v0, v1, v2, v3, vfz⟩ := box4_in _ _ _ _ _ _ _ HL2.out.vb
        obtain ⟨r0, r1, r2, r3, rf⟩ := box4_in _ _ _ _ _ _ _ HL2.out.rbox
        obtain ⟨y0, y1, y2, y3, _⟩ := box4_in _ _ _ _ _ _ _ HX2.out
        cases is with
        | false =>
          have f0 := rf 0; have f1 := rf 1; have f2 := rf 2; have f3 := rf 3
          clear rf vfz
          go_wp2_with fail
          refine bodyPost_ret (v := .tuple #[zv, .bool false]) (by simp [results, Tryd.results78, go_sem, r0, r1, r2, r3]) rfl ?_
          exact rval_end (W := W3) HL2.out.but (by omega) hne hp' HL2.out.rd (But.refl _ _) (rres_bad HRS2.out) _ _ _ _
        | true =>
          obtain ⟨t, hGt, hRt⟩ := HRS2.out
          have HGT := Lib.hid hGt
          have HRT := Lib.hid hRt
          clear hGt hRt HRS2 r0 r1 r2 r3 rf vfz
          have hqp := go_lt hqs hp' HGT.out
          have hne5 : w.heap.size + 1 ≠ g := hne1
          go_upto_region 10 with (at_builtin; go_must (refine wpList_append_lies _ rfl (.tmp 57) (.tmp 59) 22 rfl (w.heap.size + 2) 26 i0 _ 4 56 Tryd.underlying22 hi hz0 hz1 hz2 rfl (by decide) (.slice lp l.length lc) l.length cs rfl (HL2.out.own.alloc _) ⟨W3.heap.size, 0, none⟩ 1 1 [.int .i64 k, .int .i64 n, .string u, .slice yp yl yc] rfl rfl (World.news_of_block (cs := #[.int .i64 k, .int .i64 n, .string u, .slice yp yl yc]) (t := 26) (fr := (0, 0)) (heap_alloc_new W3 _)) (by simp [Value.oneCell']) (by omega) (by unfold maxLen; omega) (by omega) (by simp; omega) (W3.heap.size + 1) (by simp) ?_); intro gb cb w5 hown5 hgr5 hat5 hlt5; have HW5 := Lib.hid hgr5; have HL5 := Lib.hid ((HL2.out.alloc hlt _).grown hlt (RepP.keep (fun b hb => ⟨hb.1, by simp; have := hb.2.1; omega, hb.2.2⟩) (fun a ha => World.cell?_alloc_lt _ _ _ ha.2.1) _ _ HRT.out) hgr5 (by simpa using hat5) hown5); obtain ⟨z0, z1, z2, z3, zf⟩ := box4_in _ _ _ _ _ _ _ ((hgr5.block (w.heap.size + 1) (by simp; omega) (fun e => by have := (HL2.out.own.lt _ e.symm).1; omega)).trans ((Below.heap_alloc W3 _ _ hlW).trans HL2.out.vb)); have zf3 := zf 3; clear zf hown5 hgr5 hat5)
          generalize (w5.setCell ⟨w.heap.size + 1, 3, none⟩ (.slice (some ⟨gb, 0, none⟩) (l.length + 1) cb)) = W5 at *
          clear HL2 HRT HW5 hlt5 z0 z1 z2 z3 zf3 x0 x1 xf hlt1 v0 v1 v2 v3 y0 y1 y2 y3 HX2 hlW
          obtain ⟨x0, x1, xf, hlt1⟩ := HL5.out.rd.open
          obtain ⟨v0, v1, v2, v3, vfz⟩ := box4_in _ _ _ _ _ _ _ HL5.out.vb
          obtain ⟨r0, r1, r2, r3, rf⟩ := box4_in _ _ _ _ _ _ _ HL5.out.rbox
          clear rf vfz r0 r1 r2 r3 v0 v1 v2 v3
          have hll5 : l.length + 1 ≤ 1000000 := by omega
          obtain ⟨B1, HB1⟩ := boolOf (∃ h : p' < s.size, (s[p']).toNat = 125)
          go_cut [83] from 48 to 129 (fun c wx => c = .bool B1 ∧ ∃ m, wx = W5.drewN m)
          case first =>
            by_cases hq : p' < s.size
            · by_cases he : (s[p']).toNat = 125
              · obtain rfl : B1 = true := HB1.out.2 ⟨hq, he⟩
                have k1 : ((s[p']).toNat : Int) = 125 := by omega
                clear he
                go_wp2_with (go_quiet (fail))
                go_meet
                exact ⟨rfl, _, rfl⟩
              · obtain rfl : B1 = false := boolNo HB1 (fun ⟨_, h⟩ => he h)
                have k1 : (((s[p']).toNat : Int) == 125) = false := by simp; omega
                clear he
                go_wp2_with (go_quiet (fail))
                go_meet
                exact ⟨rfl, _, rfl⟩
            · obtain rfl : B1 = false := boolNo HB1 (fun ⟨h, _⟩ => hq h)
              have k1 : decide ((p' : Int) < (s.size : Int)) = false := by simp; omega
              have k2 : decide (p' < s.size) = false := by simp; omega
              go_wp2_with (go_quiet (fail))
              go_meet
              exact ⟨rfl, _, rfl⟩
          case rest =>
            obtain ⟨rfl, m1, rfl⟩ := hcut
            clear x0 x1 xf hlt1
            have HL6 := Lib.hid (HL5.out.drewN m1); clear HL5
            generalize W5.drewN m1 = W6 at *
            obtain ⟨x0, x1, xf, hlt1⟩ := HL6.out.rd.open
            obtain ⟨v0, v1, v2, v3, vfz⟩ := box4_in _ _ _ _ _ _ _ HL6.out.vb
            obtain ⟨r0, r1, r2, r3, rf⟩ := box4_in _ _ _ _ _ _ _ HL6.out.rbox
            have f0 := rf 0; have f1 := rf 1; have f2 := rf 2; have f3 := rf 3
            clear rf vfz
            cases B1 with
            | true =>
              obtain ⟨hlq, he⟩ := HB1.out.1 rfl
              have HGE := Lib.hid (HG.out _ (Go.item HGT.out (by rw [drop_byte (c := 125) hlq he]; exact Go.tailEnd)))
              clear he HG HGT
              go_wp2_with fail
              have HQ := Lib.hid (HL6.out.setPos hlt (p' + 1) (z := (p' : Int) + 1) (by omega))
              refine bodyPost_ret (v := .tuple #[vf 4 0 ⟨#[]⟩ (some ⟨gb, 0, none⟩) (l.length + 1) cb, .bool true]) (by simp [results, Tryd.results78, go_sem, r0, r1, r2, r3]) rfl ?_
              exact rval_list (p' := p' + 1) HQ.out.but hne (by omega) HQ.out.rd HGE.out (HQ.out.rep' (by simp; omega)) _ _ _ _
            | false =>
              have H125 := Lib.hid (hd_no (n := 125) (by omega) (fun h2 => by cases HB1.out.2 h2))
              clear v0 v1 v2 v3 r0 r1 r2 r3 f0 f1 f2 f3
              go_wp2_with fail
              go_loopw [7] (fun kv wr2 => ∃ (j : Nat) (qj : Nat), kv = .int .i64 j ∧ qj ≤ s.size ∧ Hid (LAt s g w qj (l ++ [t]) (.slice (some ⟨gb, 0, none⟩) (l.length + 1) cb) (cs ++ [.int .i64 k, .int .i64 n, .string u, .slice yp yl yc]) wr2) ∧
                NextPh s p' j qj) (fun kv _ => 2 - (intOf kv).toNat)
              case atStart => exact ⟨0, p', rfl, hp', HL6, .inl ⟨rfl, Lib.hid rfl⟩⟩
              case round =>
                obtain ⟨j, qj, rfl, hqjs, HLj, hph⟩ := hrel
                clear x0 x1 xf hlt1 HL6 HB1
                obtain ⟨x0, x1, xf, hlt1⟩ := HLj.out.rd.open
                rcases hph with ⟨rfl, HQJ⟩ | ⟨rfl, HQJ, HC1⟩ | ⟨rfl, HQJ, HC2⟩
                · obtain ⟨HBD, HNX⟩ := (⟨Lib.hid (fun h44 => HG.out _ (Go.item HGT.out (HQJ.out ▸ Go.tailBad (HQJ.out ▸ H125.out) h44))), Lib.hid (fun h => .inr (.inl ⟨rfl, Lib.hid (by rw [HQJ.out]), Lib.hid (HQJ.out ▸ h)⟩))⟩ : Hid (hd 44 (s.data.toList.drop qj) = false → Go .val (s.data.toList.drop p) (.bad (s.data.toList.drop qj))) ∧ Hid (s.data.toList.drop qj = 44 :: s.data.toList.drop (qj + 1) → NextPh s p' 1 (qj + 1)))
                  by_cases h44 : ∃ h : qj < s.size, (s[qj]).toNat = 44
                  · obtain ⟨hlq, he⟩ := h44
                    have HB := Lib.hid (drop_byte (c := 44) hlq he)
                    have k4 : ((s[qj]).toNat : Int) = 44 := by omega
                    have k5 : decide (s.size ≤ qj) = false := by simp; omega
                    clear he
                    go_wp2_with (go_big_quiet (fail))
                    have HQ := Lib.hid (fun n => (HLj.out.drewN n).setPos hlt (qj + 1) (z := (qj : Int) + 1) (by omega))
                    exact ⟨⟨1, qj + 1, rfl, by omega, Lib.hid (HQ.out _), HNX.out HB.out⟩, by simp [intOf]⟩
                  · have HF := Lib.hid (HBD.out (hd_no (n := 44) (by omega) h44))
                    have hex : ((s.size : Int) ≤ (qj : Int)) ∨ (∃ h : qj < s.size, decide (s.size ≤ qj) = false ∧ (((s[qj]).toNat : Int) != (((⟨#[44, 32]⟩ : ByteArray)[0]'(by decide)).toNat : Int)) = true) := by
                      show ((s.size : Int) ≤ (qj : Int)) ∨ (∃ h : qj < s.size, decide (s.size ≤ qj) = false ∧ (((s[qj]).toNat : Int) != 44) = true)
                      by_cases h : qj < s.size
                      · exact .inr ⟨h, by simp; omega, by simp; intro e; exact h44 ⟨h, by omega⟩⟩
                      · exact .inl (by omega)
                    obtain ⟨r0, r1, r2, r3, rf⟩ := box4_in _ _ _ _ _ _ _ HLj.out.rbox
                    have f0 := rf 0; have f1 := rf 1; have f2 := rf 2; have f3 := rf 3
                    have hltj := HLj.out.lt
                    clear rf h44
                    rcases hex with k4 | ⟨k3, k4, k5⟩
                    all_goals
                      go_wp2_with (go_big_quiet (fail))
                      refine bodyPost_ret (v := .tuple #[zv, .bool false]) (by simp [results, Tryd.results78, go_sem, r0, r1, r2, r3]) rfl ?_
                      have HQ := Lib.hid (fun n => HLj.out.drewN n)
                      exact rval_end (HQ.out _).but (by show w.heap.size < _; have := (HQ.out 0).lt; exact Nat.lt_of_succ_lt hltj) hne hqjs (HQ.out _).rd (But.refl _ _) (rres_bad HF.out) _ _ _ _
                · obtain ⟨HBD, HNX⟩ := (⟨Lib.hid (fun h32 => HG.out _ (Go.item HGT.out (by rw [HC1.out, ← HQJ.out]; exact Go.tailComma h32))), Lib.hid (fun h => .inr (.inr ⟨rfl, Lib.hid (by rw [HQJ.out]), Lib.hid (by rw [HC1.out, ← HQJ.out, h, HQJ.out])⟩))⟩ : Hid (hd 32 (s.data.toList.drop qj) = false → Go .val (s.data.toList.drop p) (.bad (s.data.toList.drop qj))) ∧ Hid (s.data.toList.drop qj = 32 :: s.data.toList.drop (qj + 1) → NextPh s p' 2 (qj + 1)))
                  by_cases h44 : ∃ h : qj < s.size, (s[qj]).toNat = 32
                  · obtain ⟨hlq, he⟩ := h44
                    have HB := Lib.hid (drop_byte (c := 32) hlq he)
                    have k4 : ((s[qj]).toNat : Int) = 32 := by omega
                    have k5 : decide (s.size ≤ qj) = false := by simp; omega
                    clear he
                    go_wp2_with (go_big_quiet (fail))
                    have HQ := Lib.hid (fun n => (HLj.out.drewN n).setPos hlt (qj + 1) (z := (qj : Int) + 1) (by omega))
                    exact ⟨⟨2, qj + 1, rfl, by omega, Lib.hid (HQ.out _), HNX.out HB.out⟩, by simp [intOf]⟩
                  · have HF := Lib.hid (HBD.out (hd_no (n := 32) (by omega) h44))
                    have hex : ((s.size : Int) ≤ (qj : Int)) ∨ (∃ h : qj < s.size, decide (s.size ≤ qj) = false ∧ (((s[qj]).toNat : Int) != (((⟨#[44, 32]⟩ : ByteArray)[1]'(by decide)).toNat : Int)) = true) := by
                      show ((s.size : Int) ≤ (qj : Int)) ∨ (∃ h : qj < s.size, decide (s.size ≤ qj) = false ∧ (((s[qj]).toNat : Int) != 32) = true)
                      by_cases h : qj < s.size
                      · exact .inr ⟨h, by simp; omega, by simp; intro e; exact h44 ⟨h, by omega⟩⟩
                      · exact .inl (by omega)
                    obtain ⟨r0, r1, r2, r3, rf⟩ := box4_in _ _ _ _ _ _ _ HLj.out.rbox
                    have f0 := rf 0; have f1 := rf 1; have f2 := rf 2; have f3 := rf 3
                    have hltj := HLj.out.lt
                    clear rf h44
                    rcases hex with k4 | ⟨k3, k4, k5⟩
                    all_goals
                      go_wp2_with (go_big_quiet (fail))
                      refine bodyPost_ret (v := .tuple #[zv, .bool false]) (by simp [results, Tryd.results78, go_sem, r0, r1, r2, r3]) rfl ?_
                      have HQ := Lib.hid (fun n => HLj.out.drewN n)
                      exact rval_end (HQ.out _).but (by show w.heap.size < _; have := (HQ.out 0).lt; exact Nat.lt_of_succ_lt hltj) hne hqjs (HQ.out _).rd (But.refl _ _) (rres_bad HF.out) _ _ _ _
                · have HG2 := Lib.hid (show ∀ R, Go (.items (l ++ [t])) (s.data.toList.drop qj) R → Go .val (s.data.toList.drop p) R from fun R h => HG.out _ (Go.item HGT.out (by rw [HC2.out, ← HQJ.out]; exact Go.tailOn h)))
                  have hqj : q + 2 ≤ qj := by have := HQJ.out; omega
                  clear HQJ HC2 H125 HGT HG
                  go_wp2_with fail
                  go_roundw
                  case measure => rw [HLo.out.rd.pos, HLj.out.rd.pos]; omega
                  case rel => exact ⟨l ++ [t], some ⟨gb, 0, none⟩, cb, _, qj, by omega, hqjs, by simp; omega, by rw [List.length_append]; exact HLj, HG2⟩

end Go.Proofs.YtcinhndidkllbaaDoor
