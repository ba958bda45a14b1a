/- Contracts of the small methods of the reader of texts: what stands next, passing it, asking whether a list is open or there is room. Copies in new memory: val.Clone, val.cloneAll, val.L. The reading of a text with the open lists laid out, as plain data: the innermost one first. No program is named. The document's plain equality of values: SameValue, SameValues. Errors as plain data: contracts of inglenooksee, for no error and for api's errors. What the listed variables give the walks: each of api's errors is a pointer of its own. Words as plain data: a word takes at least a byte. No program is named. Literals as words: the text of a value is one word; with a letter behind it is none. No program is named. The world's Number. -/
import Derived.Test.YtlinclbodbbemaaDoorY01
import Derived.Test.YtlinclbodbbemaaDoorY00
import Derived.BigQuiet
import Derived.Deep.QuietTactic
import Derived.Deep.RegionHeld3
import Derived.LaidEql
import Derived.LaidLaws
import Derived.LaidMore
namespace Go.Proofs.YtlinclbodbbemaaDoor
open Go.RowKit

/-- What a reader holds, but its text. -/
structure Rd where
  pos : Nat
  ov : Value
  sk : Nat
  md : Nat
  c0 : Value
  c1 : Value
  c2 : Value
  c3 : Value
/-- The reader stands in block g. -/
def RdIs (w : World) (g : Nat) (s : ByteArray) (x : Rd) : Prop := w.heap[g]? = some (.cells #[.string s, .int .i64 x.pos, x.ov, .int .i64 x.sk, .int .i64 x.md, x.c0, x.c1, x.c2, x.c3] 127 (0, 0))
theorem RdIs.open {w : World} {g : Nat} {s : ByteArray} {x : Rd} (h : RdIs w g s x) : w.cell? ⟨g, 0, none⟩ = some (.string s) ∧ w.cell? ⟨g, 1, none⟩ = some (.int .i64 x.pos) ∧ w.cell? ⟨g, 2, none⟩ = some x.ov ∧ w.cell? ⟨g, 3, none⟩ = some (.int .i64 x.sk) ∧
    w.cell? ⟨g, 4, none⟩ = some (.int .i64 x.md) ∧ w.cell? ⟨g, 5, none⟩ = some x.c0 ∧ w.cell? ⟨g, 6, none⟩ = some x.c1 ∧ w.cell? ⟨g, 7, none⟩ = some x.c2 ∧ w.cell? ⟨g, 8, none⟩ = some x.c3 ∧ (∀ o, w.frozen? ⟨g, o, none⟩ = false) ∧ g < w.heap.size := by
  unfold RdIs at h
  refine ⟨(cell_of_row _ _ 0 _ _ _ h).trans rfl, (cell_of_row _ _ 1 _ _ _ h).trans rfl, (cell_of_row _ _ 2 _ _ _ h).trans rfl, (cell_of_row _ _ 3 _ _ _ h).trans rfl, (cell_of_row _ _ 4 _ _ _ h).trans rfl, (cell_of_row _ _ 5 _ _ _ h).trans rfl, (cell_of_row _ _ 6 _ _ _ h).trans rfl, (cell_of_row _ _ 7 _ _ _ h).trans rfl, (cell_of_row _ _ 8 _ _ _ h).trans rfl, fun o => by simp [World.frozen?, h], ?_⟩
  rcases Nat.lt_or_ge g w.heap.size with h1 | h1
  · exact h1
  · rw [Array.getElem?_eq_none h1] at h; cases h
theorem RdIs.lt {w : World} {g : Nat} {s : ByteArray} {x : Rd} (h : RdIs w g s x) : g < w.heap.size := h.open.2.2.2.2.2.2.2.2.2.2
theorem RdIs.drew {w : World} {g : Nat} {s : ByteArray} {x : Rd} (h : RdIs w g s x) : RdIs w.drew g s x := h
theorem RdIs.alloc {w : World} {g : Nat} {s : ByteArray} {x : Rd} (h : RdIs w g s x) (o : Obj) : RdIs (w.alloc o) g s x := (Below.heap_alloc w o g h.lt).trans h
theorem RdIs.setPos {w : World} {g : Nat} {s : ByteArray} {x : Rd} (h : RdIs w g s x) (p : Nat) {q : Int} (hq : q = (p : Int)) : RdIs (w.setCell ⟨g, 1, none⟩ (.int .i64 q)) g s { x with pos := p } := by
  subst hq; unfold RdIs at h ⊢; simp [World.setCell, Array.getElem?_modify, h]
theorem RdIs.setOv {w : World} {g : Nat} {s : ByteArray} {x : Rd} (h : RdIs w g s x) (p : Value) : RdIs (w.setCell ⟨g, 2, none⟩ p) g s { x with ov := p } := by
  unfold RdIs at h ⊢; simp [World.setCell, Array.getElem?_modify, h]
theorem RdIs.setSk {w : World} {g : Nat} {s : ByteArray} {x : Rd} (h : RdIs w g s x) (p : Nat) {q : Int} (hq : q = (p : Int)) : RdIs (w.setCell ⟨g, 3, none⟩ (.int .i64 q)) g s { x with sk := p } := by
  subst hq; unfold RdIs at h ⊢; simp [World.setCell, Array.getElem?_modify, h]
theorem RdIs.setMd {w : World} {g : Nat} {s : ByteArray} {x : Rd} (h : RdIs w g s x) (p : Nat) {q : Int} (hq : q = (p : Int)) : RdIs (w.setCell ⟨g, 4, none⟩ (.int .i64 q)) g s { x with md := p } := by
  subst hq; unfold RdIs at h ⊢; simp [World.setCell, Array.getElem?_modify, h]
theorem RdIs.other {w : World} {g : Nat} {s : ByteArray} {x : Rd} (h : RdIs w g s x) (p : Addr) (hp : p.block ≠ g) (u : Value) : RdIs (w.setCell p u) g s x := by
  unfold RdIs at h ⊢; rw [Below.heap_setCell]; exact h; exact fun e => hp e.symm

theorem But.drewN {g : Nat} {a w : World} (h : But g a w) (n : Nat) : But g a (w.drewN n) := ⟨h.os, h.tape, h.output, h.size, h.block⟩
theorem below_drewN {B : Nat} {a w : World} (h : Below B a w) (n : Nat) : Below B a (w.drewN n) := ⟨h.os, h.tape, h.output, h.size, h.block⟩
theorem RdIs.drewN {w : World} {g : Nat} {s : ByteArray} {x : Rd} (h : RdIs w g s x) (n : Nat) : RdIs (w.drewN n) g s x := h
/-- The byte that stands next; 0 at the end. -/
def nx : Bs → UInt8 | [] => 0 | c :: _ => c
theorem nx_end (s : ByteArray) : nx (s.data.toList.drop s.size) = 0 := by rw [List.drop_of_length_le (by simp)]; rfl
theorem nx_at (s : ByteArray) (j : Nat) (h : j < s.size) : nx (s.data.toList.drop j) = s[j] := by
  have h' : j < s.data.toList.length := by simpa using h
  rw [List.drop_eq_getElem_cons h']; rfl
theorem ret_u8 {a b : UInt8} (h : a = b) : Ending.returned (.int .u8 (a.toNat : Int)) = .returned (.int .u8 (b.toNat : Int)) := by rw [h]

set_option maxHeartbeats 400000 in
theorem next_any (s : ByteArray) (x : Rd) (g : Nat) (w : World) (hx : RdIs w g s x) (hp : x.pos ≤ s.size) :
    Calls Tryd.prog 158 #[.pointer (some ⟨g, 0, none⟩)] w fun e w' => e = .returned (.int .u8 (nx (s.data.toList.drop x.pos)).toNat) ∧ RdIs w' g s x ∧ But g w w' := by
  obtain ⟨h0, h1, h2, h3, h4, h5, h6, h7, h8, hf, hlt⟩ := hx.open
  have HX := Lib.hid hx; clear hx
  by_cases he : x.pos = s.size
  · have hE := Lib.hid (ret_u8 ((congrArg (fun j => nx (s.data.toList.drop j)) he).trans (nx_end s)))
    rw [he] at h1
    go_enter Tryd.func158, Tryd.ntmps158
    go_wp2_with (go_quiet (fail))
    go_ret
    exact ⟨hE.out.symm, HX.out, (But.refl _ _).drewN _⟩
  · have hj : x.pos < s.size := by omega
    have hE := Lib.hid (ret_u8 (nx_at s x.pos hj))
    go_enter Tryd.func158, Tryd.ntmps158
    go_wp2_with (go_quiet (fail))
    go_ret
    exact ⟨hE.out.symm, HX.out, ((But.refl _ _).drewN _).drewN _⟩

theorem nx_hd {r : Bs} {n : Nat} (hn : 0 < n) : hd n r = ((nx r).toNat == n) := by
  cases r with
  | nil => simp [hd, nx]; omega
  | cons c q => rfl
theorem hd_lt {s : ByteArray} {j n : Nat} (h : hd n (s.data.toList.drop j) = true) : j < s.size := by
  rcases Nat.lt_or_ge j s.size with h1 | h1
  · exact h1
  · rw [List.drop_of_length_le (by simpa using h1)] at h; simp [hd] at h
theorem nx_isD (r : Bs) : isD (nx r) = hdD r := by cases r <;> rfl
theorem nx_drop {s : ByteArray} {j : Nat} (h : (nx (s.data.toList.drop j)).toNat ≠ 0) : j < s.size := by
  rcases Nat.lt_or_ge j s.size with h1 | h1
  · exact h1
  · rw [List.drop_of_length_le (by simpa using h1)] at h; exact absurd rfl h

set_option maxHeartbeats 400000 in
theorem pass_any (s : ByteArray) (x : Rd) (g : Nat) (c : Int) (n : Nat) (hcn : c = (n : Int)) (hn : 0 < n) (w : World) (hx : RdIs w g s x) (hp : x.pos ≤ s.size) (hs : s.size ≤ 140737488355328) :
    Calls Tryd.prog 132 #[.pointer (some ⟨g, 0, none⟩), .int .u8 c] w fun e w' => e = .returned (.bool (hd n (s.data.toList.drop x.pos))) ∧
      RdIs w' g s (if hd n (s.data.toList.drop x.pos) then { x with pos := x.pos + 1 } else x) ∧ But g w w' := by
  have sN := Lib.hid (next_any s x g w hx hp)
  by_cases he : ((nx (s.data.toList.drop x.pos)).toNat : Int) = c
  · have hh : hd n (s.data.toList.drop x.pos) = true := by rw [nx_hd hn]; simp; omega
    have hj : x.pos < s.size := hd_lt hh
    rw [hh]
    generalize hz : ((nx (s.data.toList.drop x.pos)).toNat : Int) = z at *
    have Hz := Lib.hid hz; clear hz
    go_enter Tryd.func132, Tryd.ntmps132
    go_wp2_with (go_at_call 158; refine sN.out.mono ?_; rintro e w2 ⟨rfl, hx2, hb2⟩; obtain ⟨h0, h1, h2, h3, h4, h5, h6, h7, h8, hf, hlt⟩ := hx2.open; have HX2 := Lib.hid hx2; clear hx2)
    go_ret
    exact ⟨rfl, HX2.out.setPos _ (by omega), hb2.setCell _ _⟩
  · have hh : hd n (s.data.toList.drop x.pos) = false := by rw [nx_hd hn]; simp; omega
    rw [hh]
    generalize hz : ((nx (s.data.toList.drop x.pos)).toNat : Int) = z at *
    have Hz := Lib.hid hz; clear hz
    go_enter Tryd.func132, Tryd.ntmps132
    go_wp2_with (go_at_call 158; refine sN.out.mono ?_; rintro e w2 ⟨rfl, hx2, hb2⟩)
    go_ret
    exact ⟨rfl, hx2, hb2⟩

set_option maxHeartbeats 400000 in
theorem isDigit_any (b : UInt8) (w : World) :
    Calls Tryd.prog 169 #[.int .u8 (b.toNat : Int)] w fun e w' => e = .returned (.bool (isD b)) ∧ w' = w := by
  have hb : b.toNat < 256 := b.toNat_lt
  go_enter Tryd.func169, Tryd.ntmps169
  go_wp2
  all_goals
    go_ret
    exact ⟨ret_bool (by rw [Bool.eq_iff_iff, isD_iff]; simp; omega), rfl⟩

set_option maxHeartbeats 400000 in
theorem inList_any (s : ByteArray) (x : Rd) (g : Nat) (p : Option Addr) (n c : Nat) (w : World) (hx : RdIs w g s x) (ho : x.ov = .slice p n c) :
    Calls Tryd.prog 131 #[.pointer (some ⟨g, 0, none⟩)] w fun e w' => e = .returned (.bool (decide (0 < n))) ∧ w' = w := by
  obtain ⟨h0, h1, h2, h3, h4, h5, h6, h7, h8, hf, hlt⟩ := hx.open
  rw [ho] at h2
  clear hx ho
  go_enter Tryd.func131, Tryd.ntmps131
  go_wp2
  all_goals
    go_ret
    exact ⟨ret_bool (by simp; try omega), rfl⟩

set_option maxHeartbeats 400000 in
theorem room_any (s : ByteArray) (x : Rd) (g : Nat) (w : World) (hx : RdIs w g s x) :
    Calls Tryd.prog 167 #[.pointer (some ⟨g, 0, none⟩)] w fun e w' => e = .returned (.bool (decide (x.md ≤ 4096))) ∧ w' = w := by
  obtain ⟨h0, h1, h2, h3, h4, h5, h6, h7, h8, hf, hlt⟩ := hx.open
  clear hx
  go_enter Tryd.func167, Tryd.ntmps167
  go_wp2
  all_goals
    go_ret
    exact ⟨ret_bool (by simp; try omega), rfl⟩

theorem lcp_le : ∀ a b : Bs, lcp a b ≤ a.length ∧ lcp a b ≤ b.length
  | a :: r, b :: q => by
    rw [lcp]; have := lcp_le r q; split <;> simp <;> omega
  | [], b => by simp [lcp]
  | a :: r, [] => by simp [lcp]
theorem lcp_step {a b : ByteArray} {j : Nat} (ha : j < a.size) (hb : j < b.size) : lcp (a.data.toList.drop j) (b.data.toList.drop j) = if a[j] = b[j] then lcp (a.data.toList.drop (j + 1)) (b.data.toList.drop (j + 1)) + 1 else 0 := by
  have ha' : j < a.data.toList.length := by simpa using ha
  have hb' : j < b.data.toList.length := by simpa using hb
  rw [List.drop_eq_getElem_cons ha', List.drop_eq_getElem_cons hb', lcp]; rfl
theorem lcp_end {a b : ByteArray} {j : Nat} (h : a.size ≤ j ∨ b.size ≤ j) : lcp (a.data.toList.drop j) (b.data.toList.drop j) = 0 := by
  rcases h with h | h
  · rw [List.drop_of_length_le (l := a.data.toList) (by simpa using h)]; simp [lcp]
  · rw [List.drop_of_length_le (l := b.data.toList) (by simpa using h)]; cases a.data.toList.drop j <;> simp [lcp]

set_option maxHeartbeats 1000000 in
theorem alike_any (a b : ByteArray) (w : World) (ha : a.size ≤ 140737488355328) :
    Calls Tryd.prog 174 #[.string a, .string b] w fun e w' => e = .returned (.int .i64 (lcp a.data.toList b.data.toList : Nat)) ∧ ∃ m, w' = w.drewN m := by
  go_enter Tryd.func174, Tryd.ntmps174
  go_wp2
  go_loopw [5] (fun i wr => ∃ j : Nat, j ≤ a.size ∧ j ≤ b.size ∧ i = .int .i64 j ∧ lcp a.data.toList b.data.toList = j + lcp (a.data.toList.drop j) (b.data.toList.drop j) ∧ ∃ m, wr = w.drewN m) (fun i _ => a.size - (intOf i).toNat)
  case atStart => exact ⟨0, Nat.zero_le _, Nat.zero_le _, rfl, by simp, 0, rfl⟩
  case round =>
    obtain ⟨j, hja, hjb, rfl, hl, m, rfl⟩ := hrel
    have HL := Lib.hid hl; clear hl
    by_cases h1 : j < a.size
    · by_cases h2 : j < b.size
      · have hs := Lib.hid (HL.out.trans (congrArg (fun k => j + k) (lcp_step h1 h2)))
        by_cases h3 : a[j] = b[j]
        · have h4 : (a[j].toNat : Int) = (b[j].toNat : Int) := by rw [h3]
          go_wp2_with (go_quiet (fail))
          go_roundw
          case measure => simp [intOf]; omega
          case rel => exact ⟨j + 1, by omega, by omega, by go_num, by rw [hs.out, if_pos h3]; omega, _, rfl⟩
        · have h4 : (a[j].toNat : Int) ≠ (b[j].toNat : Int) := fun e => h3 (UInt8.toNat_inj.1 (by omega))
          go_wp2_with (go_quiet (fail))
          go_ret
          exact ⟨ret_int (by rw [hs.out, if_neg h3]; simp), _, World.drewN_drewN _ _ _⟩
      · have h5 : b.size = j := by omega
        have hs := Lib.hid (HL.out.trans (congrArg (fun k => j + k) (lcp_end (a := a) (.inr (by omega)))))
        go_wp2_with (go_quiet (fail))
        go_ret
        exact ⟨ret_int (by rw [hs.out]; simp), _, World.drewN_drewN _ _ _⟩
    · have h5 : a.size = j := by omega
      have hs := Lib.hid (HL.out.trans (congrArg (fun k => j + k) (lcp_end (b := b) (.inl (by omega)))))
      go_wp2_with (go_quiet (fail))
      go_ret
      exact ⟨ret_int (by rw [hs.out]; simp), _, World.drewN_drewN _ _ _⟩

end Go.Proofs.YtlinclbodbbemaaDoor

namespace Go.Proofs.YtlinclbodbbemaaDoor
open Go.RowKit

/-- A copy of the tree's list lies in memory that is new since w. -/
def NewList (w : World) (l : List T) (e : Ending) (w' : World) : Prop := ∃ (p : Option Addr) (cap : Nat), e = .returned (.slice p l.length cap) ∧ l.length ≤ cap ∧ l.length * 56 ≤ 140737488355328 ∧ RepAll w' w.heap.size w'.heap.size l p ∧ Below w.heap.size w w'
def NewVal (w : World) (t : T) (e : Ending) (w' : World) : Prop := ∃ v, e = .returned v ∧ Rep w' w.heap.size w'.heap.size t v ∧ Below w.heap.size w w'

/-- No cell of these blocks is frozen. -/
def NoFrz (w : World) (lo hi : Nat) : Prop := ∀ b o, lo ≤ b → b < hi → w.frozen? ⟨b, o, none⟩ = false
theorem NoFrz.keep {w w' : World} {lo hi lo' hi' : Nat} (h : NoFrz w lo hi) (hlo : lo ≤ lo') (hhi : hi' ≤ hi) (hk : ∀ p : Addr, lo' ≤ p.block → p.block < hi' → w'.frozen? p = w.frozen? p) : NoFrz w' lo' hi' :=
  fun b o h1 h2 => (hk ⟨b, o, none⟩ h1 h2).trans (h b o (by omega) (by omega))
theorem NoFrz.below {w w' : World} {lo hi B : Nat} (h : NoFrz w lo hi) (hb : Below B w w') (hB : hi ≤ B) : NoFrz w' lo hi := h.keep (Nat.le_refl _) (Nat.le_refl _) (fun p _ hp => hb.frozen (by omega))
theorem NoFrz.setCell {w : World} {lo hi : Nat} (h : NoFrz w lo hi) (p : Addr) (u : Value) : NoFrz (w.setCell p u) lo hi := fun b o h1 h2 => by
  rw [← h b o h1 h2]
  simp only [World.frozen?, World.setCell, Array.getElem?_modify]
  by_cases e : p.block = b
  · subst e; simp only [if_true]
    cases hh : w.heap[p.block]? with
    | none => rfl
    | some x => cases x <;> rfl
  · simp [e]
theorem NoFrz.nil (w : World) : NoFrz w w.heap.size w.heap.size := fun b o h1 h2 => absurd h1 (by omega)
theorem NoFrz.alloc {w : World} {lo : Nat} (h : NoFrz w lo w.heap.size) (c : Array Value) (t : TypeId) : NoFrz (w.alloc (.cells c t)) lo (w.alloc (.cells c t)).heap.size := fun b o h1 h2 => by
  rw [World.size_alloc] at h2
  by_cases e : b = w.heap.size
  · subst e
    have h := heap_alloc_new w (.cells c t)
    simp only [World.frozen?, h]; simp
  · exact (((Below.refl w.heap.size w).alloc (Nat.le_refl _) _).frozen (p := ⟨b, o, none⟩) (by show b < w.heap.size; omega)).trans (h b o h1 (by omega))
theorem NoFrz.call {w w2 : World} {lo : Nat} (h : NoFrz w lo w.heap.size) (hb : Below w.heap.size w w2) (h2 : NoFrz w2 w.heap.size w2.heap.size) : NoFrz w2 lo w2.heap.size := fun b o h3 h4 => by
  by_cases e : b < w.heap.size
  · exact (hb.frozen (p := ⟨b, o, none⟩) e).trans (h b o h3 e)
  · exact h2 b o (by omega) h4
def NewListF (w : World) (l : List T) (e : Ending) (w' : World) : Prop := NewList w l e w' ∧ NoFrz w' w.heap.size w'.heap.size ∧ ∀ p n c, e = .returned (.slice p n c) → c = n
def NewValF (w : World) (t : T) (e : Ending) (w' : World) : Prop := NewVal w t e w' ∧ NoFrz w' w.heap.size w'.heap.size ∧ ∀ x y z p n c, e = .returned (.agg #[x, y, z, .slice p n c]) → c = n

theorem Tryd.info_V : (Tryd.prog.info? 32).map (fun i => (i.zero, i.size, i.bytes)) = some (some (.agg #[.int .i64 0, .int .i64 0, .string ⟨#[]⟩, .slice none 0 0]), 4, 56) := by kernel_rfl

/-- The first j copies stand in the new block bo. -/
def Part (wr : World) (bo : Nat) (l : List T) (j : Nat) : Prop := ∃ cs : Array Value, wr.heap[bo]? = some (.cells cs 32 (0, 0)) ∧ cs.size = l.length * 4 ∧
  ∀ i (h : i < l.length), i < j → ∃ c0 c1 c2 c3, cs[i * 4]? = some c0 ∧ cs[i * 4 + 1]? = some c1 ∧ cs[i * 4 + 2]? = some c2 ∧ cs[i * 4 + 3]? = some c3 ∧ Rep wr (bo + 1) wr.heap.size l[i] (.agg #[c0, c1, c2, c3])

theorem heap_lt {w : World} {g : Nat} {o : Obj} (h : w.heap[g]? = some o) : g < w.heap.size := by
  rcases Nat.lt_or_ge g w.heap.size with h1 | h1
  · exact h1
  · rw [Array.getElem?_eq_none h1] at h; cases h
theorem Part.lt {wr : World} {bo : Nat} {l : List T} {j : Nat} (h : Part wr bo l j) : bo < wr.heap.size := by
  obtain ⟨cs, h1, _⟩ := h; exact heap_lt h1
theorem Part.start (w : World) (cs : Array Value) (l : List T) (h : cs.size = l.length * 4) : Part (w.alloc (.cells cs 32)) w.heap.size l 0 :=
  ⟨cs, heap_alloc_new w _, h, fun i _ hi => absurd hi (by omega)⟩
theorem Part.below {wr w2 : World} {bo : Nat} {l : List T} {j : Nat} (h : Part wr bo l j) (hb : Below wr.heap.size wr w2) : Part w2 bo l j := by
  have hlt := h.lt
  obtain ⟨cs, h1, h2, h3⟩ := h
  refine ⟨cs, (hb.block _ hlt).trans h1, h2, fun i hi hj => ?_⟩
  obtain ⟨c0, c1, c2, c3, e0, e1, e2, e3, hr⟩ := h3 i hi hj
  exact ⟨c0, c1, c2, c3, e0, e1, e2, e3, hr.keep (Nat.le_refl _) hb.size (fun p _ hp => hb.cell hp)⟩
theorem Part.room {wr : World} {bo : Nat} {l : List T} {j : Nat} (h : Part wr bo l j) (i : Nat) (hi : i < l.length) :
    (∃ u, wr.cell? ⟨bo, i * 4, none⟩ = some u) ∧ (∃ u, wr.cell? ⟨bo, i * 4 + 1, none⟩ = some u) ∧ (∃ u, wr.cell? ⟨bo, i * 4 + 2, none⟩ = some u) ∧ (∃ u, wr.cell? ⟨bo, i * 4 + 3, none⟩ = some u) ∧ ∀ o, wr.frozen? ⟨bo, o, none⟩ = false := by
  obtain ⟨cs, h1, h2, _⟩ := h
  have hc : ∀ o, wr.cell? ⟨bo, o, none⟩ = cs[o]? := fun o => cell_of_row _ _ o _ _ _ h1
  have hsm : ∀ o, o < l.length * 4 → ∃ u, wr.cell? ⟨bo, o, none⟩ = some u := fun o ho => ⟨cs[o]'(by omega), by rw [hc]; exact Array.getElem?_eq_getElem (by omega)⟩
  exact ⟨hsm _ (by omega), hsm _ (by omega), hsm _ (by omega), hsm _ (by omega), fun o => by simp [World.frozen?, h1]⟩
theorem Part.step {wr : World} {bo : Nat} {l : List T} {j : Nat} (h : Part wr bo l j) (hj : j < l.length) (c0 c1 c2 c3 : Value) (hr : Rep wr (bo + 1) wr.heap.size l[j] (.agg #[c0, c1, c2, c3])) :
    Part ((((wr.setCell ⟨bo, j * 4, none⟩ c0).setCell ⟨bo, j * 4 + 1, none⟩ c1).setCell ⟨bo, j * 4 + 2, none⟩ c2).setCell ⟨bo, j * 4 + 3, none⟩ c3) bo l (j + 1) := by
  obtain ⟨cs, h1, h2, h3⟩ := h
  have hset : ∀ (w : World) (c : Array Value) (o : Nat) (u : Value), w.heap[bo]? = some (.cells c 32 (0, 0)) → (w.setCell ⟨bo, o, none⟩ u).heap[bo]? = some (.cells (c.setIfInBounds o u) 32 (0, 0)) := by
    intro w c o u hw
    simp [World.setCell, Array.getElem?_modify, hw]
  have k0 := hset _ _ (j * 4) c0 h1
  have k1 := hset _ _ (j * 4 + 1) c1 k0
  have k2 := hset _ _ (j * 4 + 2) c2 k1
  have k3 := hset _ _ (j * 4 + 3) c3 k2
  have hkeep : ∀ (t : T) (v : Value), Rep wr (bo + 1) wr.heap.size t v → Rep ((((wr.setCell ⟨bo, j * 4, none⟩ c0).setCell ⟨bo, j * 4 + 1, none⟩ c1).setCell ⟨bo, j * 4 + 2, none⟩ c2).setCell ⟨bo, j * 4 + 3, none⟩ c3) (bo + 1) wr.heap.size t v := by
    intro t v h
    refine Rep.setCell (Rep.setCell (Rep.setCell (Rep.setCell h ?_ _) ?_ _) ?_ _) ?_ _ <;> (left; show bo < bo + 1; omega)
  refine ⟨_, k3, by simpa using h2, fun i hi hij => ?_⟩
  have hsz : ((((wr.setCell ⟨bo, j * 4, none⟩ c0).setCell ⟨bo, j * 4 + 1, none⟩ c1).setCell ⟨bo, j * 4 + 2, none⟩ c2).setCell ⟨bo, j * 4 + 3, none⟩ c3).heap.size = wr.heap.size := by simp
  rw [hsz]
  by_cases hij' : i = j
  · subst hij'
    refine ⟨c0, c1, c2, c3, ?_, ?_, ?_, ?_, hkeep _ _ hr⟩ <;> simp [Array.getElem?_setIfInBounds] <;> omega
  · obtain ⟨d0, d1, d2, d3, e0, e1, e2, e3, hr'⟩ := h3 i hi (by omega)
    refine ⟨d0, d1, d2, d3, ?_, ?_, ?_, ?_, hkeep _ _ hr'⟩
    · rw [Array.getElem?_setIfInBounds_ne (by omega), Array.getElem?_setIfInBounds_ne (by omega), Array.getElem?_setIfInBounds_ne (by omega), Array.getElem?_setIfInBounds_ne (by omega)]; exact e0
    · rw [Array.getElem?_setIfInBounds_ne (by omega), Array.getElem?_setIfInBounds_ne (by omega), Array.getElem?_setIfInBounds_ne (by omega), Array.getElem?_setIfInBounds_ne (by omega)]; exact e1
    · rw [Array.getElem?_setIfInBounds_ne (by omega), Array.getElem?_setIfInBounds_ne (by omega), Array.getElem?_setIfInBounds_ne (by omega), Array.getElem?_setIfInBounds_ne (by omega)]; exact e2
    · rw [Array.getElem?_setIfInBounds_ne (by omega), Array.getElem?_setIfInBounds_ne (by omega), Array.getElem?_setIfInBounds_ne (by omega), Array.getElem?_setIfInBounds_ne (by omega)]; exact e3
/-- A list in memory, out of its items. -/
theorem RepAll.of {w : World} {lo hi b : Nat} (hlo : lo ≤ b) (hhi : b < hi) : ∀ (l : List T) (off : Nat), (∀ i (h : i < l.length), ∃ c0 c1 c2 c3, w.cell? ⟨b, off + i * 4, none⟩ = some c0 ∧ w.cell? ⟨b, off + i * 4 + 1, none⟩ = some c1 ∧ w.cell? ⟨b, off + i * 4 + 2, none⟩ = some c2 ∧ w.cell? ⟨b, off + i * 4 + 3, none⟩ = some c3 ∧ Rep w lo hi l[i] (.agg #[c0, c1, c2, c3])) →
    RepAll w lo hi l (some ⟨b, off, none⟩)
  | [], _, _ => by unfold RepAll; trivial
  | t :: r, off, h => by
    unfold RepAll
    obtain ⟨c0, c1, c2, c3, e0, e1, e2, e3, hr⟩ := h 0 (by simp)
    have hadd : ∀ n, Addr.add ⟨b, off, none⟩ n = ⟨b, off + n, none⟩ := by
      intro n; unfold Addr.add; split
      · rename_i h; subst h; rfl
      · rfl
    refine ⟨⟨b, off, none⟩, c0, c1, c2, c3, rfl, hlo, hhi, by simpa using e0, by rw [hadd]; simpa using e1, by rw [hadd]; simpa using e2, by rw [hadd]; simpa using e3, hr, ?_⟩
    rw [hadd]
    refine RepAll.of hlo hhi r (off + 4) (fun i hi => ?_)
    obtain ⟨d0, d1, d2, d3, f0, f1, f2, f3, hr'⟩ := h (i + 1) (by simpa using hi)
    refine ⟨d0, d1, d2, d3, ?_, ?_, ?_, ?_, by simpa using hr'⟩
    · rw [← f0]; congr 2; omega
    · rw [← f1]; congr 2; omega
    · rw [← f2]; congr 2; omega
    · rw [← f3]; congr 2; omega
theorem Part.done {wr : World} {bo : Nat} {l : List T} (h : Part wr bo l l.length) : RepAll wr bo wr.heap.size l (some ⟨bo, 0, none⟩) := by
  have hlt := h.lt
  obtain ⟨cs, h1, h2, h3⟩ := h
  refine RepAll.of (Nat.le_refl _) hlt l 0 (fun i hi => ?_)
  obtain ⟨c0, c1, c2, c3, e0, e1, e2, e3, hr⟩ := h3 i hi hi
  have hc : ∀ o, wr.cell? ⟨bo, o, none⟩ = cs[o]? := fun o => cell_of_row _ _ o _ _ _ h1
  refine ⟨c0, c1, c2, c3, ?_, ?_, ?_, ?_, hr.keep (by omega) (Nat.le_refl _) (fun _ _ _ => rfl)⟩ <;> (rw [hc, Nat.zero_add]; assumption)

set_option maxHeartbeats 1000000 in
theorem cloneAll_any (l : List T) (ih : ∀ t ∈ l, ∀ (w : World) (lo hi : Nat) (v : Value), Rep w lo hi t v → hi ≤ w.heap.size → Calls Tryd.prog 96 #[v] w (NewValF w t))
    (w : World) (lo hi : Nat) (p : Option Addr) (cap : Nat) (hall : RepAll w lo hi l p) (_hlc : l.length ≤ cap) (hcap : l.length * 56 ≤ 140737488355328) (hhi : hi ≤ w.heap.size) :
    Calls Tryd.prog 129 #[.slice p l.length cap] w (NewListF w l) := by
  cases hl : l with
  | nil =>
    simp only [List.length_nil]
    go_enter Tryd.func129, Tryd.ntmps129
    go_wp2
    go_ret
    exact ⟨⟨none, 0, rfl, Nat.le_refl _, by simp, by unfold RepAll; trivial, Below.refl _ _⟩, NoFrz.nil _, fun _ _ _ h => by cases h; rfl⟩
  | cons x xs =>
    have hpos : 0 < l.length := by rw [hl]; simp
    rw [← hl]
    clear hl
    have H := Lib.hid ih; clear ih
    obtain ⟨i0, hi0, hz0, hz1, hz2⟩ := info_parts Tryd.info_V
    have hmk : ∀ W : World, (Instr.makeSlice 30 (.int .i64 (l.length : Int)) (.int .i64 (l.length : Int))).run Tryd.prog W = .ok (.slice (some ⟨W.heap.size, 0, none⟩) l.length l.length) (W.alloc (.cells (madeCells #[.int .i64 0, .int .i64 0, .string ⟨#[]⟩, .slice none 0 0] (l.length * 4)) 32)) := by
      intro W
      have h := run_make (P := Tryd.prog) W 30 32 i0 _ Tryd.underlying30 hi0 hz0 .i64 .i64 l.length l.length (by omega) (by omega) (by rw [hz2]; omega) (by omega)
      rw [hz1] at h
      simpa [Value.cells] using h
    have hl0 : ((l.length : Int) == 0) = false := beq_eq_false_iff_ne.2 (by omega)
    go_enter Tryd.func129, Tryd.ntmps129
    go_wp2
    have hP := Lib.hid (Part.start w (madeCells #[.int .i64 0, .int .i64 0, .string ⟨#[]⟩, .slice none 0 0] (l.length * 4)) l (size_madeCells _ _))
    have hNF := Lib.hid ((NoFrz.nil w).alloc (madeCells #[.int .i64 0, .int .i64 0, .string ⟨#[]⟩, .slice none 0 0] (l.length * 4)) 32)
    have hW : Below w.heap.size w (w.alloc (.cells (madeCells #[.int .i64 0, .int .i64 0, .string ⟨#[]⟩, .slice none 0 0] (l.length * 4)) 32)) := (Below.refl _ _).alloc (Nat.le_refl _) _
    go_loopw [14] (fun i wr => ∃ j : Nat, j ≤ l.length ∧ i = .int .i64 j ∧ Hid (Part wr w.heap.size l j) ∧ Hid (NoFrz wr w.heap.size wr.heap.size) ∧ Below w.heap.size w wr) (fun i _ => l.length - (intOf i).toNat)
    case atStart => exact ⟨0, Nat.zero_le _, rfl, hP, hNF, hW⟩
    case round =>
      obtain ⟨j, hj, rfl, HP, HNF, hbr⟩ := hrel
      have hz := hbr.size
      have hzl := HP.out.lt
      by_cases hlt : j < l.length
      · obtain ⟨b, off, k1, n1, s1, l1, q1, cc1, rfl, _, hbhi, hli, h0, h1, h2, h3, hrep⟩ := (hall.below hbr hhi).item j hlt
        have hlj : l[j] ∈ l := List.getElem_mem hlt
        rw [hli] at hrep hlj
        have HLI := Lib.hid hli; clear hli
        go_wp2_with (go_at_call 96; refine (H.out _ hlj _ lo hi _ (hrep.alloc (by omega) _) (by simp; omega)).mono ?_; rintro e w2 ⟨⟨v, rfl, hv, hb2⟩, hnf2, _⟩; have HNF2 := Lib.hid ((HNF.out.alloc _ _).call hb2 hnf2); clear hnf2; obtain ⟨k2, n2, s2, q2, len2, cap2, rfl⟩ := rep_form hv; have HV := Lib.hid hv; clear hv; have hbz := hb2.size; rw [World.size_alloc] at hbz; have hb3 := ((Below.refl _ _).alloc (Nat.le_refl _) _).trans (hb2.mono (by simp)); have HP2 := Lib.hid (HP.out.below hb3); obtain ⟨⟨u0, hu0⟩, ⟨u1, hu1⟩, ⟨u2, hu2⟩, ⟨u3, hu3⟩, hfz⟩ := HP2.out.room j hlt; have hf0 := hfz (j * 4); have hf1 := hfz (j * 4 + 1); have hf2 := hfz (j * 4 + 2); have hf3 := hfz (j * 4 + 3); clear hfz)
        go_roundw
        case rel =>
          have hv := HV.out
          have hli := HLI.out
          refine ⟨j + 1, by omega, by go_num, HP2.out.step hlt _ _ _ _ (by rw [hli]; exact hv.keep (by simp; omega) (Nat.le_refl _) (fun _ _ _ => rfl)), ?_, ?_⟩
          · show NoFrz _ _ _
            rw [World.size_setCell, World.size_setCell, World.size_setCell, World.size_setCell]
            exact (((HNF2.out.setCell _ _).setCell _ _).setCell _ _).setCell _ _
          exact ((((hbr.trans (hb3.mono hz)).setCell (Nat.le_refl _) _).setCell (Nat.le_refl _) _).setCell (Nat.le_refl _) _).setCell (Nat.le_refl _) _
        case measure => simp [intOf]; omega
      · have hjl : j = l.length := by omega
        subst hjl
        go_wp2
        go_ret
        exact ⟨⟨_, _, rfl, Nat.le_refl _, by omega, HP.out.done.keep (by omega) (Nat.le_refl _) (fun _ _ _ => rfl), hbr⟩, HNF.out, fun _ _ _ h => by cases h; rfl⟩

/-- The result's header is the old one, its list a copy. -/
theorem Rep.mk_ {w : World} {lo hi : Nat} {k n : Int} {s : ByteArray} {l : List T} {p : Option Addr} {cap : Nat} (hk : I64 k) (hn : I64 n) (hs : s.size ≤ 140737488355328) (h1 : l.length ≤ cap) (h2 : l.length * 56 ≤ 140737488355328) (h3 : RepAll w lo hi l p) :
    Rep w lo hi (.mk k n s l) (.agg #[.int .i64 k, .int .i64 n, .string s, .slice p l.length cap]) := by
  unfold Rep; exact ⟨p, cap, rfl, hk, hn, hs, h1, h2, h3⟩

set_option maxHeartbeats 1000000 in
theorem clone_any : ∀ (t : T) (w : World) (lo hi : Nat) (v : Value), Rep w lo hi t v → hi ≤ w.heap.size → Calls Tryd.prog 96 #[v] w (NewValF w t) := by
  refine T.ind_ (fun k n s l ih w lo hi v hr hhi => ?_)
  unfold Rep at hr
  obtain ⟨p, cap, rfl, hk, hn, hs, hlc, hcap, hall⟩ := hr
  have H := Lib.hid ih; clear ih
  go_enter Tryd.func96, Tryd.ntmps96
  go_wp2_with (go_at_call 129; refine (cloneAll_any l H.out _ lo hi p cap ((hall.alloc hhi _).alloc (by simp; omega) _) hlc hcap (by simp; omega)).mono ?_; rintro e w2 ⟨⟨p2, cap2, rfl, hlc2, hcap2, hall2, hb2⟩, hnf2, hce2⟩; have HCE := Lib.hid (hce2 _ _ _ rfl); clear hce2; have HNF2 := Lib.hid hnf2; clear hnf2; have HA2 := Lib.hid hall2; clear hall2; obtain ⟨hx0, hx1, hx2, hx3, hxf⟩ := box4_in w2 w.heap.size _ _ _ _ _ (heap_old (heap_alloc_ _ _ _ _ (heap_alloc_new w _)) hb2); have hxf3 := hxf 3; clear hxf; obtain ⟨hy0, hy1, hy2, hy3, hyf⟩ := box4_in w2 (w.heap.size + 1) _ _ _ _ _ (heap_old (by have h := heap_alloc_new (w.alloc (.cells #[.int .i64 k, .int .i64 n, .string s, .slice p l.length cap] 32)) (.cells #[.int .i64 0, .int .i64 0, .string ⟨#[]⟩, .slice none 0 0] 32); rw [World.size_alloc] at h; exact h) hb2); have hyf0 := hyf 0; have hyf1 := hyf 1; have hyf2 := hyf 2; have hyf3 := hyf 3; clear hyf)
  refine bodyPost_ret (v := .agg #[.int .i64 k, .int .i64 n, .string s, .slice p2 l.length cap2]) (by simp [results, Tryd.results96, go_sem, hy0, hy1, hy2, hy3]) rfl ?_
  have hbw : Below w.heap.size w w2 := (((Below.refl _ _).alloc (Nat.le_refl _) _).alloc (by simp) _).trans (hb2.mono (by simp; omega))
  refine ⟨?_, by simp only [World.size_setCell]; (repeat (refine NoFrz.setCell ?_ _ _)); exact (((NoFrz.nil w).alloc _ _).alloc _ _).call hb2 HNF2.out, fun _ _ _ _ _ _ h => by cases h; exact HCE.out⟩
  refine ⟨_, rfl, Rep.mk_ hk hn hs hlc2 hcap2 ((((((HA2.out.setCell (Or.inl (by simp; omega)) _).setCell (Or.inl (by simp)) _).setCell (Or.inl (by simp)) _).setCell (Or.inl (by simp)) _).setCell (Or.inl (by simp)) _).keep (by simp; omega) (by simp) (fun _ _ _ => rfl)), ?_⟩
  exact ((((hbw.setCell (Nat.le_refl _) _).setCell (by simp) _).setCell (by simp) _).setCell (by simp) _).setCell (by simp) _

/-- A List of copies. -/
def mkList (l : List T) : T := .mk 4 0 ByteArray.empty l
end Go.Proofs.YtlinclbodbbemaaDoor

namespace Go.Proofs.YtlinclbodbbemaaDoor
open Go.RowKit

/-- What a value that was read within these lists makes of the whole. -/
def ContV : List (List T) → Res → Res → Prop
  | [], R1, R => R = R1
  | _ :: _, .bad x, R => R = .bad x
  | l :: st, .ok t r, R => ∃ R2, Go (.tail (l ++ [t])) r R2 ∧ ContV st R2 R
def RunVal (st : List (List T)) (i : Bs) (R : Res) : Prop := ∃ R1, Go .val i R1 ∧ ContV st R1 R
def RunAft : List (List T) → T → Bs → Res → Prop
  | [], wh, i, R => R = .ok wh i
  | l :: st, _, i, R => ∃ R2, Go (.tail l) i R2 ∧ ContV st R2 R
def addT : List (List T) → T → List (List T)
  | [], _ => []
  | l :: st, t => (l ++ [t]) :: st

theorem contV_bad : ∀ (st : List (List T)) (x : Bs), ContV st (.bad x) (.bad x)
  | [], _ => rfl
  | _ :: _, _ => rfl
theorem contV_of_aft {st : List (List T)} {t : T} {r : Bs} {R : Res} (h : RunAft (addT st t) t r R) : ContV st (.ok t r) R := by
  cases st with
  | nil => exact h
  | cons l st => exact h
theorem run_one_ok {st : List (List T)} {i r : Bs} {t : T} {R : Res} (h0 : hd 123 i = false) (h1 : one i = .ok t r) (h : RunAft (addT st t) t r R) : RunVal st i R :=
  ⟨.ok t r, h1 ▸ Go.one h0, contV_of_aft h⟩
theorem run_one_bad {st : List (List T)} {i x : Bs} (h0 : hd 123 i = false) (h1 : one i = .bad x) : RunVal st i (.bad x) :=
  ⟨.bad x, h1 ▸ Go.one h0, contV_bad _ _⟩
theorem run_begin {st : List (List T)} {r : Bs} {R : Res} (h0 : hd 125 r = false) (h : RunVal ([] :: st) r R) : RunVal st (123 :: r) R := by
  obtain ⟨R1, h1, h2⟩ := h
  cases R1 with
  | bad x =>
    cases h2
    exact ⟨.bad x, Go.list h0 (Go.itemBad h1), contV_bad _ _⟩
  | ok t q =>
    obtain ⟨R2, h3, h4⟩ := h2
    exact ⟨R2, Go.list h0 (Go.item h1 h3), h4⟩
theorem tail_end {l : List T} {q : Bs} {R : Res} (h : Go (.tail l) (125 :: q) R) : R = .ok (.mk 4 0 ByteArray.empty l) q := Go.det h Go.tailEnd
theorem run_empty {st : List (List T)} {wh : T} {q : Bs} {R : Res} (h : RunAft ([] :: st) wh (125 :: q) R) : RunVal st (123 :: 125 :: q) R := by
  obtain ⟨R2, h1, h2⟩ := h
  rw [tail_end h1] at h2
  exact ⟨_, Go.none, h2⟩
theorem run_end {st : List (List T)} {l : List T} {wh : T} {r : Bs} {R : Res} (h : RunAft (addT st (.mk 4 0 ByteArray.empty l)) (.mk 4 0 ByteArray.empty l) r R) : RunAft (l :: st) wh (125 :: r) R :=
  ⟨_, Go.tailEnd, contV_of_aft h⟩
theorem run_next {st : List (List T)} {l : List T} {wh : T} {r : Bs} {R : Res} (h : RunVal (l :: st) r R) : RunAft (l :: st) wh (44 :: 32 :: r) R := by
  obtain ⟨R1, h1, h2⟩ := h
  cases R1 with
  | bad x =>
    cases h2
    exact ⟨.bad x, Go.tailOn (Go.itemBad h1), contV_bad _ _⟩
  | ok t q =>
    obtain ⟨R2, h3, h4⟩ := h2
    exact ⟨R2, Go.tailOn (Go.item h1 h3), h4⟩
theorem run_comma {st : List (List T)} {l : List T} {wh : T} {r : Bs} (h : hd 32 r = false) : RunAft (l :: st) wh (44 :: r) (.bad r) := ⟨_, Go.tailComma h, contV_bad _ _⟩
theorem run_tail {st : List (List T)} {l : List T} {wh : T} {r : Bs} (h : hd 125 r = false) (h' : hd 44 r = false) : RunAft (l :: st) wh r (.bad r) := ⟨_, Go.tailBad h h', contV_bad _ _⟩

/-! ### How many values there are -/
mutual
def cnt : T → Nat | .mk _ _ _ l => 1 + cntA l
def cntA : List T → Nat | [] => 0 | t :: r => cnt t + cntA r
end
theorem cntA_append : ∀ a b, cntA (a ++ b) = cntA a + cntA b
  | [], b => by simp [cntA]
  | x :: r, b => by simp only [List.cons_append, cntA, cntA_append r b]; omega
mutual
theorem cnt_le_sz : ∀ t, (cnt t : Int) ≤ sz t
  | .mk k n s l => by have h := cntA_le_sz l; simp only [cnt, sz]; split <;> omega
theorem cntA_le_sz : ∀ l, (cntA l : Int) ≤ szAll l
  | [] => by simp [cntA, szAll]
  | x :: r => by have h := cnt_le_sz x; have h2 := cntA_le_sz r; simp only [cntA, szAll]; omega
end
def cntS : List (List T) → Nat | [] => 0 | l :: st => 1 + cntA l + cntS st
/-- How many values were made, ahead of a value, and behind one. -/
def cV (st : List (List T)) : Nat := cntS st
def cA (st : List (List T)) (wh : T) : Nat := if st.isEmpty then cnt wh else cntS st
theorem cA_add (st : List (List T)) (t : T) : cA (addT st t) t = cntS st + cnt t := by
  cases st with
  | nil => simp [addT, cA, cntS]
  | cons l st => simp [addT, cA, cntS, cntA_append, cntA]; omega
theorem cA_cons (l : List T) (st : List (List T)) (wh : T) : cA (l :: st) wh = cntS (l :: st) := rfl
theorem addT_length (st : List (List T)) (t : T) : (addT st t).length = st.length := by cases st <;> rfl

/-- How what is made stands to what would be: the same, as long as there is room; else full. (sa: what would be; st: what is.) -/
def Room (sa st : List (List T)) (sk md : Nat) : Prop := (md ≤ 4096 ∧ sk = 0 ∧ st = sa) ∨ (md = 4097 ∧ sa.length = st.length + sk ∧ (st = [] → sk = 0))
structure SimV (sa st : List (List T)) (sk md : Nat) : Prop where
  c : md = cntS st
  le : md ≤ cntS sa
  r : Room sa st sk md
structure SimA (sa st : List (List T)) (wa wr : T) (sk md : Nat) : Prop where
  c : md = cA st wr
  le : md ≤ cA sa wa
  r : Room sa st sk md
  w : st = [] → md ≤ 4096 → wr = wa

theorem SimV.start : SimV [] [] 0 0 := ⟨rfl, Nat.le_refl _, .inl ⟨by omega, rfl, rfl⟩⟩
theorem SimV.begin {sa st : List (List T)} {sk md : Nat} (h : SimV sa st sk md) (hm : md ≤ 4096) : SimV ([] :: sa) ([] :: st) sk (md + 1) := by
  have h1 := h.c; have h2 := h.le
  refine ⟨by simp [cntS, cntA]; omega, by simp [cntS, cntA]; omega, ?_⟩
  rcases h.r with ⟨_, r2, r3⟩ | ⟨r1, _⟩
  · subst r2 r3
    by_cases h3 : md + 1 ≤ 4096
    · exact .inl ⟨h3, rfl, rfl⟩
    · exact .inr ⟨by omega, rfl, fun _ => rfl⟩
  · omega
theorem SimV.skip {sa st : List (List T)} {sk md : Nat} (h : SimV sa st sk md) (hm : ¬ md ≤ 4096) : SimV ([] :: sa) st (sk + 1) md ∧ st ≠ [] := by
  have h1 := h.c; have h2 := h.le
  rcases h.r with ⟨r1, _⟩ | ⟨r1, r2, r3⟩
  · omega
  · have hne : st ≠ [] := by intro e; subst e; simp [cntS] at h1; omega
    exact ⟨⟨h1, by simp [cntS, cntA]; omega, .inr ⟨r1, by simp; omega, fun e => absurd e hne⟩⟩, hne⟩
theorem SimV.single {sa st : List (List T)} {sk md : Nat} {t : T} (h : SimV sa st sk md) (ht : cnt t = 1) (hm : md ≤ 4096) : SimA (addT sa t) (addT st t) t t sk (md + 1) := by
  have h1 := h.c; have h2 := h.le
  refine ⟨by rw [cA_add]; omega, by rw [cA_add]; omega, ?_, fun _ _ => rfl⟩
  rcases h.r with ⟨_, r2, r3⟩ | ⟨r1, _⟩
  · subst r2 r3
    by_cases h3 : md + 1 ≤ 4096
    · exact .inl ⟨h3, rfl, rfl⟩
    · exact .inr ⟨by omega, rfl, fun _ => rfl⟩
  · omega
theorem SimV.pass {sa st : List (List T)} {sk md : Nat} {t wr : T} (h : SimV sa st sk md) (ht : cnt t = 1) (hm : ¬ md ≤ 4096) : SimA (addT sa t) st t wr sk md ∧ st ≠ [] := by
  have h1 := h.c; have h2 := h.le
  rcases h.r with ⟨r1, _⟩ | ⟨r1, r2, r3⟩
  · omega
  · have hne : st ≠ [] := by intro e; subst e; simp [cntS] at h1; omega
    refine ⟨⟨?_, by rw [cA_add]; omega, .inr ⟨r1, by rw [addT_length]; exact r2, fun e => absurd e hne⟩, fun h => absurd h hne⟩, hne⟩
    cases st with
    | nil => exact absurd rfl hne
    | cons l st => rw [cA_cons]; exact h1
/-- A list that was begun and has nothing yet. -/
theorem SimV.aft {sa st : List (List T)} {sk md : Nat} {wa wr : T} (h : SimV sa st sk md) (hs : st ≠ []) : SimA sa st wa wr sk md := by
  have h1 := h.c; have h2 := h.le
  have hsa : sa ≠ [] := by
    rcases h.r with ⟨_, _, r3⟩ | ⟨_, r2, _⟩
    · rw [← r3]; exact hs
    · intro e; subst e; have := List.length_pos_iff.2 hs; simp at r2; omega
  cases st with
  | nil => exact absurd rfl hs
  | cons l st =>
    cases sa with
    | nil => exact absurd rfl hsa
    | cons la sa => exact ⟨h1, h2, h.r, fun e => absurd e hs⟩
theorem SimA.skip {sa st : List (List T)} {sk md : Nat} {la : List T} {wa wr : T} (h : SimA (la :: sa) st wa wr (sk + 1) md) : SimA (addT sa (.mk 4 0 ByteArray.empty la)) st (.mk 4 0 ByteArray.empty la) wr sk md := by
  have h1 := h.c; have h2 := h.le
  rcases h.r with ⟨_, r2, _⟩ | ⟨r1, r2, r3⟩
  · omega
  · have hne : st ≠ [] := fun e => by have := r3 e; omega
    refine ⟨h1, ?_, .inr ⟨r1, by rw [addT_length]; simp at r2; omega, fun e => absurd e hne⟩, fun e => absurd e hne⟩
    rw [cA_add]; rw [cA_cons] at h2; simp only [cntS] at h2; simp only [cnt]; omega
theorem SimA.end_ {sa st : List (List T)} {md : Nat} {la l : List T} {wa wr : T} (h : SimA (la :: sa) (l :: st) wa wr 0 md) : SimA (addT sa (.mk 4 0 ByteArray.empty la)) (addT st (.mk 4 0 ByteArray.empty l)) (.mk 4 0 ByteArray.empty la) (.mk 4 0 ByteArray.empty l) 0 md := by
  have h1 := h.c; have h2 := h.le
  rw [cA_cons] at h1 h2
  simp only [cntS] at h1 h2
  refine ⟨by rw [cA_add]; simp only [cnt]; omega, by rw [cA_add]; simp only [cnt]; omega, ?_, ?_⟩
  · rcases h.r with ⟨r1, _, r3⟩ | ⟨r1, r2, _⟩
    · injection r3 with e1 e2
      subst e1 e2
      exact .inl ⟨r1, rfl, rfl⟩
    · exact .inr ⟨r1, by rw [addT_length, addT_length]; simpa using r2, fun _ => rfl⟩
  · intro _ hm
    rcases h.r with ⟨_, _, r3⟩ | ⟨r1, _⟩
    · injection r3 with e1 e2
      rw [e1]
    · omega
/-- In the end: what was made is what was read, or it is too much, both. -/
theorem SimA.done {sa : List (List T)} {sk md : Nat} {wa wr : T} (h : SimA sa [] wa wr sk md) : sa = [] ∧ ((cnt wa ≤ 4096 ∧ wr = wa) ∨ (4096 < cnt wa ∧ 4096 < cnt wr)) := by
  have h1 := h.c; have h2 := h.le
  have hsa : sa = [] := by
    rcases h.r with ⟨_, _, r3⟩ | ⟨_, r2, r3⟩
    · exact r3.symm
    · exact List.eq_nil_of_length_eq_zero (by rw [r2, r3 rfl]; rfl)
  subst hsa
  refine ⟨rfl, ?_⟩
  have e1 : cA [] wr = cnt wr := rfl
  have e2 : cA [] wa = cnt wa := rfl
  rw [e1] at h1; rw [e2] at h2
  by_cases hm : md ≤ 4096
  · have := h.w rfl hm
    exact .inl ⟨by rw [← this]; omega, this⟩
  · exact .inr ⟨by omega, by omega⟩
theorem SimA.next {sa st : List (List T)} {sk md : Nat} {wa wr : T} (h : SimA sa st wa wr sk md) (hs : st ≠ []) : SimV sa st sk md ∧ sa ≠ [] := by
  have h1 := h.c; have h2 := h.le
  have hsa : sa ≠ [] := by
    rcases h.r with ⟨_, _, r3⟩ | ⟨_, r2, _⟩
    · rw [← r3]; exact hs
    · intro e; subst e; have := List.length_pos_iff.2 hs; simp at r2; omega
  cases st with
  | nil => exact absurd rfl hs
  | cons l st =>
    cases sa with
    | nil => exact absurd rfl hsa
    | cons la sa => exact ⟨⟨h1, h2, h.r⟩, by simp⟩
end Go.Proofs.YtlinclbodbbemaaDoor

namespace Go.Proofs.YtlinclbodbbemaaDoor
open Go.RowKit

mutual
def eqV : T → T → Bool
  | .mk k n s l, .mk k' n' s' l' => eqAll l l' && k == k' && n == n' && s.toList == s'.toList
def eqAll : List T → List T → Bool
  | [], [] => true
  | t :: r, t' :: r' => eqV t t' && eqAll r r'
  | _, _ => false
end
theorem eqAll_drop (l l' : List T) (j : Nat) (h : j < l.length) (h' : j < l'.length) : eqAll (l.drop j) (l'.drop j) = (eqV l[j] l'[j] && eqAll (l.drop (j + 1)) (l'.drop (j + 1))) := by
  rw [List.drop_eq_getElem_cons h, List.drop_eq_getElem_cons h', eqAll]
theorem eqAll_len : ∀ (l l' : List T), l.length ≠ l'.length → eqAll l l' = false
  | [], [], h => absurd rfl h
  | [], _ :: _, _ => by simp [eqAll]
  | _ :: _, [], _ => by simp [eqAll]
  | t :: r, t' :: r', h => by rw [eqAll, eqAll_len r r' (by simpa using h)]; simp
theorem eqAll_self (l : List T) (h : ∀ t ∈ l, eqV t t = true) : eqAll l l = true := by
  induction l with
  | nil => simp [eqAll]
  | cons x r ih => rw [eqAll, h x (by simp), ih (fun t ht => h t (by simp [ht]))]; rfl
theorem eqV_self : ∀ t, eqV t t = true := T.ind_ (fun k n s l ih => by rw [eqV, eqAll_self l ih]; simp)

set_option maxHeartbeats 1000000 in
theorem sameValues_any (l : List T) (w : World) (lo hi : Nat) (p : Option Addr) (cap : Nat) (hall : RepAll w lo hi l p) (hhi : hi ≤ w.heap.size) (hlen : l.length ≤ 9000000000000000000)
    (l' : List T) (lo' hi' : Nat) (p' : Option Addr) (cap' : Nat) (hall' : RepAll w lo' hi' l' p') (hhi' : hi' ≤ w.heap.size)
    (ih : ∀ t ∈ l, ∀ (t' : T) (w : World) (lo hi lo' hi' : Nat) (v v' : Value), Rep w lo hi t v → hi ≤ w.heap.size → Rep w lo' hi' t' v' → hi' ≤ w.heap.size →
      Calls Tryd.prog 14 #[v, v'] w fun e w' => e = .returned (.bool (eqV t t')) ∧ Below w.heap.size w w') :
    Calls Tryd.prog 46 #[.slice p l.length cap, .slice p' l'.length cap'] w fun e w' => e = .returned (.bool (eqAll l l')) ∧ Below w.heap.size w w' := by
  have H := Lib.hid ih; clear ih
  have HALL := Lib.hid hall; clear hall
  have HALL' := Lib.hid hall'; clear hall'
  by_cases hll : l.length = l'.length
  · have hne : ((l.length : Int) != (l'.length : Int)) = false := by simp [hll]
    have HLL := Lib.hid hll; clear hll
    go_enter Tryd.func46, Tryd.ntmps46
    go_wp2
    go_loopw [5] (fun i wr => ∃ j : Nat, j ≤ l.length ∧ i = .int .i64 j ∧ Hid (eqAll l l' = eqAll (l.drop j) (l'.drop j)) ∧ Below w.heap.size w wr) (fun i _ => l.length - (intOf i).toNat)
    case atStart => exact ⟨0, Nat.zero_le _, rfl, rfl, Below.refl _ _⟩
    case round =>
      obtain ⟨j, hj, rfl, HO, hbr⟩ := hrel
      have hz := hbr.size
      by_cases hlt : j < l.length
      · have hlt' : j < l'.length := by have := HLL.out; omega
        obtain ⟨b, off, k1, n1, s1, l1, q1, cc1, rfl, _, hbhi, hli, h0, h1, h2, h3, hrep⟩ := (HALL.out.below hbr hhi).item j hlt
        obtain ⟨b', off', k1', n1', s1', l1', q1', cc1', rfl, _, hbhi', hli', h0', h1', h2', h3', hrep'⟩ := (HALL'.out.below hbr hhi').item j hlt'
        have hA0 := eqAll_drop l l' j hlt hlt'
        rw [hli, hli'] at hA0
        have hA := Lib.hid (HO.out.trans hA0); clear hA0
        have hlj : l[j] ∈ l := List.getElem_mem hlt
        rw [hli] at hlj hrep
        rw [hli'] at hrep'
        clear hli hli'
        have hbw : b < wr.heap.size := by omega
        have hbw' : b' < wr.heap.size := by omega
        go_wp2
        go_region_held3 (fun w' => w'.cell? ⟨b, off + j * 4, none⟩ = some (.int .i64 k1) ∧ w'.cell? ⟨b, off + j * 4 + 1, none⟩ = some (.int .i64 n1) ∧ w'.cell? ⟨b, off + j * 4 + 2, none⟩ = some (.string s1) ∧ w'.cell? ⟨b, off + j * 4 + 3, none⟩ = some (.slice q1 l1.length cc1) ∧ w'.cell? ⟨b', off' + j * 4, none⟩ = some (.int .i64 k1') ∧ w'.cell? ⟨b', off' + j * 4 + 1, none⟩ = some (.int .i64 n1') ∧ w'.cell? ⟨b', off' + j * 4 + 2, none⟩ = some (.string s1') ∧ w'.cell? ⟨b', off' + j * 4 + 3, none⟩ = some (.slice q1' l1'.length cc1')) (first | exact ⟨h0, h1, h2, h3, h0', h1', h2', h3'⟩ | exact ⟨(hb2.cell (p := ⟨b, _, none⟩) hbw).trans h0, (hb2.cell (p := ⟨b, _, none⟩) hbw).trans h1, (hb2.cell (p := ⟨b, _, none⟩) hbw).trans h2, (hb2.cell (p := ⟨b, _, none⟩) hbw).trans h3, (hb2.cell (p := ⟨b', _, none⟩) hbw').trans h0', (hb2.cell (p := ⟨b', _, none⟩) hbw').trans h1', (hb2.cell (p := ⟨b', _, none⟩) hbw').trans h2', (hb2.cell (p := ⟨b', _, none⟩) hbw').trans h3'⟩) (first | (go_at_call 14; refine (H.out _ hlj _ _ lo hi lo' hi' _ _ hrep.drew (by simp; omega) hrep'.drew (by simp; omega)).mono ?_; rintro e w2 ⟨rfl, hb2⟩; obtain ⟨hc2, hf2⟩ := below_bcell hb2))
        go_wp2
        · have h : (!eqV (T.mk k1 n1 s1 l1) (T.mk k1' n1' s1' l1')) = true := by assumption
          go_ret
          refine ⟨ret_bool ?_, hbr.drew.trans (hb2.mono (by simp; omega))⟩
          rw [hA.out, show eqV (T.mk k1 n1 s1 l1) (T.mk k1' n1' s1' l1') = false from by simpa using h]; rfl
        · have h : (!eqV (T.mk k1 n1 s1 l1) (T.mk k1' n1' s1' l1')) = false := by assumption
          go_roundw
          case rel =>
            refine ⟨j + 1, by omega, by go_num, ?_, hbr.drew.trans (hb2.mono (by simp; omega))⟩
            show _ = _
            rw [hA.out, show eqV (T.mk k1 n1 s1 l1) (T.mk k1' n1' s1' l1') = true from by simpa using h]; rfl
          case measure => simp [intOf]; omega
      · have hjl : j = l.length := by omega
        subst hjl
        go_wp2
        go_ret
        refine ⟨ret_bool ?_, hbr⟩
        rw [HO.out, List.drop_length, List.drop_of_length_le (by have := HLL.out; omega)]; simp [eqAll]
  · have hne : ((l.length : Int) != (l'.length : Int)) = true := by simp; omega
    have HE := Lib.hid (eqAll_len l l' hll)
    go_enter Tryd.func46, Tryd.ntmps46
    go_wp2
    go_ret
    exact ⟨ret_bool HE.out.symm, Below.refl _ _⟩

set_option maxHeartbeats 1000000 in
theorem sameValue_any : ∀ (t t' : T) (w : World) (lo hi lo' hi' : Nat) (v v' : Value), Rep w lo hi t v → hi ≤ w.heap.size → Rep w lo' hi' t' v' → hi' ≤ w.heap.size →
      Calls Tryd.prog 14 #[v, v'] w fun e w' => e = .returned (.bool (eqV t t')) ∧ Below w.heap.size w w' := by
  refine T.ind_ (fun k n s l ih t' w lo hi lo' hi' v v' hr hhi hr' hhi' => ?_)
  match t', hr' with
  | .mk k' n' s' l', hr' =>
    unfold Rep at hr hr'
    obtain ⟨p, cap, rfl, hk, hn, hs, hlc, hcap, hall⟩ := hr
    obtain ⟨p', cap', rfl, hk', hn', hs', hlc', hcap', hall'⟩ := hr'
    have H := Lib.hid ih; clear ih
    have HE : Hid (eqV (.mk k n s l) (.mk k' n' s' l') = (eqAll l l' && k == k' && n == n' && s.toList == s'.toList)) := by show _ = _; rw [eqV]
    have HALL := Lib.hid hall; clear hall
    have HALL' := Lib.hid hall'; clear hall'
    cases hE : eqAll l l' with
    | false =>
      go_enter Tryd.func14, Tryd.ntmps14
      go_wp2_with (go_at_call 46; refine (sameValues_any l _ lo hi p cap ((HALL.out.alloc (by omega) _).alloc (by simp; omega) _) (by simp; omega) (by omega) l' lo' hi' p' cap' ((HALL'.out.alloc (by omega) _).alloc (by simp; omega) _) (by simp; omega) H.out).mono ?_; rintro e w2 ⟨rfl, hb2⟩; obtain ⟨hc2, hf2⟩ := below_bcell hb2)
      all_goals
        go_ret
        refine ⟨ret_bool ?_, (((Below.refl _ _).alloc (Nat.le_refl _) _).alloc (by simp) _).trans (hb2.mono (by simp; omega))⟩
        rw [HE.out]
        simp [*]
    | true =>
      go_enter Tryd.func14, Tryd.ntmps14
      go_wp2_with (go_at_call 46; refine (sameValues_any l _ lo hi p cap ((HALL.out.alloc (by omega) _).alloc (by simp; omega) _) (by simp; omega) (by omega) l' lo' hi' p' cap' ((HALL'.out.alloc (by omega) _).alloc (by simp; omega) _) (by simp; omega) H.out).mono ?_; rintro e w2 ⟨rfl, hb2⟩; obtain ⟨hc2, hf2⟩ := below_bcell hb2)
      all_goals
        go_ret
        refine ⟨ret_bool ?_, (((Below.refl _ _).alloc (Nat.le_refl _) _).alloc (by simp) _).trans (hb2.mono (by simp; omega))⟩
        rw [HE.out]
        simp [*]

end Go.Proofs.YtlinclbodbbemaaDoor

namespace Go.Proofs.YtlinclbodbbemaaDoor
open Go.RowKit
set_option maxRecDepth 100000

/-- A fault with nothing around it. -/
def fv (c : Int) : Value := .agg #[.int .i64 c, .bool false, .int .i64 0, .int .i64 0, .int .i64 0, .string ByteArray.empty, .slice none 0 0]

set_option maxHeartbeats 400000 in
theorem bare_any (c : Int) (w : World) : Calls Tryd.prog 53 #[.int .i64 c] w fun e w' => e = .returned (fv c) ∧ Below w.heap.size w w' := by
  go_enter Tryd.func53, Tryd.ntmps53
  go_wp2
  go_returns
  exact ⟨rfl, by go_grown⟩

set_option maxHeartbeats 400000 in
theorem none_any (w : World) : Calls Tryd.prog 55 #[] w fun e w' => e = .returned (fv 0) ∧ Below w.heap.size w w' := by
  go_enter Tryd.func55, Tryd.ntmps55
  go_wp2
  go_returns
  exact ⟨rfl, by go_grown⟩

set_option maxHeartbeats 1000000 in
theorem sameFault_any (a b : Int) (w : World) : Calls Tryd.prog 49 #[fv a, fv b] w fun e w' => e = .returned (.bool (a == b)) ∧ Below w.heap.size w w' := by
  have h0 : ∀ W : World, Hid (Rep W 0 0 (.mk 0 0 ByteArray.empty []) (.agg #[.int .i64 0, .int .i64 0, .string ByteArray.empty, .slice none 0 0])) := fun W => by
    show Rep _ _ _ _ _
    unfold Rep
    exact ⟨none, 0, rfl, by unfold I64; omega, by unfold I64; omega, by simp, Nat.le_refl _, by simp, by unfold RepAll; trivial⟩
  have hE := Lib.hid (eqV_self (.mk 0 0 ByteArray.empty []))
  unfold fv
  by_cases hab : a = b
  all_goals
    have hab2 : (a == b) = decide (a = b) := by rw [Bool.eq_iff_iff]; simp
    go_enter Tryd.func49, Tryd.ntmps49
    go_wp2_with (go_at_call 14; refine (sameValue_any _ _ _ 0 0 0 0 _ _ (h0 _).out (Nat.zero_le _) (h0 _).out (Nat.zero_le _)).mono ?_; rintro e w2 ⟨rfl, hb2⟩; rw [hE.out]; obtain ⟨hc2, hf2⟩ := below_bcell hb2)
    go_ret
    exact ⟨ret_bool (by simp [hab]), (((Below.refl _ _).alloc (Nat.le_refl _) _).alloc (by simp) _).trans (hb2.mono (by simp; omega))⟩

/-- A box of seven cells (a fault), in whatever world it still stands. -/
theorem box7_in (w2 : World) (g : Nat) (c0 c1 c2 c3 c4 c5 c6 : Value) (t : TypeId) (h : w2.heap[g]? = some (.cells #[c0, c1, c2, c3, c4, c5, c6] t (0, 0))) : w2.cell? ⟨g, 0, none⟩ = some c0 ∧ w2.cell? ⟨g, 1, none⟩ = some c1 ∧
    w2.cell? ⟨g, 2, none⟩ = some c2 ∧ w2.cell? ⟨g, 3, none⟩ = some c3 ∧ w2.cell? ⟨g, 4, none⟩ = some c4 ∧ w2.cell? ⟨g, 5, none⟩ = some c5 ∧ w2.cell? ⟨g, 6, none⟩ = some c6 ∧ ∀ o, w2.frozen? ⟨g, o, none⟩ = false :=
  ⟨(cell_of_row _ _ 0 _ _ _ h).trans rfl, (cell_of_row _ _ 1 _ _ _ h).trans rfl, (cell_of_row _ _ 2 _ _ _ h).trans rfl, (cell_of_row _ _ 3 _ _ _ h).trans rfl, (cell_of_row _ _ 4 _ _ _ h).trans rfl, (cell_of_row _ _ 5 _ _ _ h).trans rfl, (cell_of_row _ _ 6 _ _ _ h).trans rfl, fun o => by simp [World.frozen?, h]⟩
/-- The variables of api's errors, in the order of the text. -/
def gOf (i : Nat) : Nat := [9, 10, 7, 0, 2, 8, 11, 12, 13, 14, 1, 3, 15, 16, 17, 18, 19].getD i 0
/-- An error of api's, as a value. -/
def ev (a : Addr) : Value := .iface 199 (.pointer (some a))
structure Sents (w : World) (ad : Nat → Addr) : Prop where
  var : ∀ i, i < 17 → w.cell? ⟨gOf i, 0, none⟩ = some (ev (ad i))
  blk : ∀ i, i < 17 → ∃ c t, w.heap[(ad i).block]? = some (.cells c t (0, 0))
  inj : ∀ i j, i < 17 → j < 17 → ad i = ad j → i = j
theorem Sents.below {w w' : World} {ad : Nat → Addr} (h : Sents w ad) (hb : Below w.heap.size w w') : Sents w' ad :=
  ⟨fun i hi => (hb.cell (p := ⟨gOf i, 0, none⟩) (World.block_lt_of_cell? w _ (h.var i hi))).trans (h.var i hi),
   fun i hi => by obtain ⟨c, t, hc⟩ := h.blk i hi; exact ⟨c, t, heap_old hc hb⟩, h.inj⟩

theorem Tryd.comp_E : (Tryd.prog.info? 199).map (·.comparable) = some true := by kernel_rfl
theorem Tryd.size_E : (Tryd.prog.info? 214).map (·.size) = some 1 := by kernel_rfl

set_option maxHeartbeats 400000 in
theorem seeAlike_any (ad : Nat → Addr) (i j : Nat) (hi : i < 17) (hj : j < 17) (w : World) (hS : Sents w ad) :
    Calls Tryd.prog 141 #[ev (ad i), ev (ad j)] w fun e w' => e = .returned (.bool (i == j)) ∧ w' = w := by
  obtain ⟨ti, hti, hc⟩ := Option.map_eq_some_iff.1 Tryd.comp_E
  obtain ⟨tj, htj, hs⟩ := Option.map_eq_some_iff.1 Tryd.size_E
  unfold ev
  by_cases hij : i = j
  · subst hij
    go_enter Tryd.func141, Tryd.ntmps141
    go_wp2
    rw [run_eql_iface_ptr_same w (ad i) Tryd.underlying25 Tryd.underlying199 hti hc htj]
    go_wp2
    go_ret
    exact ⟨ret_bool (by simp), rfl⟩
  · obtain ⟨c1, t1, hb1⟩ := hS.blk i hi
    obtain ⟨c2, t2, hb2⟩ := hS.blk j hj
    have hne : ad i ≠ ad j := fun e => hij (hS.inj i j hi hj e)
    have HB := Lib.hid (run_eql_iface_ptr_other (P := Tryd.prog) w Tryd.underlying25 Tryd.underlying199 hti hc htj (by omega) hne hb1 hb2)
    clear hb1 hb2
    go_enter Tryd.func141, Tryd.ntmps141
    go_wp2
    rw [HB.out]
    go_wp2
    go_ret
    exact ⟨ret_bool (by simpa using hij), rfl⟩

end Go.Proofs.YtlinclbodbbemaaDoor

namespace Go.Proofs.YtlinclbodbbemaaDoor
open Go.RowKit
set_option maxRecDepth 100000

theorem starE : "*" ++ "errors.errorString" = "*errors.errorString" := by decide
theorem Tryd.rowE (u : TypeId) (h : Tryd.prog.typeName? 3 u = some "*errors.errorString") : u = 199 :=
  typeName_ptr_named (nm := "errors.errorString") (by rw [starE]; kernel_rfl) (by kernel_rfl) (by decide) u (by rw [starE]; exact h)
theorem Tryd.cellsEE : Tryd.prog.cellsOf 214 = 1 := by kernel_rfl
theorem Tryd.cellsSS : Tryd.prog.cellsOf 9 = 1 := by kernel_rfl

def sentRows : List (String × List UInt8 × Nat) := [
  ("inglenook/api.ErrEnd", [105, 116, 32, 101, 110, 100, 115, 32, 116, 111, 111, 32, 101, 97, 114, 108, 121], 9),
  ("inglenook/api.ErrSum", [116, 104, 101, 32, 115, 117, 109, 32, 105, 115, 32, 97, 110, 111, 116, 104, 101, 114, 32, 111, 110, 101], 10),
  ("inglenook/api.ErrShape", [110, 111, 116, 32, 97, 115, 32, 105, 116, 32, 104, 97, 115, 32, 116, 111, 32, 98, 101], 7),
  ("inglenook/api.ErrMany", [116, 111, 111, 32, 109, 97, 110, 121], 0),
  ("inglenook/api.ErrRange", [97, 32, 110, 117, 109, 98, 101, 114, 32, 111, 117, 116, 32, 111, 102, 32, 105, 116, 115, 32, 114, 97, 110, 103, 101], 2),
  ("inglenook/api.ErrName", [110, 111, 32, 110, 97, 109, 101, 32, 116, 104, 97, 116, 32, 109, 97, 121, 32, 98, 101], 8),
  ("inglenook/api.ErrNone", [116, 104, 101, 114, 101, 32, 105, 115, 32, 110, 111, 110, 101], 11),
  ("inglenook/api.ErrThere", [116, 104, 101, 114, 101, 32, 105, 115, 32, 111, 110, 101], 12),
  ("inglenook/api.ErrFull", [116, 104, 101, 114, 101, 32, 105, 115, 32, 110, 111, 32, 114, 111, 111, 109], 13),
  ("inglenook/api.ErrCrash", [116, 104, 101, 32, 112, 111, 119, 101, 114, 32, 105, 115, 32, 103, 111, 110, 101], 14),
  ("inglenook/api.ErrSyntax", [110, 111, 32, 112, 114, 111, 103, 114, 97, 109], 1),
  ("inglenook/api.ErrDeep", [116, 111, 111, 32, 100, 101, 101, 112], 3),
  ("inglenook/api.ErrTicks", [116, 111, 111, 32, 109, 97, 110, 121, 32, 116, 105, 99, 107, 115], 15),
  ("inglenook/api.ErrWaits", [105, 116, 32, 119, 97, 105, 116, 115], 16),
  ("inglenook/api.ErrClosed", [105, 116, 32, 105, 115, 32, 99, 108, 111, 115, 101, 100], 17),
  ("inglenook/api.ErrWord", [110, 111, 32, 115, 117, 99, 104, 32, 119, 111, 114, 100], 18),
  ("inglenook/api.ErrNumber", [110, 111, 32, 115, 117, 99, 104, 32, 110, 117, 109, 98, 101, 114], 19)]
def datumOf (x : String × List UInt8 × Nat) : String × DataW Unit := (x.1, .iface "*errors.errorString" (.ptr (.agg [.lit (.string x.2.1)])))
def pl (a : Addr) : MemPlace := .cell a.block a.off
def flat : List (String × List UInt8 × Nat) → List Addr → List MemPlace
  | x :: L, a :: r => .cell x.2.2 0 :: pl a :: flat L r
  | _, _ => []

theorem laid_list (W : World) : ∀ (L : List (String × List UInt8 × Nat)) (ps : List MemPlace), (∀ x ∈ L, Tryd.prog.globalNamed x.1 = some x.2.2 ∧ (Tryd.prog.globals[x.2.2]?).map (·.type) = some 25) → DataW.LaidVars Tryd.prog W (L.map datumOf) ps →
    (∀ b off, MemPlace.cell b off ∈ ps → (∃ c t, W.heap[b]? = some (.cells c t (0, 0))) ∧ ∀ u v, W.cell? ⟨b, off, none⟩ = some (.iface u v) → Value.okWide Tryd.prog W .any 0 u v) →
    ∃ qs : List Addr, qs.length = L.length ∧ ps = flat L qs ∧ (∀ a ∈ qs, a.spot = none) ∧ ∀ (i : Nat) (x : String × List UInt8 × Nat) (a : Addr), L[i]? = some x → qs[i]? = some a → W.cell? ⟨x.2.2, 0, none⟩ = some (ev a)
  | [], ps, _, h, _ => by
    have h : ps = [] := h
    subst h
    exact ⟨[], rfl, rfl, by simp, by simp⟩
  | x :: L, ps, hg, h, hrows => by
    obtain ⟨g0, t0, cs0, f0, p0, q0, hg0, ht0, hv0, hd0, hq, e0⟩ := h
    obtain ⟨e1, e2⟩ := hg x (by simp)
    obtain rfl := Option.some.inj (e1.symm.trans hg0)
    obtain rfl := Option.some.inj (e2.symm.trans ht0)
    obtain ⟨l0⟩ := cs0
    have ok0 : ∀ u v, l0 = [.iface u v] → Value.okWide Tryd.prog W .any 0 u v := fun u v e => by
      subst e
      exact (hrows x.2.2 0 (by rw [e0]; simp [MemPlace.row])).2 u v (by simpa using World.var?_cell hg0 hv0 0)
    obtain ⟨a0, s0, rfl, hc0, _, _, rfl⟩ := errorString_of_trod Tryd.underlying25 Tryd.rowE Tryd.underlying199 Tryd.underlying214 rfl rfl Tryd.underlying9 Tryd.cellsEE Tryd.cellsSS hd0 ok0
    have hsp := spot_none hc0
    obtain ⟨qs, hl, hps, hspots, hcells⟩ := laid_list W L q0 (fun y hy => hg y (by simp [hy])) hq (fun b off hm => hrows b off (by rw [e0]; simp [hm]))
    refine ⟨a0 :: qs, by simp [hl], ?_, ?_, ?_⟩
    · rw [e0, hps]; simp [MemPlace.row, flat, pl]
    · intro a ha
      rcases List.mem_cons.1 ha with rfl | ha
      · exact hsp
      · exact hspots a ha
    · intro i y a hy ha
      cases i with
      | zero =>
        simp at hy ha
        subst hy ha
        simpa [ev] using World.var?_cell hg0 hv0 0
      | succ i => exact hcells i y a (by simpa using hy) (by simpa using ha)

theorem nodup_inj {α : Type} (l : List α) (h : l.Nodup) (i j : Nat) (hi : i < l.length) (hj : j < l.length) (e : l[i] = l[j]) : i = j := by
  have hp := List.pairwise_iff_getElem.1 h
  rcases Nat.lt_trichotomy i j with h1 | h1 | h1
  · exact absurd e (hp i j hi hj h1)
  · exact h1
  · exact absurd e.symm (hp j i hj hi h1)
theorem flat_sub : ∀ (L : List (String × List UInt8 × Nat)) (qs : List Addr), qs.length = L.length → (qs.map pl).Sublist (flat L qs)
  | [], [], _ => by simp [flat]
  | x :: L, a :: qs, h => by
    simp only [List.map_cons, flat]
    exact List.Sublist.cons _ (List.Sublist.cons_cons _ (flat_sub L qs (by simpa using h)))
  | [], _ :: _, h => by simp at h
  | _ :: _, [], h => by simp at h

theorem sents_of_laid {W : World} (h : laidMet Tryd.prog (sentRows.map datumOf) W) : ∃ ad, Sents W ad := by
  obtain ⟨ps, hL, hnd, hrows⟩ := h
  obtain ⟨qs, hl, hps, hsp, hc⟩ := laid_list W sentRows ps (by
    intro x hx
    simp only [sentRows, List.mem_cons, List.not_mem_nil, or_false] at hx
    rcases hx with rfl | rfl | rfl | rfl | rfl | rfl | rfl | rfl | rfl | rfl | rfl | rfl | rfl | rfl | rfl | rfl | rfl <;> exact ⟨by kernel_rfl, by kernel_rfl⟩) hL hrows
  have hl17 : qs.length = 17 := hl
  have hsub := flat_sub sentRows qs hl
  rw [← hps] at hsub
  have hnd2 := hsub.nodup hnd
  refine ⟨fun i => qs.getD i ⟨0, 0, none⟩, ?_, ?_, ?_⟩
  · intro i hi
    have ha : qs[i]? = some (qs[i]'(by omega)) := List.getElem?_eq_getElem (by omega)
    have hgd : qs.getD i ⟨0, 0, none⟩ = qs[i]'(by omega) := by simp [List.getD, ha]
    simp only [hgd]
    have hx : sentRows[i]? = some (sentRows[i]'hi) := List.getElem?_eq_getElem hi
    have hgi : (sentRows[i]'hi).2.2 = gOf i := by
      have hcs : i = 0 ∨ i = 1 ∨ i = 2 ∨ i = 3 ∨ i = 4 ∨ i = 5 ∨ i = 6 ∨ i = 7 ∨ i = 8 ∨ i = 9 ∨ i = 10 ∨ i = 11 ∨ i = 12 ∨ i = 13 ∨ i = 14 ∨ i = 15 ∨ i = 16 := by omega
      rcases hcs with rfl | rfl | rfl | rfl | rfl | rfl | rfl | rfl | rfl | rfl | rfl | rfl | rfl | rfl | rfl | rfl | rfl <;> rfl
    rw [← hgi]
    exact hc i _ _ hx ha
  · intro i hi
    have ha : qs[i]? = some (qs[i]'(by omega)) := List.getElem?_eq_getElem (by omega)
    have hgd : qs.getD i ⟨0, 0, none⟩ = qs[i]'(by omega) := by simp [List.getD, ha]
    simp only [hgd]
    refine (hrows _ (qs[i]'(by omega)).off ?_).1
    exact hsub.subset (List.mem_map.2 ⟨_, List.getElem_mem (by omega), rfl⟩)
  · intro i j hi hj he
    have hi' : i < qs.length := by omega
    have hj' : j < qs.length := by omega
    have hgi : qs.getD i ⟨0, 0, none⟩ = qs[i] := by simp [List.getD, List.getElem?_eq_getElem hi']
    have hgj : qs.getD j ⟨0, 0, none⟩ = qs[j] := by simp [List.getD, List.getElem?_eq_getElem hj']
    simp only [hgi, hgj] at he
    have h1 : (qs.map pl)[i]'(by simpa using hi') = (qs.map pl)[j]'(by simpa using hj') := by simp [he]
    exact nodup_inj _ hnd2 i j _ _ h1

end Go.Proofs.YtlinclbodbbemaaDoor

namespace Go.Proofs.YtlinclbodbbemaaDoor
open Go.RowKit

theorem numWord_ok {most : Nat} {kind : Int} {minus : Bool} {t d r : Bs} {k : Int} {s : Bs} {v : T} {r' : Bs} (h : numWord most kind minus t d r = .ok k s v r') : areD d = true ∧ r' = r ∧ k = 3 ∧ s = [] ∧ ∃ n, (numC most t).1 = some n ∧ v = .mk kind n ⟨#[]⟩ [] ∧ ¬ (minus = true ∧ d = [48]) := by
  unfold numWord at h
  split at h
  · cases h
  · rename_i hc
    simp only [Bool.or_eq_true, Bool.not_eq_true', Bool.and_eq_true, decide_eq_true_eq, not_or, Bool.not_eq_false] at hc
    cases hn : (numC most t).1 with
    | none => rw [hn] at h; cases h
    | some n =>
      rw [hn] at h
      simp only [WR.ok.injEq] at h
      obtain ⟨rfl, rfl, rfl, rfl⟩ := h
      exact ⟨hc.1, rfl, rfl, rfl, n, rfl, rfl, hc.2⟩
theorem areD_ne {d : Bs} (h : areD d = true) : d ≠ [] := by
  intro e; subst e; simp [areD] at h
theorem drop_short {j : Bs} {n : Nat} (hj : j ≠ []) (hn : 0 < n) : (j.drop n).length < j.length := by
  cases j with
  | nil => exact absurd rfl hj
  | cons c q => simp; omega
theorem wordL_cons (c : UInt8) (q : Bs) : wordL (c :: q) = if hd 34 (c :: q) then strWord (strOf q) else if hd 35 (c :: q) then objWord q else if isD c then numWord 9223372036854775807 0 false (runB (c :: q)) (runB (c :: q)) ((c :: q).drop (runB (c :: q)).length)
    else if isC c then errWord (c :: q) (codeL (runB (c :: q))) else if isS c || hd 95 (c :: q) then nameWord (c :: q) (kindL (runB (c :: q))) else signWord (c :: q) (signL (c :: q)) := rfl
theorem wordL_len {j : Bs} {k : Int} {s : Bs} {v : T} {r : Bs} (hj : j ≠ []) (h : wordL j = .ok k s v r) : r.length < j.length := by
  cases j with
  | nil => exact absurd rfl hj
  | cons c q =>
    rw [wordL_cons] at h
    split at h
    · unfold strWord at h
      rcases hq : strOf q with ⟨o, r'⟩
      rw [hq] at h
      cases o with
      | none => cases h
      | some l =>
        simp only [WR.ok.injEq] at h
        obtain ⟨_, _, _, rfl⟩ := h
        have := congrArg List.length (strOf_sound _ _ (Nat.le_refl _) hq).1
        simp at this ⊢
        omega
    · split at h
      · unfold objWord at h
        split at h
        · obtain ⟨_, rfl, _⟩ := numWord_ok h
          simp; omega
        · obtain ⟨_, rfl, _⟩ := numWord_ok h
          simp; omega
      · split at h
        · obtain ⟨h1, rfl, _⟩ := numWord_ok h
          exact drop_short hj (List.length_pos_iff.2 (areD_ne h1))
        · split at h
          · rename_i hc
            unfold errWord at h
            split at h
            · simp only [WR.ok.injEq] at h
              obtain ⟨_, _, _, rfl⟩ := h
              refine drop_short hj ?_
              have : isR c = true := by unfold isR; rw [hc]; simp
              rw [runB, this]; simp
            · cases h
          · split at h
            · rename_i hc
              unfold nameWord at h
              split at h
              · simp only [WR.ok.injEq] at h
                obtain ⟨_, _, _, rfl⟩ := h
                refine drop_short hj ?_
                have : isR c = true := by
                  unfold isR
                  simp only [hd, Bool.or_eq_true, beq_iff_eq] at hc
                  rcases hc with hc | hc
                  · rw [hc]; simp
                  · simp [hc]
                rw [runB, this]; simp
              · cases h
            · unfold signWord at h
              split at h
              · cases h
              · rename_i hb
                simp only [WR.ok.injEq] at h
                obtain ⟨_, _, _, rfl⟩ := h
                exact drop_short hj (List.length_pos_iff.2 hb)

end Go.Proofs.YtlinclbodbbemaaDoor

namespace Go.Proofs.YtlinclbodbbemaaDoor
open Go.RowKit

theorem isD_R {c : UInt8} (h : isD c = true) : isR c = true := by unfold isR; rw [h]; simp
theorem dec_allD (u : Nat) : (Lib.decDigits u).all isD = true := by
  induction u using Nat.strongRecOn with
  | _ u ih =>
    by_cases h : u < 10
    · rw [dec_small h, List.all_cons, isD_ofNat h]; rfl
    · rw [dec_big h, List.all_append, ih (u / 10) (by omega), List.all_cons, isD_ofNat (show u % 10 < 10 by omega)]; rfl
theorem dec_ne (u : Nat) : Lib.decDigits u ≠ [] := by
  intro e
  have := congrArg List.length e
  have h := Lib.nDigits_pos u
  rw [Lib.decDigits_length] at this
  simp at this; omega
theorem dec_48 {u : Nat} (hu : 0 < u) : hd 48 (Lib.decDigits u) = false := by
  have := (dec_head u hu []).1
  rwa [List.append_nil] at this
theorem areD_dec (u : Nat) : areD (Lib.decDigits u) = true := by
  unfold areD
  rw [dec_allD]
  rcases Nat.eq_zero_or_pos u with rfl | hu
  · rw [dec_small (by omega)]; rfl
  · simp [dec_ne u, dec_48 hu]
theorem all_R {d : Bs} (h : d.all isD = true) : ∀ c ∈ d, isR c = true := fun c hc => isD_R (List.all_eq_true.1 h c hc)
theorem wordL_dig {i : Bs} (h : hdD i = true) : wordL i = numWord 9223372036854775807 0 false (runB i) (runB i) (i.drop (runB i).length) := by
  cases i with
  | nil => cases h
  | cons c q =>
    have hc := isD_iff.1 (show isD c = true from h)
    rw [wordL_cons, if_neg (by simp [hd]; omega), if_neg (by simp [hd]; omega), if_pos (show isD c = true from h)]
theorem wordL_35 (i : Bs) : wordL (35 :: i) = objWord i := rfl
theorem wordL_34 (i : Bs) : wordL (34 :: i) = strWord (strOf i) := rfl
theorem wordL_69 (i : Bs) : wordL (69 :: i) = errWord (69 :: i) (codeL (runB (69 :: i))) := rfl
theorem hdD_dec (u : Nat) (r : Bs) : hdD (Lib.decDigits u ++ r) = true ∧ hd 45 (Lib.decDigits u ++ r) = false := by
  have h := dec_allD u
  cases hd' : Lib.decDigits u with
  | nil => exact absurd hd' (dec_ne u)
  | cons c q =>
    rw [hd', List.all_cons, Bool.and_eq_true] at h
    have := isD_iff.1 h.1
    exact ⟨h.1, by simp [hd]; omega⟩
theorem itoa_pos {n : Int} (h : 0 ≤ n) : Lib.itoa n = Lib.decDigits n.toNat := by unfold Lib.itoa; rw [if_neg (by omega)]
theorem itoa_neg {n : Int} (h : n < 0) : Lib.itoa n = 45 :: Lib.decDigits n.natAbs := by unfold Lib.itoa; rw [if_pos h]
theorem numC_it {most : Nat} {n : Int} (h0 : -(most : Int) - 1 ≤ n) (h1 : n ≤ most) : (numC most (Lib.itoa n)).1 = some n := by
  have := numC_itoa (r := []) h0 h1 rfl
  rw [List.append_nil] at this
  rw [this]
theorem name_R {n : Int} (h0 : 0 ≤ n) (h1 : n ≤ 14) : ∀ c ∈ nameOf n, isR c = true := by
  have h8 : ∀ i : Fin 15, ∀ c ∈ nameOf ((i : Nat) : Int), isR c = true := by decide
  exact fifteen (P := fun n => ∀ c ∈ nameOf n, isR c = true) h8 h0 h1
/-- A literal that may be among words. -/
def litT : T → Prop
  | .mk k n s l => (k = 0 ∧ 0 ≤ n ∧ n ≤ 9223372036854775807 ∧ s = ByteArray.empty ∧ l = []) ∨ (k = 1 ∧ -2147483648 ≤ n ∧ n ≤ 2147483647 ∧ s = ByteArray.empty ∧ l = []) ∨
      (k = 2 ∧ n = 0 ∧ l = [] ∧ ∀ c ∈ s.data.toList, 32 ≤ c.toNat ∧ c.toNat ≤ 126) ∨ (k = 3 ∧ 0 ≤ n ∧ n ≤ 14 ∧ s = ByteArray.empty ∧ l = [])
theorem numW_ok {most : Nat} {kind n : Int} {minus : Bool} {t d r : Bs} (hA : areD d = true) (hz : ¬ (minus = true ∧ d = [48])) (hn : (numC most t).1 = some n) : numWord most kind minus t d r = .ok 3 [] (.mk kind n ⟨#[]⟩ []) r := by
  unfold numWord
  rw [if_neg (by simp only [hA, Bool.not_true, Bool.false_or, Bool.and_eq_true, decide_eq_true_eq]; exact hz), hn]
theorem lit_word {t : T} (h : litT t) (r : Bs) (hr : t.k = 2 ∨ stop r = true) : wordL (tx t ++ r) = .ok 3 [] t r := by
  match t, h with
  | .mk k n s l, h =>
    rcases h with ⟨rfl, h1, h2, rfl, rfl⟩ | ⟨rfl, h1, h2, rfl, rfl⟩ | ⟨rfl, rfl, rfl, h1⟩ | ⟨rfl, h1, h2, rfl, rfl⟩
    · replace hr : stop r = true := by rcases hr with hr | hr; cases hr; exact hr
      rw [tx0, itoa_pos h1, wordL_dig (hdD_dec _ _).1, runB_app _ _ (all_R (dec_allD _)) hr, List.drop_left]
      refine numW_ok (areD_dec _) (by simp) ?_
      rw [← itoa_pos h1]; exact numC_it (by omega) (by omega)
    · replace hr : stop r = true := by rcases hr with hr | hr; cases hr; exact hr
      rw [tx1, List.cons_append, wordL_35]
      unfold objWord
      by_cases hn : n < 0
      · rw [itoa_neg hn, List.cons_append, if_pos (by rfl)]
        simp only [List.drop_succ_cons, List.drop_zero]
        rw [runB_app _ _ (all_R (dec_allD _)) hr, show 1 + (Lib.decDigits n.natAbs).length = (Lib.decDigits n.natAbs).length + 1 by omega, List.drop_succ_cons, List.drop_left]
        refine numW_ok (areD_dec _) (fun ⟨_, e⟩ => ?_) ?_
        · have := dec_48 (show 0 < n.natAbs by omega)
          rw [e] at this; cases this
        · rw [← itoa_neg hn]; exact numC_it (by omega) (by omega)
      · rw [itoa_pos (by omega), if_neg (by rw [(hdD_dec _ _).2]; decide), runB_app _ _ (all_R (dec_allD _)) hr, List.drop_left]
        refine numW_ok (areD_dec _) (by simp) ?_
        rw [← itoa_pos (by omega)]; exact numC_it (by omega) (by omega)
    · rw [tx2]
      have e : 34 :: (esc s.data.toList ++ [34]) ++ r = 34 :: (esc s.data.toList ++ (34 :: r)) := by simp
      rw [e, wordL_34, strOf_esc _ _ h1]
      rfl
    · replace hr : stop r = true := by rcases hr with hr | hr; cases hr; exact hr
      rw [tx3]
      have hR := runB_app _ _ (name_R h1 h2) hr
      obtain ⟨q, hq⟩ := name_head h1 h2
      have hc := codeL_name h1 h2
      rw [hq] at hR hc ⊢
      rw [List.cons_append] at hR ⊢
      rw [wordL_69, hR, hc]
      unfold errWord
      rw [if_pos rfl, hR, ← List.cons_append, List.drop_left]
      rfl
theorem areD_x (d : Bs) : areD (d ++ [120]) = false := by
  have h : (d ++ [120]).all isD = false := by
    rw [List.all_append, show ([120] : Bs).all isD = false from by decide, Bool.and_false]
  unfold areD; rw [h]; rfl
theorem numW_bad {most : Nat} {kind : Int} {minus : Bool} {t d r : Bs} (hA : areD d = false) : numWord most kind minus t d r = .bad false := by
  unfold numWord
  rw [if_pos (by simp [hA])]
theorem R_x {d : Bs} (h : ∀ c ∈ d, isR c = true) : runB (d ++ [120]) = d ++ [120] := by
  have := runB_app (d ++ [120]) [] (fun c hc => by
    rcases List.mem_append.1 hc with hc | hc
    · exact h c hc
    · obtain rfl : c = 120 := by simpa using hc
      decide) rfl
  rwa [List.append_nil] at this
theorem lit_spoilt {t : T} (h : litT t) (hk : t.k ≠ 2) : wordL (tx t ++ [120]) = .bad false := by
  match t, h with
  | .mk k n s l, h =>
    rcases h with ⟨rfl, h1, h2, rfl, rfl⟩ | ⟨rfl, h1, h2, rfl, rfl⟩ | ⟨rfl, _⟩ | ⟨rfl, h1, h2, rfl, rfl⟩
    · rw [tx0, itoa_pos h1, wordL_dig (hdD_dec _ _).1, R_x (all_R (dec_allD _))]
      exact numW_bad (areD_x _)
    · rw [tx1, List.cons_append, wordL_35]
      unfold objWord
      by_cases hn : n < 0
      · rw [itoa_neg hn, List.cons_append, if_pos (by rfl)]
        simp only [List.drop_succ_cons, List.drop_zero]
        rw [R_x (all_R (dec_allD _))]
        exact numW_bad (areD_x _)
      · rw [itoa_pos (by omega), if_neg (by rw [(hdD_dec _ _).2]; decide), R_x (all_R (dec_allD _))]
        exact numW_bad (areD_x _)
    · exact absurd rfl hk
    · rw [tx3]
      have hR := R_x (name_R h1 h2)
      obtain ⟨q, hq⟩ := name_head h1 h2
      have hc : codeL (nameOf n ++ [120]) = (0, false) := by
        have h8 : ∀ i : Fin 15, codeL (nameOf ((i : Nat) : Int) ++ [120]) = (0, false) := by decide +kernel
        exact fifteen (P := fun n => codeL (nameOf n ++ [120]) = (0, false)) h8 h1 h2
      rw [hq] at hR hc ⊢
      rw [List.cons_append] at hR hc ⊢
      rw [wordL_69, hR, hc]
      rfl
/-- Does the text begin with a word? -/
def begW : Bs → Bool
  | [] => false
  | c :: _ => c.toNat != 10 && c.toNat != 32
theorem skipL_self {n : Nat} {i : Bs} (h : begW i = true) : skipL n i = (n, i) ∧ i ≠ [] := by
  cases i with
  | nil => cases h
  | cons c q =>
    simp only [begW, Bool.and_eq_true, bne_iff_ne] at h
    exact ⟨by rw [skipL, if_neg h.1, if_neg h.2], by simp⟩
theorem tx_beg {t : T} (h : litT t) (r : Bs) : begW (tx t ++ r) = true := by
  match t, h with
  | .mk k n s l, h =>
    rcases h with ⟨rfl, h1, h2, rfl, rfl⟩ | ⟨rfl, h1, h2, rfl, rfl⟩ | ⟨rfl, rfl, rfl, h1⟩ | ⟨rfl, h1, h2, rfl, rfl⟩
    · rw [tx0, itoa_pos h1]
      have := dec_allD n.toNat
      cases hd' : Lib.decDigits n.toNat with
      | nil => exact absurd hd' (dec_ne _)
      | cons c q =>
        rw [hd', List.all_cons, Bool.and_eq_true, isD_iff] at this
        simp [begW]; omega
    · rw [tx1]; rfl
    · rw [tx2]; rfl
    · rw [tx3]; obtain ⟨q, hq⟩ := name_head h1 h2; rw [hq]; rfl
theorem lit_all {t : T} (h : litT t) : Lx 1 (tx t) (.ok [⟨3, 1, [], t⟩]) := by
  have hb := tx_beg h []
  have hw := lit_word h [] (.inr rfl)
  rw [List.append_nil] at hb hw
  obtain ⟨h1, h2⟩ := skipL_self (n := 1) hb
  exact Lx.cons (R := .ok []) h1 h2 hw (Lx.done rfl)
theorem lit_x_bad {t : T} (h : litT t) (hk : t.k ≠ 2) : Lx 1 (tx t ++ [120]) (.bad 1 false) := by
  obtain ⟨h1, h2⟩ := skipL_self (n := 1) (tx_beg h [120])
  exact Lx.bad h1 h2 (lit_spoilt h hk)
theorem lit_x_str {t : T} (h : litT t) (hk : t.k = 2) : Lx 1 (tx t ++ [120]) (.ok [⟨3, 1, [], t⟩, ⟨1, 1, [120], zT⟩]) := by
  obtain ⟨h1, h2⟩ := skipL_self (n := 1) (tx_beg h [120])
  exact Lx.cons (R := .ok [⟨1, 1, [120], zT⟩]) h1 h2 (lit_word h [120] (.inl hk)) (Lx.cons (R := .ok []) (n := 1) (i := [120]) (m := 1) (j := [120]) (by decide) (by decide) rfl (Lx.done rfl))
/-- The chapter's example. -/
theorem ex6 : Lx 1 [120, 61, 61, 34, 97, 34] (.ok [⟨1, 1, [120], zT⟩, ⟨4, 1, [61, 61], zT⟩, ⟨3, 1, [], .mk 2 0 ⟨#[97]⟩ []⟩]) := by
  refine Lx.cons (R := .ok [⟨4, 1, [61, 61], zT⟩, ⟨3, 1, [], .mk 2 0 ⟨#[97]⟩ []⟩]) (n := 1) (m := 1) (j := [120, 61, 61, 34, 97, 34]) (by decide) (by decide) rfl ?_
  refine Lx.cons (R := .ok [⟨3, 1, [], .mk 2 0 ⟨#[97]⟩ []⟩]) (n := 1) (m := 1) (i := [61, 61, 34, 97, 34]) (j := [61, 61, 34, 97, 34]) (r := [34, 97, 34]) (by decide) (by decide) rfl ?_
  have hs : strOf [97, 34] = (some [97], []) := strOf_esc [97] [] (by decide)
  refine Lx.cons (R := .ok []) (n := 1) (m := 1) (i := [34, 97, 34]) (j := [34, 97, 34]) (r := []) (by decide) (by decide) ?_ (Lx.done rfl)
  rw [wordL_34, hs]; rfl

end Go.Proofs.YtlinclbodbbemaaDoor

namespace Go.Proofs.YtlinclbodbbemaaDoor
open Go.RowKit
set_option maxRecDepth 100000

set_option maxHeartbeats 400000 in
theorem number6_any (n b : Int) (w : World) (hn : I64 n) (hb : 1 ≤ b) (hb2 : b ≤ 1000000) :
    Calls Tryd.prog 12 #[.int .i64 n, .int .i64 b] w fun e w' => e = .returned (.int .i64 (n % b)) ∧ w = w' := by
  obtain ⟨hn1, hn2⟩ := hn
  have ht := tmod_bounds n b hb
  have he := Lib.hid (emod_of_tmod n b hb)
  go_enter Tryd.func12, Tryd.ntmps12
  go_wp2
  · have h : n.tmod b < 0 := by assumption
    go_ret
    refine ⟨ret_int ?_, rfl⟩
    rw [he.out, if_pos h]
  · have h : 0 ≤ n.tmod b := by assumption
    go_ret
    refine ⟨ret_int ?_, rfl⟩
    rw [he.out, if_neg (by omega)]

end Go.Proofs.YtlinclbodbbemaaDoor
