/- Contracts of the small methods of the reader of texts: what stands next, passing it, asking whether a list is open or there is room. -/
import Derived.Test.YtcinhndidkllbaaDoorOdd
import Derived.Test.YtcinhndidkllbaaDoorParse
import Derived.BigQuiet
namespace Go.Proofs.YtcinhndidkllbaaDoor
open Go.RowKit

/-- What a reader holds, but its text. -/
structure Rd where
  pos : Nat
  ov : Value
  sk : Nat
  md : Nat
  c0 : Value
  c1 : Value
  c2 : Value
  c3 : Value
/-- The reader stands in block g. -/
def RdIs (w : World) (g : Nat) (s : ByteArray) (x : Rd) : Prop := w.heap[g]? = some (.cells #[.string s, .int .i64 x.pos, x.ov, .int .i64 x.sk, .int .i64 x.md, x.c0, x.c1, x.c2, x.c3] 62 (0, 0))
theorem RdIs.open {w : World} {g : Nat} {s : ByteArray} {x : Rd} (h : RdIs w g s x) : w.cell? ⟨g, 0, none⟩ = some (.string s) ∧ w.cell? ⟨g, 1, none⟩ = some (.int .i64 x.pos) ∧ w.cell? ⟨g, 2, none⟩ = some x.ov ∧ w.cell? ⟨g, 3, none⟩ = some (.int .i64 x.sk) ∧
    w.cell? ⟨g, 4, none⟩ = some (.int .i64 x.md) ∧ w.cell? ⟨g, 5, none⟩ = some x.c0 ∧ w.cell? ⟨g, 6, none⟩ = some x.c1 ∧ w.cell? ⟨g, 7, none⟩ = some x.c2 ∧ w.cell? ⟨g, 8, none⟩ = some x.c3 ∧ (∀ o, w.frozen? ⟨g, o, none⟩ = false) ∧ g < w.heap.size := by
  unfold RdIs at h
  refine ⟨(cell_of_row _ _ 0 _ _ _ h).trans rfl, (cell_of_row _ _ 1 _ _ _ h).trans rfl, (cell_of_row _ _ 2 _ _ _ h).trans rfl, (cell_of_row _ _ 3 _ _ _ h).trans rfl, (cell_of_row _ _ 4 _ _ _ h).trans rfl, (cell_of_row _ _ 5 _ _ _ h).trans rfl, (cell_of_row _ _ 6 _ _ _ h).trans rfl, (cell_of_row _ _ 7 _ _ _ h).trans rfl, (cell_of_row _ _ 8 _ _ _ h).trans rfl, fun o => by simp [World.frozen?, h], ?_⟩
  rcases Nat.lt_or_ge g w.heap.size with h1 | h1
  · exact h1
  · rw [Array.getElem?_eq_none h1] at h; cases h
theorem RdIs.lt {w : World} {g : Nat} {s : ByteArray} {x : Rd} (h : RdIs w g s x) : g < w.heap.size := h.open.2.2.2.2.2.2.2.2.2.2
theorem RdIs.drew {w : World} {g : Nat} {s : ByteArray} {x : Rd} (h : RdIs w g s x) : RdIs w.drew g s x := h
theorem RdIs.alloc {w : World} {g : Nat} {s : ByteArray} {x : Rd} (h : RdIs w g s x) (o : Obj) : RdIs (w.alloc o) g s x := (Below.heap_alloc w o g h.lt).trans h
theorem RdIs.setPos {w : World} {g : Nat} {s : ByteArray} {x : Rd} (h : RdIs w g s x) (p : Nat) {q : Int} (hq : q = (p : Int)) : RdIs (w.setCell ⟨g, 1, none⟩ (.int .i64 q)) g s { x with pos := p } := by
  subst hq; unfold RdIs at h ⊢; simp [World.setCell, Array.getElem?_modify, h]
theorem RdIs.setOv {w : World} {g : Nat} {s : ByteArray} {x : Rd} (h : RdIs w g s x) (p : Value) : RdIs (w.setCell ⟨g, 2, none⟩ p) g s { x with ov := p } := by
  unfold RdIs at h ⊢; simp [World.setCell, Array.getElem?_modify, h]
theorem RdIs.setSk {w : World} {g : Nat} {s : ByteArray} {x : Rd} (h : RdIs w g s x) (p : Nat) {q : Int} (hq : q = (p : Int)) : RdIs (w.setCell ⟨g, 3, none⟩ (.int .i64 q)) g s { x with sk := p } := by
  subst hq; unfold RdIs at h ⊢; simp [World.setCell, Array.getElem?_modify, h]
theorem RdIs.setMd {w : World} {g : Nat} {s : ByteArray} {x : Rd} (h : RdIs w g s x) (p : Nat) {q : Int} (hq : q = (p : Int)) : RdIs (w.setCell ⟨g, 4, none⟩ (.int .i64 q)) g s { x with md := p } := by
  subst hq; unfold RdIs at h ⊢; simp [World.setCell, Array.getElem?_modify, h]
theorem RdIs.other {w : World} {g : Nat} {s : ByteArray} {x : Rd} (h : RdIs w g s x) (p : Addr) (hp : p.block ≠ g) (u : Value) : RdIs (w.setCell p u) g s x := by
  unfold RdIs at h ⊢; rw [Below.heap_setCell]; exact h; exact fun e => hp e.symm

theorem But.drewN {g : Nat} {a w : World} (h : But g a w) (n : Nat) : But g a (w.drewN n) := ⟨h.os, h.tape, h.output, h.size, h.block⟩
theorem below_drewN {B : Nat} {a w : World} (h : Below B a w) (n : Nat) : Below B a (w.drewN n) := ⟨h.os, h.tape, h.output, h.size, h.block⟩
theorem RdIs.drewN {w : World} {g : Nat} {s : ByteArray} {x : Rd} (h : RdIs w g s x) (n : Nat) : RdIs (w.drewN n) g s x := h
/-- The byte that stands next; 0 at the end. -/
def nx : Bs → UInt8 | [] => 0 | c :: _ => c
theorem nx_end (s : ByteArray) : nx (s.data.toList.drop s.size) = 0 := by rw [List.drop_of_length_le (by simp)]; rfl
theorem nx_at (s : ByteArray) (j : Nat) (h : j < s.size) : nx (s.data.toList.drop j) = s[j] := by
  have h' : j < s.data.toList.length := by simpa using h
  rw [List.drop_eq_getElem_cons h']; rfl
theorem ret_u8 {a b : UInt8} (h : a = b) : Ending.returned (.int .u8 (a.toNat : Int)) = .returned (.int .u8 (b.toNat : Int)) := by rw [h]

set_option maxHeartbeats 400000 in
theorem next_any (s : ByteArray) (x : Rd) (g : Nat) (w : World) (hx : RdIs w g s x) (hp : x.pos ≤ s.size) :
    Calls Tryd.prog 80 #[.pointer (some ⟨g, 0, none⟩)] w fun e w' => e = .returned (.int .u8 (nx (s.data.toList.drop x.pos)).toNat) ∧ RdIs w' g s x ∧ But g w w' := by
  obtain ⟨h0, h1, h2, h3, h4, h5, h6, h7, h8, hf, hlt⟩ := hx.open
  have HX := Lib.hid hx; clear hx
  by_cases he : x.pos = s.size
  · have hE := Lib.hid (ret_u8 ((congrArg (fun j => nx (s.data.toList.drop j)) he).trans (nx_end s)))
    rw [he] at h1
    go_enter Tryd.func80, Tryd.ntmps80
    go_wp2_with (go_quiet (fail))
    go_ret
    exact ⟨hE.out.symm, HX.out, (But.refl _ _).drewN _⟩
  · have hj : x.pos < s.size := by omega
    have hE := Lib.hid (ret_u8 (nx_at s x.pos hj))
    go_enter Tryd.func80, Tryd.ntmps80
    go_wp2_with (go_quiet (fail))
    go_ret
    exact ⟨hE.out.symm, HX.out, ((But.refl _ _).drewN _).drewN _⟩

theorem nx_hd {r : Bs} {n : Nat} (hn : 0 < n) : hd n r = ((nx r).toNat == n) := by
  cases r with
  | nil => simp [hd, nx]; omega
  | cons c q => rfl
theorem hd_lt {s : ByteArray} {j n : Nat} (h : hd n (s.data.toList.drop j) = true) : j < s.size := by
  rcases Nat.lt_or_ge j s.size with h1 | h1
  · exact h1
  · rw [List.drop_of_length_le (by simpa using h1)] at h; simp [hd] at h
theorem nx_isD (r : Bs) : isD (nx r) = hdD r := by cases r <;> rfl
theorem nx_drop {s : ByteArray} {j : Nat} (h : (nx (s.data.toList.drop j)).toNat ≠ 0) : j < s.size := by
  rcases Nat.lt_or_ge j s.size with h1 | h1
  · exact h1
  · rw [List.drop_of_length_le (by simpa using h1)] at h; exact absurd rfl h

set_option maxHeartbeats 400000 in
theorem pass_any (s : ByteArray) (x : Rd) (g : Nat) (c : Int) (n : Nat) (hcn : c = (n : Int)) (hn : 0 < n) (w : World) (hx : RdIs w g s x) (hp : x.pos ≤ s.size) (hs : s.size ≤ 140737488355328) :
    Calls Tryd.prog 70 #[.pointer (some ⟨g, 0, none⟩), .int .u8 c] w fun e w' => e = .returned (.bool (hd n (s.data.toList.drop x.pos))) ∧
      RdIs w' g s (if hd n (s.data.toList.drop x.pos) then { x with pos := x.pos + 1 } else x) ∧ But g w w' := by
  have sN := Lib.hid (next_any s x g w hx hp)
  by_cases he : ((nx (s.data.toList.drop x.pos)).toNat : Int) = c
  · have hh : hd n (s.data.toList.drop x.pos) = true := by rw [nx_hd hn]; simp; omega
    have hj : x.pos < s.size := hd_lt hh
    rw [hh]
    generalize hz : ((nx (s.data.toList.drop x.pos)).toNat : Int) = z at *
    have Hz := Lib.hid hz; clear hz
    go_enter Tryd.func70, Tryd.ntmps70
    go_wp2_with (go_at_call 80; refine sN.out.mono ?_; rintro e w2 ⟨rfl, hx2, hb2⟩; obtain ⟨h0, h1, h2, h3, h4, h5, h6, h7, h8, hf, hlt⟩ := hx2.open; have HX2 := Lib.hid hx2; clear hx2)
    go_ret
    exact ⟨rfl, HX2.out.setPos _ (by omega), hb2.setCell _ _⟩
  · have hh : hd n (s.data.toList.drop x.pos) = false := by rw [nx_hd hn]; simp; omega
    rw [hh]
    generalize hz : ((nx (s.data.toList.drop x.pos)).toNat : Int) = z at *
    have Hz := Lib.hid hz; clear hz
    go_enter Tryd.func70, Tryd.ntmps70
    go_wp2_with (go_at_call 80; refine sN.out.mono ?_; rintro e w2 ⟨rfl, hx2, hb2⟩)
    go_ret
    exact ⟨rfl, hx2, hb2⟩

set_option maxHeartbeats 400000 in
theorem isDigit_any (b : UInt8) (w : World) :
    Calls Tryd.prog 81 #[.int .u8 (b.toNat : Int)] w fun e w' => e = .returned (.bool (isD b)) ∧ w' = w := by
  have hb : b.toNat < 256 := b.toNat_lt
  go_enter Tryd.func81, Tryd.ntmps81
  go_wp2
  all_goals
    go_ret
    exact ⟨ret_bool (by rw [Bool.eq_iff_iff, isD_iff]; simp; omega), rfl⟩

set_option maxHeartbeats 400000 in
theorem inList_any (s : ByteArray) (x : Rd) (g : Nat) (p : Option Addr) (n c : Nat) (w : World) (hx : RdIs w g s x) (ho : x.ov = .slice p n c) :
    Calls Tryd.prog 69 #[.pointer (some ⟨g, 0, none⟩)] w fun e w' => e = .returned (.bool (decide (0 < n))) ∧ w' = w := by
  obtain ⟨h0, h1, h2, h3, h4, h5, h6, h7, h8, hf, hlt⟩ := hx.open
  rw [ho] at h2
  clear hx ho
  go_enter Tryd.func69, Tryd.ntmps69
  go_wp2
  all_goals
    go_ret
    exact ⟨ret_bool (by simp; try omega), rfl⟩

set_option maxHeartbeats 400000 in
theorem room_any (s : ByteArray) (x : Rd) (g : Nat) (w : World) (hx : RdIs w g s x) :
    Calls Tryd.prog 98 #[.pointer (some ⟨g, 0, none⟩)] w fun e w' => e = .returned (.bool (decide (x.md ≤ 4096))) ∧ w' = w := by
  obtain ⟨h0, h1, h2, h3, h4, h5, h6, h7, h8, hf, hlt⟩ := hx.open
  clear hx
  go_enter Tryd.func98, Tryd.ntmps98
  go_wp2
  all_goals
    go_ret
    exact ⟨ret_bool (by simp; try omega), rfl⟩

theorem lcp_le : ∀ a b : Bs, lcp a b ≤ a.length ∧ lcp a b ≤ b.length
  | a :: r, b :: q => by
    rw [lcp]; have := lcp_le r q; split <;> simp <;> omega
  | [], b => by simp [lcp]
  | a :: r, [] => by simp [lcp]
theorem lcp_step {a b : ByteArray} {j : Nat} (ha : j < a.size) (hb : j < b.size) : lcp (a.data.toList.drop j) (b.data.toList.drop j) = if a[j] = b[j] then lcp (a.data.toList.drop (j + 1)) (b.data.toList.drop (j + 1)) + 1 else 0 := by
  have ha' : j < a.data.toList.length := by simpa using ha
  have hb' : j < b.data.toList.length := by simpa using hb
  rw [List.drop_eq_getElem_cons ha', List.drop_eq_getElem_cons hb', lcp]; rfl
theorem lcp_end {a b : ByteArray} {j : Nat} (h : a.size ≤ j ∨ b.size ≤ j) : lcp (a.data.toList.drop j) (b.data.toList.drop j) = 0 := by
  rcases h with h | h
  · rw [List.drop_of_length_le (l := a.data.toList) (by simpa using h)]; simp [lcp]
  · rw [List.drop_of_length_le (l := b.data.toList) (by simpa using h)]; cases a.data.toList.drop j <;> simp [lcp]

set_option maxHeartbeats 1000000 in
theorem alike_any (a b : ByteArray) (w : World) (ha : a.size ≤ 140737488355328) :
    Calls Tryd.prog 107 #[.string a, .string b] w fun e w' => e = .returned (.int .i64 (lcp a.data.toList b.data.toList : Nat)) ∧ ∃ m, w' = w.drewN m := by
  go_enter Tryd.func107, Tryd.ntmps107
  go_wp2
  go_loopw [5] (fun i wr => ∃ j : Nat, j ≤ a.size ∧ j ≤ b.size ∧ i = .int .i64 j ∧ lcp a.data.toList b.data.toList = j + lcp (a.data.toList.drop j) (b.data.toList.drop j) ∧ ∃ m, wr = w.drewN m) (fun i _ => a.size - (intOf i).toNat)
  case atStart => exact ⟨0, Nat.zero_le _, Nat.zero_le _, rfl, by simp, 0, rfl⟩
  case round =>
    obtain ⟨j, hja, hjb, rfl, hl, m, rfl⟩ := hrel
    have HL := Lib.hid hl; clear hl
    by_cases h1 : j < a.size
    · by_cases h2 : j < b.size
      · have hs := Lib.hid (HL.out.trans (congrArg (fun k => j + k) (lcp_step h1 h2)))
        by_cases h3 : a[j] = b[j]
        · have h4 : (a[j].toNat : Int) = (b[j].toNat : Int) := by rw [h3]
          go_wp2_with (go_quiet (fail))
          go_roundw
          case measure => simp [intOf]; omega
          case rel => exact ⟨j + 1, by omega, by omega, by go_num, by rw [hs.out, if_pos h3]; omega, _, rfl⟩
        · have h4 : (a[j].toNat : Int) ≠ (b[j].toNat : Int) := fun e => h3 (UInt8.toNat_inj.1 (by omega))
          go_wp2_with (go_quiet (fail))
          go_ret
          exact ⟨ret_int (by rw [hs.out, if_neg h3]; simp), _, World.drewN_drewN _ _ _⟩
      · have h5 : b.size = j := by omega
        have hs := Lib.hid (HL.out.trans (congrArg (fun k => j + k) (lcp_end (a := a) (.inr (by omega)))))
        go_wp2_with (go_quiet (fail))
        go_ret
        exact ⟨ret_int (by rw [hs.out]; simp), _, World.drewN_drewN _ _ _⟩
    · have h5 : a.size = j := by omega
      have hs := Lib.hid (HL.out.trans (congrArg (fun k => j + k) (lcp_end (b := b) (.inl (by omega)))))
      go_wp2_with (go_quiet (fail))
      go_ret
      exact ⟨ret_int (by rw [hs.out]; simp), _, World.drewN_drewN _ _ _⟩

end Go.Proofs.YtcinhndidkllbaaDoor
