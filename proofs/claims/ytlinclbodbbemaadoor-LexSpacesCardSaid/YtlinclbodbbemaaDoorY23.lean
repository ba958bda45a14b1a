/- The reader's values that are no lists. -/
import Derived.Test.YtlinclbodbbemaaDoorY22
import Derived.Test.YtlinclbodbbemaaDoorY10
namespace Go.Proofs.YtlinclbodbbemaaDoor
open Go.RowKit
set_option maxRecDepth 100000

theorem heap_box_set0 {w : World} {b : Nat} {c0 c1 c2 c3 : Value} {t : TypeId} (h : w.heap[b]? = some (.cells #[c0, c1, c2, c3] t (0, 0))) (v : Value) : (w.setCell ⟨b, 0, none⟩ v).heap[b]? = some (.cells #[v, c1, c2, c3] t (0, 0)) := by
  simp [World.setCell, Array.getElem?_modify, h]
theorem but_heap {g b : Nat} {w w' : World} {o : Obj} (h : w.heap[b]? = some o) (hb : But g w w') (hg : b ≠ g) : w'.heap[b]? = some o := by
  refine (hb.block b ?_ hg).trans h
  rcases Nat.lt_or_ge b w.heap.size with h1 | h1
  · exact h1
  · rw [Array.getElem?_eq_none h1] at h; cases h
theorem But.far {g : Nat} {a w : World} (h : But g a w) {p : Addr} (hp : a.heap.size ≤ p.block) (v : Value) : But g a (w.setCell p v) :=
  ⟨h.os, h.tape, h.output, by rw [World.size_setCell]; exact h.size, fun k hk hne => (Below.heap_setCell _ _ _ _ (by omega)).trans (h.block k hk hne)⟩

/-- What is read well: the value is laid in, if there is room. -/
def SingOk (s : ByteArray) (g : Nat) (w : World) (sa : List (List T)) (t : T) (p : Nat) (w' : World) : Prop :=
  ∃ x', x'.pos = p ∧ InA w' g s x' (addT sa t) t ∧ Below g w w'
theorem sing_add (s : ByteArray) (x : Rd) (g : Nat) (w : World) (sa : List (List T)) (hin : InV w g s x sa) (hm : x.md ≤ 4096) (p : Nat) (W : World) (hb : But g w W) (hr : RdIs W g s { x with pos := p, md := x.md + 1 }) (k n : Int) (u : ByteArray) (hk : I64 k) (hn : I64 n) (hu : u.size ≤ 140737488355328) :
    Calls Tryd.prog 160 #[.pointer (some ⟨g, 0, none⟩), .agg #[.int .i64 k, .int .i64 n, .string u, .slice none 0 0]] W fun e w' => e = .returned (.tuple #[]) ∧ SingOk s g w sa (.mk k n u []) p w' := by
  obtain ⟨st, frs, hst, hsim⟩ := hin
  refine (add_any s { x with pos := p, md := x.md + 1 } g W st frs (hst.but hb hr rfl) hsim.le4097.1 (.mk k n u []) k n u none 0 0 (RepP.bare k n u hk hn hu)).mono fun e w' hp => ?_
  obtain ⟨he, x', frs', hx1, hx2, hx3, hs, hrep, hbw⟩ := hp
  refine ⟨he, x', hx1, ⟨_, frs', _, hs, ?_, hrep⟩, (but_below hb hst.rd.lt).trans hbw⟩
  rw [hx2, hx3]
  exact hsim.single rfl hm
theorem sing_pass (s : ByteArray) (x : Rd) (g : Nat) (w : World) (sa : List (List T)) (hin : InV w g s x sa) (hm : ¬ x.md ≤ 4096) (p : Nat) (W : World) (hb : But g w W) (hr : RdIs W g s { x with pos := p }) (k n : Int) (u : ByteArray) : SingOk s g w sa (.mk k n u []) p W := by
  obtain ⟨st, frs, hst, hsim⟩ := hin
  obtain ⟨h1, h2⟩ := hsim.pass (t := .mk k n u []) (wr := .mk k n u []) rfl hm
  exact ⟨_, rfl, ⟨st, frs, .mk k n u [], hst.but hb hr rfl, h1, fun e => absurd e h2⟩, but_below hb hst.rd.lt⟩

def SingPost (s : ByteArray) (x : Rd) (g : Nat) (w : World) (sa : List (List T)) (e : Ending) (w' : World) : Prop :=
  (∃ p, one (s.data.toList.drop x.pos) = .bad (s.data.toList.drop p) ∧ p ≤ s.size ∧ e = .returned (.bool false) ∧ ∃ x' : Rd, x'.pos = p ∧ RdIs w' g s x' ∧ Below g w w') ∨
  (∃ t p, one (s.data.toList.drop x.pos) = .ok t (s.data.toList.drop p) ∧ p ≤ s.size ∧ e = .returned (.bool true) ∧ SingOk s g w sa t p w')

def QOk (s : ByteArray) (x : Rd) (g : Nat) (w : World) (l r : Bs) (e : Ending) (w' : World) : Prop := ∃ p', p' ≤ s.size ∧ s.data.toList.drop p' = r ∧ e = .returned (.tuple #[.string ⟨l.toArray⟩, .bool true]) ∧ RdIs w' g s { x with pos := p' } ∧ But g w w'
def QBad (s : ByteArray) (x : Rd) (g : Nat) (w : World) (r : Bs) (e : Ending) (w' : World) : Prop := ∃ p', p' ≤ s.size ∧ s.data.toList.drop p' = r ∧ e = .returned (.tuple #[.string ⟨#[]⟩, .bool false]) ∧ RdIs w' g s { x with pos := p' } ∧ But g w w'
theorem quo_ok (s : ByteArray) (x : Rd) (g : Nat) (w : World) (hx : RdIs w g s x) (hp : x.pos ≤ s.size) (hs : s.size ≤ 140737488355328) {l r : Bs} (h : strOf (s.data.toList.drop x.pos) = (some l, r)) :
    Calls Tryd.prog 168 #[.pointer (some ⟨g, 0, none⟩)] w (QOk s x g w l r) := by
  have := quoted_any s x g w hx hp hs; rw [h] at this; exact this
theorem quo_bad (s : ByteArray) (x : Rd) (g : Nat) (w : World) (hx : RdIs w g s x) (hp : x.pos ≤ s.size) (hs : s.size ≤ 140737488355328) {r : Bs} (h : strOf (s.data.toList.drop x.pos) = (none, r)) :
    Calls Tryd.prog 168 #[.pointer (some ⟨g, 0, none⟩)] w (QBad s x g w r) := by
  have := quoted_any s x g w hx hp hs; rw [h] at this; exact this
def NOk (s : ByteArray) (x : Rd) (g : Nat) (w : World) (n : Int) (r : Bs) (e : Ending) (w' : World) : Prop := ∃ p', p' ≤ s.size ∧ s.data.toList.drop p' = r ∧ e = .returned (.tuple #[.int .i64 n, .bool true]) ∧ RdIs w' g s { x with pos := p' } ∧ But g w w'
def NBad (s : ByteArray) (x : Rd) (g : Nat) (w : World) (r : Bs) (e : Ending) (w' : World) : Prop := ∃ p', p' ≤ s.size ∧ s.data.toList.drop p' = r ∧ e = .returned (.tuple #[.int .i64 0, .bool false]) ∧ RdIs w' g s { x with pos := p' } ∧ But g w w'
theorem num_ok (s : ByteArray) (x : Rd) (g most : Nat) (m : Int) (w : World) (hx : RdIs w g s x) (hp : x.pos ≤ s.size) (hs : s.size ≤ 140737488355328) (hmm : (most : Int) = m) (hm0 : 9 ≤ m) (hm1 : m ≤ 9223372036854775807) {n : Int} {r : Bs} (h : numC most (s.data.toList.drop x.pos) = (some n, r)) :
    Calls Tryd.prog 170 #[.pointer (some ⟨g, 0, none⟩), .int .u64 m] w (NOk s x g w n r) := by
  have := rdNumber_any s x g most m w hx hp hs hmm hm0 hm1; rw [h] at this; exact this
theorem num_bad (s : ByteArray) (x : Rd) (g most : Nat) (m : Int) (w : World) (hx : RdIs w g s x) (hp : x.pos ≤ s.size) (hs : s.size ≤ 140737488355328) (hmm : (most : Int) = m) (hm0 : 9 ≤ m) (hm1 : m ≤ 9223372036854775807) {r : Bs} (h : numC most (s.data.toList.drop x.pos) = (none, r)) :
    Calls Tryd.prog 170 #[.pointer (some ⟨g, 0, none⟩), .int .u64 m] w (NBad s x g w r) := by
  have := rdNumber_any s x g most m w hx hp hs hmm hm0 hm1; rw [h] at this; exact this
theorem cod_ok (s : ByteArray) (x : Rd) (g : Nat) (w : World) (hx : RdIs w g s x) (hp : x.pos ≤ s.size) (hs : s.size ≤ 140737488355328) (hn : Names w) {n : Int} {r : Bs} (h : codeOf (s.data.toList.drop x.pos) = (some n, r)) :
    Calls Tryd.prog 171 #[.pointer (some ⟨g, 0, none⟩)] w (NOk s x g w n r) := by
  have := code_any s x g w hx hp hs hn; rw [h] at this; exact this
theorem cod_bad (s : ByteArray) (x : Rd) (g : Nat) (w : World) (hx : RdIs w g s x) (hp : x.pos ≤ s.size) (hs : s.size ≤ 140737488355328) (hn : Names w) {r : Bs} (h : codeOf (s.data.toList.drop x.pos) = (none, r)) :
    Calls Tryd.prog 171 #[.pointer (some ⟨g, 0, none⟩)] w (NBad s x g w r) := by
  have := code_any s x g w hx hp hs hn; rw [h] at this; exact this

set_option maxHeartbeats 2000000 in
theorem sing_str (s : ByteArray) (x : Rd) (g : Nat) (w : World) (sa : List (List T)) (hin : InV w g s x sa) (hp : x.pos ≤ s.size) (hs : s.size ≤ 140737488355328) (h34 : hd 34 (s.data.toList.drop x.pos) = true) :
    Calls Tryd.prog 159 #[.pointer (some ⟨g, 0, none⟩)] w (SingPost s x g w sa) := by
  have hx := hin.rd
  have hlt := hx.lt
  have hj : x.pos < s.size := hd_lt h34
  have HX := Lib.hid hx
  have HI := Lib.hid hin
  have HC := Lib.hid (show ((nx (s.data.toList.drop x.pos)).toNat : Int) = 34 from by rw [nx_hd (by omega)] at h34; simp at h34; omega)
  have hone : one (s.data.toList.drop x.pos) = resS (strOf (s.data.toList.drop (x.pos + 1))) := by unfold one; rw [if_pos h34, List.drop_drop]
  have HONE := Lib.hid hone
  have hP1 : ({ x with pos := x.pos + 1 }).pos ≤ s.size := by show x.pos + 1 ≤ s.size; omega
  have hgb : w.heap.size ≠ g := by omega
  have hbg : g ≠ w.heap.size := by omega
  clear hx hin h34 hone
  rcases hq : strOf (s.data.toList.drop (x.pos + 1)) with ⟨o, r⟩
  have HQ := Lib.hid hq; clear hq
  cases o with
  | none =>
    go_enter Tryd.func159, Tryd.ntmps159
    go_wp2_with (first
      | (go_at_call 158; refine (next_val s x g _ (HX.out.alloc _) hp _ HC.out).mono ?_; rintro e w3 ⟨rfl, hx3, hb3⟩; obtain ⟨h0, h1, h2, h3, h4, h5, h6, h7, h8, hf, hlt3⟩ := hx3.open; have HB3 := Lib.hid (((But.refl g w).alloc _).trans hb3); have HX3 := Lib.hid hx3; have HV3 := Lib.hid (but_heap (heap_alloc_new w _) hb3 hgb); obtain ⟨b0, b1, b2, b3, bf⟩ := box4_in _ _ _ _ _ _ _ HV3.out; clear hx3 hb3)
      | (go_at_call 168; refine (quo_bad s { x with pos := x.pos + 1 } g _ ((HX3.out.setPos (x.pos + 1) (by simp)).other ⟨w.heap.size, 0, none⟩ hgb _) hP1 hs HQ.out).mono ?_; rintro e w4 ⟨p', hp', hd', rfl, hx4, hb4⟩; have HB4 := Lib.hid (((HB3.out.setCell 1 (.int .i64 ((x.pos : Int) + 1))).far (p := ⟨w.heap.size, 0, none⟩) (Nat.le_refl _) (.int .i64 2)).trans hb4); have HX4 := Lib.hid hx4; have HV4 := Lib.hid (but_heap (heap_box_set0 ((Below.heap_setCell _ _ _ _ hgb).trans HV3.out) (.int .i64 2)) hb4 hgb); obtain ⟨b0, b1, b2, b3, bf⟩ := box4_in _ _ _ _ _ _ _ HV4.out; have HD4 := Lib.hid hd'; clear hx4 hb4 hd'))
    go_ret
    exact .inl ⟨p', by rw [HONE.out, HQ.out, HD4.out]; rfl, hp', rfl, _, rfl, HX4.out.other ⟨w.heap.size, 2, none⟩ hgb _, but_below (HB4.out.far (p := ⟨w.heap.size, 2, none⟩) (Nat.le_refl _) _) hlt⟩
  | some l =>
    have hsnd := strOf_sound _ _ (Nat.le_refl _) HQ.out
    have hl : l.length ≤ s.size := by
      have h1 := congrArg List.length hsnd.1
      have h2 : l.length ≤ (esc l).length := by
        clear HQ hsnd h1
        induction l with
        | nil => simp
        | cons c q ih => rw [esc]; split <;> simp <;> omega
      simp at h1
      omega
    have hlu : (⟨l.toArray⟩ : ByteArray).size ≤ 140737488355328 := by show l.toArray.size ≤ _; simp; omega
    clear hsnd
    by_cases hm : x.md ≤ 4096
    · have HR := Lib.hid (show decide (x.md ≤ 4096) = true from by simpa using hm)
      go_enter Tryd.func159, Tryd.ntmps159
      go_wp2_with (first
        | (go_at_call 158; refine (next_val s x g _ (HX.out.alloc _) hp _ HC.out).mono ?_; rintro e w3 ⟨rfl, hx3, hb3⟩; obtain ⟨h0, h1, h2, h3, h4, h5, h6, h7, h8, hf, hlt3⟩ := hx3.open; have HB3 := Lib.hid (((But.refl g w).alloc _).trans hb3); have HX3 := Lib.hid hx3; have HV3 := Lib.hid (but_heap (heap_alloc_new w _) hb3 hgb); obtain ⟨b0, b1, b2, b3, bf⟩ := box4_in _ _ _ _ _ _ _ HV3.out; clear hx3 hb3)
        | (go_at_call 168; refine (quo_ok s { x with pos := x.pos + 1 } g _ ((HX3.out.setPos (x.pos + 1) (by simp)).other ⟨w.heap.size, 0, none⟩ hgb _) hP1 hs HQ.out).mono ?_; rintro e w4 ⟨p', hp', hd', rfl, hx4, hb4⟩; have HB4 := Lib.hid (((HB3.out.setCell 1 (.int .i64 ((x.pos : Int) + 1))).far (p := ⟨w.heap.size, 0, none⟩) (Nat.le_refl _) (.int .i64 2)).trans hb4); have HV4 := Lib.hid (but_heap (heap_box_set0 ((Below.heap_setCell _ _ _ _ hgb).trans HV3.out) (.int .i64 2)) hb4 hgb); obtain ⟨b0, b1, b2, b3, bf⟩ := box4_in _ _ _ _ _ _ _ HV4.out; obtain ⟨h0, h1, h2, h3, h4, h5, h6, h7, h8, hf, hlt4⟩ := hx4.open; have HD4 := Lib.hid hd'; have HX4 := Lib.hid hx4; clear hx4 hb4 hd')
        | (go_at_call 167; refine (room_val s { x with pos := p' } g _ (HX4.out.other ⟨w.heap.size, 2, none⟩ hgb _) true HR.out).mono ?_; rintro e w5 ⟨rfl, rfl⟩)
        | (go_at_call 160; refine (sing_add s x g w sa HI.out hm p' _ ((HB4.out.far (p := ⟨w.heap.size, 2, none⟩) (Nat.le_refl _) (.string ⟨l.toArray⟩)).setCell 4 _) ((HX4.out.other ⟨w.heap.size, 2, none⟩ hgb _).setMd (x.md + 1) (by simp)) 2 0 ⟨l.toArray⟩ (by unfold I64; omega) (by unfold I64; omega) hlu).mono ?_; rintro e w6 ⟨rfl, hok⟩))
      go_ret
      exact .inr ⟨_, p', by rw [HONE.out, HQ.out, HD4.out]; rfl, hp', rfl, hok⟩
    · have HR := Lib.hid (show decide (x.md ≤ 4096) = false from by simpa using hm)
      go_enter Tryd.func159, Tryd.ntmps159
      go_wp2_with (first
        | (go_at_call 158; refine (next_val s x g _ (HX.out.alloc _) hp _ HC.out).mono ?_; rintro e w3 ⟨rfl, hx3, hb3⟩; obtain ⟨h0, h1, h2, h3, h4, h5, h6, h7, h8, hf, hlt3⟩ := hx3.open; have HB3 := Lib.hid (((But.refl g w).alloc _).trans hb3); have HX3 := Lib.hid hx3; have HV3 := Lib.hid (but_heap (heap_alloc_new w _) hb3 hgb); obtain ⟨b0, b1, b2, b3, bf⟩ := box4_in _ _ _ _ _ _ _ HV3.out; clear hx3 hb3)
        | (go_at_call 168; refine (quo_ok s { x with pos := x.pos + 1 } g _ ((HX3.out.setPos (x.pos + 1) (by simp)).other ⟨w.heap.size, 0, none⟩ hgb _) hP1 hs HQ.out).mono ?_; rintro e w4 ⟨p', hp', hd', rfl, hx4, hb4⟩; have HB4 := Lib.hid (((HB3.out.setCell 1 (.int .i64 ((x.pos : Int) + 1))).far (p := ⟨w.heap.size, 0, none⟩) (Nat.le_refl _) (.int .i64 2)).trans hb4); have HV4 := Lib.hid (but_heap (heap_box_set0 ((Below.heap_setCell _ _ _ _ hgb).trans HV3.out) (.int .i64 2)) hb4 hgb); obtain ⟨b0, b1, b2, b3, bf⟩ := box4_in _ _ _ _ _ _ _ HV4.out; have HD4 := Lib.hid hd'; have HX4 := Lib.hid hx4; clear hx4 hb4 hd')
        | (go_at_call 167; refine (room_val s { x with pos := p' } g _ (HX4.out.other ⟨w.heap.size, 2, none⟩ hgb _) false HR.out).mono ?_; rintro e w5 ⟨rfl, rfl⟩))
      go_ret
      exact .inr ⟨_, p', by rw [HONE.out, HQ.out, HD4.out]; rfl, hp', rfl, sing_pass s x g w sa HI.out hm p' _ (HB4.out.far (p := ⟨w.heap.size, 2, none⟩) (Nat.le_refl _) (.string ⟨l.toArray⟩)) (HX4.out.other ⟨w.heap.size, 2, none⟩ hgb _) 2 0 ⟨l.toArray⟩⟩

set_option maxHeartbeats 4000000 in
theorem sing_obj (s : ByteArray) (x : Rd) (g : Nat) (w : World) (sa : List (List T)) (hin : InV w g s x sa) (hp : x.pos ≤ s.size) (hs : s.size ≤ 140737488355328) (h35 : hd 35 (s.data.toList.drop x.pos) = true) :
    Calls Tryd.prog 159 #[.pointer (some ⟨g, 0, none⟩)] w (SingPost s x g w sa) := by
  have hx := hin.rd
  have hlt := hx.lt
  have HX := Lib.hid hx
  have HI := Lib.hid hin
  have hj : x.pos < s.size := hd_lt h35
  have HC := Lib.hid (show ((nx (s.data.toList.drop x.pos)).toNat : Int) = 35 from by rw [nx_hd (by omega)] at h35; simp at h35; omega)
  have hone : one (s.data.toList.drop x.pos) = res 1 (numC 2147483647 (s.data.toList.drop (x.pos + 1))) := by
    have h34 : hd 34 (s.data.toList.drop x.pos) = false := by have := HC.out; rw [nx_hd (by omega)]; simp; omega
    unfold one; rw [if_neg (by rw [h34]; simp), if_pos h35, List.drop_drop]
  have HONE := Lib.hid hone
  have hP1 : ({ x with pos := x.pos + 1 }).pos ≤ s.size := by show x.pos + 1 ≤ s.size; omega
  clear h35 hone
  have hgb : w.heap.size ≠ g := by omega
  have hbg : g ≠ w.heap.size := by omega
  clear hx hin
  rcases hq : numC 2147483647 (s.data.toList.drop (x.pos + 1)) with ⟨o, r⟩
  have HQ := Lib.hid hq; clear hq
  cases o with
  | none =>
    · skip
      go_enter Tryd.func159, Tryd.ntmps159
      go_wp2_with (first
        | (go_at_call 158; refine (next_val s x g _ (HX.out.alloc _) hp _ HC.out).mono ?_; rintro e w3 ⟨rfl, hx3, hb3⟩; obtain ⟨h0, h1, h2, h3, h4, h5, h6, h7, h8, hf, hlt3⟩ := hx3.open; have HB3 := Lib.hid (((But.refl g w).alloc _).trans hb3); have HX3 := Lib.hid hx3; have HV3 := Lib.hid (but_heap (heap_alloc_new w _) hb3 hgb); obtain ⟨b0, b1, b2, b3, bf⟩ := box4_in _ _ _ _ _ _ _ HV3.out; clear hx3 hb3)
        | (go_at_call 170; refine (num_bad s { x with pos := x.pos + 1 } g 2147483647 2147483647 _ ((HX3.out.setPos (x.pos + 1) (by simp)).other ⟨w.heap.size, 0, none⟩ hgb _) hP1 hs (by omega) (by omega) (by omega) HQ.out).mono ?_; rintro e w4 ⟨p', hp', hd', rfl, hx4, hb4⟩; have HB4 := Lib.hid (((HB3.out.setCell 1 (.int .i64 ((x.pos : Int) + 1))).far (p := ⟨w.heap.size, 0, none⟩) (Nat.le_refl _) (.int .i64 1)).trans hb4); have HV4 := Lib.hid (but_heap (heap_box_set0 ((Below.heap_setCell _ _ _ _ hgb).trans HV3.out) (.int .i64 1)) hb4 hgb); obtain ⟨b0, b1, b2, b3, bf⟩ := box4_in _ _ _ _ _ _ _ HV4.out; obtain ⟨h0, h1, h2, h3, h4, h5, h6, h7, h8, hf, hlt4⟩ := hx4.open; have HD4 := Lib.hid hd'; have HX4 := Lib.hid hx4; clear hx4 hb4 hd'))
      go_ret
      exact .inl ⟨p', by rw [HONE.out, HQ.out, HD4.out]; rfl, hp', rfl, _, rfl, HX4.out.other ⟨w.heap.size, 1, none⟩ hgb _, but_below (HB4.out.far (p := ⟨w.heap.size, 1, none⟩) (Nat.le_refl _) _) hlt⟩
  | some n =>
    have hsnd := (numC_sound (by omega) HQ.out).2
    by_cases hm : x.md ≤ 4096
    · have HR := Lib.hid (show decide (x.md ≤ 4096) = true from by simpa using hm)
      · skip
        go_enter Tryd.func159, Tryd.ntmps159
        go_wp2_with (first
        | (go_at_call 158; refine (next_val s x g _ (HX.out.alloc _) hp _ HC.out).mono ?_; rintro e w3 ⟨rfl, hx3, hb3⟩; obtain ⟨h0, h1, h2, h3, h4, h5, h6, h7, h8, hf, hlt3⟩ := hx3.open; have HB3 := Lib.hid (((But.refl g w).alloc _).trans hb3); have HX3 := Lib.hid hx3; have HV3 := Lib.hid (but_heap (heap_alloc_new w _) hb3 hgb); obtain ⟨b0, b1, b2, b3, bf⟩ := box4_in _ _ _ _ _ _ _ HV3.out; clear hx3 hb3)
        | (go_at_call 170; refine (num_ok s { x with pos := x.pos + 1 } g 2147483647 2147483647 _ ((HX3.out.setPos (x.pos + 1) (by simp)).other ⟨w.heap.size, 0, none⟩ hgb _) hP1 hs (by omega) (by omega) (by omega) HQ.out).mono ?_; rintro e w4 ⟨p', hp', hd', rfl, hx4, hb4⟩; have HB4 := Lib.hid (((HB3.out.setCell 1 (.int .i64 ((x.pos : Int) + 1))).far (p := ⟨w.heap.size, 0, none⟩) (Nat.le_refl _) (.int .i64 1)).trans hb4); have HV4 := Lib.hid (but_heap (heap_box_set0 ((Below.heap_setCell _ _ _ _ hgb).trans HV3.out) (.int .i64 1)) hb4 hgb); obtain ⟨b0, b1, b2, b3, bf⟩ := box4_in _ _ _ _ _ _ _ HV4.out; obtain ⟨h0, h1, h2, h3, h4, h5, h6, h7, h8, hf, hlt4⟩ := hx4.open; have HD4 := Lib.hid hd'; have HX4 := Lib.hid hx4; clear hx4 hb4 hd')
        | (go_at_call 167; refine (room_val s { x with pos := p' } g _ (HX4.out.other ⟨w.heap.size, 1, none⟩ hgb _) true HR.out).mono ?_; rintro e w5 ⟨rfl, rfl⟩)
        | (go_at_call 160; refine (sing_add s x g w sa HI.out hm p' _ ((HB4.out.far (p := ⟨w.heap.size, 1, none⟩) (Nat.le_refl _) (.int .i64 n)).setCell 4 _) ((HX4.out.other ⟨w.heap.size, 1, none⟩ hgb _).setMd (x.md + 1) (by simp)) 1 n ⟨#[]⟩ (by unfold I64; omega) (by unfold I64; omega) (Nat.zero_le _)).mono ?_; rintro e w6 ⟨rfl, hok⟩))
        go_ret
        exact .inr ⟨_, p', by rw [HONE.out, HQ.out, HD4.out]; rfl, hp', rfl, hok⟩
    · have HR := Lib.hid (show decide (x.md ≤ 4096) = false from by simpa using hm)
      · skip
        go_enter Tryd.func159, Tryd.ntmps159
        go_wp2_with (first
        | (go_at_call 158; refine (next_val s x g _ (HX.out.alloc _) hp _ HC.out).mono ?_; rintro e w3 ⟨rfl, hx3, hb3⟩; obtain ⟨h0, h1, h2, h3, h4, h5, h6, h7, h8, hf, hlt3⟩ := hx3.open; have HB3 := Lib.hid (((But.refl g w).alloc _).trans hb3); have HX3 := Lib.hid hx3; have HV3 := Lib.hid (but_heap (heap_alloc_new w _) hb3 hgb); obtain ⟨b0, b1, b2, b3, bf⟩ := box4_in _ _ _ _ _ _ _ HV3.out; clear hx3 hb3)
        | (go_at_call 170; refine (num_ok s { x with pos := x.pos + 1 } g 2147483647 2147483647 _ ((HX3.out.setPos (x.pos + 1) (by simp)).other ⟨w.heap.size, 0, none⟩ hgb _) hP1 hs (by omega) (by omega) (by omega) HQ.out).mono ?_; rintro e w4 ⟨p', hp', hd', rfl, hx4, hb4⟩; have HB4 := Lib.hid (((HB3.out.setCell 1 (.int .i64 ((x.pos : Int) + 1))).far (p := ⟨w.heap.size, 0, none⟩) (Nat.le_refl _) (.int .i64 1)).trans hb4); have HV4 := Lib.hid (but_heap (heap_box_set0 ((Below.heap_setCell _ _ _ _ hgb).trans HV3.out) (.int .i64 1)) hb4 hgb); obtain ⟨b0, b1, b2, b3, bf⟩ := box4_in _ _ _ _ _ _ _ HV4.out; obtain ⟨h0, h1, h2, h3, h4, h5, h6, h7, h8, hf, hlt4⟩ := hx4.open; have HD4 := Lib.hid hd'; have HX4 := Lib.hid hx4; clear hx4 hb4 hd')
        | (go_at_call 167; refine (room_val s { x with pos := p' } g _ (HX4.out.other ⟨w.heap.size, 1, none⟩ hgb _) false HR.out).mono ?_; rintro e w5 ⟨rfl, rfl⟩))
        go_ret
        exact .inr ⟨_, p', by rw [HONE.out, HQ.out, HD4.out]; rfl, hp', rfl, sing_pass s x g w sa HI.out hm p' _ (HB4.out.far (p := ⟨w.heap.size, 1, none⟩) (Nat.le_refl _) (.int .i64 n)) (HX4.out.other ⟨w.heap.size, 1, none⟩ hgb _) 1 n ⟨#[]⟩⟩

set_option maxHeartbeats 4000000 in
theorem sing_num (s : ByteArray) (x : Rd) (g : Nat) (w : World) (sa : List (List T)) (hin : InV w g s x sa) (hp : x.pos ≤ s.size) (hs : s.size ≤ 140737488355328) (hnum : (hd 45 (s.data.toList.drop x.pos) || hdD (s.data.toList.drop x.pos)) = true) :
    Calls Tryd.prog 159 #[.pointer (some ⟨g, 0, none⟩)] w (SingPost s x g w sa) := by
  have hx := hin.rd
  have hlt := hx.lt
  have HX := Lib.hid hx
  have HI := Lib.hid hin
  obtain ⟨c, hc⟩ : ∃ c : Int, ((nx (s.data.toList.drop x.pos)).toNat : Int) = c := ⟨_, rfl⟩
  have HC := Lib.hid hc
  have hcc : c = 45 ∨ (c ≠ 45 ∧ isD (nx (s.data.toList.drop x.pos)) = true) := by
    rcases Bool.or_eq_true _ _ ▸ hnum with h | h
    · left; rw [nx_hd (by omega)] at h; simp at h; omega
    · by_cases h45 : c = 45
      · exact .inl h45
      · right; rw [nx_isD]; exact ⟨h45, h⟩
  have hone : one (s.data.toList.drop x.pos) = res 0 (numC 9223372036854775807 (s.data.toList.drop x.pos)) := by
    obtain ⟨h1, h2, _⟩ := num_head hnum
    unfold one; rw [if_neg (by rw [h1]; simp), if_neg (by rw [h2]; simp), if_pos hnum]
  have HONE := Lib.hid hone
  clear hnum hone
  have hgb : w.heap.size ≠ g := by omega
  have hbg : g ≠ w.heap.size := by omega
  clear hx hin
  rcases hq : numC 9223372036854775807 (s.data.toList.drop x.pos) with ⟨o, r⟩
  have HQ := Lib.hid hq; clear hq
  cases o with
  | none =>
    rcases hcc with hc45 | ⟨hc45, hD⟩
    · subst hc45
      go_enter Tryd.func159, Tryd.ntmps159
      go_wp2_with (first
        | (go_at_call 158; refine (next_val s x g _ (HX.out.alloc _) hp _ HC.out).mono ?_; rintro e w3 ⟨rfl, hx3, hb3⟩; obtain ⟨h0, h1, h2, h3, h4, h5, h6, h7, h8, hf, hlt3⟩ := hx3.open; have HB3 := Lib.hid (((But.refl g w).alloc _).trans hb3); have HX3 := Lib.hid hx3; have HV3 := Lib.hid (but_heap (heap_alloc_new w _) hb3 hgb); obtain ⟨b0, b1, b2, b3, bf⟩ := box4_in _ _ _ _ _ _ _ HV3.out; clear hx3 hb3)
        | (go_at_call 170; refine (num_bad s x g 9223372036854775807 9223372036854775807 _ HX3.out hp hs (by omega) (by omega) (by omega) HQ.out).mono ?_; rintro e w4 ⟨p', hp', hd', rfl, hx4, hb4⟩; have HB4 := Lib.hid (HB3.out.trans hb4); have HV4 := Lib.hid (but_heap HV3.out hb4 hgb); obtain ⟨b0, b1, b2, b3, bf⟩ := box4_in _ _ _ _ _ _ _ HV4.out; obtain ⟨h0, h1, h2, h3, h4, h5, h6, h7, h8, hf, hlt4⟩ := hx4.open; have HD4 := Lib.hid hd'; have HX4 := Lib.hid hx4; clear hx4 hb4 hd'))
      go_ret
      exact .inl ⟨p', by rw [HONE.out, HQ.out, HD4.out]; rfl, hp', rfl, _, rfl, HX4.out.other ⟨w.heap.size, 1, none⟩ hgb _, but_below (HB4.out.far (p := ⟨w.heap.size, 1, none⟩) (Nat.le_refl _) _) hlt⟩
    · have hcd := isD_iff.1 hD; have hc48 : 48 ≤ c ∧ c ≤ 57 := (by omega); have HD := Lib.hid hD; clear hD hcd
      go_enter Tryd.func159, Tryd.ntmps159
      go_wp2_with (first
        | (go_at_call 158; refine (next_val s x g _ (HX.out.alloc _) hp _ HC.out).mono ?_; rintro e w3 ⟨rfl, hx3, hb3⟩; obtain ⟨h0, h1, h2, h3, h4, h5, h6, h7, h8, hf, hlt3⟩ := hx3.open; have HB3 := Lib.hid (((But.refl g w).alloc _).trans hb3); have HX3 := Lib.hid hx3; have HV3 := Lib.hid (but_heap (heap_alloc_new w _) hb3 hgb); obtain ⟨b0, b1, b2, b3, bf⟩ := box4_in _ _ _ _ _ _ _ HV3.out; clear hx3 hb3)
        | (go_at_call 170; refine (num_bad s x g 9223372036854775807 9223372036854775807 _ HX3.out hp hs (by omega) (by omega) (by omega) HQ.out).mono ?_; rintro e w4 ⟨p', hp', hd', rfl, hx4, hb4⟩; have HB4 := Lib.hid (HB3.out.trans hb4); have HV4 := Lib.hid (but_heap HV3.out hb4 hgb); obtain ⟨b0, b1, b2, b3, bf⟩ := box4_in _ _ _ _ _ _ _ HV4.out; obtain ⟨h0, h1, h2, h3, h4, h5, h6, h7, h8, hf, hlt4⟩ := hx4.open; have HD4 := Lib.hid hd'; have HX4 := Lib.hid hx4; clear hx4 hb4 hd')
        | (go_at_call 169; refine (isDigit_int (nx (s.data.toList.drop x.pos)) _ HC.out true HD.out _).mono ?_; rintro e wd ⟨rfl, rfl⟩))
      go_ret
      exact .inl ⟨p', by rw [HONE.out, HQ.out, HD4.out]; rfl, hp', rfl, _, rfl, HX4.out.other ⟨w.heap.size, 1, none⟩ hgb _, but_below (HB4.out.far (p := ⟨w.heap.size, 1, none⟩) (Nat.le_refl _) _) hlt⟩
  | some n =>
    have hsnd := (numC_sound (by omega) HQ.out).2
    by_cases hm : x.md ≤ 4096
    · have HR := Lib.hid (show decide (x.md ≤ 4096) = true from by simpa using hm)
      rcases hcc with hc45 | ⟨hc45, hD⟩
      · subst hc45
        go_enter Tryd.func159, Tryd.ntmps159
        go_wp2_with (first
        | (go_at_call 158; refine (next_val s x g _ (HX.out.alloc _) hp _ HC.out).mono ?_; rintro e w3 ⟨rfl, hx3, hb3⟩; obtain ⟨h0, h1, h2, h3, h4, h5, h6, h7, h8, hf, hlt3⟩ := hx3.open; have HB3 := Lib.hid (((But.refl g w).alloc _).trans hb3); have HX3 := Lib.hid hx3; have HV3 := Lib.hid (but_heap (heap_alloc_new w _) hb3 hgb); obtain ⟨b0, b1, b2, b3, bf⟩ := box4_in _ _ _ _ _ _ _ HV3.out; clear hx3 hb3)
        | (go_at_call 170; refine (num_ok s x g 9223372036854775807 9223372036854775807 _ HX3.out hp hs (by omega) (by omega) (by omega) HQ.out).mono ?_; rintro e w4 ⟨p', hp', hd', rfl, hx4, hb4⟩; have HB4 := Lib.hid (HB3.out.trans hb4); have HV4 := Lib.hid (but_heap HV3.out hb4 hgb); obtain ⟨b0, b1, b2, b3, bf⟩ := box4_in _ _ _ _ _ _ _ HV4.out; obtain ⟨h0, h1, h2, h3, h4, h5, h6, h7, h8, hf, hlt4⟩ := hx4.open; have HD4 := Lib.hid hd'; have HX4 := Lib.hid hx4; clear hx4 hb4 hd')
        | (go_at_call 167; refine (room_val s { x with pos := p' } g _ (HX4.out.other ⟨w.heap.size, 1, none⟩ hgb _) true HR.out).mono ?_; rintro e w5 ⟨rfl, rfl⟩)
        | (go_at_call 160; refine (sing_add s x g w sa HI.out hm p' _ ((HB4.out.far (p := ⟨w.heap.size, 1, none⟩) (Nat.le_refl _) (.int .i64 n)).setCell 4 _) ((HX4.out.other ⟨w.heap.size, 1, none⟩ hgb _).setMd (x.md + 1) (by simp)) 0 n ⟨#[]⟩ (by unfold I64; omega) (by unfold I64; omega) (Nat.zero_le _)).mono ?_; rintro e w6 ⟨rfl, hok⟩))
        go_ret
        exact .inr ⟨_, p', by rw [HONE.out, HQ.out, HD4.out]; rfl, hp', rfl, hok⟩
      · have hcd := isD_iff.1 hD; have hc48 : 48 ≤ c ∧ c ≤ 57 := (by omega); have HD := Lib.hid hD; clear hD hcd
        go_enter Tryd.func159, Tryd.ntmps159
        go_wp2_with (first
        | (go_at_call 158; refine (next_val s x g _ (HX.out.alloc _) hp _ HC.out).mono ?_; rintro e w3 ⟨rfl, hx3, hb3⟩; obtain ⟨h0, h1, h2, h3, h4, h5, h6, h7, h8, hf, hlt3⟩ := hx3.open; have HB3 := Lib.hid (((But.refl g w).alloc _).trans hb3); have HX3 := Lib.hid hx3; have HV3 := Lib.hid (but_heap (heap_alloc_new w _) hb3 hgb); obtain ⟨b0, b1, b2, b3, bf⟩ := box4_in _ _ _ _ _ _ _ HV3.out; clear hx3 hb3)
        | (go_at_call 170; refine (num_ok s x g 9223372036854775807 9223372036854775807 _ HX3.out hp hs (by omega) (by omega) (by omega) HQ.out).mono ?_; rintro e w4 ⟨p', hp', hd', rfl, hx4, hb4⟩; have HB4 := Lib.hid (HB3.out.trans hb4); have HV4 := Lib.hid (but_heap HV3.out hb4 hgb); obtain ⟨b0, b1, b2, b3, bf⟩ := box4_in _ _ _ _ _ _ _ HV4.out; obtain ⟨h0, h1, h2, h3, h4, h5, h6, h7, h8, hf, hlt4⟩ := hx4.open; have HD4 := Lib.hid hd'; have HX4 := Lib.hid hx4; clear hx4 hb4 hd')
        | (go_at_call 167; refine (room_val s { x with pos := p' } g _ (HX4.out.other ⟨w.heap.size, 1, none⟩ hgb _) true HR.out).mono ?_; rintro e w5 ⟨rfl, rfl⟩)
        | (go_at_call 160; refine (sing_add s x g w sa HI.out hm p' _ ((HB4.out.far (p := ⟨w.heap.size, 1, none⟩) (Nat.le_refl _) (.int .i64 n)).setCell 4 _) ((HX4.out.other ⟨w.heap.size, 1, none⟩ hgb _).setMd (x.md + 1) (by simp)) 0 n ⟨#[]⟩ (by unfold I64; omega) (by unfold I64; omega) (Nat.zero_le _)).mono ?_; rintro e w6 ⟨rfl, hok⟩)
        | (go_at_call 169; refine (isDigit_int (nx (s.data.toList.drop x.pos)) _ HC.out true HD.out _).mono ?_; rintro e wd ⟨rfl, rfl⟩))
        go_ret
        exact .inr ⟨_, p', by rw [HONE.out, HQ.out, HD4.out]; rfl, hp', rfl, hok⟩
    · have HR := Lib.hid (show decide (x.md ≤ 4096) = false from by simpa using hm)
      rcases hcc with hc45 | ⟨hc45, hD⟩
      · subst hc45
        go_enter Tryd.func159, Tryd.ntmps159
        go_wp2_with (first
        | (go_at_call 158; refine (next_val s x g _ (HX.out.alloc _) hp _ HC.out).mono ?_; rintro e w3 ⟨rfl, hx3, hb3⟩; obtain ⟨h0, h1, h2, h3, h4, h5, h6, h7, h8, hf, hlt3⟩ := hx3.open; have HB3 := Lib.hid (((But.refl g w).alloc _).trans hb3); have HX3 := Lib.hid hx3; have HV3 := Lib.hid (but_heap (heap_alloc_new w _) hb3 hgb); obtain ⟨b0, b1, b2, b3, bf⟩ := box4_in _ _ _ _ _ _ _ HV3.out; clear hx3 hb3)
        | (go_at_call 170; refine (num_ok s x g 9223372036854775807 9223372036854775807 _ HX3.out hp hs (by omega) (by omega) (by omega) HQ.out).mono ?_; rintro e w4 ⟨p', hp', hd', rfl, hx4, hb4⟩; have HB4 := Lib.hid (HB3.out.trans hb4); have HV4 := Lib.hid (but_heap HV3.out hb4 hgb); obtain ⟨b0, b1, b2, b3, bf⟩ := box4_in _ _ _ _ _ _ _ HV4.out; obtain ⟨h0, h1, h2, h3, h4, h5, h6, h7, h8, hf, hlt4⟩ := hx4.open; have HD4 := Lib.hid hd'; have HX4 := Lib.hid hx4; clear hx4 hb4 hd')
        | (go_at_call 167; refine (room_val s { x with pos := p' } g _ (HX4.out.other ⟨w.heap.size, 1, none⟩ hgb _) false HR.out).mono ?_; rintro e w5 ⟨rfl, rfl⟩))
        go_ret
        exact .inr ⟨_, p', by rw [HONE.out, HQ.out, HD4.out]; rfl, hp', rfl, sing_pass s x g w sa HI.out hm p' _ (HB4.out.far (p := ⟨w.heap.size, 1, none⟩) (Nat.le_refl _) (.int .i64 n)) (HX4.out.other ⟨w.heap.size, 1, none⟩ hgb _) 0 n ⟨#[]⟩⟩
      · have hcd := isD_iff.1 hD; have hc48 : 48 ≤ c ∧ c ≤ 57 := (by omega); have HD := Lib.hid hD; clear hD hcd
        go_enter Tryd.func159, Tryd.ntmps159
        go_wp2_with (first
        | (go_at_call 158; refine (next_val s x g _ (HX.out.alloc _) hp _ HC.out).mono ?_; rintro e w3 ⟨rfl, hx3, hb3⟩; obtain ⟨h0, h1, h2, h3, h4, h5, h6, h7, h8, hf, hlt3⟩ := hx3.open; have HB3 := Lib.hid (((But.refl g w).alloc _).trans hb3); have HX3 := Lib.hid hx3; have HV3 := Lib.hid (but_heap (heap_alloc_new w _) hb3 hgb); obtain ⟨b0, b1, b2, b3, bf⟩ := box4_in _ _ _ _ _ _ _ HV3.out; clear hx3 hb3)
        | (go_at_call 170; refine (num_ok s x g 9223372036854775807 9223372036854775807 _ HX3.out hp hs (by omega) (by omega) (by omega) HQ.out).mono ?_; rintro e w4 ⟨p', hp', hd', rfl, hx4, hb4⟩; have HB4 := Lib.hid (HB3.out.trans hb4); have HV4 := Lib.hid (but_heap HV3.out hb4 hgb); obtain ⟨b0, b1, b2, b3, bf⟩ := box4_in _ _ _ _ _ _ _ HV4.out; obtain ⟨h0, h1, h2, h3, h4, h5, h6, h7, h8, hf, hlt4⟩ := hx4.open; have HD4 := Lib.hid hd'; have HX4 := Lib.hid hx4; clear hx4 hb4 hd')
        | (go_at_call 167; refine (room_val s { x with pos := p' } g _ (HX4.out.other ⟨w.heap.size, 1, none⟩ hgb _) false HR.out).mono ?_; rintro e w5 ⟨rfl, rfl⟩)
        | (go_at_call 169; refine (isDigit_int (nx (s.data.toList.drop x.pos)) _ HC.out true HD.out _).mono ?_; rintro e wd ⟨rfl, rfl⟩))
        go_ret
        exact .inr ⟨_, p', by rw [HONE.out, HQ.out, HD4.out]; rfl, hp', rfl, sing_pass s x g w sa HI.out hm p' _ (HB4.out.far (p := ⟨w.heap.size, 1, none⟩) (Nat.le_refl _) (.int .i64 n)) (HX4.out.other ⟨w.heap.size, 1, none⟩ hgb _) 0 n ⟨#[]⟩⟩

set_option maxHeartbeats 4000000 in
theorem sing_cod (s : ByteArray) (x : Rd) (g : Nat) (w : World) (sa : List (List T)) (hin : InV w g s x sa) (hp : x.pos ≤ s.size) (hs : s.size ≤ 140737488355328) (hnm : Names w) (hng0 : 4 < g) (h34 : hd 34 (s.data.toList.drop x.pos) = false) (h35 : hd 35 (s.data.toList.drop x.pos) = false) (h45 : hd 45 (s.data.toList.drop x.pos) = false) (h0d : hdD (s.data.toList.drop x.pos) = false) :
    Calls Tryd.prog 159 #[.pointer (some ⟨g, 0, none⟩)] w (SingPost s x g w sa) := by
  have hx := hin.rd
  have hlt := hx.lt
  have HX := Lib.hid hx
  have HI := Lib.hid hin
  obtain ⟨c, hc⟩ : ∃ c : Int, ((nx (s.data.toList.drop x.pos)).toNat : Int) = c := ⟨_, rfl⟩
  have HC := Lib.hid hc
  have hD : isD (nx (s.data.toList.drop x.pos)) = false := by rw [nx_isD]; exact h0d
  have HD := Lib.hid hD
  have hc34 : ¬ c = 34 := by rw [nx_hd (by omega)] at h34; simp at h34; omega
  have hc35 : ¬ c = 35 := by rw [nx_hd (by omega)] at h35; simp at h35; omega
  have hc45 : ¬ c = 45 := by rw [nx_hd (by omega)] at h45; simp at h45; omega
  have hone : one (s.data.toList.drop x.pos) = res 3 (codeOf (s.data.toList.drop x.pos)) := by
    unfold one; rw [if_neg (by rw [h34]; simp), if_neg (by rw [h35]; simp), if_neg (by rw [h45, h0d]; simp)]
  have HONE := Lib.hid hone
  have hng : ∀ W', But g w W' → Hid (Names W') := fun W' hb => hnm.but hb (by omega)
  clear h34 h35 h45 h0d hD hone hc hnm
  have hgb : w.heap.size ≠ g := by omega
  have hbg : g ≠ w.heap.size := by omega
  clear hx hin
  rcases hq : codeOf (s.data.toList.drop x.pos) with ⟨o, r⟩
  have HQ := Lib.hid hq; clear hq
  cases o with
  | none =>
    · skip
      go_enter Tryd.func159, Tryd.ntmps159
      go_wp2_with (first
        | (go_at_call 158; refine (next_val s x g _ (HX.out.alloc _) hp _ HC.out).mono ?_; rintro e w3 ⟨rfl, hx3, hb3⟩; obtain ⟨h0, h1, h2, h3, h4, h5, h6, h7, h8, hf, hlt3⟩ := hx3.open; have HB3 := Lib.hid (((But.refl g w).alloc _).trans hb3); have HX3 := Lib.hid hx3; have HV3 := Lib.hid (but_heap (heap_alloc_new w _) hb3 hgb); obtain ⟨b0, b1, b2, b3, bf⟩ := box4_in _ _ _ _ _ _ _ HV3.out; clear hx3 hb3)
        | (go_at_call 171; refine (cod_bad s x g _ (HX3.out.other ⟨w.heap.size, 0, none⟩ hgb _) hp hs (hng _ (HB3.out.far (p := ⟨w.heap.size, 0, none⟩) (Nat.le_refl _) (.int .i64 3))).out HQ.out).mono ?_; rintro e w4 ⟨p', hp', hd', rfl, hx4, hb4⟩; have HB4 := Lib.hid ((HB3.out.far (p := ⟨w.heap.size, 0, none⟩) (Nat.le_refl _) (.int .i64 3)).trans hb4); have HV4 := Lib.hid (but_heap (heap_box_set0 HV3.out (.int .i64 3)) hb4 hgb); obtain ⟨b0, b1, b2, b3, bf⟩ := box4_in _ _ _ _ _ _ _ HV4.out; obtain ⟨h0, h1, h2, h3, h4, h5, h6, h7, h8, hf, hlt4⟩ := hx4.open; have HD4 := Lib.hid hd'; have HX4 := Lib.hid hx4; clear hx4 hb4 hd')
        | (go_at_call 169; refine (isDigit_int (nx (s.data.toList.drop x.pos)) _ HC.out false HD.out _).mono ?_; rintro e wd ⟨rfl, rfl⟩))
      go_ret
      exact .inl ⟨p', by rw [HONE.out, HQ.out, HD4.out]; rfl, hp', rfl, _, rfl, HX4.out.other ⟨w.heap.size, 1, none⟩ hgb _, but_below (HB4.out.far (p := ⟨w.heap.size, 1, none⟩) (Nat.le_refl _) _) hlt⟩
  | some n =>
    have hsnd := (codeOf_sound HQ.out).2
    by_cases hm : x.md ≤ 4096
    · have HR := Lib.hid (show decide (x.md ≤ 4096) = true from by simpa using hm)
      · skip
        go_enter Tryd.func159, Tryd.ntmps159
        go_wp2_with (first
        | (go_at_call 158; refine (next_val s x g _ (HX.out.alloc _) hp _ HC.out).mono ?_; rintro e w3 ⟨rfl, hx3, hb3⟩; obtain ⟨h0, h1, h2, h3, h4, h5, h6, h7, h8, hf, hlt3⟩ := hx3.open; have HB3 := Lib.hid (((But.refl g w).alloc _).trans hb3); have HX3 := Lib.hid hx3; have HV3 := Lib.hid (but_heap (heap_alloc_new w _) hb3 hgb); obtain ⟨b0, b1, b2, b3, bf⟩ := box4_in _ _ _ _ _ _ _ HV3.out; clear hx3 hb3)
        | (go_at_call 171; refine (cod_ok s x g _ (HX3.out.other ⟨w.heap.size, 0, none⟩ hgb _) hp hs (hng _ (HB3.out.far (p := ⟨w.heap.size, 0, none⟩) (Nat.le_refl _) (.int .i64 3))).out HQ.out).mono ?_; rintro e w4 ⟨p', hp', hd', rfl, hx4, hb4⟩; have HB4 := Lib.hid ((HB3.out.far (p := ⟨w.heap.size, 0, none⟩) (Nat.le_refl _) (.int .i64 3)).trans hb4); have HV4 := Lib.hid (but_heap (heap_box_set0 HV3.out (.int .i64 3)) hb4 hgb); obtain ⟨b0, b1, b2, b3, bf⟩ := box4_in _ _ _ _ _ _ _ HV4.out; obtain ⟨h0, h1, h2, h3, h4, h5, h6, h7, h8, hf, hlt4⟩ := hx4.open; have HD4 := Lib.hid hd'; have HX4 := Lib.hid hx4; clear hx4 hb4 hd')
        | (go_at_call 167; refine (room_val s { x with pos := p' } g _ (HX4.out.other ⟨w.heap.size, 1, none⟩ hgb _) true HR.out).mono ?_; rintro e w5 ⟨rfl, rfl⟩)
        | (go_at_call 160; refine (sing_add s x g w sa HI.out hm p' _ ((HB4.out.far (p := ⟨w.heap.size, 1, none⟩) (Nat.le_refl _) (.int .i64 n)).setCell 4 _) ((HX4.out.other ⟨w.heap.size, 1, none⟩ hgb _).setMd (x.md + 1) (by simp)) 3 n ⟨#[]⟩ (by unfold I64; omega) (by unfold I64; omega) (Nat.zero_le _)).mono ?_; rintro e w6 ⟨rfl, hok⟩)
        | (go_at_call 169; refine (isDigit_int (nx (s.data.toList.drop x.pos)) _ HC.out false HD.out _).mono ?_; rintro e wd ⟨rfl, rfl⟩))
        go_ret
        exact .inr ⟨_, p', by rw [HONE.out, HQ.out, HD4.out]; rfl, hp', rfl, hok⟩
    · have HR := Lib.hid (show decide (x.md ≤ 4096) = false from by simpa using hm)
      · skip
        go_enter Tryd.func159, Tryd.ntmps159
        go_wp2_with (first
        | (go_at_call 158; refine (next_val s x g _ (HX.out.alloc _) hp _ HC.out).mono ?_; rintro e w3 ⟨rfl, hx3, hb3⟩; obtain ⟨h0, h1, h2, h3, h4, h5, h6, h7, h8, hf, hlt3⟩ := hx3.open; have HB3 := Lib.hid (((But.refl g w).alloc _).trans hb3); have HX3 := Lib.hid hx3; have HV3 := Lib.hid (but_heap (heap_alloc_new w _) hb3 hgb); obtain ⟨b0, b1, b2, b3, bf⟩ := box4_in _ _ _ _ _ _ _ HV3.out; clear hx3 hb3)
        | (go_at_call 171; refine (cod_ok s x g _ (HX3.out.other ⟨w.heap.size, 0, none⟩ hgb _) hp hs (hng _ (HB3.out.far (p := ⟨w.heap.size, 0, none⟩) (Nat.le_refl _) (.int .i64 3))).out HQ.out).mono ?_; rintro e w4 ⟨p', hp', hd', rfl, hx4, hb4⟩; have HB4 := Lib.hid ((HB3.out.far (p := ⟨w.heap.size, 0, none⟩) (Nat.le_refl _) (.int .i64 3)).trans hb4); have HV4 := Lib.hid (but_heap (heap_box_set0 HV3.out (.int .i64 3)) hb4 hgb); obtain ⟨b0, b1, b2, b3, bf⟩ := box4_in _ _ _ _ _ _ _ HV4.out; obtain ⟨h0, h1, h2, h3, h4, h5, h6, h7, h8, hf, hlt4⟩ := hx4.open; have HD4 := Lib.hid hd'; have HX4 := Lib.hid hx4; clear hx4 hb4 hd')
        | (go_at_call 167; refine (room_val s { x with pos := p' } g _ (HX4.out.other ⟨w.heap.size, 1, none⟩ hgb _) false HR.out).mono ?_; rintro e w5 ⟨rfl, rfl⟩)
        | (go_at_call 169; refine (isDigit_int (nx (s.data.toList.drop x.pos)) _ HC.out false HD.out _).mono ?_; rintro e wd ⟨rfl, rfl⟩))
        go_ret
        exact .inr ⟨_, p', by rw [HONE.out, HQ.out, HD4.out]; rfl, hp', rfl, sing_pass s x g w sa HI.out hm p' _ (HB4.out.far (p := ⟨w.heap.size, 1, none⟩) (Nat.le_refl _) (.int .i64 n)) (HX4.out.other ⟨w.heap.size, 1, none⟩ hgb _) 3 n ⟨#[]⟩⟩

theorem single_any (s : ByteArray) (x : Rd) (g : Nat) (w : World) (sa : List (List T)) (hin : InV w g s x sa) (hp : x.pos ≤ s.size) (hs : s.size ≤ 140737488355328) (hnm : Names w) (hng : 4 < g) :
    Calls Tryd.prog 159 #[.pointer (some ⟨g, 0, none⟩)] w (SingPost s x g w sa) := by
  by_cases h1 : hd 34 (s.data.toList.drop x.pos) = true
  · exact sing_str s x g w sa hin hp hs h1
  by_cases h2 : hd 35 (s.data.toList.drop x.pos) = true
  · exact sing_obj s x g w sa hin hp hs h2
  by_cases h3 : (hd 45 (s.data.toList.drop x.pos) || hdD (s.data.toList.drop x.pos)) = true
  · exact sing_num s x g w sa hin hp hs h3
  have h3' := Bool.eq_false_iff.2 h3
  rw [Bool.or_eq_false_iff] at h3'
  exact sing_cod s x g w sa hin hp hs hnm hng (Bool.eq_false_iff.2 h1) (Bool.eq_false_iff.2 h2) h3'.1 h3'.2

end Go.Proofs.YtlinclbodbbemaaDoor
