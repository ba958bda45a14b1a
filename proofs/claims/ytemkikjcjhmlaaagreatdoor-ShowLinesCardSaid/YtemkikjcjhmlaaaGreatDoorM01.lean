/- Contracts of the document's walk over a value: which values are right. -/
import Derived.Test.YtemkikjcjhmlaaaGreatDoorM00
namespace Go.Proofs.YtemkikjcjhmlaaaGreatDoor
open Go.RowKit

/-- Bytes 32 to 126 alone. -/
def printedL : List UInt8 → Bool
  | [] => true
  | c :: r => (32 ≤ c.toNat && c.toNat ≤ 126) && printedL r
def printed (s : ByteArray) : Bool := printedL s.data.toList

theorem printedL_drop (s : ByteArray) (j : Nat) (h : j < s.size) : printedL (s.data.toList.drop j) = ((32 ≤ s[j].toNat && s[j].toNat ≤ 126) && printedL (s.data.toList.drop (j + 1))) := by
  have h' : j < s.data.toList.length := by simpa using h
  rw [List.drop_eq_getElem_cons h', printedL]; rfl

set_option maxHeartbeats 400000 in
theorem printed_any (s : ByteArray) (w : World) (hs : s.size ≤ 140737488355328) :
    Calls Tryz.prog 90 #[.string s] w fun e w' => e = .returned (.bool (printed s)) ∧ w' = w := by
  go_enter Tryz.func90, Tryz.ntmps90
  go_wp2
  go_loop [3] (fun i => ∃ j : Nat, j ≤ s.size ∧ i = .int .i64 j ∧ printed s = printedL (s.data.toList.drop j)) (fun i => s.size - (intOf i).toNat)
  case atStart => exact ⟨0, Nat.zero_le _, rfl, rfl⟩
  case round =>
    obtain ⟨j, hj, rfl, hp⟩ := hrel
    have hP := Lib.hid hp; clear hp
    by_cases hlt : j < s.size
    · have hd := Lib.hid (hP.out.trans (printedL_drop s j hlt))
      go_wp2
      · have h : (s[j].toNat : Int) < 32 ∨ 126 < (s[j].toNat : Int) := by assumption
        go_ret
        refine ⟨ret_bool ?_, rfl⟩
        rw [hd.out, show (decide (32 ≤ s[j].toNat) && decide (s[j].toNat ≤ 126)) = false from by simp; omega]; rfl
      · have h : 32 ≤ (s[j].toNat : Int) ∧ (s[j].toNat : Int) ≤ 126 := by assumption
        go_round
        case rel =>
          refine ⟨j + 1, by omega, by go_num, ?_⟩
          rw [hd.out, show (decide (32 ≤ s[j].toNat) && decide (s[j].toNat ≤ 126)) = true from by simp; omega]; rfl
        case measure => simp [intOf]; omega
      · have h : (s[j].toNat : Int) < 32 := by assumption
        go_ret
        refine ⟨ret_bool ?_, rfl⟩
        rw [hd.out, show (decide (32 ≤ s[j].toNat) && decide (s[j].toNat ≤ 126)) = false from by simp; omega]; rfl
    · have hjl : j = s.size := by omega
      subst hjl
      go_wp2
      go_ret
      refine ⟨ret_bool ?_, rfl⟩
      rw [hP.out, List.drop_of_length_le (by simp), printedL]

def badRange (k n : Int) : Bool := k < 0 || 4 < k || (k == 1 && (n < -2147483648 || 2147483647 < n)) || (k == 3 && (n < 0 || 14 < n))
def badShape (k n : Int) (s : ByteArray) (len : Nat) : Bool := ((k == 2 || k == 4) && n != 0) || (k != 2 && s.size != 0) || (k != 4 && len != 0) || !printed s
mutual
/-- What is first amiss with a value, and the size that was counted. -/
def odd : T → Int → Int → Int × Int
  | .mk k n s l, d, z =>
    let z1 := if k = 2 then z + 1 + s.size else z + 1
    if 40 < d then (112, z) else if 4096 < z1 then (104, z1) else if badRange k n then (105, z1) else if badShape k n s l.length then (103, z1) else oddAll l (d + 1) z1
def oddAll : List T → Int → Int → Int × Int
  | [], _, z => (0, z)
  | t :: r, d, z => if (odd t d z).1 ≠ 0 then odd t d z else oddAll r d (odd t d z).2
end

theorem oddAll_drop (l : List T) (j : Nat) (h : j < l.length) (d z : Int) : oddAll (l.drop j) d z = if (odd l[j] d z).1 ≠ 0 then odd l[j] d z else oddAll (l.drop (j + 1)) d (odd l[j] d z).2 := by
  rw [List.drop_eq_getElem_cons h, oddAll]

/-- All that was there is as it was, but block g. -/
structure But (g : Nat) (w w' : World) : Prop where
  os : w'.os = w.os
  tape : w'.tape = w.tape
  output : w'.output = w.output
  size : w.heap.size ≤ w'.heap.size
  block : ∀ k, k < w.heap.size → k ≠ g → w'.heap[k]? = w.heap[k]?
theorem But.refl (g : Nat) (w : World) : But g w w := ⟨rfl, rfl, rfl, Nat.le_refl _, fun _ _ _ => rfl⟩
theorem But.trans {g : Nat} {a b c : World} (h : But g a b) (k : But g b c) : But g a c :=
  ⟨k.os.trans h.os, k.tape.trans h.tape, k.output.trans h.output, Nat.le_trans h.size k.size, fun i hi hg => (k.block i (Nat.lt_of_lt_of_le hi h.size) hg).trans (h.block i hi hg)⟩
theorem But.alloc {g : Nat} {a w : World} (h : But g a w) (o : Obj) : But g a (w.alloc o) :=
  h.trans ⟨rfl, rfl, rfl, by simp, fun k hk _ => Below.heap_alloc _ _ _ hk⟩
theorem But.setCell {g : Nat} {a w : World} (h : But g a w) (o : Nat) (u : Value) : But g a (w.setCell ⟨g, o, none⟩ u) :=
  h.trans ⟨rfl, rfl, rfl, by simp [World.setCell], fun k _ hg => Below.heap_setCell _ _ _ _ hg⟩
theorem But.drew {g : Nat} {a w : World} (h : But g a w) : But g a w.drew := ⟨h.os, h.tape, h.output, h.size, h.block⟩
theorem But.below {g B : Nat} {w w' : World} (h : But g w w') (hB : B ≤ w.heap.size) (hg : B ≤ g) : Below B w w' :=
  ⟨h.os, h.tape, h.output, h.size, fun k hk => h.block k (by omega) (by omega)⟩
theorem But.of_below {g : Nat} {w w' : World} (h : Below w.heap.size w w') : But g w w' := ⟨h.os, h.tape, h.output, h.size, fun k hk _ => h.block k hk⟩
theorem But.cell {g : Nat} {w w' : World} (h : But g w w') {p : Addr} (hp : p.block < w.heap.size) (hg : p.block ≠ g) : w'.cell? p = w.cell? p := World.cell?_of_block (w := w) (h.block p.block hp hg)

set_option maxHeartbeats 1000000 in
theorem odd_deep (k n : Int) (s : ByteArray) (w : World) (v : Value) (g : Nat) (d : Int) (hd : 40 < d) (c : Value)
    (hv : v = .agg #[.int .i64 k, .int .i64 n, .string s, c]) :
    Calls Tryz.prog 69 #[.pointer (some ⟨g, 0, none⟩), v, .int .i64 d] w fun e w' => e = .returned (.int .i64 112) ∧ ∃ o, w' = w.alloc o := by
  subst hv
  go_enter Tryz.func69, Tryz.ntmps69
  go_wp2
  go_ret
  exact ⟨rfl, _, rfl⟩

theorem walk_new (w : World) (g : Nat) (z : Int) (t : TypeId) (hw : w.heap[g]? = some (.cells #[.int .i64 z] t (0, 0))) : w.cell? ⟨g, 0, none⟩ = some (.int .i64 z) ∧ w.frozen? ⟨g, 0, none⟩ = false ∧ g < w.heap.size := by
  refine ⟨(cell_of_row _ _ 0 _ _ _ hw).trans rfl, by simp [World.frozen?, hw], ?_⟩
  rcases Nat.lt_or_ge g w.heap.size with h | h
  · exact h
  · rw [Array.getElem?_eq_none h] at hw; cases hw

/-- The walk's own size. -/
def Wk (w : World) (g : Nat) (z : Int) : Prop := w.heap[g]? = some (.cells #[.int .i64 z] 99 (0, 0))
theorem Wk.lt {w : World} {g : Nat} {z : Int} (h : Wk w g z) : g < w.heap.size := (walk_new w g z _ h).2.2
theorem Wk.alloc {w : World} {g : Nat} {z : Int} (h : Wk w g z) (o : Obj) : Wk (w.alloc o) g z := (Below.heap_alloc w o g h.lt).trans h
theorem Wk.drew {w : World} {g : Nat} {z : Int} (h : Wk w g z) : Wk w.drew g z := h
theorem Wk.set_ {w : World} {g : Nat} {z : Int} (h : Wk w g z) (z' : Int) : Wk (w.setCell ⟨g, 0, none⟩ (.int .i64 z')) g z' := by
  unfold Wk at h ⊢
  simp [World.setCell, Array.getElem?_modify, h]

def OddSays (t : T) (d z : Int) (g : Nat) (w : World) (e : Ending) (w' : World) : Prop := e = .returned (.int .i64 (odd t d z).1) ∧ Wk w' g (odd t d z).2 ∧ But g w w'
theorem OddSays.mk {t : T} {d z c z' : Int} {g : Nat} {w w' : World} (h : odd t d z = (c, z')) (hw : Wk w' g z') (hb : But g w w') : OddSays t d z g w (.returned (.int .i64 c)) w' := by
  unfold OddSays; rw [h]; exact ⟨rfl, hw, hb⟩

def zz (k : Int) (s : ByteArray) (z : Int) : Int := if k = 2 then z + 1 + s.size else z + 1
theorem odd_104 {k n : Int} {s : ByteArray} {l : List T} {d z : Int} (hd : d ≤ 40) (h : 4096 < zz k s z) : odd (.mk k n s l) d z = (104, zz k s z) := by
  rw [odd]; show (if 40 < d then _ else if 4096 < zz k s z then (104, zz k s z) else _) = _; rw [if_neg (by omega), if_pos h]
theorem odd_105 {k n : Int} {s : ByteArray} {l : List T} {d z : Int} (hd : d ≤ 40) (h : zz k s z ≤ 4096) (hr : badRange k n = true) : odd (.mk k n s l) d z = (105, zz k s z) := by
  rw [odd]; show (if 40 < d then _ else if 4096 < zz k s z then _ else if badRange k n then (105, zz k s z) else _) = _; rw [if_neg (by omega), if_neg (by omega), if_pos hr]
theorem odd_103 {k n : Int} {s : ByteArray} {l : List T} {d z : Int} (hd : d ≤ 40) (h : zz k s z ≤ 4096) (hr : badRange k n = false) (hs : badShape k n s l.length = true) : odd (.mk k n s l) d z = (103, zz k s z) := by
  rw [odd]; show (if 40 < d then _ else if 4096 < zz k s z then _ else if badRange k n then _ else if badShape k n s l.length then (103, zz k s z) else _) = _; rw [if_neg (by omega), if_neg (by omega), if_neg (by simp [hr]), if_pos hs]
theorem odd_fine {k n : Int} {s : ByteArray} {l : List T} {d z : Int} (hd : d ≤ 40) (h : zz k s z ≤ 4096) (hr : badRange k n = false) (hs : badShape k n s l.length = false) : odd (.mk k n s l) d z = oddAll l (d + 1) (zz k s z) := by
  rw [odd]; show (if 40 < d then _ else if 4096 < zz k s z then _ else if badRange k n then _ else if badShape k n s l.length then _ else oddAll l (d + 1) (zz k s z)) = _; rw [if_neg (by omega), if_neg (by omega), if_neg (by simp [hr]), if_neg (by simp [hs])]

theorem str_cases (s : ByteArray) : s = ByteArray.empty ∨ (s.size ≠ 0 ∧ ¬ s.toList = []) := by
  by_cases h : s.size = 0
  · left; exact ByteArray.size_eq_zero_iff.1 h
  · right; refine ⟨h, fun e => h ?_⟩
    rw [ByteArray.toList_eq] at e
    simpa using congrArg List.length e

set_option maxHeartbeats 1000000 in
theorem odd_lo (k n : Int) (s : ByteArray) (l : List T) (w : World) (g : Nat) (d z : Int) (hk : k < 0) (hd : d ≤ 40) (hd0 : 0 ≤ d) (hz0 : 0 ≤ z) (hz1 : z ≤ 4096) (p : Option Addr) (cap : Nat)
    (hw : Wk w g z) :
    Calls Tryz.prog 69 #[.pointer (some ⟨g, 0, none⟩), .agg #[.int .i64 k, .int .i64 n, .string s, .slice p l.length cap], .int .i64 d] w (OddSays (.mk k n s l) d z g w) := by
  obtain ⟨hg0, hg1, hg2⟩ := walk_new w g z _ hw
  have HW := Lib.hid hw; clear hw
  have hk2 : (k == 2) = false := by simp; omega
  have hZ : zz k s z = z + 1 := by unfold zz; rw [if_neg (by omega)]
  have HZ := Lib.hid hZ; clear hZ
  go_enter Tryz.func69, Tryz.ntmps69
  go_wp2
  all_goals
    go_ret
    refine OddSays.mk (z' := z + 1) ?_ ((HW.out.set_ _).alloc _) (((But.refl _ _).setCell _ _).alloc _)
    rw [← HZ.out]
    first
      | exact odd_104 (by omega) (by rw [HZ.out]; omega)
      | exact odd_105 (by omega) (by rw [HZ.out]; omega) (by simp [badRange]; omega)

set_option maxHeartbeats 1000000 in
theorem odd_hi (k n : Int) (s : ByteArray) (l : List T) (w : World) (g : Nat) (d z : Int) (hk : 4 < k) (hd : d ≤ 40) (hd0 : 0 ≤ d) (hz0 : 0 ≤ z) (hz1 : z ≤ 4096) (p : Option Addr) (cap : Nat)
    (hw : Wk w g z) :
    Calls Tryz.prog 69 #[.pointer (some ⟨g, 0, none⟩), .agg #[.int .i64 k, .int .i64 n, .string s, .slice p l.length cap], .int .i64 d] w (OddSays (.mk k n s l) d z g w) := by
  obtain ⟨hg0, hg1, hg2⟩ := walk_new w g z _ hw
  have HW := Lib.hid hw; clear hw
  have hk2 : (k == 2) = false := by simp; omega
  have hZ : zz k s z = z + 1 := by unfold zz; rw [if_neg (by omega)]
  have HZ := Lib.hid hZ; clear hZ
  go_enter Tryz.func69, Tryz.ntmps69
  go_wp2
  all_goals
    go_ret
    refine OddSays.mk (z' := z + 1) ?_ ((HW.out.set_ _).alloc _) (((But.refl _ _).setCell _ _).alloc _)
    rw [← HZ.out]
    first
      | exact odd_104 (by omega) (by rw [HZ.out]; omega)
      | exact odd_105 (by omega) (by rw [HZ.out]; omega) (by simp [badRange]; omega)

set_option maxHeartbeats 1000000 in
theorem odd_0 (n : Int) (s : ByteArray) (l : List T) (w : World) (g : Nat) (d z : Int) (hd : d ≤ 40) (hd0 : 0 ≤ d) (hs : s.size ≤ 140737488355328) (hz0 : 0 ≤ z) (hz1 : z ≤ 4096) (p : Option Addr) (cap : Nat)
    (hw : Wk w g z) :
    Calls Tryz.prog 69 #[.pointer (some ⟨g, 0, none⟩), .agg #[.int .i64 0, .int .i64 n, .string s, .slice p l.length cap], .int .i64 d] w (OddSays (.mk 0 n s l) d z g w) := by
  obtain ⟨hg0, hg1, hg2⟩ := walk_new w g z _ hw
  have HW := Lib.hid hw; clear hw
  have hZ : zz 0 s z = z + 1 := by unfold zz; rw [if_neg (by omega)]
  have HZ := Lib.hid hZ; clear hZ
  have hpe : printed ByteArray.empty = true := rfl
  rcases str_cases s with rfl | ⟨hS, hT⟩
  all_goals
    cases l with
    | nil =>
      go_enter Tryz.func69, Tryz.ntmps69
      go_wp2_with (go_at_call 90; refine (printed_any _ _ hs).mono ?_; rintro e w2 ⟨rfl, rfl⟩)
      all_goals try go_rounds 1
      all_goals
        go_ret
        refine OddSays.mk (z' := z + 1) ?_ ((HW.out.set_ _).alloc _) (((But.refl _ _).setCell _ _).alloc _)
        rw [← HZ.out]
        first
          | exact odd_104 (by omega) (by rw [HZ.out]; omega)
          | exact odd_103 (by omega) (by rw [HZ.out]; omega) (by simp [badRange]) (by simp [badShape, hS])
          | exact (odd_fine (by omega) (by rw [HZ.out]; omega) (by simp [badRange]) (by simp [badShape, hpe])).trans (by rw [oddAll])
          | go_show
    | cons x xs =>
      simp only [List.length_cons]
      go_enter Tryz.func69, Tryz.ntmps69
      go_wp2_with (go_at_call 90; refine (printed_any _ _ hs).mono ?_; rintro e w2 ⟨rfl, rfl⟩)
      all_goals
        go_ret
        refine OddSays.mk (z' := z + 1) ?_ ((HW.out.set_ _).alloc _) (((But.refl _ _).setCell _ _).alloc _)
        rw [← HZ.out]
        first
          | exact odd_104 (by omega) (by rw [HZ.out]; omega)
          | exact odd_103 (by omega) (by rw [HZ.out]; omega) (by simp [badRange]) (by simp [badShape])
          | go_show

set_option maxHeartbeats 1000000 in
theorem odd_1 (n : Int) (s : ByteArray) (l : List T) (w : World) (g : Nat) (d z : Int) (hd : d ≤ 40) (hd0 : 0 ≤ d) (hs : s.size ≤ 140737488355328) (hz0 : 0 ≤ z) (hz1 : z ≤ 4096) (p : Option Addr) (cap : Nat)
    (hw : Wk w g z) :
    Calls Tryz.prog 69 #[.pointer (some ⟨g, 0, none⟩), .agg #[.int .i64 1, .int .i64 n, .string s, .slice p l.length cap], .int .i64 d] w (OddSays (.mk 1 n s l) d z g w) := by
  obtain ⟨hg0, hg1, hg2⟩ := walk_new w g z _ hw
  have HW := Lib.hid hw; clear hw
  have hZ : zz 1 s z = z + 1 := by unfold zz; rw [if_neg (by omega)]
  have HZ := Lib.hid hZ; clear hZ
  have hpe : printed ByteArray.empty = true := rfl
  rcases str_cases s with rfl | ⟨hS, hT⟩
  all_goals
    cases l with
    | nil =>
      go_enter Tryz.func69, Tryz.ntmps69
      go_wp2_with (go_at_call 90; refine (printed_any _ _ hs).mono ?_; rintro e w2 ⟨rfl, rfl⟩)
      all_goals try go_rounds 1
      all_goals
        go_ret
        refine OddSays.mk (z' := z + 1) ?_ ((HW.out.set_ _).alloc _) (((But.refl _ _).setCell _ _).alloc _)
        rw [← HZ.out]
        first
          | exact odd_104 (by omega) (by rw [HZ.out]; omega)
          | exact odd_105 (by omega) (by rw [HZ.out]; omega) (by simp [badRange] <;> omega)
          | exact odd_103 (by omega) (by rw [HZ.out]; omega) (by simp [badRange] <;> omega) (by simp [badShape, hS])
          | exact (odd_fine (by omega) (by rw [HZ.out]; omega) (by simp [badRange] <;> omega) (by simp [badShape, hpe])).trans (by rw [oddAll])
          | go_show
    | cons x xs =>
      simp only [List.length_cons]
      go_enter Tryz.func69, Tryz.ntmps69
      go_wp2_with (go_at_call 90; refine (printed_any _ _ hs).mono ?_; rintro e w2 ⟨rfl, rfl⟩)
      all_goals
        go_ret
        refine OddSays.mk (z' := z + 1) ?_ ((HW.out.set_ _).alloc _) (((But.refl _ _).setCell _ _).alloc _)
        rw [← HZ.out]
        first
          | exact odd_104 (by omega) (by rw [HZ.out]; omega)
          | exact odd_105 (by omega) (by rw [HZ.out]; omega) (by simp [badRange] <;> omega)
          | exact odd_103 (by omega) (by rw [HZ.out]; omega) (by simp [badRange] <;> omega) (by simp [badShape])
          | go_show

set_option maxHeartbeats 1000000 in
theorem odd_3 (n : Int) (s : ByteArray) (l : List T) (w : World) (g : Nat) (d z : Int) (hd : d ≤ 40) (hd0 : 0 ≤ d) (hs : s.size ≤ 140737488355328) (hz0 : 0 ≤ z) (hz1 : z ≤ 4096) (p : Option Addr) (cap : Nat)
    (hw : Wk w g z) :
    Calls Tryz.prog 69 #[.pointer (some ⟨g, 0, none⟩), .agg #[.int .i64 3, .int .i64 n, .string s, .slice p l.length cap], .int .i64 d] w (OddSays (.mk 3 n s l) d z g w) := by
  obtain ⟨hg0, hg1, hg2⟩ := walk_new w g z _ hw
  have HW := Lib.hid hw; clear hw
  have hZ : zz 3 s z = z + 1 := by unfold zz; rw [if_neg (by omega)]
  have HZ := Lib.hid hZ; clear hZ
  have hpe : printed ByteArray.empty = true := rfl
  rcases str_cases s with rfl | ⟨hS, hT⟩
  all_goals
    cases l with
    | nil =>
      go_enter Tryz.func69, Tryz.ntmps69
      go_wp2_with (go_at_call 90; refine (printed_any _ _ hs).mono ?_; rintro e w2 ⟨rfl, rfl⟩)
      all_goals try go_rounds 1
      all_goals
        go_ret
        refine OddSays.mk (z' := z + 1) ?_ ((HW.out.set_ _).alloc _) (((But.refl _ _).setCell _ _).alloc _)
        rw [← HZ.out]
        first
          | exact odd_104 (by omega) (by rw [HZ.out]; omega)
          | exact odd_105 (by omega) (by rw [HZ.out]; omega) (by simp [badRange] <;> omega)
          | exact odd_103 (by omega) (by rw [HZ.out]; omega) (by simp [badRange] <;> omega) (by simp [badShape, hS])
          | exact (odd_fine (by omega) (by rw [HZ.out]; omega) (by simp [badRange] <;> omega) (by simp [badShape, hpe])).trans (by rw [oddAll])
          | go_show
    | cons x xs =>
      simp only [List.length_cons]
      go_enter Tryz.func69, Tryz.ntmps69
      go_wp2_with (go_at_call 90; refine (printed_any _ _ hs).mono ?_; rintro e w2 ⟨rfl, rfl⟩)
      all_goals
        go_ret
        refine OddSays.mk (z' := z + 1) ?_ ((HW.out.set_ _).alloc _) (((But.refl _ _).setCell _ _).alloc _)
        rw [← HZ.out]
        first
          | exact odd_104 (by omega) (by rw [HZ.out]; omega)
          | exact odd_105 (by omega) (by rw [HZ.out]; omega) (by simp [badRange] <;> omega)
          | exact odd_103 (by omega) (by rw [HZ.out]; omega) (by simp [badRange] <;> omega) (by simp [badShape])
          | go_show

end Go.Proofs.YtemkikjcjhmlaaaGreatDoor
