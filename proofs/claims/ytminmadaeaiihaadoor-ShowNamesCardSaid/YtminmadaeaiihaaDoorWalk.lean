/- Contracts of val.Valid and of what it walks with; the errors stand in package-level variables. -/
import Derived.Test.YtminmadaeaiihaaDoorOdd2
import Derived.Deep.QuietTactic
import Derived.BigQuiet
namespace Go.Proofs.YtminmadaeaiihaaDoor
open Go.RowKit

theorem below_drawn {B : Nat} {a w : World} (h : Below B a w) (n : Nat) : Below B a (w.drewN n) := h.trans ⟨rfl, rfl, rfl, Nat.le_refl _, fun _ _ => rfl⟩

set_option maxHeartbeats 400000 in
theorem isText_any (s : ByteArray) (w : World) (hs : s.size ≤ 140737488355328) :
    Calls Tryd.prog 155 #[.string s] w fun e w' => e = .returned (.bool (printed s)) ∧ w' = w := by
  go_enter Tryd.func155, Tryd.ntmps155
  go_wp2
  go_loop [6] (fun i => ∃ j : Nat, j ≤ s.size ∧ i = .int .i64 j ∧ printed s = printedL (s.data.toList.drop j)) (fun i => s.size - (intOf i).toNat)
  case atStart => exact ⟨0, Nat.zero_le _, rfl, rfl⟩
  case round =>
    obtain ⟨j, hj, rfl, hp⟩ := hrel
    have hP := Lib.hid hp; clear hp
    by_cases hlt : j < s.size
    · have hd := Lib.hid (hP.out.trans (printedL_drop s j hlt))
      go_wp2
      · have h : (s[j].toNat : Int) < 32 ∨ 126 < (s[j].toNat : Int) := by assumption
        go_ret
        refine ⟨ret_bool ?_, rfl⟩
        rw [hd.out, show (decide (32 ≤ s[j].toNat) && decide (s[j].toNat ≤ 126)) = false from by simp; omega]; rfl
      · have h : 32 ≤ (s[j].toNat : Int) ∧ (s[j].toNat : Int) ≤ 126 := by assumption
        go_round
        case rel =>
          refine ⟨j + 1, by omega, by go_num, ?_⟩
          rw [hd.out, show (decide (32 ≤ s[j].toNat) && decide (s[j].toNat ≤ 126)) = true from by simp; omega]; rfl
        case measure => simp [intOf]; omega
      · have h : (s[j].toNat : Int) < 32 := by assumption
        go_ret
        refine ⟨ret_bool ?_, rfl⟩
        rw [hd.out, show (decide (32 ≤ s[j].toNat) && decide (s[j].toNat ≤ 126)) = false from by simp; omega]; rfl
    · have hjl : j = s.size := by omega
      subst hjl
      go_wp2
      go_ret
      refine ⟨ret_bool ?_, rfl⟩
      rw [hP.out, List.drop_of_length_le (by simp), printedL]

set_option maxHeartbeats 400000 in
theorem inRange_any (k n : Int) (s : ByteArray) (c : Value) (w : World) :
    Calls Tryd.prog 148 #[.agg #[.int .i64 k, .int .i64 n, .string s, c]] w fun e w' => e = .returned (.bool (!badRange k n)) ∧ Below w.heap.size w w' := by
  by_cases h1 : k = 1
  · subst h1
    by_cases hn : -2147483648 ≤ n
    all_goals
      go_enter Tryd.func148, Tryd.ntmps148
      go_wp2
      all_goals
        go_ret
        refine ⟨ret_bool ?_, by go_grown⟩
        rw [Bool.eq_iff_iff]; simp [badRange]; omega
  by_cases h3 : k = 3
  · subst h3
    by_cases hn : 0 ≤ n
    all_goals
      go_enter Tryd.func148, Tryd.ntmps148
      go_wp2
      all_goals
        go_ret
        refine ⟨ret_bool ?_, by go_grown⟩
        rw [Bool.eq_iff_iff]; simp [badRange]; omega
  have h1' : (k == 1) = false := by simpa using h1
  have h3' : (k == 3) = false := by simpa using h3
  have hk : k = 0 ∨ k = 2 ∨ k = 4 ∨ (k < 0 ∨ 4 < k) := by omega
  rcases hk with rfl | rfl | rfl | hk
  · go_enter Tryd.func148, Tryd.ntmps148
    go_wp2
    go_ret
    exact ⟨ret_bool (by simp [badRange]), by go_grown⟩
  · go_enter Tryd.func148, Tryd.ntmps148
    go_wp2
    go_ret
    exact ⟨ret_bool (by simp [badRange]), by go_grown⟩
  · go_enter Tryd.func148, Tryd.ntmps148
    go_wp2
    go_ret
    exact ⟨ret_bool (by simp [badRange]), by go_grown⟩
  · have e0 : (k == 0) = false := by simp; omega
    have e2 : (k == 2) = false := by simp; omega
    have e4 : (k == 4) = false := by simp; omega
    have hb := Lib.hid (show badRange k n = true from by simp [badRange]; omega)
    go_enter Tryd.func148, Tryd.ntmps148
    go_wp2
    go_ret
    exact ⟨ret_bool (by rw [hb.out]; rfl), by go_grown⟩

theorem str_iff (s : ByteArray) : s.toList = [] ↔ s.size = 0 := by
  rw [ByteArray.toList_eq]
  constructor
  · intro h; simpa using congrArg List.length h
  · intro h; exact List.eq_nil_of_length_eq_zero (by simpa using h)

set_option maxHeartbeats 800000 in
theorem inShape_any (k n : Int) (s : ByteArray) (p : Option Addr) (len cap : Nat) (w : World) (hs : s.size ≤ 140737488355328) :
    Calls Tryd.prog 149 #[.agg #[.int .i64 k, .int .i64 n, .string s, .slice p len cap]] w fun e w' => e = .returned (.bool (!badShape k n s len)) ∧ Below w.heap.size w w' := by
  have hpe : printed ByteArray.empty = true := rfl
  by_cases hn : n = 0
  all_goals
    have hn0 : (n == 0) = decide (n = 0) := by simp [BEq.beq]
    by_cases h2 : k = 2
    · subst h2
      by_cases hl : len = 0
      all_goals
        have hl0 : ((len : Int) == 0) = decide (len = 0) := by rw [Bool.eq_iff_iff]; simp
        go_enter Tryd.func149, Tryd.ntmps149
        go_wp2_with (go_at_call 155; refine (isText_any _ _ hs).mono ?_; rintro e w2 ⟨rfl, rfl⟩)
        all_goals
          go_ret
          refine ⟨ret_bool ?_, by go_grown⟩
          simp_all [badShape]
    · have h2' : (k == 2) = false := by simpa using h2
      by_cases h4 : k = 4
      · subst h4
        rcases str_cases s with rfl | ⟨hS, hT⟩
        · go_enter Tryd.func149, Tryd.ntmps149
          go_wp2
          all_goals
            go_ret
            refine ⟨ret_bool ?_, by go_grown⟩
            simp_all [badShape]
        · have hs1 := Lib.hid (show (s.size != 0) = true from by simpa using hS)
          go_enter Tryd.func149, Tryd.ntmps149
          go_wp2
          all_goals
            go_ret
            refine ⟨ret_bool ?_, by go_grown⟩
            simp [badShape, hs1.out]
            try assumption
      · have h4' : (k == 4) = false := by simpa using h4
        rcases str_cases s with rfl | ⟨hS, hT⟩
        all_goals
          by_cases hl : len = 0
          all_goals
            have hl0 : ((len : Int) == 0) = decide (len = 0) := by rw [Bool.eq_iff_iff]; simp
            go_enter Tryd.func149, Tryd.ntmps149
            go_wp2
            all_goals
              go_ret
              refine ⟨ret_bool ?_, by go_grown⟩
              simp_all [badShape]

/-- The four errors that the walk can meet stand in these variables. -/
structure Errs (w : World) (eD eM eR eS : Value) : Prop where
  deep : w.cell? ⟨2, 0, none⟩ = some eD
  many : w.cell? ⟨1, 0, none⟩ = some eM
  range : w.cell? ⟨5, 0, none⟩ = some eR
  shape : w.cell? ⟨3, 0, none⟩ = some eS
/-- Beyond the variables of these four. -/
def NG : Nat := max (max 2 1) (max 5 3) + 1
theorem Errs.size {w : World} {eD eM eR eS : Value} (h : Errs w eD eM eR eS) : NG ≤ w.heap.size := by
  have h1 := World.block_lt_of_cell? w _ h.deep
  have h2 := World.block_lt_of_cell? w _ h.many
  have h3 := World.block_lt_of_cell? w _ h.range
  have h5 := World.block_lt_of_cell? w _ h.shape
  simp only at h1 h2 h3 h5
  unfold NG; omega
theorem Errs.below {w w' : World} {B : Nat} {eD eM eR eS : Value} (h : Errs w eD eM eR eS) (hb : Below B w w') (h4 : NG ≤ B) : Errs w' eD eM eR eS :=
  ⟨(hb.cell (p := ⟨2, 0, none⟩) (by show 2 < B; unfold NG at h4; omega)).trans h.deep, (hb.cell (p := ⟨1, 0, none⟩) (by show 1 < B; unfold NG at h4; omega)).trans h.many,
   (hb.cell (p := ⟨5, 0, none⟩) (by show 5 < B; unfold NG at h4; omega)).trans h.range, (hb.cell (p := ⟨3, 0, none⟩) (by show 3 < B; unfold NG at h4; omega)).trans h.shape⟩

def errOf (eD eM eR eS : Value) (c : Int) : Value := if c = 112 then eD else if c = 104 then eM else if c = 105 then eR else eS
/-- What the walk returns, by what the document's walk comes to. -/
def WalkRes (eD eM eR eS : Value) (r : Int × Int) : Value := if r.1 = 0 then .tuple #[.int .i64 r.2, .nilIface] else .tuple #[.int .i64 0, errOf eD eM eR eS r.1]
def WalkSays (eD eM eR eS : Value) (t : T) (d z : Int) (w : World) (e : Ending) (w' : World) : Prop := e = .returned (WalkRes eD eM eR eS (odd t d z)) ∧ Below w.heap.size w w'
theorem WalkSays.bad {eD eM eR eS : Value} {t : T} {d z c z' : Int} {w w' : World} {v : Value} (h : odd t d z = (c, z')) (hc : c ≠ 0) (hv : v = errOf eD eM eR eS c) (hb : Below w.heap.size w w') : WalkSays eD eM eR eS t d z w (.returned (.tuple #[.int .i64 0, v])) w' := by
  unfold WalkSays WalkRes; rw [h, if_neg hc, hv]; exact ⟨rfl, hb⟩

set_option maxHeartbeats 1000000 in
theorem walk_deep (k n : Int) (s : ByteArray) (l : List T) (p : Option Addr) (cap : Nat) (d z : Int) (w : World) (eD eM eR eS : Value) (he : Errs w eD eM eR eS) (h4 : NG ≤ w.heap.size) (hd : 40 < d) :
    Calls Tryd.prog 130 #[.agg #[.int .i64 k, .int .i64 n, .string s, .slice p l.length cap], .int .i64 d, .int .i64 z] w (WalkSays eD eM eR eS (.mk k n s l) d z w) := by
  have e0 := he.deep
  have l0 : 2 < w.heap.size := by unfold NG at h4; omega
  have hO := Lib.hid (show odd (.mk k n s l) d z = (112, z) from by rw [odd]; simp [hd])
  go_enter Tryd.func130, Tryd.ntmps130
  go_wp2
  go_quiet (fail)
  go_wp2
  go_ret2
  exact WalkSays.bad hO.out (by decide) rfl (below_drawn ((Below.refl _ _).alloc (Nat.le_refl _) _) _)

end Go.Proofs.YtminmadaeaiihaaDoor
