/- Contracts of val.Valid and of what it walks with; the errors stand in package-level variables. The contract of val.Valid's walk, whole. val.Valid: the error that the document asks, by the four variables that it can come from. What is right is as it has to be, and its text is not long. How an argument that is a list of values is read: the trees that it holds, within the reach. -/
import Derived.Test.YtlinclbodbbemaaDoorY04
import Derived.Deep.QuietTactic
import Derived.BigQuiet
import Derived.Test.YtlinclbodbbemaaDoorY00
import Derived.Lib.ItoaLen
import Derived.Test.YtlinclbodbbemaaDoorY02
import Derived.SizedLaws
import Derived.ChangeArms
namespace Go.Proofs.YtlinclbodbbemaaDoor
open Go.RowKit

theorem below_drawn {B : Nat} {a w : World} (h : Below B a w) (n : Nat) : Below B a (w.drewN n) := h.trans ⟨rfl, rfl, rfl, Nat.le_refl _, fun _ _ => rfl⟩

set_option maxHeartbeats 400000 in
theorem isText_any (s : ByteArray) (w : World) (hs : s.size ≤ 140737488355328) :
    Calls Tryd.prog 172 #[.string s] w fun e w' => e = .returned (.bool (printed s)) ∧ w' = w := by
  go_enter Tryd.func172, Tryd.ntmps172
  go_wp2
  go_loop [6] (fun i => ∃ j : Nat, j ≤ s.size ∧ i = .int .i64 j ∧ printed s = printedL (s.data.toList.drop j)) (fun i => s.size - (intOf i).toNat)
  case atStart => exact ⟨0, Nat.zero_le _, rfl, rfl⟩
  case round =>
    obtain ⟨j, hj, rfl, hp⟩ := hrel
    have hP := Lib.hid hp; clear hp
    by_cases hlt : j < s.size
    · have hd := Lib.hid (hP.out.trans (printedL_drop s j hlt))
      go_wp2
      · have h : (s[j].toNat : Int) < 32 ∨ 126 < (s[j].toNat : Int) := by assumption
        go_ret
        refine ⟨ret_bool ?_, rfl⟩
        rw [hd.out, show (decide (32 ≤ s[j].toNat) && decide (s[j].toNat ≤ 126)) = false from by simp; omega]; rfl
      · have h : 32 ≤ (s[j].toNat : Int) ∧ (s[j].toNat : Int) ≤ 126 := by assumption
        go_round
        case rel =>
          refine ⟨j + 1, by omega, by go_num, ?_⟩
          rw [hd.out, show (decide (32 ≤ s[j].toNat) && decide (s[j].toNat ≤ 126)) = true from by simp; omega]; rfl
        case measure => simp [intOf]; omega
      · have h : (s[j].toNat : Int) < 32 := by assumption
        go_ret
        refine ⟨ret_bool ?_, rfl⟩
        rw [hd.out, show (decide (32 ≤ s[j].toNat) && decide (s[j].toNat ≤ 126)) = false from by simp; omega]; rfl
    · have hjl : j = s.size := by omega
      subst hjl
      go_wp2
      go_ret
      refine ⟨ret_bool ?_, rfl⟩
      rw [hP.out, List.drop_of_length_le (by simp), printedL]

set_option maxHeartbeats 400000 in
theorem inRange_any (k n : Int) (s : ByteArray) (c : Value) (w : World) :
    Calls Tryd.prog 162 #[.agg #[.int .i64 k, .int .i64 n, .string s, c]] w fun e w' => e = .returned (.bool (!badRange k n)) ∧ Below w.heap.size w w' := by
  by_cases h1 : k = 1
  · subst h1
    by_cases hn : -2147483648 ≤ n
    all_goals
      go_enter Tryd.func162, Tryd.ntmps162
      go_wp2
      all_goals
        go_ret
        refine ⟨ret_bool ?_, by go_grown⟩
        rw [Bool.eq_iff_iff]; simp [badRange]; omega
  by_cases h3 : k = 3
  · subst h3
    by_cases hn : 0 ≤ n
    all_goals
      go_enter Tryd.func162, Tryd.ntmps162
      go_wp2
      all_goals
        go_ret
        refine ⟨ret_bool ?_, by go_grown⟩
        rw [Bool.eq_iff_iff]; simp [badRange]; omega
  have h1' : (k == 1) = false := by simpa using h1
  have h3' : (k == 3) = false := by simpa using h3
  have hk : k = 0 ∨ k = 2 ∨ k = 4 ∨ (k < 0 ∨ 4 < k) := by omega
  rcases hk with rfl | rfl | rfl | hk
  · go_enter Tryd.func162, Tryd.ntmps162
    go_wp2
    go_ret
    exact ⟨ret_bool (by simp [badRange]), by go_grown⟩
  · go_enter Tryd.func162, Tryd.ntmps162
    go_wp2
    go_ret
    exact ⟨ret_bool (by simp [badRange]), by go_grown⟩
  · go_enter Tryd.func162, Tryd.ntmps162
    go_wp2
    go_ret
    exact ⟨ret_bool (by simp [badRange]), by go_grown⟩
  · have e0 : (k == 0) = false := by simp; omega
    have e2 : (k == 2) = false := by simp; omega
    have e4 : (k == 4) = false := by simp; omega
    have hb := Lib.hid (show badRange k n = true from by simp [badRange]; omega)
    go_enter Tryd.func162, Tryd.ntmps162
    go_wp2
    go_ret
    exact ⟨ret_bool (by rw [hb.out]; rfl), by go_grown⟩

theorem str_iff (s : ByteArray) : s.toList = [] ↔ s.size = 0 := by
  rw [ByteArray.toList_eq]
  constructor
  · intro h; simpa using congrArg List.length h
  · intro h; exact List.eq_nil_of_length_eq_zero (by simpa using h)

set_option maxHeartbeats 800000 in
theorem inShape_any (k n : Int) (s : ByteArray) (p : Option Addr) (len cap : Nat) (w : World) (hs : s.size ≤ 140737488355328) :
    Calls Tryd.prog 163 #[.agg #[.int .i64 k, .int .i64 n, .string s, .slice p len cap]] w fun e w' => e = .returned (.bool (!badShape k n s len)) ∧ Below w.heap.size w w' := by
  have hpe : printed ByteArray.empty = true := rfl
  by_cases hn : n = 0
  all_goals
    have hn0 : (n == 0) = decide (n = 0) := by simp [BEq.beq]
    by_cases h2 : k = 2
    · subst h2
      by_cases hl : len = 0
      all_goals
        have hl0 : ((len : Int) == 0) = decide (len = 0) := by rw [Bool.eq_iff_iff]; simp
        go_enter Tryd.func163, Tryd.ntmps163
        go_wp2_with (go_at_call 172; refine (isText_any _ _ hs).mono ?_; rintro e w2 ⟨rfl, rfl⟩)
        all_goals
          go_ret
          refine ⟨ret_bool ?_, by go_grown⟩
          simp_all [badShape]
    · have h2' : (k == 2) = false := by simpa using h2
      by_cases h4 : k = 4
      · subst h4
        rcases str_cases s with rfl | ⟨hS, hT⟩
        · go_enter Tryd.func163, Tryd.ntmps163
          go_wp2
          all_goals
            go_ret
            refine ⟨ret_bool ?_, by go_grown⟩
            simp_all [badShape]
        · have hs1 := Lib.hid (show (s.size != 0) = true from by simpa using hS)
          go_enter Tryd.func163, Tryd.ntmps163
          go_wp2
          all_goals
            go_ret
            refine ⟨ret_bool ?_, by go_grown⟩
            simp [badShape, hs1.out]
            try assumption
      · have h4' : (k == 4) = false := by simpa using h4
        rcases str_cases s with rfl | ⟨hS, hT⟩
        all_goals
          by_cases hl : len = 0
          all_goals
            have hl0 : ((len : Int) == 0) = decide (len = 0) := by rw [Bool.eq_iff_iff]; simp
            go_enter Tryd.func163, Tryd.ntmps163
            go_wp2
            all_goals
              go_ret
              refine ⟨ret_bool ?_, by go_grown⟩
              simp_all [badShape]

/-- The four errors that the walk can meet stand in these variables. -/
structure Errs (w : World) (eD eM eR eS : Value) : Prop where
  deep : w.cell? ⟨3, 0, none⟩ = some eD
  many : w.cell? ⟨0, 0, none⟩ = some eM
  range : w.cell? ⟨2, 0, none⟩ = some eR
  shape : w.cell? ⟨7, 0, none⟩ = some eS
/-- Beyond the variables of these four. -/
def NG : Nat := max (max 3 0) (max 2 7) + 1
theorem Errs.size {w : World} {eD eM eR eS : Value} (h : Errs w eD eM eR eS) : NG ≤ w.heap.size := by
  have h1 := World.block_lt_of_cell? w _ h.deep
  have h2 := World.block_lt_of_cell? w _ h.many
  have h3 := World.block_lt_of_cell? w _ h.range
  have h5 := World.block_lt_of_cell? w _ h.shape
  simp only at h1 h2 h3 h5
  unfold NG; omega
theorem Errs.below {w w' : World} {B : Nat} {eD eM eR eS : Value} (h : Errs w eD eM eR eS) (hb : Below B w w') (h4 : NG ≤ B) : Errs w' eD eM eR eS :=
  ⟨(hb.cell (p := ⟨3, 0, none⟩) (by show 3 < B; unfold NG at h4; omega)).trans h.deep, (hb.cell (p := ⟨0, 0, none⟩) (by show 0 < B; unfold NG at h4; omega)).trans h.many,
   (hb.cell (p := ⟨2, 0, none⟩) (by show 2 < B; unfold NG at h4; omega)).trans h.range, (hb.cell (p := ⟨7, 0, none⟩) (by show 7 < B; unfold NG at h4; omega)).trans h.shape⟩

def errOf (eD eM eR eS : Value) (c : Int) : Value := if c = 112 then eD else if c = 104 then eM else if c = 105 then eR else eS
/-- What the walk returns, by what the document's walk comes to. -/
def WalkRes (eD eM eR eS : Value) (r : Int × Int) : Value := if r.1 = 0 then .tuple #[.int .i64 r.2, .nilIface] else .tuple #[.int .i64 0, errOf eD eM eR eS r.1]
def WalkSays (eD eM eR eS : Value) (t : T) (d z : Int) (w : World) (e : Ending) (w' : World) : Prop := e = .returned (WalkRes eD eM eR eS (odd t d z)) ∧ Below w.heap.size w w'
theorem WalkSays.bad {eD eM eR eS : Value} {t : T} {d z c z' : Int} {w w' : World} {v : Value} (h : odd t d z = (c, z')) (hc : c ≠ 0) (hv : v = errOf eD eM eR eS c) (hb : Below w.heap.size w w') : WalkSays eD eM eR eS t d z w (.returned (.tuple #[.int .i64 0, v])) w' := by
  unfold WalkSays WalkRes; rw [h, if_neg hc, hv]; exact ⟨rfl, hb⟩

set_option maxHeartbeats 1000000 in
theorem walk_deep (k n : Int) (s : ByteArray) (l : List T) (p : Option Addr) (cap : Nat) (d z : Int) (w : World) (eD eM eR eS : Value) (he : Errs w eD eM eR eS) (h4 : NG ≤ w.heap.size) (hd : 40 < d) :
    Calls Tryd.prog 134 #[.agg #[.int .i64 k, .int .i64 n, .string s, .slice p l.length cap], .int .i64 d, .int .i64 z] w (WalkSays eD eM eR eS (.mk k n s l) d z w) := by
  have e0 := he.deep
  have l0 : 3 < w.heap.size := by unfold NG at h4; omega
  have hO := Lib.hid (show odd (.mk k n s l) d z = (112, z) from by rw [odd]; simp [hd])
  go_enter Tryd.func134, Tryd.ntmps134
  go_wp2
  go_quiet (fail)
  go_wp2
  go_ret2
  exact WalkSays.bad hO.out (by decide) rfl (below_drawn ((Below.refl _ _).alloc (Nat.le_refl _) _) _)

end Go.Proofs.YtlinclbodbbemaaDoor

namespace Go.Proofs.YtlinclbodbbemaaDoor
open Go.RowKit

theorem zz_alone (k n : Int) (s : ByteArray) (z : Int) : zz k s z = z + szAlone (.mk k n s []) := by
  by_cases hk : k = 2
  · simp [zz, szAlone, hk]; omega
  · simp [zz, szAlone, hk]
theorem szAlone_le (k n : Int) (s : ByteArray) : szAlone (.mk k n s []) ≤ 1 + s.size := by
  by_cases hk : k = 2
  · simp [szAlone, hk]
  · simp [szAlone, hk]; omega

def Ptrs (eD eM eR eS : Value) : Prop := ∀ c, ∃ a, errOf eD eM eR eS c = .iface 199 (.pointer (some a))

def WalkAt (eD eM eR eS : Value) (t : T) : Prop := ∀ (w : World) (lo hi : Nat) (v : Value) (d z : Int), Rep w lo hi t v → hi ≤ w.heap.size → Errs w eD eM eR eS → NG ≤ w.heap.size → 0 ≤ z → z ≤ 4096 → 0 ≤ d → d ≤ 1000 →
  Calls Tryd.prog 134 #[v, .int .i64 d, .int .i64 z] w (WalkSays eD eM eR eS t d z w)

set_option maxHeartbeats 2000000 in
theorem walk_all (eD eM eR eS : Value) (hP : Ptrs eD eM eR eS) : ∀ t, WalkAt eD eM eR eS t := by
  refine T.ind_ (fun k n s l ih w lo hi v d z hr hhi he h4 hz0 hz1 hd0 hd1 => ?_)
  unfold Rep at hr
  obtain ⟨p, cap, rfl, hk, hn, hs, hlc, hcap, hall⟩ := hr
  by_cases hd : 40 < d
  · exact walk_deep k n s l p cap d z w eD eM eR eS he h4 hd
  have hg0 : 3 < w.heap.size := by unfold NG at h4; omega
  have hg1 : 0 < w.heap.size := by unfold NG at h4; omega
  have hg2 : 2 < w.heap.size := by unfold NG at h4; omega
  have hg3 : 7 < w.heap.size := by unfold NG at h4; omega
  have hA := (sz_eq k n s l).1
  have hZ := Lib.hid (zz_alone k n s z)
  have hAs := szAlone_le k n s
  have H := Lib.hid ih; clear ih
  have HALL := Lib.hid hall; clear hall
  have HE := Lib.hid he
  by_cases hm : 4096 < z + szAlone (.mk k n s [])
  · have hO := Lib.hid (odd_104 (k := k) (n := n) (s := s) (l := l) (d := d) (z := z) (by omega) (by rw [hZ.out]; omega))
    clear he
    go_enter Tryd.func134, Tryd.ntmps134
    go_wp2_with (go_at_call 161; refine (sizeAlone_any _ _ _ _ _ hs).mono ?_; rintro e w2 ⟨rfl, hb2⟩; have e1 := ((HE.out.below ((Below.refl w.heap.size w).alloc (Nat.le_refl _) _) h4).below hb2 (by simp; omega)).many; have hb3 := Lib.hid (((Below.refl w.heap.size w).alloc (Nat.le_refl _) _).trans (hb2.mono (by simp))))
    go_quiet (fail)
    go_wp2
    go_ret2
    exact WalkSays.bad hO.out (by decide) rfl (below_drawn hb3.out _)
  have hzz : zz k s z ≤ 4096 := by rw [hZ.out]; omega
  cases hr : badRange k n with
  | true =>
    have hO := Lib.hid (odd_105 (k := k) (n := n) (s := s) (l := l) (d := d) (z := z) (by omega) hzz hr)
    have HR := Lib.hid hr
    clear he hr hzz
    go_enter Tryd.func134, Tryd.ntmps134
    go_wp2_with (first
      | (go_at_call 161; refine (sizeAlone_any _ _ _ _ _ hs).mono ?_; rintro e w2 ⟨rfl, hb2⟩; obtain ⟨hx0, hx1, hx2, hx3, hxf⟩ := box4_in w2 w.heap.size _ _ _ _ _ (heap_old (heap_alloc_new w _) hb2); clear hxf; have hz2 := hb2.size; rw [World.size_alloc] at hz2)
      | (go_at_call 162; refine (inRange_any _ _ _ _ _).mono ?_; rintro e w3 ⟨rfl, hb3⟩; rw [HR.out]; have hb4 := ((Below.refl w.heap.size w).alloc (Nat.le_refl _) _).trans ((hb2.mono (by simp)).trans (hb3.mono (by omega))); have e1 := (HE.out.below hb4 h4).range; have HB4 := Lib.hid hb4; clear hb4))
    go_quiet (fail)
    go_wp2
    go_ret2
    exact WalkSays.bad hO.out (by decide) rfl (below_drawn HB4.out _)
  | false =>
    have HR := Lib.hid hr
    cases hsh : badShape k n s l.length with
    | true =>
      have hO := Lib.hid (odd_103 (k := k) (n := n) (s := s) (l := l) (d := d) (z := z) (by omega) hzz hr hsh)
      have HS := Lib.hid hsh
      clear he hr hzz hsh
      go_enter Tryd.func134, Tryd.ntmps134
      go_wp2_with (first
      | (go_at_call 161; refine (sizeAlone_any _ _ _ _ _ hs).mono ?_; rintro e w2 ⟨rfl, hb2⟩; obtain ⟨hx0, hx1, hx2, hx3, hxf⟩ := box4_in w2 w.heap.size _ _ _ _ _ (heap_old (heap_alloc_new w _) hb2); clear hxf; have hz2 := hb2.size; rw [World.size_alloc] at hz2)
      | (go_at_call 162; refine (inRange_any _ _ _ _ _).mono ?_; rintro e w3 ⟨rfl, hb3⟩; rw [HR.out]; have hz3 := hb3.size; have hx0 := (hb3.cell (p := ⟨w.heap.size, 0, none⟩) hz2).trans hx0; have hx1 := (hb3.cell (p := ⟨w.heap.size, 1, none⟩) hz2).trans hx1; have hx2 := (hb3.cell (p := ⟨w.heap.size, 2, none⟩) hz2).trans hx2; have hx3 := (hb3.cell (p := ⟨w.heap.size, 3, none⟩) hz2).trans hx3)
      | (go_at_call 163; refine (inShape_any _ _ _ _ _ _ _ hs).mono ?_; rintro e w4 ⟨rfl, hb4⟩; rw [HS.out]; have hb5 := ((Below.refl w.heap.size w).alloc (Nat.le_refl _) _).trans ((hb2.mono (by simp)).trans ((hb3.mono (by omega)).trans (hb4.mono (by omega)))); have e1 := (HE.out.below hb5 h4).shape; have hz4 := hb4.size; have hx3 := (hb4.cell (p := ⟨w.heap.size, 3, none⟩) (Nat.lt_of_lt_of_le hz2 hz3)).trans hx3; have HB5 := Lib.hid hb5; clear hb5))
      go_quiet (fail)
      go_wp2
      go_ret2
      exact WalkSays.bad hO.out (by decide) rfl (below_drawn HB5.out _)
    | false =>
      have hO := Lib.hid (odd_fine (k := k) (n := n) (s := s) (l := l) (d := d) (z := z) (by omega) hzz hr hsh)
      have HS := Lib.hid hsh
      have HZ := Lib.hid hzz
      clear he hr hzz hsh
      go_enter Tryd.func134, Tryd.ntmps134
      go_wp2_with (first
      | (go_at_call 161; refine (sizeAlone_any _ _ _ _ _ hs).mono ?_; rintro e w2 ⟨rfl, hb2⟩; obtain ⟨hx0, hx1, hx2, hx3, hxf⟩ := box4_in w2 w.heap.size _ _ _ _ _ (heap_old (heap_alloc_new w _) hb2); clear hxf; have hz2 := hb2.size; rw [World.size_alloc] at hz2)
      | (go_at_call 162; refine (inRange_any _ _ _ _ _).mono ?_; rintro e w3 ⟨rfl, hb3⟩; rw [HR.out]; have hz3 := hb3.size; have hx0 := (hb3.cell (p := ⟨w.heap.size, 0, none⟩) hz2).trans hx0; have hx1 := (hb3.cell (p := ⟨w.heap.size, 1, none⟩) hz2).trans hx1; have hx2 := (hb3.cell (p := ⟨w.heap.size, 2, none⟩) hz2).trans hx2; have hx3 := (hb3.cell (p := ⟨w.heap.size, 3, none⟩) hz2).trans hx3)
      | (go_at_call 163; refine (inShape_any _ _ _ _ _ _ _ hs).mono ?_; rintro e w4 ⟨rfl, hb4⟩; rw [HS.out]; have hb5 := ((Below.refl w.heap.size w).alloc (Nat.le_refl _) _).trans ((hb2.mono (by simp)).trans ((hb3.mono (by omega)).trans (hb4.mono (by omega)))); have e1 := (HE.out.below hb5 h4).shape; have hz4 := hb4.size; have hx3 := (hb4.cell (p := ⟨w.heap.size, 3, none⟩) (Nat.lt_of_lt_of_le hz2 hz3)).trans hx3; have HB5 := Lib.hid hb5; clear hb5))
      go_slots
      go_loopw [2, 32] (fun o i wr => ∃ (j : Nat) (y : Int), j ≤ l.length ∧ i = .int .i64 j ∧ o = .int .i64 y ∧ 0 ≤ y ∧ y ≤ 4096 ∧ Hid (oddAll l (d + 1) (zz k s z) = oddAll (l.drop j) (d + 1) y) ∧ Below w.heap.size w wr) (fun _ i _ => l.length - (intOf i).toNat)
      case atStart => exact ⟨0, zz k s z, Nat.zero_le _, rfl, by rw [hZ.out], by rw [hZ.out]; omega, HZ.out, rfl, HB5.out⟩
      case round =>
        obtain ⟨j, y, hj, rfl, rfl, hy0, hy1, HO, hbr⟩ := hrel
        have hz := hbr.size
        by_cases hlt : j < l.length
        · obtain ⟨b, off, k1, n1, s1, l1, q1, cc1, rfl, _, hbhi, hli, h0, h1, h2, h3, hrep⟩ := (HALL.out.below hbr hhi).item j hlt
          have hA0 := oddAll_drop l j hlt (d + 1) y
          rw [hli] at hA0
          have hAA := Lib.hid (HO.out.trans hA0); clear hA0
          have hlj : l[j] ∈ l := List.getElem_mem hlt
          rw [hli] at hlj hrep
          have hB := Lib.hid (odd_bound (.mk k1 n1 s1 l1) (d + 1) y)
          clear hli HO
          by_cases hc : (odd (.mk k1 n1 s1 l1) (d + 1) y).1 = 0
          · have hB1 := hB.out hc
            have HW : Hid (WalkRes eD eM eR eS (odd (.mk k1 n1 s1 l1) (d + 1) y) = .tuple #[.int .i64 (odd (.mk k1 n1 s1 l1) (d + 1) y).2, .nilIface]) := by show _ = _; unfold WalkRes; rw [if_pos hc]
            have HC := Lib.hid hc; clear hc
            go_wp2_with (go_at_call 134; refine (H.out _ hlj _ lo hi _ (d + 1) y (hrep.alloc (by omega) _) (by simp; omega) (HE.out.below (hbr.alloc hz _) h4) (by simp; omega) hy0 hy1 (by omega) (by omega)).mono ?_; rintro e w6 ⟨rfl, hb6⟩; rw [HW.out])
            go_roundw
            case rel =>
              refine ⟨j + 1, _, by omega, by go_num, rfl, by omega, hB1.2, ?_, (hbr.alloc hz _).trans (hb6.mono (by simp; omega))⟩
              show _ = _
              rw [hAA.out, if_neg (by simpa using HC.out)]
            case measure => simp [intOf]; omega
          · obtain ⟨a, ha⟩ := hP (odd (.mk k1 n1 s1 l1) (d + 1) y).1
            have HW : Hid (WalkRes eD eM eR eS (odd (.mk k1 n1 s1 l1) (d + 1) y) = .tuple #[.int .i64 0, .iface 199 (.pointer (some a))]) := by show _ = _; unfold WalkRes; rw [if_neg hc, ha]
            have HA2 := Lib.hid ha
            have HC := Lib.hid hc; clear hc ha
            go_wp2_with (go_at_call 134; refine (H.out _ hlj _ lo hi _ (d + 1) y (hrep.alloc (by omega) _) (by simp; omega) (HE.out.below (hbr.alloc hz _) h4) (by simp; omega) hy0 hy1 (by omega) (by omega)).mono ?_; rintro e w6 ⟨rfl, hb6⟩; rw [HW.out])
            go_ret2
            refine WalkSays.bad (z' := (odd (.mk k1 n1 s1 l1) (d + 1) y).2) ?_ HC.out HA2.out.symm ((hbr.alloc hz _).trans (hb6.mono (by simp; omega)))
            rw [hO.out, hAA.out, if_pos HC.out]
        · have hjl : j = l.length := by omega
          subst hjl
          go_wp2
          go_ret2
          refine ⟨?_, hbr⟩
          rw [hO.out, HO.out, List.drop_length, oddAll]; rfl

end Go.Proofs.YtlinclbodbbemaaDoor

namespace Go.Proofs.YtlinclbodbbemaaDoor
open Go.RowKit

theorem oddAll_codes (l : List T) (h : ∀ t ∈ l, ∀ d z, (odd t d z).1 = 0 ∨ (odd t d z).1 = 103 ∨ (odd t d z).1 = 104 ∨ (odd t d z).1 = 105 ∨ (odd t d z).1 = 112) (d z : Int) :
    (oddAll l d z).1 = 0 ∨ (oddAll l d z).1 = 103 ∨ (oddAll l d z).1 = 104 ∨ (oddAll l d z).1 = 105 ∨ (oddAll l d z).1 = 112 := by
  induction l generalizing z with
  | nil => left; simp [oddAll]
  | cons x r ih =>
    rw [oddAll]
    split
    · exact h x (by simp) d z
    · exact ih (fun t ht => h t (by simp [ht])) _
theorem odd_codes : ∀ (t : T) (d z : Int), (odd t d z).1 = 0 ∨ (odd t d z).1 = 103 ∨ (odd t d z).1 = 104 ∨ (odd t d z).1 = 105 ∨ (odd t d z).1 = 112 := by
  refine T.ind_ (fun k n s l ih d z => ?_)
  by_cases hd : 40 < d
  · rw [odd]; simp [hd]
  by_cases h4 : 4096 < zz k s z
  · rw [odd_104 (by omega) h4]; simp
  cases hr : badRange k n with
  | true => rw [odd_105 (by omega) (by omega) hr]; simp
  | false =>
    cases hs : badShape k n s l.length with
    | true => rw [odd_103 (by omega) (by omega) hr hs]; simp
    | false => rw [odd_fine (by omega) (by omega) hr hs]; exact oddAll_codes l ih _ _

/-- What val.Valid answers. -/
def vRes (eD eM eR eS : Value) (t : T) : Value := if (odd t 1 0).1 = 0 then .nilIface else errOf eD eM eR eS (odd t 1 0).1

set_option maxHeartbeats 1000000 in
theorem validE_any (eD eM eR eS : Value) (hP : Ptrs eD eM eR eS) (t : T) (w : World) (lo hi : Nat) (v : Value) (hr : Rep w lo hi t v) (hhi : hi ≤ w.heap.size) (he : Errs w eD eM eR eS) :
    Calls Tryd.prog 99 #[v] w fun e w' => e = .returned (vRes eD eM eR eS t) ∧ Below w.heap.size w w' := by
  have h4 := he.size
  have HE := Lib.hid he; clear he
  obtain ⟨k, n, s, p, len, cap, rfl⟩ := rep_form hr
  obtain ⟨pc, hpc⟩ := hP (odd t 1 0).1
  have HV : Hid (∃ x y, WalkRes eD eM eR eS (odd t 1 0) = .tuple #[.int .i64 x, y] ∧ vRes eD eM eR eS t = y ∧ (y = .nilIface ∨ ∃ a, y = .iface 199 (.pointer (some a)))) := by
    unfold WalkRes vRes
    by_cases h0 : (odd t 1 0).1 = 0
    · rw [if_pos h0, if_pos h0]; exact ⟨_, _, rfl, rfl, .inl rfl⟩
    · rw [if_neg h0, if_neg h0]; exact ⟨_, _, rfl, rfl, .inr ⟨pc, hpc⟩⟩
  clear hpc
  obtain ⟨x, y, hxy, hy, hyf⟩ := HV.out
  have HXY := Lib.hid hxy
  have HY := Lib.hid hy
  clear hxy hy HV
  rcases hyf with rfl | ⟨a, rfl⟩
  all_goals
    go_enter Tryd.func99, Tryd.ntmps99
    go_wp2_with (go_at_call 134; refine (walk_all _ _ _ _ hP t _ lo hi _ 1 0 (hr.alloc hhi _) (by simp; omega) (HE.out.below ((Below.refl w.heap.size w).alloc (Nat.le_refl _) _) h4) (by simp; omega) (by omega) (by omega) (by omega) (by omega)).mono ?_; rintro e w2 ⟨rfl, hb2⟩; rw [HXY.out])
    go_ret
    exact ⟨by rw [HY.out]; rfl, ((Below.refl _ _).alloc (Nat.le_refl _) _).trans (hb2.mono (by simp))⟩

end Go.Proofs.YtlinclbodbbemaaDoor

namespace Go.Proofs.YtlinclbodbbemaaDoor
open Go.RowKit

theorem RepAll.mem {w : World} {lo hi : Nat} : ∀ {l : List T} {p : Option Addr}, RepAll w lo hi l p → ∀ t ∈ l, ∃ v, Rep w lo hi t v
  | [], _, _, t, ht => by cases ht
  | x :: r, p, h, t, ht => by
    unfold RepAll at h
    obtain ⟨a, c0, c1, c2, c3, hp, hl, hb, h0, h1, h2, h3, hx, hr⟩ := h
    rcases List.mem_cons.1 ht with e | e
    · exact ⟨_, e ▸ hx⟩
    · exact RepAll.mem hr t e
theorem printedL_iff (l : List UInt8) : printedL l = true ↔ ∀ c ∈ l, 32 ≤ c.toNat ∧ c.toNat ≤ 126 := by
  induction l with
  | nil => simp [printedL]
  | cons c r ih => simp [printedL, ih]
theorem okA_of : ∀ {l : List T}, (∀ t ∈ l, okT t) → okA l
  | [], _ => trivial
  | x :: r, h => ⟨h x (by simp), okA_of (fun t ht => h t (by simp [ht]))⟩
theorem oddAll_zero {l : List T} : ∀ {d z : Int}, (oddAll l d z).1 = 0 → ∀ t ∈ l, ∃ z', (odd t d z').1 = 0 := by
  induction l with
  | nil => intro _ _ _ t ht; cases ht
  | cons x r ih =>
    intro d z h t ht
    rw [oddAll] at h
    by_cases hc : (odd x d z).1 ≠ 0
    · rw [if_pos hc] at h; exact absurd h hc
    · rw [if_neg hc] at h
      rcases List.mem_cons.1 ht with e | e
      · exact ⟨z, by rw [e]; omega⟩
      · exact ih h t e
theorem odd_zero {k n : Int} {s : ByteArray} {l : List T} {d z : Int} (h : (odd (.mk k n s l) d z).1 = 0) : d ≤ 40 ∧ zz k s z ≤ 4096 ∧ badRange k n = false ∧ badShape k n s l.length = false ∧ (oddAll l (d + 1) (zz k s z)).1 = 0 := by
  by_cases hd : 40 < d
  · rw [odd] at h; simp [hd] at h
  by_cases h4 : 4096 < zz k s z
  · rw [odd_104 (by omega) h4] at h; simp at h
  cases hr : badRange k n with
  | true => rw [odd_105 (by omega) (by omega) hr] at h; simp at h
  | false =>
    cases hs : badShape k n s l.length with
    | true => rw [odd_103 (by omega) (by omega) hr hs] at h; simp at h
    | false =>
      rw [odd_fine (by omega) (by omega) hr hs] at h
      exact ⟨by omega, by omega, rfl, rfl, h⟩
theorem Rep.ok : ∀ (t : T) {w : World} {lo hi : Nat} {v : Value} {d z : Int}, Rep w lo hi t v → (odd t d z).1 = 0 → okT t := by
  refine T.ind_ (fun k n s l ih => ?_)
  intro w lo hi v d z hr h
  unfold Rep at hr
  obtain ⟨p, cap, _, _, hn, _, _, _, hra⟩ := hr
  obtain ⟨_, _, hb, hs, ha⟩ := odd_zero h
  have hl : okA l := okA_of (fun t ht => by
    obtain ⟨v', hv'⟩ := hra.mem t ht
    obtain ⟨z', hz'⟩ := oddAll_zero ha t ht
    exact ih t ht hv' hz')
  simp only [badRange, badShape, Bool.or_eq_false_iff, Bool.and_eq_false_iff, decide_eq_false_iff_not, beq_eq_false_iff_ne, bne_eq_false_iff_eq, Bool.not_eq_false', ne_eq] at hb hs
  obtain ⟨⟨⟨hb1, hb2⟩, hb3⟩, hb4⟩ := hb
  obtain ⟨⟨⟨hs1, hs2⟩, hs3⟩, hs4⟩ := hs
  have he : k ≠ 2 → s = ByteArray.empty := fun hk => ByteArray.size_eq_zero_iff.1 (by rcases hs2 with h | h; exact absurd h hk; exact h)
  have hle : k ≠ 4 → l = [] := fun hk => List.eq_nil_of_length_eq_zero (by rcases hs3 with h | h; exact absurd h hk; exact h)
  have hk : k = 0 ∨ k = 1 ∨ k = 2 ∨ k = 3 ∨ k = 4 := by omega
  rw [okT]
  rcases hk with rfl | rfl | rfl | rfl | rfl
  · exact .inl ⟨rfl, hn, he (by omega), hle (by omega)⟩
  · exact .inr (.inl ⟨rfl, by omega, by omega, he (by omega), hle (by omega)⟩)
  · exact .inr (.inr (.inl ⟨rfl, by omega, hle (by omega), (printedL_iff _).1 hs4⟩))
  · exact .inr (.inr (.inr (.inl ⟨rfl, by omega, by omega, he (by omega), hle (by omega)⟩)))
  · exact .inr (.inr (.inr (.inr ⟨rfl, by omega, he (by omega), hl⟩)))

/-- What is as it has to be, and neither too great nor too deep, is right. -/
theorem odd_of_ok : ∀ (t : T) (d z : Int), okT t → d + dp t ≤ 41 → z + sz t ≤ 4096 → (odd t d z).1 = 0 ∧ (odd t d z).2 = z + sz t := by
  refine T.ind_ (fun k n s l ih => ?_)
  intro d z h hd hz
  have hall : ∀ (l : List T), (∀ t ∈ l, ∀ (d z : Int), okT t → d + dp t ≤ 41 → z + sz t ≤ 4096 → (odd t d z).1 = 0 ∧ (odd t d z).2 = z + sz t) → ∀ (d z : Int), okA l → d + dpAll l ≤ 41 → z + szAll l ≤ 4096 → (oddAll l d z).1 = 0 ∧ (oddAll l d z).2 = z + szAll l := by
    intro l
    induction l with
    | nil => intro _ d z _ _ _; simp [oddAll, szAll]
    | cons x r ihr =>
      intro hx d z hk hd hz
      rw [okA] at hk
      have hn := szAll_nonneg r
      simp only [dpAll] at hd
      rw [szAll] at hz ⊢
      have h1 := hx x (by simp) d z hk.1 (by omega) (by omega)
      rw [oddAll, if_neg (by omega), h1.2]
      have h2 := ihr (fun t ht => hx t (by simp [ht])) d (z + sz x) hk.2 (by omega) (by omega)
      exact ⟨h2.1, by rw [h2.2]; omega⟩
  have hn := szAll_nonneg l
  have hdn := dpAll_nonneg l
  have hzz : zz k s z = z + (if k = 2 then 1 + (s.size : Int) else 1) := by unfold zz; split <;> omega
  simp only [sz] at hz
  simp only [dp] at hd
  have hdl : d ≤ 40 := by split at hd <;> omega
  rw [okT] at h
  have hr : badRange k n = false := by
    simp only [badRange, Bool.or_eq_false_iff, Bool.and_eq_false_iff, decide_eq_false_iff_not, beq_eq_false_iff_ne]
    rcases h with h | h | h | h | h <;> omega
  have hpe : printed ByteArray.empty = true := rfl
  have hs : badShape k n s l.length = false := by
    rcases h with ⟨rfl, _, rfl, rfl⟩ | ⟨rfl, _, _, rfl, rfl⟩ | ⟨rfl, rfl, rfl, h⟩ | ⟨rfl, _, _, rfl, rfl⟩ | ⟨rfl, rfl, rfl, _⟩
    · simp [badShape, hpe]
    · simp [badShape, hpe]
    · have hp : printed s = true := (printedL_iff _).2 h
      simp [badShape, hp]
    · simp [badShape, hpe]
    · simp [badShape, hpe]
  have hka : okA l := by
    rcases h with ⟨_, _, _, rfl⟩ | ⟨_, _, _, _, rfl⟩ | ⟨_, _, rfl, _⟩ | ⟨_, _, _, _, rfl⟩ | ⟨_, _, _, h⟩
    · trivial
    · trivial
    · trivial
    · trivial
    · exact h
  have hdl2 : d + 1 + dpAll l ≤ 41 := by
    rcases h with ⟨rfl, _, _, rfl⟩ | ⟨rfl, _, _, _, rfl⟩ | ⟨rfl, _, rfl, _⟩ | ⟨rfl, _, _, _, rfl⟩ | ⟨rfl, _, _, _⟩
    · simp [dpAll]; omega
    · simp [dpAll]; omega
    · simp [dpAll]; omega
    · simp [dpAll]; omega
    · simp at hd; omega
  rw [odd_fine hdl (by omega) hr hs]
  have h2 := hall l ih (d + 1) (zz k s z) hka (by omega) (by omega)
  exact ⟨h2.1, by rw [h2.2]; simp only [sz]; omega⟩

theorem nameOf_len {n : Int} (h0 : 0 ≤ n) (h1 : n ≤ 14) : (nameOf n).length ≤ 9 := by
  have h8 : ∀ i : Fin 15, (nameOf ((i : Nat) : Int)).length ≤ 9 := by decide
  exact fifteen (P := fun n => (nameOf n).length ≤ 9) h8 h0 h1
theorem esc_len2 (l : Bs) : (esc l).length ≤ 2 * l.length := by
  induction l with
  | nil => simp [esc]
  | cons c q ih => rw [esc]; split <;> simp <;> omega
theorem tx_len : ∀ (t : T), okT t → ((tx t).length : Int) ≤ 24 * sz t - 2 := by
  refine T.ind_ (fun k n s l ih => ?_)
  intro h
  have hall : ∀ (l : List T), (∀ t ∈ l, okT t → ((tx t).length : Int) ≤ 24 * sz t - 2) → okA l → ((txr l).length : Int) ≤ 24 * szAll l ∧ ((txs l).length : Int) ≤ 24 * szAll l := by
    intro l
    induction l with
    | nil => intro _ _; simp [txr, txs, szAll]
    | cons x r ihr =>
      intro hx hk
      rw [okA] at hk
      have h1 := hx x (by simp) hk.1
      have h2 := ihr (fun t ht => hx t (by simp [ht])) hk.2
      simp only [txr, txs, szAll, List.length_cons, List.length_append]
      omega
  rw [okT] at h
  have hn := szAll_nonneg l
  rcases h with ⟨rfl, h, rfl, rfl⟩ | ⟨rfl, h0, h1, rfl, rfl⟩ | ⟨rfl, rfl, rfl, h⟩ | ⟨rfl, h0, h1, rfl, rfl⟩ | ⟨rfl, rfl, rfl, h⟩
  · rw [tx0]; have := Lib.itoa_length_le n h.1 h.2; simp [sz, szAll]; omega
  · rw [tx1]; have := Lib.itoa_length_le n (by omega) (by omega); simp [sz, szAll]; omega
  · rw [tx2]; have := esc_len2 s.data.toList; simp at this; simp [sz, szAll]; omega
  · rw [tx3]; have := nameOf_len h0 h1; simp [sz, szAll]; omega
  · rw [tx4]; have := (hall l ih h).2; simp [sz]; omega

end Go.Proofs.YtlinclbodbbemaaDoor

namespace Go.Proofs.YtlinclbodbbemaaDoor
open Go.RowKit
set_option maxRecDepth 100000

theorem Tryd.cellsV : Tryd.prog.cellsOf 32 = 4 := by kernel_rfl
theorem Tryd.bytesV : Tryd.prog.bytesOf 32 = 56 := by kernel_rfl
theorem Tryd.cellsI : Tryd.prog.cellsOf 3 = 1 := by kernel_rfl
theorem Tryd.cellsL : Tryd.prog.cellsOf 2 = 1 := by kernel_rfl
theorem Tryd.cellsS : Tryd.prog.cellsOf 9 = 1 := by kernel_rfl
theorem Tryd.cellsVs : Tryd.prog.cellsOf 30 = 1 := by kernel_rfl

theorem i64_of_wf {n : Int} (h : (Lit.int .i64 n).wf = true) : I64 n := by
  unfold Lit.wf at h
  unfold I64
  have h1 : IntKind.i64.min = -9223372036854775808 := rfl
  have h2 : IntKind.i64.max = 9223372036854775807 := rfl
  simp only [Bool.and_eq_true, decide_eq_true_eq, h1, h2] at h
  exact h

section
variable {H : Type} {enc : TypeId × Value → H} {w : World} {spare : Nat → Bool} {held : Bool}

def Fit (t : TypeId) (d : DataW H) : Prop := ∀ n ∈ DataW.weights Tryd.prog t d, n ≤ reachBytes

theorem weightsAll_mem {P : Program} {e : TypeId} : ∀ {l : List (DataW H)} {d : DataW H}, d ∈ l → ∀ n ∈ DataW.weights P e d, n ∈ DataW.weightsAll P e l
  | [], _, h, _, _ => absurd h (by simp)
  | x :: r, d, h, n, hn => by
    simp only [DataW.weightsAll, List.mem_append]
    rcases List.mem_cons.1 h with rfl | h
    · exact Or.inl hn
    · exact Or.inr (weightsAll_mem h n hn)

theorem read_both : ∀ fuel : Nat,
    (∀ (cs : List Value) (x : DataW H × List MemPlace), DataW.trod enc Tryd.prog w 0 (fun _ => true) held fuel 32 cs = some x → Fit 32 x.1 → ∃ t, ∃ c0 c1 c2 c3, cs = [c0, c1, c2, c3] ∧ Rep w 0 w.heap.size t (.agg #[c0, c1, c2, c3])) ∧
    (∀ (cs : List Value) (x : DataW H × List MemPlace), DataW.trod enc Tryd.prog w 0 (fun _ => true) held fuel 30 cs = some x → Fit 30 x.1 → ∃ l p cap, cs = [.slice p (l : List T).length cap] ∧ l.length ≤ cap ∧ l.length * 56 ≤ 140737488355328 ∧ RepAll w 0 w.heap.size l p) := by
  intro fuel
  induction fuel using Nat.strongRecOn with
  | ind fuel ih =>
    refine ⟨fun cs x h hf => ?_, fun cs x h hf => ?_⟩
    · obtain ⟨xs, n, hn, hx, hlen, hxl, hg⟩ := DataW.trod_struct Tryd.underlying32 h
      rw [Tryd.cellsV] at hlen
      match cs, hlen with
      | [c0, c1, c2, c3], _ =>
        match xs, hxl with
        | [y0, y1, y2, y3], _ =>
          have g0 := hg 0 _ rfl
          have g1 := hg 1 _ rfl
          have g2 := hg 2 _ rfl
          have g3 := hg 3 _ rfl
          simp [Tryd.cellsI, Tryd.cellsL, Tryd.cellsS, Tryd.cellsVs] at g0 g1 g2 g3
          obtain ⟨k, hk, hk2, hkw⟩ := DataW.trod_int Tryd.underlying3 g0
          obtain ⟨m, hm, hm2, hmw⟩ := DataW.trod_int Tryd.underlying2 g1
          obtain ⟨s, hs, hs2, _⟩ := DataW.trod_string Tryd.underlying9 g2
          simp only [List.cons.injEq, and_true] at hk hm hs
          subst hk hm hs
          have hw : ∀ q ∈ DataW.weightsEach Tryd.prog [3, 2, 9, 30] [y0.1, y1.1, y2.1, y3.1], q ≤ reachBytes := by
            intro q hq
            refine hf q ?_
            rw [hx]
            simpa [DataW.weights, Tryd.underlying32] using hq
          have hs3 : s.size ≤ reachBytes := by
            have := hw s.data.toList.length (by rw [hs2]; simp [DataW.weightsEach, DataW.weights])
            simpa using this
          obtain ⟨l, p, cap, hc, h1, h2, h3⟩ := (ih n (by omega)).2 _ _ g3 (fun q hq => hw q (by simp only [DataW.weightsEach, List.mem_append]; exact Or.inr (Or.inr (Or.inr (Or.inl hq)))))
          simp only [List.cons.injEq, and_true] at hc
          subst hc
          have hs4 : s.size ≤ 140737488355328 := by unfold reachBytes at hs3; omega
          exact ⟨.mk k m s l, _, _, _, _, rfl, Rep.mk_ (i64_of_wf hkw) (i64_of_wf hmw) hs4 h1 h2 h3⟩
    · rcases DataW.trod_slice Tryd.underlying30 h with ⟨rfl, _⟩ | ⟨a, len, cap, elems, rest, n, hn, rfl, hx, _, hlc, _, hel, hit, hsp, _⟩
      · exact ⟨[], none, 0, rfl, Nat.le_refl _, by simp, by unfold RepAll; trivial⟩
      · obtain ⟨hrl, _⟩ := hsp rfl
        rw [Tryd.cellsV] at hit
        have hbytes : cap * 56 ≤ reachBytes := by
          have := hf ((elems.length + rest.length) * 56) (by rw [hx]; simp [DataW.weights, Tryd.underlying30, Tryd.bytesV])
          rw [hel, hrl] at this
          have e : len + (cap - len) = cap := by omega
          rw [e] at this; exact this
        have hel2 : ∀ i, i < len → ∃ t c0 c1 c2 c3, w.cell? (a.add (i * 4)) = some c0 ∧ w.cell? (a.add (i * 4 + 1)) = some c1 ∧ w.cell? (a.add (i * 4 + 2)) = some c2 ∧ w.cell? (a.add (i * 4 + 3)) = some c3 ∧ Rep w 0 w.heap.size t (.agg #[c0, c1, c2, c3]) := by
          intro i hi
          have hI := hit i hi
          have hex : elems[i]? = some (elems[i]'(by omega)) := List.getElem?_eq_getElem (by omega)
          rw [hex] at hI
          cases hcs : w.cells? 0 (a.add (i * 4)) 4 with
          | none => rw [hcs] at hI; simp at hI
          | some cs' =>
            rw [hcs] at hI
            simp only [Option.bind_some] at hI
            obtain ⟨t, c0, c1, c2, c3, hc, hr⟩ := (ih n (by omega)).1 _ _ hI (fun q hq => hf q (by
              rw [hx]
              simp only [DataW.weights, Tryd.underlying30, List.mem_cons, List.mem_append]
              exact Or.inr (Or.inl (weightsAll_mem (List.mem_map_of_mem (List.getElem_mem (by omega))) q hq))))
            obtain ⟨_, _, hat⟩ := World.cells?_some hcs
            subst hc
            refine ⟨t, c0, c1, c2, c3, ?_, ?_, ?_, ?_, hr⟩
            · have := hat 0 (by omega); rw [add_add] at this; simpa using this
            · have := hat 1 (by omega); rw [add_add] at this; simpa using this
            · have := hat 2 (by omega); rw [add_add] at this; simpa using this
            · have := hat 3 (by omega); rw [add_add] at this; simpa using this
        have hmk : ∀ (m i0 : Nat), i0 + m = len → ∃ l : List T, l.length = m ∧ RepAll w 0 w.heap.size l (some (a.add (i0 * 4))) := by
          intro m
          induction m with
          | zero => intro i0 _; exact ⟨[], rfl, by unfold RepAll; trivial⟩
          | succ m ihm =>
            intro i0 hi0
            obtain ⟨t, c0, c1, c2, c3, e0, e1, e2, e3, hr⟩ := hel2 i0 (by omega)
            obtain ⟨l, hl, hrl⟩ := ihm (i0 + 1) (by omega)
            refine ⟨t :: l, by simp [hl], ?_⟩
            unfold RepAll
            have hblk := World.block_lt_of_cell? w _ e0
            refine ⟨a.add (i0 * 4), c0, c1, c2, c3, rfl, Nat.zero_le _, hblk, e0, by rw [add_add]; exact e1, by rw [add_add]; exact e2, by rw [add_add]; exact e3, hr, ?_⟩
            rw [add_add]
            have e : i0 * 4 + 4 = (i0 + 1) * 4 := by omega
            rw [e]; exact hrl
        obtain ⟨l, hl, hrl2⟩ := hmk len 0 (by omega)
        rw [Nat.zero_mul, add_zero] at hrl2
        unfold reachBytes at hbytes
        exact ⟨l, some a, cap, by rw [hl], by omega, by omega, hrl2⟩
end

end Go.Proofs.YtlinclbodbbemaaDoor
