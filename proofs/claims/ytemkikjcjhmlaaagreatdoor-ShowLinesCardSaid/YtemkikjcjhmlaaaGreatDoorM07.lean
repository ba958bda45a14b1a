/- Contracts of val.Valid and of what it walks with; the errors stand in package-level variables. The contract of val.Valid's walk, whole. val.Valid: the error that the document asks, by the four variables that it can come from. val.Valid: the error that the document asks. The five errors that val.Valid and tree.Valid answer, where they stand. What is right is as it has to be, and its text is not long. Package tree: the values of nodes. tree.check: what is first amiss with a node, and all within it. tree.check: names; what a node has; tree.valid. -/
import Derived.Test.YtemkikjcjhmlaaaGreatDoorM04
import Derived.Deep.QuietTactic
import Derived.BigQuiet
import Derived.Test.YtemkikjcjhmlaaaGreatDoorM02
import Derived.Test.YtemkikjcjhmlaaaGreatDoorM00
import Derived.Test.YtemkikjcjhmlaaaGreatDoorM03
import Derived.Lib.ItoaLen
import Derived.Deep.RegionWith
import Derived.Deep.DeepCutAuto
namespace Go.Proofs.YtemkikjcjhmlaaaGreatDoor
open Go.RowKit

theorem below_drawn {B : Nat} {a w : World} (h : Below B a w) (n : Nat) : Below B a (w.drewN n) := h.trans ⟨rfl, rfl, rfl, Nat.le_refl _, fun _ _ => rfl⟩

set_option maxHeartbeats 400000 in
theorem isText_any (s : ByteArray) (w : World) (hs : s.size ≤ 140737488355328) :
    Calls Tryz.prog 109 #[.string s] w fun e w' => e = .returned (.bool (printed s)) ∧ w' = w := by
  go_enter Tryz.func109, Tryz.ntmps109
  go_wp2
  go_loop [6] (fun i => ∃ j : Nat, j ≤ s.size ∧ i = .int .i64 j ∧ printed s = printedL (s.data.toList.drop j)) (fun i => s.size - (intOf i).toNat)
  case atStart => exact ⟨0, Nat.zero_le _, rfl, rfl⟩
  case round =>
    obtain ⟨j, hj, rfl, hp⟩ := hrel
    have hP := Lib.hid hp; clear hp
    by_cases hlt : j < s.size
    · have hd := Lib.hid (hP.out.trans (printedL_drop s j hlt))
      go_wp2
      · have h : (s[j].toNat : Int) < 32 ∨ 126 < (s[j].toNat : Int) := by assumption
        go_ret
        refine ⟨ret_bool ?_, rfl⟩
        rw [hd.out, show (decide (32 ≤ s[j].toNat) && decide (s[j].toNat ≤ 126)) = false from by simp; omega]; rfl
      · have h : 32 ≤ (s[j].toNat : Int) ∧ (s[j].toNat : Int) ≤ 126 := by assumption
        go_round
        case rel =>
          refine ⟨j + 1, by omega, by go_num, ?_⟩
          rw [hd.out, show (decide (32 ≤ s[j].toNat) && decide (s[j].toNat ≤ 126)) = true from by simp; omega]; rfl
        case measure => simp [intOf]; omega
      · have h : (s[j].toNat : Int) < 32 := by assumption
        go_ret
        refine ⟨ret_bool ?_, rfl⟩
        rw [hd.out, show (decide (32 ≤ s[j].toNat) && decide (s[j].toNat ≤ 126)) = false from by simp; omega]; rfl
    · have hjl : j = s.size := by omega
      subst hjl
      go_wp2
      go_ret
      refine ⟨ret_bool ?_, rfl⟩
      rw [hP.out, List.drop_of_length_le (by simp), printedL]

set_option maxHeartbeats 400000 in
theorem inRange_any (k n : Int) (s : ByteArray) (c : Value) (w : World) :
    Calls Tryz.prog 105 #[.agg #[.int .i64 k, .int .i64 n, .string s, c]] w fun e w' => e = .returned (.bool (!badRange k n)) ∧ Below w.heap.size w w' := by
  by_cases h1 : k = 1
  · subst h1
    by_cases hn : -2147483648 ≤ n
    all_goals
      go_enter Tryz.func105, Tryz.ntmps105
      go_wp2
      all_goals
        go_ret
        refine ⟨ret_bool ?_, by go_grown⟩
        rw [Bool.eq_iff_iff]; simp [badRange]; omega
  by_cases h3 : k = 3
  · subst h3
    by_cases hn : 0 ≤ n
    all_goals
      go_enter Tryz.func105, Tryz.ntmps105
      go_wp2
      all_goals
        go_ret
        refine ⟨ret_bool ?_, by go_grown⟩
        rw [Bool.eq_iff_iff]; simp [badRange]; omega
  have h1' : (k == 1) = false := by simpa using h1
  have h3' : (k == 3) = false := by simpa using h3
  have hk : k = 0 ∨ k = 2 ∨ k = 4 ∨ (k < 0 ∨ 4 < k) := by omega
  rcases hk with rfl | rfl | rfl | hk
  · go_enter Tryz.func105, Tryz.ntmps105
    go_wp2
    go_ret
    exact ⟨ret_bool (by simp [badRange]), by go_grown⟩
  · go_enter Tryz.func105, Tryz.ntmps105
    go_wp2
    go_ret
    exact ⟨ret_bool (by simp [badRange]), by go_grown⟩
  · go_enter Tryz.func105, Tryz.ntmps105
    go_wp2
    go_ret
    exact ⟨ret_bool (by simp [badRange]), by go_grown⟩
  · have e0 : (k == 0) = false := by simp; omega
    have e2 : (k == 2) = false := by simp; omega
    have e4 : (k == 4) = false := by simp; omega
    have hb := Lib.hid (show badRange k n = true from by simp [badRange]; omega)
    go_enter Tryz.func105, Tryz.ntmps105
    go_wp2
    go_ret
    exact ⟨ret_bool (by rw [hb.out]; rfl), by go_grown⟩

theorem str_iff (s : ByteArray) : s.toList = [] ↔ s.size = 0 := by
  rw [ByteArray.toList_eq]
  constructor
  · intro h; simpa using congrArg List.length h
  · intro h; exact List.eq_nil_of_length_eq_zero (by simpa using h)

set_option maxHeartbeats 800000 in
theorem inShape_any (k n : Int) (s : ByteArray) (p : Option Addr) (len cap : Nat) (w : World) (hs : s.size ≤ 140737488355328) :
    Calls Tryz.prog 106 #[.agg #[.int .i64 k, .int .i64 n, .string s, .slice p len cap]] w fun e w' => e = .returned (.bool (!badShape k n s len)) ∧ Below w.heap.size w w' := by
  have hpe : printed ByteArray.empty = true := rfl
  by_cases hn : n = 0
  all_goals
    have hn0 : (n == 0) = decide (n = 0) := by simp [BEq.beq]
    by_cases h2 : k = 2
    · subst h2
      by_cases hl : len = 0
      all_goals
        have hl0 : ((len : Int) == 0) = decide (len = 0) := by rw [Bool.eq_iff_iff]; simp
        go_enter Tryz.func106, Tryz.ntmps106
        go_wp2_with (go_at_call 109; refine (isText_any _ _ hs).mono ?_; rintro e w2 ⟨rfl, rfl⟩)
        all_goals
          go_ret
          refine ⟨ret_bool ?_, by go_grown⟩
          simp_all [badShape]
    · have h2' : (k == 2) = false := by simpa using h2
      by_cases h4 : k = 4
      · subst h4
        rcases str_cases s with rfl | ⟨hS, hT⟩
        · go_enter Tryz.func106, Tryz.ntmps106
          go_wp2
          all_goals
            go_ret
            refine ⟨ret_bool ?_, by go_grown⟩
            simp_all [badShape]
        · have hs1 := Lib.hid (show (s.size != 0) = true from by simpa using hS)
          go_enter Tryz.func106, Tryz.ntmps106
          go_wp2
          all_goals
            go_ret
            refine ⟨ret_bool ?_, by go_grown⟩
            simp [badShape, hs1.out]
            try assumption
      · have h4' : (k == 4) = false := by simpa using h4
        rcases str_cases s with rfl | ⟨hS, hT⟩
        all_goals
          by_cases hl : len = 0
          all_goals
            have hl0 : ((len : Int) == 0) = decide (len = 0) := by rw [Bool.eq_iff_iff]; simp
            go_enter Tryz.func106, Tryz.ntmps106
            go_wp2
            all_goals
              go_ret
              refine ⟨ret_bool ?_, by go_grown⟩
              simp_all [badShape]

/-- The four errors that the walk can meet stand in these variables. -/
structure Errs (w : World) (eD eM eR eS : Value) : Prop where
  deep : w.cell? ⟨1, 0, none⟩ = some eD
  many : w.cell? ⟨0, 0, none⟩ = some eM
  range : w.cell? ⟨5, 0, none⟩ = some eR
  shape : w.cell? ⟨2, 0, none⟩ = some eS
/-- Beyond the variables of these four. -/
def NG : Nat := max (max 1 0) (max 5 2) + 1
theorem Errs.size {w : World} {eD eM eR eS : Value} (h : Errs w eD eM eR eS) : NG ≤ w.heap.size := by
  have h1 := World.block_lt_of_cell? w _ h.deep
  have h2 := World.block_lt_of_cell? w _ h.many
  have h3 := World.block_lt_of_cell? w _ h.range
  have h5 := World.block_lt_of_cell? w _ h.shape
  simp only at h1 h2 h3 h5
  unfold NG; omega
theorem Errs.below {w w' : World} {B : Nat} {eD eM eR eS : Value} (h : Errs w eD eM eR eS) (hb : Below B w w') (h4 : NG ≤ B) : Errs w' eD eM eR eS :=
  ⟨(hb.cell (p := ⟨1, 0, none⟩) (by show 1 < B; unfold NG at h4; omega)).trans h.deep, (hb.cell (p := ⟨0, 0, none⟩) (by show 0 < B; unfold NG at h4; omega)).trans h.many,
   (hb.cell (p := ⟨5, 0, none⟩) (by show 5 < B; unfold NG at h4; omega)).trans h.range, (hb.cell (p := ⟨2, 0, none⟩) (by show 2 < B; unfold NG at h4; omega)).trans h.shape⟩

def errOf (eD eM eR eS : Value) (c : Int) : Value := if c = 112 then eD else if c = 104 then eM else if c = 105 then eR else eS
/-- What the walk returns, by what the document's walk comes to. -/
def WalkRes (eD eM eR eS : Value) (r : Int × Int) : Value := if r.1 = 0 then .tuple #[.int .i64 r.2, .nilIface] else .tuple #[.int .i64 0, errOf eD eM eR eS r.1]
def WalkSays (eD eM eR eS : Value) (t : T) (d z : Int) (w : World) (e : Ending) (w' : World) : Prop := e = .returned (WalkRes eD eM eR eS (odd t d z)) ∧ Below w.heap.size w w'
theorem WalkSays.bad {eD eM eR eS : Value} {t : T} {d z c z' : Int} {w w' : World} {v : Value} (h : odd t d z = (c, z')) (hc : c ≠ 0) (hv : v = errOf eD eM eR eS c) (hb : Below w.heap.size w w') : WalkSays eD eM eR eS t d z w (.returned (.tuple #[.int .i64 0, v])) w' := by
  unfold WalkSays WalkRes; rw [h, if_neg hc, hv]; exact ⟨rfl, hb⟩

set_option maxHeartbeats 1000000 in
theorem walk_deep (k n : Int) (s : ByteArray) (l : List T) (p : Option Addr) (cap : Nat) (d z : Int) (w : World) (eD eM eR eS : Value) (he : Errs w eD eM eR eS) (h4 : NG ≤ w.heap.size) (hd : 40 < d) :
    Calls Tryz.prog 93 #[.agg #[.int .i64 k, .int .i64 n, .string s, .slice p l.length cap], .int .i64 d, .int .i64 z] w (WalkSays eD eM eR eS (.mk k n s l) d z w) := by
  have e0 := he.deep
  have l0 : 1 < w.heap.size := by unfold NG at h4; omega
  have hO := Lib.hid (show odd (.mk k n s l) d z = (112, z) from by rw [odd]; simp [hd])
  go_enter Tryz.func93, Tryz.ntmps93
  go_wp2
  go_quiet (fail)
  go_wp2
  go_ret2
  exact WalkSays.bad hO.out (by decide) rfl (below_drawn ((Below.refl _ _).alloc (Nat.le_refl _) _) _)

end Go.Proofs.YtemkikjcjhmlaaaGreatDoor

namespace Go.Proofs.YtemkikjcjhmlaaaGreatDoor
open Go.RowKit

theorem zz_alone (k n : Int) (s : ByteArray) (z : Int) : zz k s z = z + szAlone (.mk k n s []) := by
  by_cases hk : k = 2
  · simp [zz, szAlone, hk]; omega
  · simp [zz, szAlone, hk]
theorem szAlone_le (k n : Int) (s : ByteArray) : szAlone (.mk k n s []) ≤ 1 + s.size := by
  by_cases hk : k = 2
  · simp [szAlone, hk]
  · simp [szAlone, hk]; omega

def Ptrs (eD eM eR eS : Value) : Prop := ∀ c, ∃ a, errOf eD eM eR eS c = .iface 146 (.pointer (some a))

def WalkAt (eD eM eR eS : Value) (t : T) : Prop := ∀ (w : World) (lo hi : Nat) (v : Value) (d z : Int), Rep w lo hi t v → hi ≤ w.heap.size → Errs w eD eM eR eS → NG ≤ w.heap.size → 0 ≤ z → z ≤ 4096 → 0 ≤ d → d ≤ 1000 →
  Calls Tryz.prog 93 #[v, .int .i64 d, .int .i64 z] w (WalkSays eD eM eR eS t d z w)

set_option maxHeartbeats 2000000 in
theorem walk_all (eD eM eR eS : Value) (hP : Ptrs eD eM eR eS) : ∀ t, WalkAt eD eM eR eS t := by
  refine T.ind_ (fun k n s l ih w lo hi v d z hr hhi he h4 hz0 hz1 hd0 hd1 => ?_)
  unfold Rep at hr
  obtain ⟨p, cap, rfl, hk, hn, hs, hlc, hcap, hall⟩ := hr
  by_cases hd : 40 < d
  · exact walk_deep k n s l p cap d z w eD eM eR eS he h4 hd
  have hg0 : 1 < w.heap.size := by unfold NG at h4; omega
  have hg1 : 0 < w.heap.size := by unfold NG at h4; omega
  have hg2 : 5 < w.heap.size := by unfold NG at h4; omega
  have hg3 : 2 < w.heap.size := by unfold NG at h4; omega
  have hA := (sz_eq k n s l).1
  have hZ := Lib.hid (zz_alone k n s z)
  have hAs := szAlone_le k n s
  have H := Lib.hid ih; clear ih
  have HALL := Lib.hid hall; clear hall
  have HE := Lib.hid he
  by_cases hm : 4096 < z + szAlone (.mk k n s [])
  · have hO := Lib.hid (odd_104 (k := k) (n := n) (s := s) (l := l) (d := d) (z := z) (by omega) (by rw [hZ.out]; omega))
    clear he
    go_enter Tryz.func93, Tryz.ntmps93
    go_wp2_with (go_at_call 104; refine (sizeAlone_any _ _ _ _ _ hs).mono ?_; rintro e w2 ⟨rfl, hb2⟩; have e1 := ((HE.out.below ((Below.refl w.heap.size w).alloc (Nat.le_refl _) _) h4).below hb2 (by simp; omega)).many; have hb3 := Lib.hid (((Below.refl w.heap.size w).alloc (Nat.le_refl _) _).trans (hb2.mono (by simp))))
    go_quiet (fail)
    go_wp2
    go_ret2
    exact WalkSays.bad hO.out (by decide) rfl (below_drawn hb3.out _)
  have hzz : zz k s z ≤ 4096 := by rw [hZ.out]; omega
  cases hr : badRange k n with
  | true =>
    have hO := Lib.hid (odd_105 (k := k) (n := n) (s := s) (l := l) (d := d) (z := z) (by omega) hzz hr)
    have HR := Lib.hid hr
    clear he hr hzz
    go_enter Tryz.func93, Tryz.ntmps93
    go_wp2_with (first
      | (go_at_call 104; refine (sizeAlone_any _ _ _ _ _ hs).mono ?_; rintro e w2 ⟨rfl, hb2⟩; obtain ⟨hx0, hx1, hx2, hx3, hxf⟩ := box4_in w2 w.heap.size _ _ _ _ _ (heap_old (heap_alloc_new w _) hb2); clear hxf; have hz2 := hb2.size; rw [World.size_alloc] at hz2)
      | (go_at_call 105; refine (inRange_any _ _ _ _ _).mono ?_; rintro e w3 ⟨rfl, hb3⟩; rw [HR.out]; have hb4 := ((Below.refl w.heap.size w).alloc (Nat.le_refl _) _).trans ((hb2.mono (by simp)).trans (hb3.mono (by omega))); have e1 := (HE.out.below hb4 h4).range; have HB4 := Lib.hid hb4; clear hb4))
    go_quiet (fail)
    go_wp2
    go_ret2
    exact WalkSays.bad hO.out (by decide) rfl (below_drawn HB4.out _)
  | false =>
    have HR := Lib.hid hr
    cases hsh : badShape k n s l.length with
    | true =>
      have hO := Lib.hid (odd_103 (k := k) (n := n) (s := s) (l := l) (d := d) (z := z) (by omega) hzz hr hsh)
      have HS := Lib.hid hsh
      clear he hr hzz hsh
      go_enter Tryz.func93, Tryz.ntmps93
      go_wp2_with (first
      | (go_at_call 104; refine (sizeAlone_any _ _ _ _ _ hs).mono ?_; rintro e w2 ⟨rfl, hb2⟩; obtain ⟨hx0, hx1, hx2, hx3, hxf⟩ := box4_in w2 w.heap.size _ _ _ _ _ (heap_old (heap_alloc_new w _) hb2); clear hxf; have hz2 := hb2.size; rw [World.size_alloc] at hz2)
      | (go_at_call 105; refine (inRange_any _ _ _ _ _).mono ?_; rintro e w3 ⟨rfl, hb3⟩; rw [HR.out]; have hz3 := hb3.size; have hx0 := (hb3.cell (p := ⟨w.heap.size, 0, none⟩) hz2).trans hx0; have hx1 := (hb3.cell (p := ⟨w.heap.size, 1, none⟩) hz2).trans hx1; have hx2 := (hb3.cell (p := ⟨w.heap.size, 2, none⟩) hz2).trans hx2; have hx3 := (hb3.cell (p := ⟨w.heap.size, 3, none⟩) hz2).trans hx3)
      | (go_at_call 106; refine (inShape_any _ _ _ _ _ _ _ hs).mono ?_; rintro e w4 ⟨rfl, hb4⟩; rw [HS.out]; have hb5 := ((Below.refl w.heap.size w).alloc (Nat.le_refl _) _).trans ((hb2.mono (by simp)).trans ((hb3.mono (by omega)).trans (hb4.mono (by omega)))); have e1 := (HE.out.below hb5 h4).shape; have hz4 := hb4.size; have hx3 := (hb4.cell (p := ⟨w.heap.size, 3, none⟩) (Nat.lt_of_lt_of_le hz2 hz3)).trans hx3; have HB5 := Lib.hid hb5; clear hb5))
      go_quiet (fail)
      go_wp2
      go_ret2
      exact WalkSays.bad hO.out (by decide) rfl (below_drawn HB5.out _)
    | false =>
      have hO := Lib.hid (odd_fine (k := k) (n := n) (s := s) (l := l) (d := d) (z := z) (by omega) hzz hr hsh)
      have HS := Lib.hid hsh
      have HZ := Lib.hid hzz
      clear he hr hzz hsh
      go_enter Tryz.func93, Tryz.ntmps93
      go_wp2_with (first
      | (go_at_call 104; refine (sizeAlone_any _ _ _ _ _ hs).mono ?_; rintro e w2 ⟨rfl, hb2⟩; obtain ⟨hx0, hx1, hx2, hx3, hxf⟩ := box4_in w2 w.heap.size _ _ _ _ _ (heap_old (heap_alloc_new w _) hb2); clear hxf; have hz2 := hb2.size; rw [World.size_alloc] at hz2)
      | (go_at_call 105; refine (inRange_any _ _ _ _ _).mono ?_; rintro e w3 ⟨rfl, hb3⟩; rw [HR.out]; have hz3 := hb3.size; have hx0 := (hb3.cell (p := ⟨w.heap.size, 0, none⟩) hz2).trans hx0; have hx1 := (hb3.cell (p := ⟨w.heap.size, 1, none⟩) hz2).trans hx1; have hx2 := (hb3.cell (p := ⟨w.heap.size, 2, none⟩) hz2).trans hx2; have hx3 := (hb3.cell (p := ⟨w.heap.size, 3, none⟩) hz2).trans hx3)
      | (go_at_call 106; refine (inShape_any _ _ _ _ _ _ _ hs).mono ?_; rintro e w4 ⟨rfl, hb4⟩; rw [HS.out]; have hb5 := ((Below.refl w.heap.size w).alloc (Nat.le_refl _) _).trans ((hb2.mono (by simp)).trans ((hb3.mono (by omega)).trans (hb4.mono (by omega)))); have e1 := (HE.out.below hb5 h4).shape; have hz4 := hb4.size; have hx3 := (hb4.cell (p := ⟨w.heap.size, 3, none⟩) (Nat.lt_of_lt_of_le hz2 hz3)).trans hx3; have HB5 := Lib.hid hb5; clear hb5))
      go_slots
      go_loopw [2, 32] (fun o i wr => ∃ (j : Nat) (y : Int), j ≤ l.length ∧ i = .int .i64 j ∧ o = .int .i64 y ∧ 0 ≤ y ∧ y ≤ 4096 ∧ Hid (oddAll l (d + 1) (zz k s z) = oddAll (l.drop j) (d + 1) y) ∧ Below w.heap.size w wr) (fun _ i _ => l.length - (intOf i).toNat)
      case atStart => exact ⟨0, zz k s z, Nat.zero_le _, rfl, by rw [hZ.out], by rw [hZ.out]; omega, HZ.out, rfl, HB5.out⟩
      case round =>
        obtain ⟨j, y, hj, rfl, rfl, hy0, hy1, HO, hbr⟩ := hrel
        have hz := hbr.size
        by_cases hlt : j < l.length
        · obtain ⟨b, off, k1, n1, s1, l1, q1, cc1, rfl, _, hbhi, hli, h0, h1, h2, h3, hrep⟩ := (HALL.out.below hbr hhi).item j hlt
          have hA0 := oddAll_drop l j hlt (d + 1) y
          rw [hli] at hA0
          have hAA := Lib.hid (HO.out.trans hA0); clear hA0
          have hlj : l[j] ∈ l := List.getElem_mem hlt
          rw [hli] at hlj hrep
          have hB := Lib.hid (odd_bound (.mk k1 n1 s1 l1) (d + 1) y)
          clear hli HO
          by_cases hc : (odd (.mk k1 n1 s1 l1) (d + 1) y).1 = 0
          · have hB1 := hB.out hc
            have HW : Hid (WalkRes eD eM eR eS (odd (.mk k1 n1 s1 l1) (d + 1) y) = .tuple #[.int .i64 (odd (.mk k1 n1 s1 l1) (d + 1) y).2, .nilIface]) := by show _ = _; unfold WalkRes; rw [if_pos hc]
            have HC := Lib.hid hc; clear hc
            go_wp2_with (go_at_call 93; refine (H.out _ hlj _ lo hi _ (d + 1) y (hrep.alloc (by omega) _) (by simp; omega) (HE.out.below (hbr.alloc hz _) h4) (by simp; omega) hy0 hy1 (by omega) (by omega)).mono ?_; rintro e w6 ⟨rfl, hb6⟩; rw [HW.out])
            go_roundw
            case rel =>
              refine ⟨j + 1, _, by omega, by go_num, rfl, by omega, hB1.2, ?_, (hbr.alloc hz _).trans (hb6.mono (by simp; omega))⟩
              show _ = _
              rw [hAA.out, if_neg (by simpa using HC.out)]
            case measure => simp [intOf]; omega
          · obtain ⟨a, ha⟩ := hP (odd (.mk k1 n1 s1 l1) (d + 1) y).1
            have HW : Hid (WalkRes eD eM eR eS (odd (.mk k1 n1 s1 l1) (d + 1) y) = .tuple #[.int .i64 0, .iface 146 (.pointer (some a))]) := by show _ = _; unfold WalkRes; rw [if_neg hc, ha]
            have HA2 := Lib.hid ha
            have HC := Lib.hid hc; clear hc ha
            go_wp2_with (go_at_call 93; refine (H.out _ hlj _ lo hi _ (d + 1) y (hrep.alloc (by omega) _) (by simp; omega) (HE.out.below (hbr.alloc hz _) h4) (by simp; omega) hy0 hy1 (by omega) (by omega)).mono ?_; rintro e w6 ⟨rfl, hb6⟩; rw [HW.out])
            go_ret2
            refine WalkSays.bad (z' := (odd (.mk k1 n1 s1 l1) (d + 1) y).2) ?_ HC.out HA2.out.symm ((hbr.alloc hz _).trans (hb6.mono (by simp; omega)))
            rw [hO.out, hAA.out, if_pos HC.out]
        · have hjl : j = l.length := by omega
          subst hjl
          go_wp2
          go_ret2
          refine ⟨?_, hbr⟩
          rw [hO.out, HO.out, List.drop_length, oddAll]; rfl

end Go.Proofs.YtemkikjcjhmlaaaGreatDoor

namespace Go.Proofs.YtemkikjcjhmlaaaGreatDoor
open Go.RowKit

theorem oddAll_codes (l : List T) (h : ∀ t ∈ l, ∀ d z, (odd t d z).1 = 0 ∨ (odd t d z).1 = 103 ∨ (odd t d z).1 = 104 ∨ (odd t d z).1 = 105 ∨ (odd t d z).1 = 112) (d z : Int) :
    (oddAll l d z).1 = 0 ∨ (oddAll l d z).1 = 103 ∨ (oddAll l d z).1 = 104 ∨ (oddAll l d z).1 = 105 ∨ (oddAll l d z).1 = 112 := by
  induction l generalizing z with
  | nil => left; simp [oddAll]
  | cons x r ih =>
    rw [oddAll]
    split
    · exact h x (by simp) d z
    · exact ih (fun t ht => h t (by simp [ht])) _
theorem odd_codes : ∀ (t : T) (d z : Int), (odd t d z).1 = 0 ∨ (odd t d z).1 = 103 ∨ (odd t d z).1 = 104 ∨ (odd t d z).1 = 105 ∨ (odd t d z).1 = 112 := by
  refine T.ind_ (fun k n s l ih d z => ?_)
  by_cases hd : 40 < d
  · rw [odd]; simp [hd]
  by_cases h4 : 4096 < zz k s z
  · rw [odd_104 (by omega) h4]; simp
  cases hr : badRange k n with
  | true => rw [odd_105 (by omega) (by omega) hr]; simp
  | false =>
    cases hs : badShape k n s l.length with
    | true => rw [odd_103 (by omega) (by omega) hr hs]; simp
    | false => rw [odd_fine (by omega) (by omega) hr hs]; exact oddAll_codes l ih _ _

/-- What val.Valid answers. -/
def vRes (eD eM eR eS : Value) (t : T) : Value := if (odd t 1 0).1 = 0 then .nilIface else errOf eD eM eR eS (odd t 1 0).1

set_option maxHeartbeats 1000000 in
theorem validE_any (eD eM eR eS : Value) (hP : Ptrs eD eM eR eS) (t : T) (w : World) (lo hi : Nat) (v : Value) (hr : Rep w lo hi t v) (hhi : hi ≤ w.heap.size) (he : Errs w eD eM eR eS) :
    Calls Tryz.prog 79 #[v] w fun e w' => e = .returned (vRes eD eM eR eS t) ∧ Below w.heap.size w w' := by
  have h4 := he.size
  have HE := Lib.hid he; clear he
  obtain ⟨k, n, s, p, len, cap, rfl⟩ := rep_form hr
  obtain ⟨pc, hpc⟩ := hP (odd t 1 0).1
  have HV : Hid (∃ x y, WalkRes eD eM eR eS (odd t 1 0) = .tuple #[.int .i64 x, y] ∧ vRes eD eM eR eS t = y ∧ (y = .nilIface ∨ ∃ a, y = .iface 146 (.pointer (some a)))) := by
    unfold WalkRes vRes
    by_cases h0 : (odd t 1 0).1 = 0
    · rw [if_pos h0, if_pos h0]; exact ⟨_, _, rfl, rfl, .inl rfl⟩
    · rw [if_neg h0, if_neg h0]; exact ⟨_, _, rfl, rfl, .inr ⟨pc, hpc⟩⟩
  clear hpc
  obtain ⟨x, y, hxy, hy, hyf⟩ := HV.out
  have HXY := Lib.hid hxy
  have HY := Lib.hid hy
  clear hxy hy HV
  rcases hyf with rfl | ⟨a, rfl⟩
  all_goals
    go_enter Tryz.func79, Tryz.ntmps79
    go_wp2_with (go_at_call 93; refine (walk_all _ _ _ _ hP t _ lo hi _ 1 0 (hr.alloc hhi _) (by simp; omega) (HE.out.below ((Below.refl w.heap.size w).alloc (Nat.le_refl _) _) h4) (by simp; omega) (by omega) (by omega) (by omega) (by omega)).mono ?_; rintro e w2 ⟨rfl, hb2⟩; rw [HXY.out])
    go_ret
    exact ⟨by rw [HY.out]; rfl, ((Below.refl _ _).alloc (Nat.le_refl _) _).trans (hb2.mono (by simp))⟩

end Go.Proofs.YtemkikjcjhmlaaaGreatDoor

namespace Go.Proofs.YtemkikjcjhmlaaaGreatDoor
open Go.RowKit

/-- Which of api's errors val.Valid answers. -/
def vIdx (t : T) : Option Nat := if oddCode t = 0 then none else some (oddCode t - 101).toNat
theorem vIdx_lt (t : T) : ∀ k, vIdx t = some k → k < 17 := by
  intro k h
  unfold vIdx at h
  have hc := odd_codes t 1 0
  unfold oddCode at h
  split at h
  · cases h
  · injection h with h; omega
theorem vIdx_code (t : T) : errCode (vIdx t) = oddCode t := by
  have hc := odd_codes t 1 0
  unfold vIdx
  split
  · rename_i h; rw [h]; rfl
  · rename_i h
    unfold oddCode at *
    show (101 : Int) + (((odd t 1 0).1 - 101).toNat : Int) = _
    omega

theorem ptrs_of (ad : Nat → Addr) : Ptrs (ev (ad 11)) (ev (ad 3)) (ev (ad 4)) (ev (ad 2)) := by
  intro c
  unfold errOf
  split
  · exact ⟨_, rfl⟩
  · split
    · exact ⟨_, rfl⟩
    · split <;> exact ⟨_, rfl⟩

end Go.Proofs.YtemkikjcjhmlaaaGreatDoor

namespace Go.Proofs.YtemkikjcjhmlaaaGreatDoor
open Go.RowKit

structure Sn (w : World) (ad : Nat → Addr) : Prop where
  shape : w.cell? ⟨2, 0, none⟩ = some (ev (ad 2))
  many : w.cell? ⟨0, 0, none⟩ = some (ev (ad 3))
  range : w.cell? ⟨5, 0, none⟩ = some (ev (ad 4))
  name : w.cell? ⟨3, 0, none⟩ = some (ev (ad 5))
  deep : w.cell? ⟨1, 0, none⟩ = some (ev (ad 11))
theorem Sn.below {w w' : World} {ad : Nat → Addr} (h : Sn w ad) (hb : Below w.heap.size w w') : Sn w' ad :=
  ⟨(hb.cell (World.block_lt_of_cell? w _ h.shape)).trans h.shape, (hb.cell (World.block_lt_of_cell? w _ h.many)).trans h.many, (hb.cell (World.block_lt_of_cell? w _ h.range)).trans h.range, (hb.cell (World.block_lt_of_cell? w _ h.name)).trans h.name, (hb.cell (World.block_lt_of_cell? w _ h.deep)).trans h.deep⟩
theorem valid5_any (ad : Nat → Addr) (t : T) (w : World) (lo hi : Nat) (v : Value) (hr : Rep w lo hi t v) (hhi : hi ≤ w.heap.size) (hS : Sn w ad) :
    Calls Tryz.prog 79 #[v] w fun e w' => e = .returned (errVal ad (vIdx t)) ∧ Below w.heap.size w w' := by
  have hcd := odd_codes t 1 0
  have e : errVal ad (vIdx t) = vRes (ev (ad 11)) (ev (ad 3)) (ev (ad 4)) (ev (ad 2)) t := by
    unfold vRes vIdx oddCode
    by_cases h0 : (odd t 1 0).1 = 0
    · rw [if_pos h0, if_pos h0]; rfl
    · rw [if_neg h0, if_neg h0]
      unfold errOf
      rcases hcd with h | h | h | h | h
      · exact absurd h h0
      all_goals rw [h]; rfl
  rw [e]
  exact validE_any _ _ _ _ (ptrs_of ad) t w lo hi v hr hhi ⟨hS.deep, hS.many, hS.range, hS.shape⟩

end Go.Proofs.YtemkikjcjhmlaaaGreatDoor

namespace Go.Proofs.YtemkikjcjhmlaaaGreatDoor
open Go.RowKit

theorem RepAll.mem {w : World} {lo hi : Nat} : ∀ {l : List T} {p : Option Addr}, RepAll w lo hi l p → ∀ t ∈ l, ∃ v, Rep w lo hi t v
  | [], _, _, t, ht => by cases ht
  | x :: r, p, h, t, ht => by
    unfold RepAll at h
    obtain ⟨a, c0, c1, c2, c3, hp, hl, hb, h0, h1, h2, h3, hx, hr⟩ := h
    rcases List.mem_cons.1 ht with e | e
    · exact ⟨_, e ▸ hx⟩
    · exact RepAll.mem hr t e
theorem printedL_iff (l : List UInt8) : printedL l = true ↔ ∀ c ∈ l, 32 ≤ c.toNat ∧ c.toNat ≤ 126 := by
  induction l with
  | nil => simp [printedL]
  | cons c r ih => simp [printedL, ih]
theorem okA_of : ∀ {l : List T}, (∀ t ∈ l, okT t) → okA l
  | [], _ => trivial
  | x :: r, h => ⟨h x (by simp), okA_of (fun t ht => h t (by simp [ht]))⟩
theorem oddAll_zero {l : List T} : ∀ {d z : Int}, (oddAll l d z).1 = 0 → ∀ t ∈ l, ∃ z', (odd t d z').1 = 0 := by
  induction l with
  | nil => intro _ _ _ t ht; cases ht
  | cons x r ih =>
    intro d z h t ht
    rw [oddAll] at h
    by_cases hc : (odd x d z).1 ≠ 0
    · rw [if_pos hc] at h; exact absurd h hc
    · rw [if_neg hc] at h
      rcases List.mem_cons.1 ht with e | e
      · exact ⟨z, by rw [e]; omega⟩
      · exact ih h t e
theorem odd_zero {k n : Int} {s : ByteArray} {l : List T} {d z : Int} (h : (odd (.mk k n s l) d z).1 = 0) : d ≤ 40 ∧ zz k s z ≤ 4096 ∧ badRange k n = false ∧ badShape k n s l.length = false ∧ (oddAll l (d + 1) (zz k s z)).1 = 0 := by
  by_cases hd : 40 < d
  · rw [odd] at h; simp [hd] at h
  by_cases h4 : 4096 < zz k s z
  · rw [odd_104 (by omega) h4] at h; simp at h
  cases hr : badRange k n with
  | true => rw [odd_105 (by omega) (by omega) hr] at h; simp at h
  | false =>
    cases hs : badShape k n s l.length with
    | true => rw [odd_103 (by omega) (by omega) hr hs] at h; simp at h
    | false =>
      rw [odd_fine (by omega) (by omega) hr hs] at h
      exact ⟨by omega, by omega, rfl, rfl, h⟩
theorem Rep.ok : ∀ (t : T) {w : World} {lo hi : Nat} {v : Value} {d z : Int}, Rep w lo hi t v → (odd t d z).1 = 0 → okT t := by
  refine T.ind_ (fun k n s l ih => ?_)
  intro w lo hi v d z hr h
  unfold Rep at hr
  obtain ⟨p, cap, _, _, hn, _, _, _, hra⟩ := hr
  obtain ⟨_, _, hb, hs, ha⟩ := odd_zero h
  have hl : okA l := okA_of (fun t ht => by
    obtain ⟨v', hv'⟩ := hra.mem t ht
    obtain ⟨z', hz'⟩ := oddAll_zero ha t ht
    exact ih t ht hv' hz')
  simp only [badRange, badShape, Bool.or_eq_false_iff, Bool.and_eq_false_iff, decide_eq_false_iff_not, beq_eq_false_iff_ne, bne_eq_false_iff_eq, Bool.not_eq_false', ne_eq] at hb hs
  obtain ⟨⟨⟨hb1, hb2⟩, hb3⟩, hb4⟩ := hb
  obtain ⟨⟨⟨hs1, hs2⟩, hs3⟩, hs4⟩ := hs
  have he : k ≠ 2 → s = ByteArray.empty := fun hk => ByteArray.size_eq_zero_iff.1 (by rcases hs2 with h | h; exact absurd h hk; exact h)
  have hle : k ≠ 4 → l = [] := fun hk => List.eq_nil_of_length_eq_zero (by rcases hs3 with h | h; exact absurd h hk; exact h)
  have hk : k = 0 ∨ k = 1 ∨ k = 2 ∨ k = 3 ∨ k = 4 := by omega
  rw [okT]
  rcases hk with rfl | rfl | rfl | rfl | rfl
  · exact .inl ⟨rfl, hn, he (by omega), hle (by omega)⟩
  · exact .inr (.inl ⟨rfl, by omega, by omega, he (by omega), hle (by omega)⟩)
  · exact .inr (.inr (.inl ⟨rfl, by omega, hle (by omega), (printedL_iff _).1 hs4⟩))
  · exact .inr (.inr (.inr (.inl ⟨rfl, by omega, by omega, he (by omega), hle (by omega)⟩)))
  · exact .inr (.inr (.inr (.inr ⟨rfl, by omega, he (by omega), hl⟩)))

/-- What is as it has to be, and neither too great nor too deep, is right. -/
theorem odd_of_ok : ∀ (t : T) (d z : Int), okT t → d + dp t ≤ 41 → z + sz t ≤ 4096 → (odd t d z).1 = 0 ∧ (odd t d z).2 = z + sz t := by
  refine T.ind_ (fun k n s l ih => ?_)
  intro d z h hd hz
  have hall : ∀ (l : List T), (∀ t ∈ l, ∀ (d z : Int), okT t → d + dp t ≤ 41 → z + sz t ≤ 4096 → (odd t d z).1 = 0 ∧ (odd t d z).2 = z + sz t) → ∀ (d z : Int), okA l → d + dpAll l ≤ 41 → z + szAll l ≤ 4096 → (oddAll l d z).1 = 0 ∧ (oddAll l d z).2 = z + szAll l := by
    intro l
    induction l with
    | nil => intro _ d z _ _ _; simp [oddAll, szAll]
    | cons x r ihr =>
      intro hx d z hk hd hz
      rw [okA] at hk
      have hn := szAll_nonneg r
      simp only [dpAll] at hd
      rw [szAll] at hz ⊢
      have h1 := hx x (by simp) d z hk.1 (by omega) (by omega)
      rw [oddAll, if_neg (by omega), h1.2]
      have h2 := ihr (fun t ht => hx t (by simp [ht])) d (z + sz x) hk.2 (by omega) (by omega)
      exact ⟨h2.1, by rw [h2.2]; omega⟩
  have hn := szAll_nonneg l
  have hdn := dpAll_nonneg l
  have hzz : zz k s z = z + (if k = 2 then 1 + (s.size : Int) else 1) := by unfold zz; split <;> omega
  simp only [sz] at hz
  simp only [dp] at hd
  have hdl : d ≤ 40 := by split at hd <;> omega
  rw [okT] at h
  have hr : badRange k n = false := by
    simp only [badRange, Bool.or_eq_false_iff, Bool.and_eq_false_iff, decide_eq_false_iff_not, beq_eq_false_iff_ne]
    rcases h with h | h | h | h | h <;> omega
  have hpe : printed ByteArray.empty = true := rfl
  have hs : badShape k n s l.length = false := by
    rcases h with ⟨rfl, _, rfl, rfl⟩ | ⟨rfl, _, _, rfl, rfl⟩ | ⟨rfl, rfl, rfl, h⟩ | ⟨rfl, _, _, rfl, rfl⟩ | ⟨rfl, rfl, rfl, _⟩
    · simp [badShape, hpe]
    · simp [badShape, hpe]
    · have hp : printed s = true := (printedL_iff _).2 h
      simp [badShape, hp]
    · simp [badShape, hpe]
    · simp [badShape, hpe]
  have hka : okA l := by
    rcases h with ⟨_, _, _, rfl⟩ | ⟨_, _, _, _, rfl⟩ | ⟨_, _, rfl, _⟩ | ⟨_, _, _, _, rfl⟩ | ⟨_, _, _, h⟩
    · trivial
    · trivial
    · trivial
    · trivial
    · exact h
  have hdl2 : d + 1 + dpAll l ≤ 41 := by
    rcases h with ⟨rfl, _, _, rfl⟩ | ⟨rfl, _, _, _, rfl⟩ | ⟨rfl, _, rfl, _⟩ | ⟨rfl, _, _, _, rfl⟩ | ⟨rfl, _, _, _⟩
    · simp [dpAll]; omega
    · simp [dpAll]; omega
    · simp [dpAll]; omega
    · simp [dpAll]; omega
    · simp at hd; omega
  rw [odd_fine hdl (by omega) hr hs]
  have h2 := hall l ih (d + 1) (zz k s z) hka (by omega) (by omega)
  exact ⟨h2.1, by rw [h2.2]; simp only [sz]; omega⟩

theorem nameOf_len {n : Int} (h0 : 0 ≤ n) (h1 : n ≤ 14) : (nameOf n).length ≤ 9 := by
  have h8 : ∀ i : Fin 15, (nameOf ((i : Nat) : Int)).length ≤ 9 := by decide
  exact fifteen (P := fun n => (nameOf n).length ≤ 9) h8 h0 h1
theorem esc_len2 (l : Bs) : (esc l).length ≤ 2 * l.length := by
  induction l with
  | nil => simp [esc]
  | cons c q ih => rw [esc]; split <;> simp <;> omega
theorem tx_len : ∀ (t : T), okT t → ((tx t).length : Int) ≤ 24 * sz t - 2 := by
  refine T.ind_ (fun k n s l ih => ?_)
  intro h
  have hall : ∀ (l : List T), (∀ t ∈ l, okT t → ((tx t).length : Int) ≤ 24 * sz t - 2) → okA l → ((txr l).length : Int) ≤ 24 * szAll l ∧ ((txs l).length : Int) ≤ 24 * szAll l := by
    intro l
    induction l with
    | nil => intro _ _; simp [txr, txs, szAll]
    | cons x r ihr =>
      intro hx hk
      rw [okA] at hk
      have h1 := hx x (by simp) hk.1
      have h2 := ihr (fun t ht => hx t (by simp [ht])) hk.2
      simp only [txr, txs, szAll, List.length_cons, List.length_append]
      omega
  rw [okT] at h
  have hn := szAll_nonneg l
  rcases h with ⟨rfl, h, rfl, rfl⟩ | ⟨rfl, h0, h1, rfl, rfl⟩ | ⟨rfl, rfl, rfl, h⟩ | ⟨rfl, h0, h1, rfl, rfl⟩ | ⟨rfl, rfl, rfl, h⟩
  · rw [tx0]; have := Lib.itoa_length_le n h.1 h.2; simp [sz, szAll]; omega
  · rw [tx1]; have := Lib.itoa_length_le n (by omega) (by omega); simp [sz, szAll]; omega
  · rw [tx2]; have := esc_len2 s.data.toList; simp at this; simp [sz, szAll]; omega
  · rw [tx3]; have := nameOf_len h0 h1; simp [sz, szAll]; omega
  · rw [tx4]; have := (hall l ih h).2; simp [sz]; omega

end Go.Proofs.YtemkikjcjhmlaaaGreatDoor

namespace Go.Proofs.YtemkikjcjhmlaaaGreatDoor
open Go.RowKit
set_option maxRecDepth 100000

/-- V is as a node of this op has to have it. -/
def rightV (o : Int) (v : T) : Bool := if o = 1 then (if v.k = 4 ∨ (v.k = 0 ∧ v.n = -9223372036854775808) then false else rightB v) else emptyV v

set_option maxHeartbeats 1000000 in
theorem equalNone_any (q : Option Addr) (ql qc : Nat) (f : Value) (w : World) :
    Calls Tryz.prog 92 #[.slice q ql qc, .slice none 0 0, f] w fun e w' => e = .returned (.bool (ql == 0)) ∧ w' = w := by
  by_cases h : ql = 0
  · subst h
    go_enter Tryz.func92, Tryz.ntmps92
    go_wp2
    go_loop [17] (fun i => i = .int .i64 0) (fun _ => 0)
    case atStart => rfl
    case round =>
      subst hrel
      go_wp2
      go_ret
      exact ⟨rfl, rfl⟩
  · have h1 : ((ql : Int) != 0) = true := by simpa using h
    have h2 : ¬ (ql : Int) = 0 := by omega
    have HM := Lib.hid (show (ql == 0) = false from by simpa using h)
    go_enter Tryz.func92, Tryz.ntmps92
    go_wp2
    go_ret
    exact ⟨by rw [HM.out]; rfl, rfl⟩

set_option maxHeartbeats 1000000 in
theorem sameNone_any (v : T) (k m : Int) (z : ByteArray) (q : Option Addr) (ql qc : Nat) (hk : v.k = k) (hm : v.n = m) (hz : v.s = z) (hl : v.l.length = ql) (w : World) :
    Calls Tryz.prog 78 #[.agg #[.int .i64 k, .int .i64 m, .string z, .slice q ql qc], .agg #[.int .i64 0, .int .i64 0, .string ⟨#[]⟩, .slice none 0 0]] w fun e w' => e = .returned (.bool (emptyV v)) ∧ Below w.heap.size w w' := by
  have HE := Lib.hid (show emptyV v = ((k == 0) && (m == 0) && (z.size == 0) && (ql == 0)) from (by unfold emptyV; rw [hk, hm, hz, hl]))
  have HB := Lib.hid (((Below.refl w.heap.size w).alloc (Nat.le_refl _) (.cells #[.int .i64 k, .int .i64 m, .string z, .slice q ql qc] 31)).alloc (by simp) (.cells #[.int .i64 0, .int .i64 0, .string ⟨#[]⟩, .slice none 0 0] 31))
  clear hk hm hz hl
  have hzl : z.data.toList.length = z.size := by simp
  go_enter Tryz.func78, Tryz.ntmps78
  rcases hk : (k == 0)
  · have HM := Lib.hid (show emptyV v = false from (by rw [HE.out, hk]; simp))
    go_wp2
    go_ret
    exact ⟨by rw [HM.out]; rfl, HB.out⟩
  rcases hm : (m == 0)
  · have HM := Lib.hid (show emptyV v = false from (by rw [HE.out, hm]; simp))
    go_wp2
    go_ret
    exact ⟨by rw [HM.out]; rfl, HB.out⟩
  by_cases hz : z.size = 0
  · have hz2 : z.toList.isEmpty = true := by
      rw [Go.ByteArray.toList_eq, List.eq_nil_of_length_eq_zero (by omega : z.data.toList.length = 0)]; rfl
    have HM := Lib.hid (show emptyV v = (ql == 0) from (by rw [HE.out, hk, hm, hz]; simp))
    clear hz
    go_wp2_with (go_at_call 92; refine (equalNone_any _ _ _ _ _).mono ?_; rintro e w2 ⟨rfl, rfl⟩)
    go_ret
    exact ⟨by rw [HM.out]; rfl, HB.out⟩
  · have hz2 : z.toList.isEmpty = false := by
      rw [Go.ByteArray.toList_eq]
      cases hl : z.data.toList with
      | nil => rw [hl] at hzl; simp at hzl; omega
      | cons c r => rfl
    have HM := Lib.hid (show emptyV v = false from (by rw [HE.out]; simp [hz]))
    go_wp2
    go_ret
    exact ⟨by rw [HM.out]; rfl, HB.out⟩

set_option maxHeartbeats 1000000 in
theorem hasRight_any (ad : Nat → Addr) (o n : Int) (s : ByteArray) (v : T) (l : List Nd) (x : Value) (w : World) (lo hi : Nat) (hr : NRep w lo hi (.mk o n s v l) x) (hhi : hi ≤ w.heap.size) (hS : Sn w ad) :
    Calls Tryz.prog 53 #[x] w fun e w' => e = .returned (.bool (rightV o v)) ∧ Below w.heap.size w w' := by
  obtain ⟨k, m, z, q, ql, qc, p, cap, rfl, _, _, _, hrv, _⟩ := hr.open
  obtain ⟨e1, e2, e3, e4⟩ := rep_open hrv
  have HB := Lib.hid (((Below.refl w.heap.size w).alloc (Nat.le_refl _) (.cells #[.int .i64 o, .int .i64 n, .string s, .int .i64 k, .int .i64 m, .string z, .slice q ql qc, .slice p l.length cap] 33)).alloc (by simp) (.cells #[.int .i64 k, .int .i64 m, .string z, .slice q ql qc] 31))
  have HV := Lib.hid (fun W (hb : Below w.heap.size w W) => valid5_any ad v W lo hi _ (hrv.below hb hhi) (by have := hb.size; omega) (hS.below hb))
  have HSN := Lib.hid (fun W => sameNone_any v k m z q ql qc e1 e2 e3 e4 W)
  clear hr hrv hS
  go_enter Tryz.func53, Tryz.ntmps53
  rcases ho : (o == 1)
  · have ho1 : ¬ o = 1 := by simpa using ho
    have hob : (o != 1) = true := by simpa using ho1
    have HM := Lib.hid (show rightV o v = emptyV v from (by unfold rightV; rw [if_neg ho1]))
    clear ho1
    go_wp2_with (go_at_call 78; refine (HSN.out _).mono ?_; rintro e w2 ⟨rfl, hb2⟩)
    go_ret
    exact ⟨by rw [HM.out]; rfl, HB.out.trans (hb2.mono HB.out.size)⟩
  have ho1 : o = 1 := by simpa using ho
  have hob : (o != 1) = false := by rw [ho1]; rfl
  have HO := Lib.hid ho1
  clear ho1 ho
  rcases hk4 : (k == 4)
  · have hk4' : ¬ v.k = 4 := by rw [e1]; simpa using hk4
    have HVI := Lib.hid (fun h : ¬ (v.k = 0 ∧ v.n = -9223372036854775808) => show rightV o v = rightB v from (by unfold rightV; rw [if_pos HO.out, if_neg (by rintro (h1 | h1); exact hk4' h1; exact h h1)]))
    have HR := Lib.hid (show (vIdx v = none ↔ rightB v = true) from (by
      have := vIdx_code v
      unfold rightB
      cases hx : vIdx v with
      | none => rw [hx] at this; simp [errCode] at this; simp [← this]
      | some k => rw [hx] at this; have h2 := vIdx_lt v k hx; simp [errCode] at this; simp; omega))
    have fin : ∀ w2, Below w.heap.size w w2 → Hid (Calls Tryz.prog 79 #[.agg #[.int .i64 k, .int .i64 m, .string z, .slice q ql qc]] w2 fun e w' => e = .returned (errVal ad (vIdx v)) ∧ Below w2.heap.size w2 w') := fun w2 hb => Lib.hid (HV.out w2 hb)
    have fin2 := Lib.hid (fin _ HB.out)
    clear fin hk4' HV
    rcases hk0 : (k == 0)
    · have HM := Lib.hid (HVI.out (by rw [e1]; rintro ⟨h1, _⟩; rw [h1] at hk0; simp at hk0))
      cases hvi : vIdx v with
      | none =>
        rw [hvi] at fin2
        have HF := Lib.hid (show rightV o v = true from (by rw [HM.out]; exact HR.out.1 hvi))
        clear hvi e1 e2 e3 e4
        go_wp2_with (go_at_call 79; refine fin2.out.out.mono ?_; rintro e w2 ⟨rfl, hb2⟩; unfold errVal)
        go_ret
        exact ⟨by rw [HF.out]; rfl, HB.out.trans (hb2.mono HB.out.size)⟩
      | some j =>
        rw [hvi] at fin2
        have HF := Lib.hid (show rightV o v = false from (by rw [HM.out]; cases h : rightB v; rfl; rw [HR.out.2 h] at hvi; cases hvi))
        clear hvi e1 e2 e3 e4
        go_wp2_with (go_at_call 79; refine fin2.out.out.mono ?_; rintro e w2 ⟨rfl, hb2⟩; unfold errVal ev)
        go_ret
        exact ⟨by rw [HF.out]; rfl, HB.out.trans (hb2.mono HB.out.size)⟩
    · rcases hmm : (m == -9223372036854775808)
      · have HM := Lib.hid (HVI.out (by rw [e2]; rintro ⟨_, h1⟩; rw [h1] at hmm; simp at hmm))
        cases hvi : vIdx v with
        | none =>
          rw [hvi] at fin2
          have HF := Lib.hid (show rightV o v = true from (by rw [HM.out]; exact HR.out.1 hvi))
          clear hvi e1 e2 e3 e4
          go_wp2_with (go_at_call 79; refine fin2.out.out.mono ?_; rintro e w2 ⟨rfl, hb2⟩; unfold errVal)
          go_ret
          exact ⟨by rw [HF.out]; rfl, HB.out.trans (hb2.mono HB.out.size)⟩
        | some j =>
          rw [hvi] at fin2
          have HF := Lib.hid (show rightV o v = false from (by rw [HM.out]; cases h : rightB v; rfl; rw [HR.out.2 h] at hvi; cases hvi))
          clear hvi e1 e2 e3 e4
          go_wp2_with (go_at_call 79; refine fin2.out.out.mono ?_; rintro e w2 ⟨rfl, hb2⟩; unfold errVal ev)
          go_ret
          exact ⟨by rw [HF.out]; rfl, HB.out.trans (hb2.mono HB.out.size)⟩
      · have HF := Lib.hid (show rightV o v = false from (by unfold rightV; rw [if_pos HO.out, if_pos (.inr ⟨by rw [e1]; simpa using hk0, by rw [e2]; simpa using hmm⟩)]))
        clear e1 e2 e3 e4
        go_wp2
        go_ret
        exact ⟨by rw [HF.out]; rfl, HB.out⟩
  · have HF := Lib.hid (show rightV o v = false from (by unfold rightV; rw [if_pos HO.out, if_pos (.inl (by rw [e1]; simpa using hk4))]))
    clear e1 e2 e3 e4
    go_wp2
    go_ret
    exact ⟨by rw [HF.out]; rfl, HB.out⟩
end Go.Proofs.YtemkikjcjhmlaaaGreatDoor

namespace Go.Proofs.YtemkikjcjhmlaaaGreatDoor
open Go.RowKit
set_option maxRecDepth 100000

def shapeBad (o at_ : Int) (lp : Bool) (s : ByteArray) (v : T) (len : Nat) : Bool := !mayStandB o at_ lp || !enoughB o len || !rightV o v || (!(s.size == 0) && !isNamedB o)
def nameBad (o : Int) (s : ByteArray) : Bool := isNamedB o && !isNameB s && !(o == 50 && s.size == 0)
mutual
/-- The first fault: its line, and which error. -/
def ckN : Nd → Int → Bool → Option (Int × Nat)
  | .mk o n s v l, at_, lp => if shapeBad o at_ lp s v l.length then some (n, 2) else if nameBad o s then some (n, 5) else ckL l 0 o at_ (loopIn o lp) ((l.length : Int) - 1)
def ckL : List Nd → Nat → Int → Int → Bool → Int → Option (Int × Nat)
  | [], _, _, _, _, _ => none
  | t :: r, i, o, at_, lp, last => match ckN t (placeInN o at_ i last) lp with
    | some f => some f
    | none => ckL r (i + 1) o at_ lp last
end

/-- What a call answers of a fault with a line. -/
def CkPost (ad : Nat → Addr) (r : Option (Int × Nat)) (w : World) (e : Ending) (w' : World) : Prop :=
  Below w.heap.size w w' ∧ match r with
    | none => e = .returned .nilIface
    | some (n, k) => ∃ bk, e = .returned (.iface 86 (.pointer (some ⟨bk, 0, none⟩))) ∧ w.heap.size ≤ bk ∧ w'.heap[bk]? = some (.cells #[.int .i64 n, ev (ad k)] 88 (0, 0))

theorem shape_var {w : World} {ad : Nat → Addr} (h : Sn w ad) : w.cell? ⟨2, 0, none⟩ = some (.iface 146 (.pointer (some (ad 2)))) := h.shape
theorem name_var {w : World} {ad : Nat → Addr} (h : Sn w ad) : w.cell? ⟨3, 0, none⟩ = some (.iface 146 (.pointer (some (ad 5)))) := h.name
theorem many_var {w : World} {ad : Nat → Addr} (h : Sn w ad) : w.cell? ⟨0, 0, none⟩ = some (.iface 146 (.pointer (some (ad 3)))) := h.many
theorem deep_var {w : World} {ad : Nat → Addr} (h : Sn w ad) : w.cell? ⟨1, 0, none⟩ = some (.iface 146 (.pointer (some (ad 11)))) := h.deep

def CkOk (ad : Nat → Addr) (t : Nd) : Prop := ∀ (x : Value) (at_ : Int) (lp : Bool) (w : World) (lo hi : Nat), NRep w lo hi t x → hi ≤ w.heap.size → cnt t ≤ 1000000000 → Sn w ad →
  Calls Tryz.prog 32 #[x, .int .i64 at_, .bool lp] w (CkPost ad (ckN t at_ lp) w)

set_option maxHeartbeats 2000000 in
/-- The ways that end at the node itself: a shape that may not be. -/
theorem check_shape (ad : Nat → Addr) (o n : Int) (s : ByteArray) (v : T) (l : List Nd) (x : Value) (at_ : Int) (lp : Bool) (w : World) (lo hi : Nat) (hr : NRep w lo hi (.mk o n s v l) x) (hhi : hi ≤ w.heap.size) (hS : Sn w ad) (hbad : shapeBad o at_ lp s v l.length = true) :
    Calls Tryz.prog 32 #[x, .int .i64 at_, .bool lp] w (CkPost ad (some (n, 2)) w) := by
  obtain ⟨k, m, z, q, ql, qc, p, cap, rfl, hio, hin, hsz, hrv, hlc, hl112, hall⟩ := hr.open
  have HB := Lib.hid ((Below.refl w.heap.size w).alloc (Nat.le_refl _) (.cells #[.int .i64 o, .int .i64 n, .string s, .int .i64 k, .int .i64 m, .string z, .slice q ql qc, .slice p l.length cap] 33))
  have HX := Lib.hid (heap_alloc_new w (.cells #[.int .i64 o, .int .i64 n, .string s, .int .i64 k, .int .i64 m, .string z, .slice q ql qc, .slice p l.length cap] 33))
  have HS := Lib.hid (fun W (hb : Below w.heap.size w W) => hS.below hb)
  have HR := Lib.hid (fun W (hb : Below w.heap.size w W) => hasRight_any ad o n s v l _ W lo hi (hr.below hb hhi) (by have := hb.size; omega) (hS.below hb))
  have hsl : s.data.toList.length = s.size := by simp
  clear hr hS hrv hall hio hin
  have fin : ∀ w2, Hid (Below w.heap.size w w2) → Hid (CkPost ad (some (n, 2)) w (.returned (.iface 86 (.pointer (some ⟨w2.heap.size, 0, none⟩)))) (w2.alloc (.cells #[.int .i64 n, ev (ad 2)] 88))) := fun w2 hb => Lib.hid ⟨hb.out.alloc hb.out.size _, w2.heap.size, rfl, hb.out.size, heap_alloc_new w2 _⟩
  cases hms : mayStandB o at_ lp with
  | false =>
    have HMS := Lib.hid (fun w => by have := mayStand_any o at_ lp w; rw [hms] at this; exact this)
    have v2 := shape_var (HS.out _ HB.out)
    have FIN := fin _ HB
    clear fin hbad hms
    go_enter Tryz.func32, Tryz.ntmps32
    go_wp2_with (go_at_call 51; refine (HMS.out _).mono ?_; rintro e w2 ⟨rfl, rfl⟩)
    go_ret
    have hf := FIN.out
    rw [World.size_alloc] at hf
    exact hf
  | true =>
    have HMS := Lib.hid (fun w => by have := mayStand_any o at_ lp w; rw [hms] at this; exact this)
    cases hen : enoughB o l.length with
    | false =>
      have HEN := Lib.hid (fun w => by have := hasEnough_any o n s k m z q ql qc p l.length cap w; rw [hen] at this; exact this)
      clear hbad hms hen
      go_enter Tryz.func32, Tryz.ntmps32
      go_wp2_with (first
        | (go_at_call 51; refine (HMS.out _).mono ?_; rintro e w2 ⟨rfl, rfl⟩)
        | (go_at_call 52; refine (HEN.out _).mono ?_; rintro e w3 ⟨rfl, hb3⟩; have HB3 := Lib.hid (HB.out.trans (hb3.mono HB.out.size)); obtain ⟨x0, x1, x2, x3, x4, x5, x6, x7, _⟩ := box8_in _ _ _ _ _ _ _ _ _ _ _ (heap_old HX.out hb3); have v2 := shape_var (HS.out _ HB3.out); have FIN := fin _ HB3; clear hb3))
      go_ret
      exact FIN.out
    | true =>
      have HEN := Lib.hid (fun w => by have := hasEnough_any o n s k m z q ql qc p l.length cap w; rw [hen] at this; exact this)
      cases hri : rightV o v with
      | false =>
        have HRI := Lib.hid (fun W hb => by have := HR.out W hb; rw [hri] at this; exact this)
        clear hbad hms hen hri
        go_enter Tryz.func32, Tryz.ntmps32
        go_wp2_with (first
          | (go_at_call 51; refine (HMS.out _).mono ?_; rintro e w2 ⟨rfl, rfl⟩)
          | (go_at_call 52; refine (HEN.out _).mono ?_; rintro e w3 ⟨rfl, hb3⟩; have HB3 := Lib.hid (HB.out.trans (hb3.mono HB.out.size)); have HX3 := Lib.hid (heap_old HX.out hb3); obtain ⟨x0, x1, x2, x3, x4, x5, x6, x7, _⟩ := box8_in _ _ _ _ _ _ _ _ _ _ _ HX3.out; clear hb3)
          | (go_at_call 53; refine (HRI.out _ HB3.out).mono ?_; rintro e w4 ⟨rfl, hb4⟩; have HB4 := Lib.hid (HB3.out.trans (hb4.mono HB3.out.size)); obtain ⟨y0, y1, y2, y3, y4, y5, y6, y7, _⟩ := box8_in _ _ _ _ _ _ _ _ _ _ _ (heap_old HX3.out hb4); have v2 := shape_var (HS.out _ HB4.out); have FIN := fin _ HB4; clear hb4))
        go_ret
        exact FIN.out
      | true =>
        have HRI := Lib.hid (fun W hb => by have := HR.out W hb; rw [hri] at this; exact this)
        have hs2 : ¬ s.size = 0 ∧ isNamedB o = false := by
          unfold shapeBad at hbad; rw [hms, hen, hri] at hbad; simpa using hbad
        have HNM := Lib.hid (fun w => by have := isNamed_any o w; rw [hs2.2] at this; exact this)
        have hse : s.toList.isEmpty = false := by
          rw [Go.ByteArray.toList_eq]
          cases hl : s.data.toList with
          | nil => rw [hl] at hsl; simp at hsl; exact absurd hsl.symm hs2.1
          | cons c r => rfl
        clear hbad hms hen hri hs2 hsl
        go_enter Tryz.func32, Tryz.ntmps32
        go_wp2_with (first
          | (go_at_call 51; refine (HMS.out _).mono ?_; rintro e w2 ⟨rfl, rfl⟩)
          | (go_at_call 52; refine (HEN.out _).mono ?_; rintro e w3 ⟨rfl, hb3⟩; have HB3 := Lib.hid (HB.out.trans (hb3.mono HB.out.size)); have HX3 := Lib.hid (heap_old HX.out hb3); obtain ⟨x0, x1, x2, x3, x4, x5, x6, x7, _⟩ := box8_in _ _ _ _ _ _ _ _ _ _ _ HX3.out; clear hb3)
          | (go_at_call 53; refine (HRI.out _ HB3.out).mono ?_; rintro e w4 ⟨rfl, hb4⟩; have HB4 := Lib.hid (HB3.out.trans (hb4.mono HB3.out.size)); obtain ⟨y0, y1, y2, y3, y4, y5, y6, y7, _⟩ := box8_in _ _ _ _ _ _ _ _ _ _ _ (heap_old HX3.out hb4); have v2 := shape_var (HS.out _ HB4.out); have FIN := fin _ HB4; clear hb4)
          | (go_at_call 54; refine (HNM.out _).mono ?_; rintro e w5 ⟨rfl, rfl⟩))
        go_ret
        exact FIN.out
end Go.Proofs.YtemkikjcjhmlaaaGreatDoor

namespace Go.Proofs.YtemkikjcjhmlaaaGreatDoor
open Go.RowKit
set_option maxRecDepth 100000

theorem CkOk_name (s : ByteArray) : s.toList.isEmpty = (s.size == 0) := by
  rw [Go.ByteArray.toList_eq]
  have hl : s.data.toList.length = s.size := by simp
  cases h : s.data.toList with
  | nil => rw [h] at hl; simp at hl; simp [← hl]
  | cons c r => rw [h] at hl; simp at hl; simp [← hl]

set_option maxHeartbeats 2000000 in
/-- A name that is none. -/
theorem check_name (ad : Nat → Addr) (o n : Int) (s : ByteArray) (v : T) (l : List Nd) (x : Value) (at_ : Int) (lp : Bool) (w : World) (lo hi : Nat) (hr : NRep w lo hi (.mk o n s v l) x) (hhi : hi ≤ w.heap.size) (hS : Sn w ad) (hok : shapeBad o at_ lp s v l.length = false) (hnm : nameBad o s = true) :
    Calls Tryz.prog 32 #[x, .int .i64 at_, .bool lp] w (CkPost ad (some (n, 5)) w) := by
  obtain ⟨k, m, z, q, ql, qc, p, cap, rfl, hio, hin, hsz, hrv, hlc, hl112, hall⟩ := hr.open
  have HB := Lib.hid ((Below.refl w.heap.size w).alloc (Nat.le_refl _) (.cells #[.int .i64 o, .int .i64 n, .string s, .int .i64 k, .int .i64 m, .string z, .slice q ql qc, .slice p l.length cap] 33))
  have HX := Lib.hid (heap_alloc_new w (.cells #[.int .i64 o, .int .i64 n, .string s, .int .i64 k, .int .i64 m, .string z, .slice q ql qc, .slice p l.length cap] 33))
  have HS := Lib.hid (fun W (hb : Below w.heap.size w W) => hS.below hb)
  have fin : ∀ w2, Hid (Below w.heap.size w w2) → Hid (CkPost ad (some (n, 5)) w (.returned (.iface 86 (.pointer (some ⟨w2.heap.size, 0, none⟩)))) (w2.alloc (.cells #[.int .i64 n, ev (ad 5)] 88))) := fun w2 hb => Lib.hid ⟨hb.out.alloc hb.out.size _, w2.heap.size, rfl, hb.out.size, heap_alloc_new w2 _⟩
  unfold shapeBad at hok
  simp only [Bool.or_eq_false_iff, Bool.not_eq_false', Bool.and_eq_false_iff] at hok
  obtain ⟨⟨⟨hms, hen⟩, hri⟩, hsn⟩ := hok
  unfold nameBad at hnm
  simp only [Bool.and_eq_true, Bool.not_eq_true', Bool.and_eq_false_iff] at hnm
  obtain ⟨⟨hnd, hin2⟩, hex⟩ := hnm
  have HMS := Lib.hid (fun w => by have := mayStand_any o at_ lp w; rw [hms] at this; exact this)
  have HEN := Lib.hid (fun w => by have := hasEnough_any o n s k m z q ql qc p l.length cap w; rw [hen] at this; exact this)
  have HRI := Lib.hid (fun W (hb : Below w.heap.size w W) => by
    have := hasRight_any ad o n s v l _ W lo hi (hr.below hb hhi) (by have := hb.size; omega) (hS.below hb)
    rw [hri] at this; exact this)
  have HND := Lib.hid (fun w => by have := isNamed_any o w; rw [hnd] at this; exact this)
  have HIN := Lib.hid (fun w => by have := isName_any s hsz w; rw [hin2] at this; exact this)
  have hse := CkOk_name s
  clear hr hS hrv hall hio hin hms hen hri hsn hnd hin2
  rcases hs0 : (s.size == 0)
  · rw [hs0] at hse
    clear hex
    rcases ho50 : (o == 50)
    · go_enter Tryz.func32, Tryz.ntmps32
      go_wp2_with (first
        | (go_at_call 51; refine (HMS.out _).mono ?_; rintro e w2 ⟨rfl, rfl⟩)
        | (go_at_call 52; refine (HEN.out _).mono ?_; rintro e w3 ⟨rfl, hb3⟩; have HB3 := Lib.hid (HB.out.trans (hb3.mono HB.out.size)); have HX3 := Lib.hid (heap_old HX.out hb3); obtain ⟨x0, x1, x2, x3, x4, x5, x6, x7, _⟩ := box8_in _ _ _ _ _ _ _ _ _ _ _ HX3.out; clear hb3)
        | (go_at_call 53; refine (HRI.out _ HB3.out).mono ?_; rintro e w4 ⟨rfl, hb4⟩; have HB4 := Lib.hid (HB3.out.trans (hb4.mono HB3.out.size)); obtain ⟨y0, y1, y2, y3, y4, y5, y6, y7, _⟩ := box8_in _ _ _ _ _ _ _ _ _ _ _ (heap_old HX3.out hb4); have v2 := name_var (HS.out _ HB4.out); have FIN := fin _ HB4; clear hb4)
        | (go_at_call 54; refine (HND.out _).mono ?_; rintro e w5 ⟨rfl, rfl⟩)
        | (go_at_call 55; refine (HIN.out _).mono ?_; rintro e w5 ⟨rfl, rfl⟩))
      go_ret
      exact FIN.out
    · go_enter Tryz.func32, Tryz.ntmps32
      go_wp2_with (first
        | (go_at_call 51; refine (HMS.out _).mono ?_; rintro e w2 ⟨rfl, rfl⟩)
        | (go_at_call 52; refine (HEN.out _).mono ?_; rintro e w3 ⟨rfl, hb3⟩; have HB3 := Lib.hid (HB.out.trans (hb3.mono HB.out.size)); have HX3 := Lib.hid (heap_old HX.out hb3); obtain ⟨x0, x1, x2, x3, x4, x5, x6, x7, _⟩ := box8_in _ _ _ _ _ _ _ _ _ _ _ HX3.out; clear hb3)
        | (go_at_call 53; refine (HRI.out _ HB3.out).mono ?_; rintro e w4 ⟨rfl, hb4⟩; have HB4 := Lib.hid (HB3.out.trans (hb4.mono HB3.out.size)); obtain ⟨y0, y1, y2, y3, y4, y5, y6, y7, _⟩ := box8_in _ _ _ _ _ _ _ _ _ _ _ (heap_old HX3.out hb4); have v2 := name_var (HS.out _ HB4.out); have FIN := fin _ HB4; clear hb4)
        | (go_at_call 54; refine (HND.out _).mono ?_; rintro e w5 ⟨rfl, rfl⟩)
        | (go_at_call 55; refine (HIN.out _).mono ?_; rintro e w5 ⟨rfl, rfl⟩))
      go_ret
      exact FIN.out
  · have ho50 : (o == 50) = false := by rcases hex with h | h; exact h; rw [hs0] at h; cases h
    rw [hs0] at hse
    clear hex
    go_enter Tryz.func32, Tryz.ntmps32
    go_wp2_with (first
      | (go_at_call 51; refine (HMS.out _).mono ?_; rintro e w2 ⟨rfl, rfl⟩)
      | (go_at_call 52; refine (HEN.out _).mono ?_; rintro e w3 ⟨rfl, hb3⟩; have HB3 := Lib.hid (HB.out.trans (hb3.mono HB.out.size)); have HX3 := Lib.hid (heap_old HX.out hb3); obtain ⟨x0, x1, x2, x3, x4, x5, x6, x7, _⟩ := box8_in _ _ _ _ _ _ _ _ _ _ _ HX3.out; clear hb3)
      | (go_at_call 53; refine (HRI.out _ HB3.out).mono ?_; rintro e w4 ⟨rfl, hb4⟩; have HB4 := Lib.hid (HB3.out.trans (hb4.mono HB3.out.size)); obtain ⟨y0, y1, y2, y3, y4, y5, y6, y7, _⟩ := box8_in _ _ _ _ _ _ _ _ _ _ _ (heap_old HX3.out hb4); have v2 := name_var (HS.out _ HB4.out); have FIN := fin _ HB4; clear hb4)
      | (go_at_call 54; refine (HND.out _).mono ?_; rintro e w5 ⟨rfl, rfl⟩)
      | (go_at_call 55; refine (HIN.out _).mono ?_; rintro e w5 ⟨rfl, rfl⟩))
    go_ret
    exact FIN.out

/-- What the loop finds: nothing below is turned, the node's own box stands. -/
structure CkLoop (w : World) (g : Nat) (bx : Obj) (wr : World) : Prop where
  bel : Below w.heap.size w wr
  box : wr.heap[g]? = some bx
theorem loop_cases (o : Int) (lp : Bool) : ((o == 42) = true ∧ (o == 43) = false ∧ (o == 44) = false ∧ (o == 48) = false ∧ loopIn o lp = true) ∨ ((o == 42) = false ∧ (o == 43) = true ∧ (o == 44) = false ∧ (o == 48) = false ∧ loopIn o lp = true) ∨
    ((o == 42) = false ∧ (o == 43) = false ∧ (o == 44) = true ∧ (o == 48) = false ∧ loopIn o lp = true) ∨ ((o == 42) = false ∧ (o == 43) = false ∧ (o == 44) = false ∧ (o == 48) = true ∧ loopIn o lp = false) ∨
    ((o == 42) = false ∧ (o == 43) = false ∧ (o == 44) = false ∧ (o == 48) = false ∧ loopIn o lp = lp) := by
  unfold loopIn
  by_cases h1 : o = 42
  · subst h1; simp
  by_cases h2 : o = 43
  · subst h2; simp
  by_cases h3 : o = 44
  · subst h3; simp
  by_cases h4 : o = 48
  · subst h4; simp
  simp [h1, h2, h3, h4]
theorem ckL_drop (l : List Nd) (j : Nat) (h : j < l.length) (o at_ : Int) (lp : Bool) (last : Int) : ckL (l.drop j) j o at_ lp last = match ckN l[j] (placeInN o at_ j last) lp with
    | some f => some f
    | none => ckL (l.drop (j + 1)) (j + 1) o at_ lp last := by
  first
    | (rw [List.drop_eq_getElem_cons h, ckL]; done)
    | (rw [List.drop_eq_getElem_cons h, ckL]; cases ckN l[j] (placeInN o at_ j last) lp <;> rfl)

theorem fine_ways {o : Int} {s : ByteArray} {lp : Bool} (hsn : (s.size == 0) = true ∨ isNamedB o = true) (hnm : (isNamedB o && !isNameB s && !((o == 50) && (s.size == 0))) = false) :
    (isNamedB o = false ∧ (s.size == 0) = true ∧ (o == 42) = false ∧ (o == 43) = false ∧ (((o == 44) = true ∧ (o == 48) = false ∧ loopIn o lp = true) ∨ ((o == 44) = false ∧ (o == 48) = true ∧ loopIn o lp = false) ∨ ((o == 44) = false ∧ (o == 48) = false ∧ loopIn o lp = lp))) ∨
    (isNamedB o = true ∧ isNameB s = true ∧ (s.size == 0) = false ∧ (o == 44) = false ∧ (o == 48) = false ∧ (((o == 42) = true ∧ (o == 43) = false ∧ loopIn o lp = true) ∨ ((o == 42) = false ∧ (o == 43) = true ∧ loopIn o lp = true) ∨ ((o == 42) = false ∧ (o == 43) = false ∧ loopIn o lp = lp))) ∨
    (isNamedB o = true ∧ isNameB s = false ∧ (o == 50) = true ∧ (s.size == 0) = true ∧ (o == 42) = false ∧ (o == 43) = false ∧ (o == 44) = false ∧ (o == 48) = false ∧ loopIn o lp = lp) := by
  have he : isNameB s = true → (s.size == 0) = false := fun h => by
    cases hz : (s.size == 0) with
    | false => rfl
    | true =>
      have hl : s.data.toList.length = s.size := by simp
      have : s.data.toList = [] := List.eq_nil_of_length_eq_zero (by rw [hl]; simpa using hz)
      unfold isNameB at h; rw [this] at h; cases h
  have hl := loop_cases o lp
  by_cases h42 : o = 42
  · subst h42
    have hn : isNamedB 42 = true := rfl
    right; left
    have h1 : isNameB s = true := by
      cases h : isNameB s with
      | true => rfl
      | false => rw [hn, h] at hnm; simp at hnm
    exact ⟨rfl, h1, he h1, rfl, rfl, .inl ⟨rfl, rfl, rfl⟩⟩
  by_cases h43 : o = 43
  · subst h43
    have hn : isNamedB 43 = true := rfl
    right; left
    have h1 : isNameB s = true := by
      cases h : isNameB s with
      | true => rfl
      | false => rw [hn, h] at hnm; simp at hnm
    exact ⟨rfl, h1, he h1, rfl, rfl, .inr (.inl ⟨rfl, rfl, rfl⟩)⟩
  by_cases h44 : o = 44
  · subst h44
    left
    rcases hsn with h | h
    · exact ⟨rfl, h, rfl, rfl, .inl ⟨rfl, rfl, rfl⟩⟩
    · cases h
  by_cases h48 : o = 48
  · subst h48
    left
    rcases hsn with h | h
    · exact ⟨rfl, h, rfl, rfl, .inr (.inl ⟨rfl, rfl, rfl⟩)⟩
    · cases h
  have c42 : (o == 42) = false := by simpa using h42
  have c43 : (o == 43) = false := by simpa using h43
  have c44 : (o == 44) = false := by simpa using h44
  have c48 : (o == 48) = false := by simpa using h48
  have hlp : loopIn o lp = lp := by unfold loopIn; rw [if_neg (by omega), if_neg h48]
  cases hn : isNamedB o with
  | false =>
    left
    rcases hsn with h | h
    · exact ⟨rfl, h, c42, c43, .inr (.inr ⟨c44, c48, hlp⟩)⟩
    · rw [hn] at h; cases h
  | true =>
    right
    cases h : isNameB s with
    | true => left; exact ⟨rfl, rfl, he h, c44, c48, .inr (.inr ⟨c42, c43, hlp⟩)⟩
    | false =>
      right
      rw [hn, h] at hnm
      simp only [Bool.not_false, Bool.and_self, Bool.true_and, Bool.not_eq_false', Bool.and_eq_true] at hnm
      exact ⟨rfl, rfl, hnm.1, hnm.2, c42, c43, c44, c48, hlp⟩
end Go.Proofs.YtemkikjcjhmlaaaGreatDoor
