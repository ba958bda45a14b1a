/- The document's reader of texts: its numbers; what its functions leave. -/
import Derived.Test.YtcinhndidkllbaaDoorRefNum
import Derived.Test.YtcinhndidkllbaaDoorNumb
import Derived.WalkSpells
import Derived.BigQuiet
import Derived.Deep.QuietTactic
import Derived.Test.YtcinhndidkllbaaDoorSing
namespace Go.Proofs.YtcinhndidkllbaaDoor
open Go.RowKit
set_option maxRecDepth 100000

/-- The document's reader stands in block g, at p. -/
def RrIs (w : World) (g : Nat) (s : ByteArray) (p : Nat) : Prop := w.heap[g]? = some (.cells #[.string s, .int .i64 p] 69 (0, 0))
theorem RrIs.lt {w : World} {g : Nat} {s : ByteArray} {p : Nat} (h : RrIs w g s p) : g < w.heap.size := by
  unfold RrIs at h
  rcases Nat.lt_or_ge g w.heap.size with h1 | h1
  · exact h1
  · rw [Array.getElem?_eq_none h1] at h; cases h
theorem RrIs.open {w : World} {g : Nat} {s : ByteArray} {p : Nat} (h : RrIs w g s p) : w.cell? ⟨g, 0, none⟩ = some (.string s) ∧ w.cell? ⟨g, 1, none⟩ = some (.int .i64 p) ∧ w.frozen? ⟨g, 1, none⟩ = false ∧ g < w.heap.size := by
  have hl := h.lt
  unfold RrIs at h
  exact ⟨(cell_of_row _ _ 0 _ _ _ h).trans rfl, (cell_of_row _ _ 1 _ _ _ h).trans rfl, by simp [World.frozen?, h], hl⟩
theorem RrIs.drewN {w : World} {g : Nat} {s : ByteArray} {p : Nat} (h : RrIs w g s p) (n : Nat) : RrIs (w.drewN n) g s p := h
theorem RrIs.alloc {w : World} {g : Nat} {s : ByteArray} {p : Nat} (h : RrIs w g s p) (o : Obj) : RrIs (w.alloc o) g s p := (Below.heap_alloc w o g h.lt).trans h
theorem RrIs.setPos {w : World} {g : Nat} {s : ByteArray} {p : Nat} (h : RrIs w g s p) (p' : Nat) {q : Int} (hq : q = (p' : Int)) : RrIs (w.setCell ⟨g, 1, none⟩ (.int .i64 q)) g s p' := by
  subst hq; unfold RrIs at h ⊢; simp [World.setCell, Array.getElem?_modify, h]
theorem RrIs.other {w : World} {g : Nat} {s : ByteArray} {p : Nat} (h : RrIs w g s p) (a : Addr) (ha : a.block ≠ g) (u : Value) : RrIs (w.setCell a u) g s p := by
  unfold RrIs at h ⊢; rw [Below.heap_setCell]; exact h; exact fun e => ha e.symm
/-- Where the reader of block g stands. -/
def rrPos (w : World) (g : Nat) : Nat := match w.cell? ⟨g, 1, none⟩ with | some (.int _ n) => n.toNat | _ => 0
theorem RrIs.pos {w : World} {g : Nat} {s : ByteArray} {p : Nat} (h : RrIs w g s p) : rrPos w g = p := by
  unfold rrPos; rw [h.open.2.1]; simp

def RNumPost (s : ByteArray) (g : Nat) (w : World) (q : Option Int × Bs) (e : Ending) (w' : World) : Prop :=
  ∃ p', p' ≤ s.size ∧ s.data.toList.drop p' = q.2 ∧ e = .returned (.tuple #[.int .i64 (q.1.getD 0), .bool q.1.isSome]) ∧ RrIs w' g s p' ∧ But g w w'

theorem isD_at {s : ByteArray} {p : Nat} (h : p < s.size) : hdD (s.data.toList.drop p) = isD s[p] := by rw [← nx_isD, nx_at s p h]
theorem hd_at2 {s : ByteArray} {p n : Nat} (h : p < s.size) (hn : 0 < n) : hd n (s.data.toList.drop p) = ((s[p]).toNat == n) := by rw [nx_hd hn, nx_at s p h]
theorem hdD_end {s : ByteArray} {p : Nat} (h : ¬ p < s.size) : hdD (s.data.toList.drop p) = false := by
  rw [List.drop_of_length_le (by simp; omega)]; rfl
theorem hd_end {s : ByteArray} {p n : Nat} (h : ¬ p < s.size) : hd n (s.data.toList.drop p) = false := by
  rw [List.drop_of_length_le (by simp; omega)]; rfl
theorem dig_step {most n : Nat} {s : ByteArray} {q : Nat} (h : q < s.size) (hd : 48 ≤ (s[q]).toNat ∧ (s[q]).toNat ≤ 57) :
    dig most n (s.data.toList.drop q) = if (most - ((s[q]).toNat - 48)) / 10 < n then (false, n, s.data.toList.drop q) else dig most (n * 10 + ((s[q]).toNat - 48)) (s.data.toList.drop (q + 1)) := by
  have h' : q < s.data.toList.length := by simpa using h
  have e : s.data.toList.drop q = s[q] :: s.data.toList.drop (q + 1) := by rw [List.drop_eq_getElem_cons h']; rfl
  rw [e, dig, if_pos (isD_iff.2 hd)]

/-- Digits in the document's way: what they come to, by what stands first. -/
def refU (neg : Bool) (most : Nat) (sg : Int) (inp : Bs) : Option Int × Bs :=
  if hdD inp = false then (none, inp)
  else if hd 48 inp = true then (if neg = true then (none, inp) else if hdD (inp.drop 1) = true then (none, inp.drop 1) else (some 0, inp.drop 1))
  else ((if (dig most 0 inp).1 then some (sg * ((dig most 0 inp).2.1 : Int)) else none), (dig most 0 inp).2.2)
theorem refU_neg (most : Nat) (inp : Bs) : refU true most (-1) inp = numU most (-1) inp := by
  unfold refU numU
  cases h1 : hdD inp <;> cases h2 : hd 48 inp <;> simp
theorem refU_pos (most : Nat) (inp : Bs) (h : hd 45 inp = false) : refU false most 1 inp = num most inp := by
  unfold refU num numC numU
  cases h1 : hdD inp <;> cases h2 : hd 48 inp <;> cases h3 : hdD (inp.drop 1) <;> simp [h]
  all_goals
    cases inp with
    | nil => simp [hd] at h2
    | cons c r => simp [hd, hdD, isD] at h1 h2; omega

theorem sg_neg {n : Nat} {nI : Int} (h : (n : Int) = nI) : -nI = -1 * (n : Int) := by omega
theorem sg_pos {n : Nat} {nI : Int} (h : (n : Int) = nI) : nI = 1 * (n : Int) := by omega
/-- What the loop over digits, the first of them no 0, knows. -/
structure DigAt (s : ByteArray) (p most : Nat) (q n : Nat) (nI : Int) : Prop where
  val : (n : Int) = nI
  dig : dig most 0 (s.data.toList.drop p) = dig most n (s.data.toList.drop q)

set_option maxHeartbeats 4000000 in
theorem digits_none (b : Bool) (s : ByteArray) (p g most : Nat) (m sg : Int) (w : World) (hx : RrIs w g s p) (hp : p ≤ s.size) (h0 : hdD (s.data.toList.drop p) = false) :
    Calls Tryd.prog 92 #[.pointer (some ⟨g, 0, none⟩), .bool b, .int .u64 m] w (RNumPost s g w (refU b most sg (s.data.toList.drop p))) := by
  have hq : refU b most sg (s.data.toList.drop p) = (none, s.data.toList.drop p) := by unfold refU; rw [if_pos h0]
  rw [hq]
  obtain ⟨x0, x1, xf, hlt⟩ := hx.open
  have HX := Lib.hid hx; clear hx
  by_cases hps : p < s.size
  · rw [isD_at hps] at h0
    have hc : ¬ (48 ≤ (s[p]).toNat ∧ (s[p]).toNat ≤ 57) := fun h => by rw [isD_iff.2 h] at h0; cases h0
    clear h0 hq
    by_cases hd0 : (s[p]).toNat < 48
    · have hd1 : decide ((48 : Int) ≤ ((s[p]).toNat : Int)) = false := by simp; omega
      clear hc
      go_enter Tryd.func92, Tryd.ntmps92
      go_wp2
      go_loopw [8] (fun n wr => n = .int .u64 0 ∧ wr = w) (fun _ _ => 0)
      case atStart => exact ⟨rfl, rfl⟩
      case round =>
        obtain ⟨rfl, rfl⟩ := hrel
        go_wp2_with (go_quiet (fail))
        go_ret2
        exact ⟨p, hp, rfl, rfl, HX.out.drewN _, (But.refl _ _).drewN _⟩
    · have hd1 : 48 ≤ ((s[p]).toNat : Int) := by omega
      have hd2 : 57 < ((s[p]).toNat : Int) := by omega
      clear hc
      go_enter Tryd.func92, Tryd.ntmps92
      go_wp2
      go_loopw [8] (fun n wr => n = .int .u64 0 ∧ wr = w) (fun _ _ => 0)
      case atStart => exact ⟨rfl, rfl⟩
      case round =>
        obtain ⟨rfl, rfl⟩ := hrel
        go_wp2_with (go_quiet (fail))
        go_ret2
        exact ⟨p, hp, rfl, rfl, HX.out.drewN _, (But.refl _ _).drewN _⟩
  · have hpe : ¬ (p : Int) < (s.size : Int) := by omega
    clear h0 hq
    go_enter Tryd.func92, Tryd.ntmps92
    go_wp2
    go_loopw [8] (fun n wr => n = .int .u64 0 ∧ wr = w) (fun _ _ => 0)
    case atStart => exact ⟨rfl, rfl⟩
    case round =>
      obtain ⟨rfl, rfl⟩ := hrel
      go_wp2_with (go_quiet (fail))
      go_ret2
      exact ⟨p, hp, rfl, rfl, HX.out.drewN _, (But.refl _ _).drewN _⟩

set_option maxHeartbeats 4000000 in
theorem digits_some_true (s : ByteArray) (p g most : Nat) (m : Int) (w : World) (hx : RrIs w g s p) (hps : p < s.size) (hs : s.size ≤ 140737488355328) (hmm : (most : Int) = m) (hm0 : 9 ≤ m) (hm1 : m ≤ 9223372036854775808)
    (hd : 48 < (s[p]).toNat ∧ (s[p]).toNat ≤ 57) :
    Calls Tryd.prog 92 #[.pointer (some ⟨g, 0, none⟩), .bool true, .int .u64 m] w (RNumPost s g w (refU true most (-1) (s.data.toList.drop p))) := by
  have hDp : 48 ≤ (s[p]).toNat ∧ (s[p]).toNat ≤ 57 := by omega
  have HQ := Lib.hid (show refU true most (-1) (s.data.toList.drop p) = ((if (dig most 0 (s.data.toList.drop p)).1 then some (-1 * ((dig most 0 (s.data.toList.drop p)).2.1 : Int)) else none), (dig most 0 (s.data.toList.drop p)).2.2) from by
    unfold refU; rw [if_neg, if_neg]
    · rw [hd_at2 hps (by omega)]; simp; omega
    · rw [isD_at hps, isD_iff.2 hDp]; simp)
  have HMM := Lib.hid hmm; clear hmm
  have HD := Lib.hid hd
  have HX := Lib.hid hx
  obtain ⟨x0, x1, xf, hlt⟩ := hx.open
  clear hx hd hDp
  go_enter Tryd.func92, Tryd.ntmps92
  go_wp2
  clear x0 x1 xf
  go_loopw [8] (fun i wr => ∃ (nI : Int) (n q : Nat), i = .int .u64 nI ∧ 0 ≤ nI ∧ nI ≤ m ∧ p ≤ q ∧ q ≤ s.size ∧ ((q = p ∧ nI = 0) ∨ (p < q ∧ 0 < nI)) ∧ Hid (DigAt s p most q n nI) ∧ Hid (RrIs wr g s q) ∧ Hid (But g w wr)) (fun _ wr => s.size - rrPos wr g)
  case atStart => exact ⟨0, 0, p, rfl, by omega, by omega, Nat.le_refl _, by omega, .inl ⟨rfl, rfl⟩, Lib.hid ⟨rfl, rfl⟩, HX, Lib.hid (But.refl _ _)⟩
  case round =>
    obtain ⟨nI, n, q, rfl, hn0, hn1, hpq, hqs, hst, HG, hxr, hbr⟩ := hrel
    obtain ⟨x0, x1, xf, hlt1⟩ := hxr.out.open
    have hxr0 := hxr
    clear HX
    by_cases hlq : q < s.size
    · by_cases hDq : 48 ≤ (s[q]).toNat ∧ (s[q]).toNat ≤ 57
      · have hd1 : 48 ≤ ((s[q]).toNat : Int) := by omega
        have hd2 : ((s[q]).toNat : Int) ≤ 57 := by omega
        by_cases hov : (m - (((s[q]).toNat : Int) - 48)) / 10 < nI
        · have hpq2 : p < q ∧ 0 < nI := by
            rcases hst with ⟨h1, h2⟩ | h
            · omega
            · exact h
          have HE := Lib.hid (HG.out.dig.trans ((dig_step hlq hDq).trans (if_pos (by have := HG.out.val; have := HMM.out; omega))))
          have k1 : (p : Int) < (q : Int) := by omega
          have k2 : (nI == 0) = false := by simp; omega
          have k3 : ((q : Int) == (p : Int)) = false := by simp; omega
          clear hst hDq HD
          go_wp2_with (go_quiet (fail))
          go_ret2
          exact ⟨q, hqs, by rw [HQ.out, HE.out], by rw [HQ.out, HE.out]; rfl, hxr.out.drewN _, hbr.out.drewN _⟩
        · have HE := Lib.hid (HG.out.dig.trans ((dig_step hlq hDq).trans (if_neg (by have := HG.out.val; have := HMM.out; omega))))
          have HV := Lib.hid (show ((n * 10 + ((s[q]).toNat - 48) : Nat) : Int) = 10 * nI + (((s[q]).toNat : Int) - 48) from by have := HG.out.val; omega)
          have k5 : ¬ (((s[q]).toNat : Int) - 48 = 0 ∧ q = p) := by
            rintro ⟨h1, rfl⟩
            have := HD.out; omega
          rcases hst with ⟨rfl, rfl⟩ | ⟨h1, h2⟩
          · have k6 : ((((s[q]).toNat : Int) - 48) == 0) = false := by simp; omega
            have k7 : 0 < 10 * 0 + (((s[q]).toNat : Int) - 48) := by have := HD.out; omega
            clear hDq HD k5
            go_wp2_with (go_quiet (fail))
            go_roundw
            case measure => rw [hxr0.out.pos, ((hxr.out.drewN _).setPos (q + 1) (by simp)).pos]; omega
            case rel => exact ⟨_, _, q + 1, rfl, by omega, by omega, by omega, by omega, .inr ⟨by omega, by omega⟩, Lib.hid ⟨by have := HV.out; omega, HE.out⟩, Lib.hid ((hxr.out.drewN _).setPos (q + 1) (by simp)), Lib.hid ((hbr.out.drewN _).setCell _ _)⟩
          · have k1 : (p : Int) < (q : Int) := by omega
            have k2 : (nI == 0) = false := by simp; omega
            have k3 : ((q : Int) == (p : Int)) = false := by simp; omega
            clear hDq HD k5
            go_wp2_with (go_quiet (fail))
            go_roundw
            case measure => rw [hxr0.out.pos, ((hxr.out.drewN _).setPos (q + 1) (by simp)).pos]; omega
            case rel => exact ⟨_, _, q + 1, rfl, by omega, by omega, by omega, by omega, .inr ⟨by omega, by omega⟩, Lib.hid ⟨by have := HV.out; omega, HE.out⟩, Lib.hid ((hxr.out.drewN _).setPos (q + 1) (by simp)), Lib.hid ((hbr.out.drewN _).setCell _ _)⟩
      · have hpq2 : p < q ∧ 0 < nI := by
          rcases hst with ⟨rfl, _⟩ | h
          · exact absurd (by have := HD.out; omega) hDq
          · exact h
        have HE := Lib.hid (HG.out.dig.trans (dig_stop (by rw [isD_at hlq]; cases h : isD s[q]; rfl; exact absurd (isD_iff.1 h) hDq)))
        have HV := Lib.hid (sg_neg HG.out.val)
        have k1 : (p : Int) < (q : Int) := by omega
        have k3 : ((q : Int) == (p : Int)) = false := by simp; omega
        clear hst HD
        by_cases hd0 : (s[q]).toNat < 48
        · have hd1 : decide ((48 : Int) ≤ ((s[q]).toNat : Int)) = false := by simp; omega
          clear hDq
          go_wp2_with (go_quiet (fail))
          go_ret2
          exact ⟨q, hqs, by rw [HQ.out, HE.out], by rw [HQ.out, HE.out]; rw [wrap_neg hn0 (by omega), HV.out]; rfl, hxr.out.drewN _, hbr.out.drewN _⟩
        · have hd1 : 48 ≤ ((s[q]).toNat : Int) := by omega
          have hd2 : 57 < ((s[q]).toNat : Int) := by omega
          clear hDq
          go_wp2_with (go_quiet (fail))
          go_ret2
          exact ⟨q, hqs, by rw [HQ.out, HE.out], by rw [HQ.out, HE.out]; rw [wrap_neg hn0 (by omega), HV.out]; rfl, hxr.out.drewN _, hbr.out.drewN _⟩
    · have hpq2 : p < q ∧ 0 < nI := by
        rcases hst with ⟨rfl, _⟩ | h
        · omega
        · exact h
      have HE := Lib.hid (HG.out.dig.trans (dig_stop (hdD_end hlq)))
      have HV := Lib.hid (sg_neg HG.out.val)
      have k1 : (p : Int) < (q : Int) := by omega
      have k3 : ((q : Int) == (p : Int)) = false := by simp; omega
      have k4 : ¬ (q : Int) < (s.size : Int) := by omega
      clear hst HD
      go_wp2_with (go_quiet (fail))
      go_ret2
      exact ⟨q, hqs, by rw [HQ.out, HE.out], by rw [HQ.out, HE.out]; rw [wrap_neg hn0 (by omega), HV.out]; rfl, hxr.out.drewN _, hbr.out.drewN _⟩

set_option maxHeartbeats 4000000 in
theorem digits_some_false (s : ByteArray) (p g most : Nat) (m : Int) (w : World) (hx : RrIs w g s p) (hps : p < s.size) (hs : s.size ≤ 140737488355328) (hmm : (most : Int) = m) (hm0 : 9 ≤ m) (hm1 : m ≤ 9223372036854775807)
    (hd : 48 < (s[p]).toNat ∧ (s[p]).toNat ≤ 57) :
    Calls Tryd.prog 92 #[.pointer (some ⟨g, 0, none⟩), .bool false, .int .u64 m] w (RNumPost s g w (refU false most (1) (s.data.toList.drop p))) := by
  have hDp : 48 ≤ (s[p]).toNat ∧ (s[p]).toNat ≤ 57 := by omega
  have HQ := Lib.hid (show refU false most (1) (s.data.toList.drop p) = ((if (dig most 0 (s.data.toList.drop p)).1 then some (1 * ((dig most 0 (s.data.toList.drop p)).2.1 : Int)) else none), (dig most 0 (s.data.toList.drop p)).2.2) from by
    unfold refU; rw [if_neg, if_neg]
    · rw [hd_at2 hps (by omega)]; simp; omega
    · rw [isD_at hps, isD_iff.2 hDp]; simp)
  have HMM := Lib.hid hmm; clear hmm
  have HD := Lib.hid hd
  have HX := Lib.hid hx
  obtain ⟨x0, x1, xf, hlt⟩ := hx.open
  clear hx hd hDp
  go_enter Tryd.func92, Tryd.ntmps92
  go_wp2
  clear x0 x1 xf
  go_loopw [8] (fun i wr => ∃ (nI : Int) (n q : Nat), i = .int .u64 nI ∧ 0 ≤ nI ∧ nI ≤ m ∧ p ≤ q ∧ q ≤ s.size ∧ ((q = p ∧ nI = 0) ∨ (p < q ∧ 0 < nI)) ∧ Hid (DigAt s p most q n nI) ∧ Hid (RrIs wr g s q) ∧ Hid (But g w wr)) (fun _ wr => s.size - rrPos wr g)
  case atStart => exact ⟨0, 0, p, rfl, by omega, by omega, Nat.le_refl _, by omega, .inl ⟨rfl, rfl⟩, Lib.hid ⟨rfl, rfl⟩, HX, Lib.hid (But.refl _ _)⟩
  case round =>
    obtain ⟨nI, n, q, rfl, hn0, hn1, hpq, hqs, hst, HG, hxr, hbr⟩ := hrel
    obtain ⟨x0, x1, xf, hlt1⟩ := hxr.out.open
    have hxr0 := hxr
    clear HX
    by_cases hlq : q < s.size
    · by_cases hDq : 48 ≤ (s[q]).toNat ∧ (s[q]).toNat ≤ 57
      · have hd1 : 48 ≤ ((s[q]).toNat : Int) := by omega
        have hd2 : ((s[q]).toNat : Int) ≤ 57 := by omega
        by_cases hov : (m - (((s[q]).toNat : Int) - 48)) / 10 < nI
        · have hpq2 : p < q ∧ 0 < nI := by
            rcases hst with ⟨h1, h2⟩ | h
            · omega
            · exact h
          have HE := Lib.hid (HG.out.dig.trans ((dig_step hlq hDq).trans (if_pos (by have := HG.out.val; have := HMM.out; omega))))
          have k1 : (p : Int) < (q : Int) := by omega
          have k2 : (nI == 0) = false := by simp; omega
          have k3 : ((q : Int) == (p : Int)) = false := by simp; omega
          clear hst hDq HD
          go_wp2_with (go_quiet (fail))
          go_ret2
          exact ⟨q, hqs, by rw [HQ.out, HE.out], by rw [HQ.out, HE.out]; rfl, hxr.out.drewN _, hbr.out.drewN _⟩
        · have HE := Lib.hid (HG.out.dig.trans ((dig_step hlq hDq).trans (if_neg (by have := HG.out.val; have := HMM.out; omega))))
          have HV := Lib.hid (show ((n * 10 + ((s[q]).toNat - 48) : Nat) : Int) = 10 * nI + (((s[q]).toNat : Int) - 48) from by have := HG.out.val; omega)
          have k5 : ¬ (((s[q]).toNat : Int) - 48 = 0 ∧ q = p) := by
            rintro ⟨h1, rfl⟩
            have := HD.out; omega
          rcases hst with ⟨rfl, rfl⟩ | ⟨h1, h2⟩
          · have k6 : ((((s[q]).toNat : Int) - 48) == 0) = false := by simp; omega
            have k7 : 0 < 10 * 0 + (((s[q]).toNat : Int) - 48) := by have := HD.out; omega
            clear hDq HD k5
            go_wp2_with (go_quiet (fail))
            go_roundw
            case measure => rw [hxr0.out.pos, ((hxr.out.drewN _).setPos (q + 1) (by simp)).pos]; omega
            case rel => exact ⟨_, _, q + 1, rfl, by omega, by omega, by omega, by omega, .inr ⟨by omega, by omega⟩, Lib.hid ⟨by have := HV.out; omega, HE.out⟩, Lib.hid ((hxr.out.drewN _).setPos (q + 1) (by simp)), Lib.hid ((hbr.out.drewN _).setCell _ _)⟩
          · have k1 : (p : Int) < (q : Int) := by omega
            have k2 : (nI == 0) = false := by simp; omega
            have k3 : ((q : Int) == (p : Int)) = false := by simp; omega
            clear hDq HD k5
            go_wp2_with (go_quiet (fail))
            go_roundw
            case measure => rw [hxr0.out.pos, ((hxr.out.drewN _).setPos (q + 1) (by simp)).pos]; omega
            case rel => exact ⟨_, _, q + 1, rfl, by omega, by omega, by omega, by omega, .inr ⟨by omega, by omega⟩, Lib.hid ⟨by have := HV.out; omega, HE.out⟩, Lib.hid ((hxr.out.drewN _).setPos (q + 1) (by simp)), Lib.hid ((hbr.out.drewN _).setCell _ _)⟩
      · have hpq2 : p < q ∧ 0 < nI := by
          rcases hst with ⟨rfl, _⟩ | h
          · exact absurd (by have := HD.out; omega) hDq
          · exact h
        have HE := Lib.hid (HG.out.dig.trans (dig_stop (by rw [isD_at hlq]; cases h : isD s[q]; rfl; exact absurd (isD_iff.1 h) hDq)))
        have HV := Lib.hid (sg_pos HG.out.val)
        have k1 : (p : Int) < (q : Int) := by omega
        have k3 : ((q : Int) == (p : Int)) = false := by simp; omega
        clear hst HD
        by_cases hd0 : (s[q]).toNat < 48
        · have hd1 : decide ((48 : Int) ≤ ((s[q]).toNat : Int)) = false := by simp; omega
          clear hDq
          go_wp2_with (go_quiet (fail))
          go_ret2
          exact ⟨q, hqs, by rw [HQ.out, HE.out], by rw [HQ.out, HE.out]; exact congrArg (fun z => Ending.returned (.tuple #[.int .i64 z, .bool true])) HV.out, hxr.out.drewN _, hbr.out.drewN _⟩
        · have hd1 : 48 ≤ ((s[q]).toNat : Int) := by omega
          have hd2 : 57 < ((s[q]).toNat : Int) := by omega
          clear hDq
          go_wp2_with (go_quiet (fail))
          go_ret2
          exact ⟨q, hqs, by rw [HQ.out, HE.out], by rw [HQ.out, HE.out]; exact congrArg (fun z => Ending.returned (.tuple #[.int .i64 z, .bool true])) HV.out, hxr.out.drewN _, hbr.out.drewN _⟩
    · have hpq2 : p < q ∧ 0 < nI := by
        rcases hst with ⟨rfl, _⟩ | h
        · omega
        · exact h
      have HE := Lib.hid (HG.out.dig.trans (dig_stop (hdD_end hlq)))
      have HV := Lib.hid (sg_pos HG.out.val)
      have k1 : (p : Int) < (q : Int) := by omega
      have k3 : ((q : Int) == (p : Int)) = false := by simp; omega
      have k4 : ¬ (q : Int) < (s.size : Int) := by omega
      clear hst HD
      go_wp2_with (go_quiet (fail))
      go_ret2
      exact ⟨q, hqs, by rw [HQ.out, HE.out], by rw [HQ.out, HE.out]; exact congrArg (fun z => Ending.returned (.tuple #[.int .i64 z, .bool true])) HV.out, hxr.out.drewN _, hbr.out.drewN _⟩

set_option maxHeartbeats 4000000 in
theorem digits_zero_neg (s : ByteArray) (p g most : Nat) (m : Int) (w : World) (hx : RrIs w g s p) (hps : p < s.size) (hd : (s[p]).toNat = 48) :
    Calls Tryd.prog 92 #[.pointer (some ⟨g, 0, none⟩), .bool true, .int .u64 m] w (RNumPost s g w (refU true most (-1) (s.data.toList.drop p))) := by
  have HQ := Lib.hid (show refU true most (-1) (s.data.toList.drop p) = (none, s.data.toList.drop p) from by
    unfold refU; rw [if_neg, if_pos, if_pos rfl]
    · rw [hd_at2 hps (by omega), hd]; rfl
    · rw [isD_at hps, isD_iff.2 (by omega)]; simp)
  have HX := Lib.hid hx
  obtain ⟨x0, x1, xf, hlt⟩ := hx.open
  have e1 : ((s[p]).toNat : Int) = 48 := by omega
  clear hx
  go_enter Tryd.func92, Tryd.ntmps92
  go_wp2
  go_loopw [8] (fun n wr => n = .int .u64 0 ∧ wr = w) (fun _ _ => 0)
  case atStart => exact ⟨rfl, rfl⟩
  case round =>
    obtain ⟨rfl, rfl⟩ := hrel
    go_wp2_with (go_quiet (fail))
    go_ret2
    exact ⟨p, by omega, by rw [HQ.out], by rw [HQ.out]; rfl, HX.out.drewN _, (But.refl _ _).drewN _⟩

set_option maxHeartbeats 4000000 in
theorem digits_zero_pos (s : ByteArray) (p g most : Nat) (m : Int) (w : World) (hx : RrIs w g s p) (hps : p < s.size) (hs : s.size ≤ 140737488355328) (hm0 : 9 ≤ m) (hm1 : m ≤ 9223372036854775807) (hd : (s[p]).toNat = 48) :
    Calls Tryd.prog 92 #[.pointer (some ⟨g, 0, none⟩), .bool false, .int .u64 m] w (RNumPost s g w (refU false most 1 (s.data.toList.drop p))) := by
  have HQ := Lib.hid (show refU false most 1 (s.data.toList.drop p) = if hdD (s.data.toList.drop (p + 1)) = true then (none, s.data.toList.drop (p + 1)) else (some 0, s.data.toList.drop (p + 1)) from by
    unfold refU; rw [if_neg, if_pos, if_neg (by simp), List.drop_drop]
    · rw [hd_at2 hps (by omega), hd]; rfl
    · rw [isD_at hps, isD_iff.2 (by omega)]; simp)
  have HX := Lib.hid hx
  obtain ⟨x0, x1, xf, hlt⟩ := hx.open
  have e1 : ((s[p]).toNat : Int) = 48 := by omega
  clear hx
  go_enter Tryd.func92, Tryd.ntmps92
  go_wp2
  clear x0 x1 xf
  go_loopw [8] (fun n wr => n = .int .u64 0 ∧ ∃ q, (q = p ∨ q = p + 1) ∧ Hid (RrIs wr g s q) ∧ Hid (But g w wr)) (fun _ wr => s.size - rrPos wr g)
  case atStart => exact ⟨rfl, p, .inl rfl, HX, Lib.hid (But.refl _ _)⟩
  case round =>
    obtain ⟨rfl, q, hq, hxr, hbr⟩ := hrel
    clear HX
    obtain ⟨x0, x1, xf, hlt1⟩ := hxr.out.open
    have hxr0 := hxr
    rcases hq with rfl | hq
    · have k1 : ¬ (m - 0) / 10 < 0 := by omega
      go_wp2_with (go_quiet (fail))
      go_roundw
      case measure => rw [hxr0.out.pos, ((hxr.out.drewN _).setPos (q + 1) (by simp)).pos]; omega
      case rel => exact ⟨rfl, q + 1, .inr rfl, Lib.hid ((hxr.out.drewN _).setPos (q + 1) (by simp)), Lib.hid ((hbr.out.drewN _).setCell _ _)⟩
    · have k3 : ((q : Int) == (p : Int)) = false := by simp; omega
      have k2 : (p : Int) < (q : Int) := by omega
      rw [← hq] at HQ
      have hqs : q ≤ s.size := by omega
      by_cases hlq : q < s.size
      · by_cases hDq : 48 ≤ (s[q]).toNat ∧ (s[q]).toNat ≤ 57
        · have hd1 : 48 ≤ ((s[q]).toNat : Int) := by omega
          have hd2 : ((s[q]).toNat : Int) ≤ 57 := by omega
          have HE := Lib.hid (HQ.out.trans (if_pos (by rw [isD_at hlq, isD_iff.2 hDq])))
          clear e1 hq hDq
          go_wp2_with (go_quiet (fail))
          go_ret2
          exact ⟨q, hqs, by rw [HE.out], by rw [HE.out]; rfl, hxr.out.drewN _, hbr.out.drewN _⟩
        · have HE := Lib.hid (HQ.out.trans (if_neg (by rw [isD_at hlq]; intro h; exact hDq (isD_iff.1 h))))
          clear e1 hq
          by_cases hd0 : (s[q]).toNat < 48
          · have hd1 : decide ((48 : Int) ≤ ((s[q]).toNat : Int)) = false := by simp; omega
            clear hDq
            go_wp2_with (go_quiet (fail))
            go_ret2
            exact ⟨q, hqs, by rw [HE.out], by rw [HE.out]; rfl, hxr.out.drewN _, hbr.out.drewN _⟩
          · have hd1 : 48 ≤ ((s[q]).toNat : Int) := by omega
            have hd2 : 57 < ((s[q]).toNat : Int) := by omega
            clear hDq
            go_wp2_with (go_quiet (fail))
            go_ret2
            exact ⟨q, hqs, by rw [HE.out], by rw [HE.out]; rfl, hxr.out.drewN _, hbr.out.drewN _⟩
      · have HE := Lib.hid (HQ.out.trans (if_neg (by rw [hdD_end hlq]; simp)))
        have k4 : ¬ (q : Int) < (s.size : Int) := by omega
        clear e1 hq
        go_wp2_with (go_quiet (fail))
        go_ret2
        exact ⟨q, hqs, by rw [HE.out], by rw [HE.out]; rfl, hxr.out.drewN _, hbr.out.drewN _⟩

theorem digits_neg (s : ByteArray) (p g most : Nat) (m : Int) (w : World) (hx : RrIs w g s p) (hp : p ≤ s.size) (hs : s.size ≤ 140737488355328) (hmm : (most : Int) = m) (hm0 : 9 ≤ m) (hm1 : m ≤ 9223372036854775808) (q : Option Int × Bs) (hq : numU most (-1) (s.data.toList.drop p) = q) :
    Calls Tryd.prog 92 #[.pointer (some ⟨g, 0, none⟩), .bool true, .int .u64 m] w (RNumPost s g w q) := by
  subst hq
  rw [← refU_neg]
  by_cases h0 : hdD (s.data.toList.drop p) = false
  · exact digits_none true s p g most m (-1) w hx hp h0
  · have hps : p < s.size := by
      rcases Nat.lt_or_ge p s.size with h | h
      · exact h
      · exact absurd (hdD_end (by omega)) h0
    have hD := isD_iff.1 (by rw [← isD_at hps]; simpa using h0 : isD s[p] = true)
    by_cases h48 : (s[p]).toNat = 48
    · exact digits_zero_neg s p g most m w hx hps h48
    · exact digits_some_true s p g most m w hx hps hs hmm hm0 hm1 (by omega)
theorem digits_pos (s : ByteArray) (p g most : Nat) (m : Int) (w : World) (hx : RrIs w g s p) (hp : p ≤ s.size) (hs : s.size ≤ 140737488355328) (hmm : (most : Int) = m) (hm0 : 9 ≤ m) (hm1 : m ≤ 9223372036854775807) (h4 : hd 45 (s.data.toList.drop p) = false) (q : Option Int × Bs) (hq : num most (s.data.toList.drop p) = q) :
    Calls Tryd.prog 92 #[.pointer (some ⟨g, 0, none⟩), .bool false, .int .u64 m] w (RNumPost s g w q) := by
  subst hq
  rw [← refU_pos _ _ h4]
  by_cases h0 : hdD (s.data.toList.drop p) = false
  · exact digits_none false s p g most m 1 w hx hp h0
  · have hps : p < s.size := by
      rcases Nat.lt_or_ge p s.size with h | h
      · exact h
      · exact absurd (hdD_end (by omega)) h0
    have hD := isD_iff.1 (by rw [← isD_at hps]; simpa using h0 : isD s[p] = true)
    by_cases h48 : (s[p]).toNat = 48
    · exact digits_zero_pos s p g most m w hx hps hs hm0 hm1 h48
    · exact digits_some_false s p g most m w hx hps hs hmm hm0 hm1 (by omega)

set_option maxHeartbeats 800000 in
/-- A number with its sign. -/
theorem signed_any (s : ByteArray) (p g most : Nat) (m m1 : Int) (w : World) (hx : RrIs w g s p) (hp : p ≤ s.size) (hs : s.size ≤ 140737488355328) (hmm : (most : Int) = m) (hm0 : 9 ≤ m) (hm1 : m ≤ 9223372036854775807) (hmn : m1 = m + 1) :
    Calls Tryd.prog 74 #[.pointer (some ⟨g, 0, none⟩), .int .u64 m1, .int .u64 m] w (RNumPost s g w (num most (s.data.toList.drop p))) := by
  subst hmn
  have hnq : hd 48 (s.data.toList.drop p) = true → hd 45 (s.data.toList.drop p) = false := by
    cases s.data.toList.drop p with
    | nil => simp [hd]
    | cons c r => simp [hd]; omega
  obtain ⟨x0, x1, xf, hlt⟩ := hx.open
  have HX := Lib.hid hx; clear hx
  by_cases hps : p < s.size
  · by_cases h45 : (s[p]).toNat = 45
    · have e1 : ((s[p]).toNat : Int) = 45 := by omega
      have h4 : hd 45 (s.data.toList.drop p) = true := by rw [hd_at2 hps (by omega), h45]; rfl
      have h8 : hd 48 (s.data.toList.drop p) = false := by rw [hd_at2 hps (by omega), h45]; rfl
      have HQ := Lib.hid (show numU (most + 1) (-1) (s.data.toList.drop (p + 1)) = num most (s.data.toList.drop p) from by
        unfold num numC; rw [h8, h4, List.drop_drop]; rfl)
      clear h4 h8 hnq
      go_enter Tryd.func74, Tryd.ntmps74
      go_wp2_with (go_quiet (fail))
      have HX1 := Lib.hid ((HX.out.drewN nq).setPos (p + 1) (q := (p : Int) + 1) (by simp))
      have HB1 := Lib.hid (((But.refl g w).drewN nq).setCell 1 (.int .i64 ((p : Int) + 1)))
      have HA := Lib.hid (digits_neg s (p + 1) g (most + 1) (m + 1) _ HX1.out (by omega) hs (by omega) (by omega) (by omega) _ HQ.out)
      go_wp2_with (go_at_call 92; go_must (with_reducible refine HA.out.mono ?_); rintro e w2 ⟨p', hp', hd', rfl, hx2, hb2⟩)
      go_ret2
      exact ⟨p', hp', hd', rfl, hx2, HB1.out.trans hb2⟩
    · have e1 : (((s[p]).toNat : Int) == 45) = false := by simp; omega
      have h4 : hd 45 (s.data.toList.drop p) = false := by rw [hd_at2 hps (by omega)]; simpa using h45
      have H4 := Lib.hid h4; clear h4 hnq h45
      go_enter Tryd.func74, Tryd.ntmps74
      go_wp2_with (first | go_quiet (fail) | (go_at_call 92; refine (digits_pos s p g most m _ (HX.out.drewN _) hp hs hmm hm0 hm1 H4.out _ rfl).mono ?_; rintro e w2 ⟨p', hp', hd', rfl, hx2, hb2⟩))
      go_ret2
      exact ⟨p', hp', hd', rfl, hx2, ((But.refl g w).drewN _).trans hb2⟩
  · have k4 : ¬ (p : Int) < (s.size : Int) := by omega
    have H4 := Lib.hid (hd_end (n := 45) hps); clear hnq
    go_enter Tryd.func74, Tryd.ntmps74
    go_wp2_with (first | go_quiet (fail) | (go_at_call 92; refine (digits_pos s p g most m _ (HX.out.drewN _) hp hs hmm hm0 hm1 H4.out _ rfl).mono ?_; rintro e w2 ⟨p', hp', hd', rfl, hx2, hb2⟩))
    go_ret2
    exact ⟨p', hp', hd', rfl, hx2, ((But.refl g w).drewN _).trans hb2⟩

abbrev zv : Value := .agg #[.int .i64 0, .int .i64 0, .string ⟨#[]⟩, .slice none 0 0]
/-- The result's box, as it is made. -/
abbrev zbox : Obj := .cells #[.int .i64 0, .int .i64 0, .string ⟨#[]⟩, .slice none 0 0] 26 (0, 0)
/-- A world with four cells of a box set. -/
abbrev set4 (W : World) (b : Nat) (v0 v1 v2 v3 : Value) : World := (((W.setCell ⟨b, 0, none⟩ v0).setCell ⟨b, 1, none⟩ v1).setCell ⟨b, 2, none⟩ v2).setCell ⟨b, 3, none⟩ v3
theorem RrIs.set4 {W : World} {g b : Nat} {s : ByteArray} {p : Nat} (h : RrIs W g s p) (hb : b ≠ g) (v0 v1 v2 v3 : Value) : RrIs (set4 W b v0 v1 v2 v3) g s p :=
  (((h.other ⟨b, 0, none⟩ hb _).other ⟨b, 1, none⟩ hb _).other ⟨b, 2, none⟩ hb _).other ⟨b, 3, none⟩ hb _
theorem But.set4 {w W : World} {g b : Nat} (h : But g w W) (hb : w.heap.size ≤ b) (v0 v1 v2 v3 : Value) : But g w (set4 W b v0 v1 v2 v3) :=
  (((h.far (p := ⟨b, 0, none⟩) hb _).far (p := ⟨b, 1, none⟩) hb _).far (p := ⟨b, 2, none⟩) hb _).far (p := ⟨b, 3, none⟩) hb _

/-- What a call that reads a value without items leaves. -/
def ROne (s : ByteArray) (g : Nat) (w : World) (R : Res) (e : Ending) (w' : World) : Prop :=
  ∃ p', p' ≤ s.size ∧ RrIs w' g s p' ∧ But g w w' ∧
    ((∃ k n u, R = .ok (.mk k n u []) (s.data.toList.drop p') ∧ I64 k ∧ I64 n ∧ u.size ≤ 140737488355328 ∧ e = .returned (.tuple #[.agg #[.int .i64 k, .int .i64 n, .string u, .slice none 0 0], .bool true])) ∨
     (R = .bad (s.data.toList.drop p') ∧ ∃ k n u, e = .returned (.tuple #[.agg #[.int .i64 k, .int .i64 n, .string u, .slice none 0 0], .bool false])))

theorem owns_drewN {w : World} {n : Nat} {B : Nat} {e : TypeId} {size k : Nat} {v : Value} {xs : List Value} (h : w.ownsRow B e size v k xs) : (w.drewN n).ownsRow B e size v k xs := owns_same h (fun _ _ => rfl)

set_option maxHeartbeats 400000 in
theorem refS_any (s : ByteArray) (w : World) :
    Calls Tryd.prog 93 #[.string s] w fun e w' => e = .returned (.agg #[.int .i64 2, .int .i64 0, .string s, .slice none 0 0]) ∧ Below w.heap.size w w' := by
  go_enter Tryd.func93, Tryd.ntmps93
  go_wp2
  go_returns
  exact ⟨rfl, by go_grown⟩
set_option maxHeartbeats 400000 in
theorem refI_any (n : Int) (w : World) :
    Calls Tryd.prog 75 #[.int .i64 n] w fun e w' => e = .returned (.agg #[.int .i64 0, .int .i64 n, .string ⟨#[]⟩, .slice none 0 0]) ∧ Below w.heap.size w w' := by
  go_enter Tryd.func75, Tryd.ntmps75
  go_wp2
  go_returns
  exact ⟨rfl, by go_grown⟩
set_option maxHeartbeats 400000 in
theorem refE_any (n : Int) (w : World) :
    Calls Tryd.prog 94 #[.int .i64 n] w fun e w' => e = .returned (.agg #[.int .i64 3, .int .i64 n, .string ⟨#[]⟩, .slice none 0 0]) ∧ Below w.heap.size w w' := by
  go_enter Tryd.func94, Tryd.ntmps94
  go_wp2
  go_returns
  exact ⟨rfl, by go_grown⟩

end Go.Proofs.YtcinhndidkllbaaDoor
