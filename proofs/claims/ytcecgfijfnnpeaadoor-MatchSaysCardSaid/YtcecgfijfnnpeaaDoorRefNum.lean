/- The document's Number: what it answers of any short text. -/
import Derived.Test.YtcecgfijfnnpeaaDoorNumP
import Derived.Test.YtcecgfijfnnpeaaDoorChecked
import Derived.WalkKit
import Derived.ProofKit
import Derived.Lib.Hide
import Derived.LoopTactic
import Derived.Deep.DeepCutAuto
import Derived.Deep.QuietTactic
import Derived.BigQuiet
import Derived.WalkSpells
namespace Go.Proofs.YtcecgfijfnnpeaaDoor
open Go.RowKit
set_option maxRecDepth 100000

/-- Number behind its sign. -/
def refBy (neg : Bool) (d : Bs) : Int × Bool :=
  if badNum neg d = true then (0, false)
  else if d.all isD = false then (0, false)
  else if neg then (if 9223372036854775808 < vals 0 d then (0, false) else (-(vals 0 d : Int), true))
  else if 9223372036854775807 < vals 0 d then (0, false) else ((vals 0 d : Int), true)
theorem refNum_neg {l : Bs} (h : hd 45 l = true) : refNum l = refBy true (l.drop 1) := by unfold refNum; rw [h]; rfl
theorem refNum_pos {l : Bs} (h : hd 45 l = false) : refNum l = refBy false l := by unfold refNum; rw [h]; rfl
theorem refBy_bad {neg : Bool} {d : Bs} (h : badNum neg d = true) : refBy neg d = (0, false) := if_pos h
theorem refBy_odd {neg : Bool} {d : Bs} (h : badNum neg d = false) (h2 : d.all isD = false) : refBy neg d = (0, false) := by
  unfold refBy; rw [if_neg (by rw [h]; simp), if_pos h2]
theorem refBy_neg {d : Bs} (h : badNum true d = false) (h2 : d.all isD = true) : refBy true d = if 9223372036854775808 < vals 0 d then (0, false) else (-(vals 0 d : Int), true) := by
  unfold refBy; rw [if_neg (by rw [h]; simp), if_neg (by rw [h2]; simp)]; rfl
theorem refBy_pos {d : Bs} (h : badNum false d = false) (h2 : d.all isD = true) : refBy false d = if 9223372036854775807 < vals 0 d then (0, false) else ((vals 0 d : Int), true) := by
  unfold refBy; rw [if_neg (by rw [h]; simp), if_neg (by rw [h2]; simp)]; rfl

theorem wrap_neg {n : Int} (h0 : 0 ≤ n) (h1 : n ≤ 9223372036854775808) : wrap64 (-wrap64 n) = -n := by
  unfold wrap64; omega

/-- Where the loop stands: the digits read so far, and their value. -/
structure NumAt (D : ByteArray) (j n : Nat) : Prop where
  le : j ≤ D.size
  val : n = vals 0 (D.data.toList.take j)
  dig : ∀ c ∈ D.data.toList.take j, isD c = true
theorem NumAt.start (D : ByteArray) : NumAt D 0 0 := ⟨Nat.zero_le _, rfl, by simp⟩
theorem len_data (D : ByteArray) : D.data.toList.length = D.size := by simp
theorem NumAt.lt {D : ByteArray} {j n : Nat} (h : NumAt D j n) : n < 10 ^ j := by
  have := vals_lt _ 0 h.dig
  rw [← h.val] at this
  have h2 : (D.data.toList.take j).length = j := by rw [List.length_take, len_data]; have := h.le; omega
  rw [h2] at this; omega
theorem NumAt.small {D : ByteArray} {j n : Nat} (h : NumAt D j n) (hz : D.size ≤ 19) (hj : j < D.size) : n < 1000000000000000000 := by
  have h1 := h.lt
  have h2 : (10 : Nat) ^ j ≤ 10 ^ 18 := Nat.pow_le_pow_right (by omega) (by omega)
  have h3 : (10 : Nat) ^ 18 = 1000000000000000000 := by decide
  omega
theorem NumAt.small' {D : ByteArray} {j n : Nat} (h : NumAt D j n) (hz : D.size ≤ 19) : n < 10000000000000000000 := by
  have h1 := h.lt
  have h2 : (10 : Nat) ^ j ≤ 10 ^ 19 := Nat.pow_le_pow_right (by omega) (by have := h.le; omega)
  have h3 : (10 : Nat) ^ 19 = 10000000000000000000 := by decide
  omega
theorem take_step (D : ByteArray) (j : Nat) (hj : j < D.size) : D.data.toList.take (j + 1) = D.data.toList.take j ++ [D[j]] := by
  rw [List.take_succ_eq_append_getElem (by rw [len_data]; exact hj)]; rfl
theorem NumAt.next {D : ByteArray} {j n : Nat} (h : NumAt D j n) (hj : j < D.size) (hd : 48 ≤ (D[j]).toNat ∧ (D[j]).toNat ≤ 57) : NumAt D (j + 1) (10 * n + ((D[j]).toNat - 48)) := by
  refine ⟨hj, ?_, ?_⟩
  · rw [take_step D j hj, vals_snoc, ← h.val]
  · intro c hc
    rw [take_step D j hj] at hc
    rcases List.mem_append.1 hc with hc | hc
    · exact h.dig c hc
    · simp at hc; subst hc; exact isD_iff.2 hd
theorem NumAt.odd {D : ByteArray} {j n : Nat} (_ : NumAt D j n) (hj : j < D.size) (hd : ¬ (48 ≤ (D[j]).toNat ∧ (D[j]).toNat ≤ 57)) : D.data.toList.all isD = false := by
  cases hq : D.data.toList.all isD with
  | false => rfl
  | true =>
    exfalso
    rw [List.all_eq_true] at hq
    have hm : D[j] ∈ D.data.toList := by
      show D.data[j] ∈ _
      simp
    exact hd (isD_iff.1 (hq _ hm))
theorem NumAt.full {D : ByteArray} {n : Nat} (h : NumAt D D.size n) : D.data.toList.all isD = true ∧ n = vals 0 D.data.toList := by
  have e : D.data.toList.take D.size = D.data.toList := List.take_of_length_le (by rw [len_data]; exact Nat.le_refl _)
  have h1 := h.dig; have h2 := h.val
  rw [e] at h1 h2
  exact ⟨List.all_eq_true.2 h1, h2⟩
theorem hd_at {D : ByteArray} (c : Nat) (h : 0 < D.size) : hd c D.data.toList = ((D[0]).toNat == c) := by
  have hl : 0 < D.data.toList.length := by rw [len_data]; exact h
  have e : D.data.toList = D.data.toList[0] :: D.data.toList.drop 1 := by
    rw [← List.drop_eq_getElem_cons hl]; rfl
  rw [e]; rfl


theorem isE {D : ByteArray} (h : D.size = 0) : D.toList.isEmpty = true := by
  rw [ByteArray.toList_eq]; rw [← len_data] at h
  rw [List.eq_nil_of_length_eq_zero h]; rfl
theorem isN {D : ByteArray} (h : ¬ D.size = 0) : D.toList.isEmpty = false := by
  rw [ByteArray.toList_eq]; rw [← len_data] at h
  cases hq : D.data.toList with
  | nil => rw [hq] at h; exact absurd rfl h
  | cons a r => rfl
theorem badNum_at {D : ByteArray} {neg : Bool} (h : 0 < D.size) : badNum neg D.data.toList = (decide (19 < D.size) || ((D[0]).toNat == 48 && (decide (1 < D.size) || neg))) := by
  have e : D.data.toList.isEmpty = false := by rw [← ByteArray.toList_eq]; exact isN (by omega)
  unfold badNum; rw [e, hd_at 48 h, len_data]; rfl
theorem badNum_nil {D : ByteArray} {neg : Bool} (h : D.size = 0) : badNum neg D.data.toList = true := by
  have e : D.data.toList.isEmpty = true := by rw [← ByteArray.toList_eq]; exact isE h
  unfold badNum; rw [e]; rfl

set_option maxHeartbeats 4000000 in
theorem refNumber_pos (D : ByteArray) (w : World) (hs : D.size ≤ 100) (h0 : 0 < D.size) (hn : ¬ (D[0]).toNat = 45) (q : Int × Bool) (hq : refBy false D.data.toList = q) :
    Calls Tryd.prog 60 #[.string D] w fun e w' => e = .returned (.tuple #[.int .i64 q.1, .bool q.2]) ∧ w = w' := by
  subst hq
  have e0 := isN (D := D) (by omega)
  have e1 : (((D[0]).toNat : Int) == 45) = false := by simp; omega
  have hpd : 0 < D.size := h0
  have hpos : (0 : Int) < (D.size : Int) := by omega
  have hb := badNum_at (neg := false) hpd
  by_cases h19 : 19 < D.size
  · have HE := Lib.hid (refBy_bad (hb.trans (by rw [decide_eq_true h19]; rfl)))
    have d19 : decide ((19 : Int) < (D.size : Int)) = true := by simp; omega
    go_enter Tryd.func60, Tryd.ntmps60
    go_wp2
    go_ret2
    exact ⟨by rw [HE.out]; rfl, rfl⟩
  have d19 : decide ((19 : Int) < (D.size : Int)) = false := by simp; omega
  rw [decide_eq_false h19, Bool.false_or] at hb
  by_cases h48 : (D[0]).toNat = 48
  · have e3 : (((D[0]).toNat : Int) == 48) = true := by simp; omega
    by_cases h1 : 1 < D.size
    · have HE := Lib.hid (refBy_bad (hb.trans (by rw [decide_eq_true h1, h48]; rfl)))
      have d1 : decide ((1 : Int) < (D.size : Int)) = true := by simp; omega
      go_enter Tryd.func60, Tryd.ntmps60
      go_wp2
      go_ret2
      exact ⟨by rw [HE.out]; rfl, rfl⟩
    · have d1 : decide ((1 : Int) < (D.size : Int)) = false := by simp; omega
      have hbad : badNum false D.data.toList = false := hb.trans (by rw [decide_eq_false h1, h48]; rfl)
      clear hb
      have HB := Lib.hid hbad; clear hbad
      go_enter Tryd.func60, Tryd.ntmps60
      go_wp2
      go_loop [5, 6] (fun n i => ∃ (j m : Nat) (nI : Int), i = .int .i64 j ∧ n = .int .u64 nI ∧ j ≤ D.size ∧ 0 ≤ nI ∧ Hid ((m : Int) = nI) ∧ Hid (NumAt D j m)) (fun _ i => D.size - (intOf i).toNat)
      case atStart => exact ⟨0, 0, 0, rfl, rfl, Nat.zero_le _, by omega, Lib.hid rfl, Lib.hid (NumAt.start D)⟩
      case round =>
        obtain ⟨j, m, nI, rfl, rfl, hj, hn0, HMN, HAT⟩ := hrel
        by_cases hlt : j < D.size
        · have hmI : nI < 1000000000000000000 := by have := HAT.out.small (by omega) hlt; have := HMN.out; omega
          have hjI : (j : Int) < (D.size : Int) := by omega
          by_cases hd0 : (D[j]).toNat < 48
          · have HO := Lib.hid (refBy_odd HB.out (HAT.out.odd hlt (by omega)))
            have hd1 : ((D[j]).toNat : Int) < 48 := by omega
            go_wp2
            go_ret2
            exact ⟨by rw [HO.out]; rfl, rfl⟩
          · have hd1 : 48 ≤ ((D[j]).toNat : Int) := by omega
            by_cases hd2 : 57 < (D[j]).toNat
            · have HO := Lib.hid (refBy_odd HB.out (HAT.out.odd hlt (by omega)))
              have hd3 : 57 < ((D[j]).toNat : Int) := by omega
              go_wp2
              go_ret2
              exact ⟨by rw [HO.out]; rfl, rfl⟩
            · have hd3 : ((D[j]).toNat : Int) ≤ 57 := by omega
              have HNX := Lib.hid (HAT.out.next hlt (by omega))
              have HNI := Lib.hid (show ((10 * m + ((D[j]).toNat - 48) : Nat) : Int) = 10 * nI + (((D[j]).toNat : Int) - 48) from by have := HMN.out; omega)
              go_wp2
              go_round
              case measure => simp [intOf]; omega
              case rel => exact ⟨j + 1, _, _, by go_num, rfl, by omega, by omega, HNI, HNX⟩
        · have hje : j = D.size := by omega
          subst hje
          obtain ⟨hf1, hf2⟩ := HAT.out.full
          have hmI : nI < 10000000000000000000 := by have := HAT.out.small' (by omega); have := HMN.out; omega
          have HF := Lib.hid (refBy_pos HB.out hf1)
          rw [← hf2] at HF
          clear hf1 hf2
          by_cases hbI : 9223372036854775807 < nI
          · have HG := Lib.hid (HF.out.trans (if_pos (by have := HMN.out; omega)))
            go_wp2
            go_ret2
            exact ⟨by rw [HG.out]; rfl, rfl⟩
          · have HG := Lib.hid (HF.out.trans (if_neg (by have := HMN.out; omega)))
            rw [HMN.out] at HG
            go_wp2
            go_ret2
            exact ⟨by rw [HG.out]; rfl, rfl⟩
  · have e3 : (((D[0]).toNat : Int) == 48) = false := by simp; omega
    have hbad : badNum false D.data.toList = false := hb.trans (by rw [show ((D[0]).toNat == 48) = false from by simp; exact h48]; rfl)
    clear hb
    have HB := Lib.hid hbad; clear hbad
    go_enter Tryd.func60, Tryd.ntmps60
    go_wp2
    go_loop [5, 6] (fun n i => ∃ (j m : Nat) (nI : Int), i = .int .i64 j ∧ n = .int .u64 nI ∧ j ≤ D.size ∧ 0 ≤ nI ∧ Hid ((m : Int) = nI) ∧ Hid (NumAt D j m)) (fun _ i => D.size - (intOf i).toNat)
    case atStart => exact ⟨0, 0, 0, rfl, rfl, Nat.zero_le _, by omega, Lib.hid rfl, Lib.hid (NumAt.start D)⟩
    case round =>
      obtain ⟨j, m, nI, rfl, rfl, hj, hn0, HMN, HAT⟩ := hrel
      by_cases hlt : j < D.size
      · have hmI : nI < 1000000000000000000 := by have := HAT.out.small (by omega) hlt; have := HMN.out; omega
        have hjI : (j : Int) < (D.size : Int) := by omega
        by_cases hd0 : (D[j]).toNat < 48
        · have HO := Lib.hid (refBy_odd HB.out (HAT.out.odd hlt (by omega)))
          have hd1 : ((D[j]).toNat : Int) < 48 := by omega
          go_wp2
          go_ret2
          exact ⟨by rw [HO.out]; rfl, rfl⟩
        · have hd1 : 48 ≤ ((D[j]).toNat : Int) := by omega
          by_cases hd2 : 57 < (D[j]).toNat
          · have HO := Lib.hid (refBy_odd HB.out (HAT.out.odd hlt (by omega)))
            have hd3 : 57 < ((D[j]).toNat : Int) := by omega
            go_wp2
            go_ret2
            exact ⟨by rw [HO.out]; rfl, rfl⟩
          · have hd3 : ((D[j]).toNat : Int) ≤ 57 := by omega
            have HNX := Lib.hid (HAT.out.next hlt (by omega))
            have HNI := Lib.hid (show ((10 * m + ((D[j]).toNat - 48) : Nat) : Int) = 10 * nI + (((D[j]).toNat : Int) - 48) from by have := HMN.out; omega)
            go_wp2
            go_round
            case measure => simp [intOf]; omega
            case rel => exact ⟨j + 1, _, _, by go_num, rfl, by omega, by omega, HNI, HNX⟩
      · have hje : j = D.size := by omega
        subst hje
        obtain ⟨hf1, hf2⟩ := HAT.out.full
        have hmI : nI < 10000000000000000000 := by have := HAT.out.small' (by omega); have := HMN.out; omega
        have HF := Lib.hid (refBy_pos HB.out hf1)
        rw [← hf2] at HF
        clear hf1 hf2
        by_cases hbI : 9223372036854775807 < nI
        · have HG := Lib.hid (HF.out.trans (if_pos (by have := HMN.out; omega)))
          go_wp2
          go_ret2
          exact ⟨by rw [HG.out]; rfl, rfl⟩
        · have HG := Lib.hid (HF.out.trans (if_neg (by have := HMN.out; omega)))
          rw [HMN.out] at HG
          go_wp2
          go_ret2
          exact ⟨by rw [HG.out]; rfl, rfl⟩

set_option maxHeartbeats 4000000 in
theorem refNumber_neg (s : ByteArray) (w : World) (hs : s.size ≤ 100) (h0 : 0 < s.size) (hn : (s[0]).toNat = 45) (D : ByteArray) (hD : s.extract 1 s.size = D) (hDs : D.size = s.size - 1) (q : Int × Bool) (hq : refBy true D.data.toList = q) :
    Calls Tryd.prog 60 #[.string s] w fun e w' => e = .returned (.tuple #[.int .i64 q.1, .bool q.2]) ∧ w = w' := by
  subst hq
  have e0 := isN (D := s) (by omega)
  have e1 : (((s[0]).toNat : Int) == 45) = true := by simp; omega
  have hsI : (1 : Int) ≤ (s.size : Int) := by omega
  by_cases hz : D.size = 0
  · have HE := Lib.hid (refBy_bad (badNum_nil (neg := true) hz))
    have e2 := isE hz
    go_enter Tryd.func60, Tryd.ntmps60
    go_wp2
    go_ret2
    exact ⟨by rw [HE.out]; rfl, rfl⟩
  have e2 := isN hz
  have hpd : 0 < D.size := by omega
  have hpos : (0 : Int) < (D.size : Int) := by omega
  have hpS : (0 : Int) < (s.size : Int) := by omega
  have hb := badNum_at (neg := true) hpd
  by_cases h19 : 19 < D.size
  · have HE := Lib.hid (refBy_bad (hb.trans (by rw [decide_eq_true h19]; rfl)))
    have d19 : decide ((19 : Int) < (D.size : Int)) = true := by simp; omega
    go_enter Tryd.func60, Tryd.ntmps60
    go_wp2
    go_ret2
    exact ⟨by rw [HE.out]; rfl, rfl⟩
  have d19 : decide ((19 : Int) < (D.size : Int)) = false := by simp; omega
  rw [decide_eq_false h19, Bool.false_or] at hb
  by_cases h48 : (D[0]).toNat = 48
  · have e3 : (((D[0]).toNat : Int) == 48) = true := by simp; omega
    by_cases h1 : 1 < D.size
    · have HE := Lib.hid (refBy_bad (hb.trans (by rw [decide_eq_true h1, h48]; rfl)))
      have d1 : decide ((1 : Int) < (D.size : Int)) = true := by simp; omega
      go_enter Tryd.func60, Tryd.ntmps60
      go_wp2
      go_ret2
      exact ⟨by rw [HE.out]; rfl, rfl⟩
    · have HE := Lib.hid (refBy_bad (hb.trans (by rw [decide_eq_false h1, h48]; rfl)))
      have d1 : decide ((1 : Int) < (D.size : Int)) = false := by simp; omega
      go_enter Tryd.func60, Tryd.ntmps60
      go_wp2
      go_ret2
      exact ⟨by rw [HE.out]; rfl, rfl⟩
  · have e3 : (((D[0]).toNat : Int) == 48) = false := by simp; omega
    have hbad : badNum true D.data.toList = false := hb.trans (by rw [show ((D[0]).toNat == 48) = false from by simp; exact h48]; rfl)
    clear hb
    have HB := Lib.hid hbad; clear hbad
    go_enter Tryd.func60, Tryd.ntmps60
    go_wp2
    go_loop [5, 6] (fun n i => ∃ (j m : Nat) (nI : Int), i = .int .i64 j ∧ n = .int .u64 nI ∧ j ≤ D.size ∧ 0 ≤ nI ∧ Hid ((m : Int) = nI) ∧ Hid (NumAt D j m)) (fun _ i => D.size - (intOf i).toNat)
    case atStart => exact ⟨0, 0, 0, rfl, rfl, Nat.zero_le _, by omega, Lib.hid rfl, Lib.hid (NumAt.start D)⟩
    case round =>
      obtain ⟨j, m, nI, rfl, rfl, hj, hn0, HMN, HAT⟩ := hrel
      by_cases hlt : j < D.size
      · have hmI : nI < 1000000000000000000 := by have := HAT.out.small (by omega) hlt; have := HMN.out; omega
        have hjI : (j : Int) < (D.size : Int) := by omega
        by_cases hd0 : (D[j]).toNat < 48
        · have HO := Lib.hid (refBy_odd HB.out (HAT.out.odd hlt (by omega)))
          have hd1 : ((D[j]).toNat : Int) < 48 := by omega
          go_wp2
          go_ret2
          exact ⟨by rw [HO.out]; rfl, rfl⟩
        · have hd1 : 48 ≤ ((D[j]).toNat : Int) := by omega
          by_cases hd2 : 57 < (D[j]).toNat
          · have HO := Lib.hid (refBy_odd HB.out (HAT.out.odd hlt (by omega)))
            have hd3 : 57 < ((D[j]).toNat : Int) := by omega
            go_wp2
            go_ret2
            exact ⟨by rw [HO.out]; rfl, rfl⟩
          · have hd3 : ((D[j]).toNat : Int) ≤ 57 := by omega
            have HNX := Lib.hid (HAT.out.next hlt (by omega))
            have HNI := Lib.hid (show ((10 * m + ((D[j]).toNat - 48) : Nat) : Int) = 10 * nI + (((D[j]).toNat : Int) - 48) from by have := HMN.out; omega)
            go_wp2
            go_round
            case measure => simp [intOf]; omega
            case rel => exact ⟨j + 1, _, _, by go_num, rfl, by omega, by omega, HNI, HNX⟩
      · have hje : j = D.size := by omega
        subst hje
        obtain ⟨hf1, hf2⟩ := HAT.out.full
        have hmI : nI < 10000000000000000000 := by have := HAT.out.small' (by omega); have := HMN.out; omega
        have HF := Lib.hid (refBy_neg HB.out hf1)
        rw [← hf2] at HF
        clear hf1 hf2
        by_cases hbI : 9223372036854775808 < nI
        · have HG := Lib.hid (HF.out.trans (if_pos (by have := HMN.out; omega)))
          go_wp2
          go_ret2
          exact ⟨by rw [HG.out]; rfl, rfl⟩
        · have HG := Lib.hid (HF.out.trans (if_neg (by have := HMN.out; omega)))
          rw [HMN.out] at HG
          go_wp2
          go_ret2
          exact ⟨by rw [HG.out]; show Ending.returned (.tuple #[.int .i64 (wrap64 (-wrap64 nI)), .bool true]) = _; rw [wrap_neg hn0 hbI], rfl⟩

theorem ext_list' (s : ByteArray) (p : Nat) : (s.extract p s.size).data.toList = s.data.toList.drop p := by
  have h : (s.extract p s.size).data = s.data.extract p s.size := by simp
  rw [h]
  simp
  apply List.take_of_length_le
  simp
theorem refNumber_any (s : ByteArray) (w : World) (hs : s.size ≤ 100) (q : Int × Bool) (hq : refNum s.data.toList = q) :
    Calls Tryd.prog 60 #[.string s] w fun e w' => e = .returned (.tuple #[.int .i64 q.1, .bool q.2]) ∧ w = w' := by
  by_cases h0 : s.size = 0
  · have hl : s.data.toList = [] := List.eq_nil_of_length_eq_zero (by rw [len_data]; exact h0)
    have e0 := isE h0
    rw [hl] at hq
    subst hq
    have HE := Lib.hid (show refNum [] = (0, false) from rfl)
    go_enter Tryd.func60, Tryd.ntmps60
    go_wp2
    go_ret2
    exact ⟨by rw [HE.out]; rfl, rfl⟩
  · have hp : 0 < s.size := by omega
    have hh := hd_at 45 hp
    by_cases hn : (s[0]).toNat = 45
    · rw [hn] at hh
      refine refNumber_neg s w hs hp hn _ rfl (by simp) q ?_
      rw [ext_list']
      exact (refNum_neg hh).symm.trans hq
    · refine refNumber_pos s w hs hp hn q ?_
      exact (refNum_pos (hh.trans (by simp; exact hn))).symm.trans hq
end Go.Proofs.YtcecgfijfnnpeaaDoor
