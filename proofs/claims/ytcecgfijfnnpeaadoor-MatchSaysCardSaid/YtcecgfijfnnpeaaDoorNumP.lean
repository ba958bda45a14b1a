/- Numbers in texts, as the document reads them: what it says is what the other reading says. No program is named. -/
import Derived.Test.YtcecgfijfnnpeaaDoorParse2
namespace Go.Proofs.YtcecgfijfnnpeaaDoor
open Go.RowKit

/-- What digits say. -/
def vals (n : Nat) (l : Bs) : Nat := l.foldl (fun m c => 10 * m + (c.toNat - 48)) n
theorem vals_nil (n : Nat) : vals n [] = n := by unfold vals; rw [List.foldl_nil]
theorem vals_cons (n : Nat) (c : UInt8) (r : Bs) : vals n (c :: r) = vals (10 * n + (c.toNat - 48)) r := by unfold vals; rw [List.foldl_cons]
theorem vals_snoc (l : Bs) (n : Nat) (c : UInt8) : vals n (l ++ [c]) = 10 * vals n l + (c.toNat - 48) := by
  unfold vals; rw [List.foldl_append, List.foldl_cons, List.foldl_nil]
theorem vals_lt : ∀ (l : Bs) (n : Nat), (∀ c ∈ l, isD c = true) → vals n l < (n + 1) * 10 ^ l.length
  | [], n, _ => by simp [vals_nil]
  | c :: r, n, h => by
    have hc := isD_iff.1 (h c (by simp))
    have ih := vals_lt r (10 * n + (c.toNat - 48)) (fun d hd => h d (by simp [hd]))
    rw [vals_cons, List.length_cons, Nat.pow_succ]
    have h2 : (10 * n + (c.toNat - 48) + 1) * 10 ^ r.length ≤ (10 * (n + 1)) * 10 ^ r.length := Nat.mul_le_mul_right _ (by omega)
    have h3 : (10 * (n + 1)) * 10 ^ r.length = (n + 1) * (10 ^ r.length * 10) := by
      rw [Nat.mul_comm 10 (n + 1), Nat.mul_assoc, Nat.mul_comm 10]
    omega
theorem dec_vals : ∀ (l : Bs) (n : Nat), 0 < n → (∀ c ∈ l, isD c = true) → Lib.decDigits (vals n l) = Lib.decDigits n ++ l
  | [], n, _, _ => by simp [vals]
  | c :: r, n, hn, h => by
    have hcd := h c (by simp)
    have hc := isD_iff.1 hcd
    rw [vals_cons, dec_vals r _ (by omega) (fun d hd => h d (by simp [hd])), dec_big (u := 10 * n + (c.toNat - 48)) (by omega)]
    rw [show (10 * n + (c.toNat - 48)) / 10 = n by omega, show (10 * n + (c.toNat - 48)) % 10 = c.toNat - 48 by omega, ofNat_isD hcd]
    simp
theorem dec_facts10 (u : Nat) : (∀ c ∈ Lib.decDigits u, isD c = true) ∧ vals 0 (Lib.decDigits u) = u ∧ Lib.decDigits u ≠ [] := by
  induction u using Nat.strongRecOn with
  | ind u ih =>
    by_cases h : u < 10
    · rw [dec_small h]
      have := isD_ofNat h
      refine ⟨by simpa using this, ?_, by simp⟩
      rw [vals_cons, vals_nil, ofNat_toNat_lt (by omega)]; omega
    · obtain ⟨i1, i2, i3⟩ := ih (u / 10) (by omega)
      rw [dec_big h]
      refine ⟨?_, ?_, by simp⟩
      · intro c hc
        rcases List.mem_append.1 hc with hc | hc
        · exact i1 c hc
        · rw [List.mem_singleton] at hc; subst hc; exact isD_ofNat (d := u % 10) (by omega)
      · rw [vals_snoc, i2, ofNat_toNat_lt (by omega)]; omega
theorem dec_len19 : ∀ (k u : Nat), u < 10 ^ (k + 1) → (Lib.decDigits u).length ≤ k + 1
  | 0, u, h => by rw [dec_small (by simpa using h)]; simp
  | k + 1, u, h => by
    by_cases hu : u < 10
    · rw [dec_small hu]; simp
    · have := dec_len19 k (u / 10) (by rw [Nat.pow_succ] at h; omega)
      rw [dec_big hu, List.length_append]
      simp; omega

/-- The document's Number. -/
def badNum (neg : Bool) (d : Bs) : Bool := d.isEmpty || (decide (19 < d.length) || (hd 48 d && (decide (1 < d.length) || neg)))
def refNum (l : Bs) : Int × Bool :=
  let neg := hd 45 l
  let d := if neg then l.drop 1 else l
  if badNum neg d = true then (0, false)
  else if d.all isD = false then (0, false)
  else if neg then (if 9223372036854775808 < vals 0 d then (0, false) else (-(vals 0 d : Int), true))
  else if 9223372036854775807 < vals 0 d then (0, false) else ((vals 0 d : Int), true)

theorem good_dec {neg : Bool} {d : Bs} (h1 : badNum neg d = false) (h2 : d.all isD = true) : Lib.decDigits (vals 0 d) = d ∧ (neg = true → 0 < vals 0 d) := by
  cases d with
  | nil => simp [badNum] at h1
  | cons c r =>
    rw [List.all_eq_true] at h2
    have hcd := h2 c (by simp)
    have hc := isD_iff.1 hcd
    by_cases h0 : c.toNat = 48
    · have hr : r = [] ∧ neg = false := by
        simp [badNum, hd, h0] at h1
        exact h1.2
      obtain ⟨rfl, rfl⟩ := hr
      refine ⟨?_, fun h => by cases h⟩
      show Lib.decDigits (10 * 0 + (c.toNat - 48)) = [c]
      rw [show 10 * 0 + (c.toNat - 48) = c.toNat - 48 by omega, dec_small (by omega), ofNat_isD hcd]
    · have e : vals 0 (c :: r) = vals (c.toNat - 48) r := by rw [vals_cons]; congr 1; omega
      rw [e, dec_vals r _ (by omega) (fun x hx => h2 x (by simp [hx])), dec_small (by omega), ofNat_isD hcd]
      refine ⟨by simp, fun _ => ?_⟩
      rcases Nat.eq_zero_or_pos (vals (c.toNat - 48) r) with hz | hz
      · have h3 := dec_vals r (c.toNat - 48) (by omega) (fun x hx => h2 x (by simp [hx]))
        rw [hz, dec_small (by omega), dec_small (by omega)] at h3
        simp only [List.singleton_append, List.cons.injEq] at h3
        have h4 := congrArg UInt8.toNat h3.1
        rw [ofNat_toNat_lt (by omega), ofNat_toNat_lt (by omega)] at h4
        omega
      · exact hz
theorem good_of_dec (neg : Bool) (u : Nat) (hu : u < 10 ^ 19) (h0 : neg = true → 0 < u) : badNum neg (Lib.decDigits u) = false ∧ (Lib.decDigits u).all isD = true := by
  obtain ⟨f1, f2, f3⟩ := dec_facts10 u
  refine ⟨?_, List.all_eq_true.2 f1⟩
  have hl := dec_len19 18 u hu
  unfold badNum
  have e1 : (Lib.decDigits u).isEmpty = false := by
    cases h : Lib.decDigits u with
    | nil => exact absurd h f3
    | cons c r => rfl
  rw [e1, decide_eq_false (by omega)]
  rcases Nat.eq_zero_or_pos u with hz | hz
  · subst hz
    rw [dec_small (by omega)]
    cases neg with
    | true => exact absurd (h0 rfl) (by omega)
    | false => rfl
  · have := (dec_head u hz []).1
    rw [List.append_nil] at this
    rw [this]; rfl

theorem refNum_sound {l : Bs} {n : Int} (h : refNum l = (n, true)) : l = Lib.itoa n ∧ -9223372036854775808 ≤ n ∧ n ≤ 9223372036854775807 := by
  unfold refNum at h
  cases hneg : hd 45 l with
  | true =>
    rw [hneg] at h
    simp only [if_true] at h
    have hl := hd_lit hneg
    generalize l.drop 1 = d at *
    split at h
    · cases h
    · rename_i hb
      split at h
      · cases h
      · rename_i ha
        have hg := good_dec (neg := true) (d := d) (by simpa using hb) (by simpa using ha)
        split at h
        · cases h
        · rename_i hv
          injection h with h _
          subst h
          have hp := hg.2 rfl
          refine ⟨?_, by omega, by omega⟩
          rw [hl]
          unfold Lib.itoa
          rw [if_pos (by omega), Int.natAbs_neg, Int.natAbs_natCast, hg.1]; rfl
  | false =>
    rw [hneg] at h
    simp only [Bool.false_eq_true, if_false] at h
    split at h
    · cases h
    · rename_i hb
      split at h
      · cases h
      · rename_i ha
        have hg := good_dec (neg := false) (d := l) (by simpa using hb) (by simpa using ha)
        split at h
        · cases h
        · rename_i hv
          injection h with h _
          subst h
          refine ⟨?_, by omega, by omega⟩
          unfold Lib.itoa
          rw [if_neg (by omega), Int.toNat_natCast, hg.1]
theorem refNum_itoa {n : Int} (h0 : -9223372036854775808 ≤ n) (h1 : n ≤ 9223372036854775807) : refNum (Lib.itoa n) = (n, true) := by
  unfold Lib.itoa
  by_cases hn : n < 0
  · rw [if_pos hn]
    obtain ⟨g1, g2⟩ := good_of_dec true n.natAbs (by omega) (fun _ => by omega)
    have hv := (dec_facts10 n.natAbs).2.1
    unfold refNum
    simp only [hd, show ((45 : UInt8).toNat == 45) = true from rfl, if_true, List.drop_succ_cons, List.drop_zero, g1, g2, Bool.false_eq_true, if_false, hv]
    rw [if_neg (by simp), if_neg (by omega)]
    simp; omega
  · rw [if_neg hn]
    obtain ⟨g1, g2⟩ := good_of_dec false n.toNat (by omega) (fun h => by cases h)
    obtain ⟨f1, hv, f3⟩ := dec_facts10 n.toNat
    have hh : hd 45 (Lib.decDigits n.toNat) = false := by
      cases hdd : Lib.decDigits n.toNat with
      | nil => rfl
      | cons c r =>
        have := isD_iff.1 (f1 c (by rw [hdd]; simp))
        simp [hd]; omega
    unfold refNum
    simp only [hh, Bool.false_eq_true, if_false, g1, g2, hv]
    rw [if_neg (by simp), if_neg (by omega)]
    simp; omega
theorem refNum_false (l : Bs) : refNum l = (0, false) ∨ ∃ n, refNum l = (n, true) := by
  unfold refNum
  simp only
  repeat' split
  all_goals first | exact .inl rfl | exact .inr ⟨_, rfl⟩
/-- What it says is what the other reading says. -/
theorem refNum_eq (l : Bs) : (match numC 9223372036854775807 l with | (some n, []) => (n, true) | _ => ((0 : Int), false)) = refNum l := by
  rcases refNum_false l with h | ⟨n, h⟩
  · rw [h]
    split
    · rename_i n hc
      obtain ⟨e, h0, h1⟩ := numC_sound (by omega) hc
      rw [List.append_nil] at e
      rw [e, refNum_itoa (by omega) (by omega)] at h
      cases h
    · rfl
  · obtain ⟨e, h0, h1⟩ := refNum_sound h
    have hc := numC_itoa (most := 9223372036854775807) (n := n) (r := []) (by omega) (by omega) rfl
    rw [List.append_nil, ← e] at hc
    rw [h, hc]
end Go.Proofs.YtcecgfijfnnpeaaDoor
