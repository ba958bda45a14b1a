/- A number of a word, as the document reads it. No program is named. -/
import Derived.Test.YtcecgfijfnnpeaaDoorNumP
import Derived.Test.YtcecgfijfnnpeaaDoorMp2
import Derived.Lib.ParseIntBTie
namespace Go.Proofs.YtcecgfijfnnpeaaDoor.Mt
open Go.RowKit

theorem vals_ge : ∀ (l : Ls) (n : Nat), n ≤ vals n l
  | [], n => by rw [vals_nil]; exact Nat.le_refl _
  | c :: r, n => by rw [vals_cons]; have := vals_ge r (10 * n + (c.toNat - 48)); omega
theorem parse_vals (M : Nat) (hM : M < 1844674407370955162) : ∀ (l : Ls) (acc : Nat), (∀ c ∈ l, isD c = true) → vals acc l ≤ M → Lib.parseUintM M acc l = .ok (vals acc l)
  | [], acc, _, _ => by rw [Lib.parseUintM, vals_nil]
  | c :: r, acc, hd, hv => by
    have hc := isD_iff.1 (hd c (by simp))
    rw [vals_cons] at hv
    have h1 := vals_ge r (10 * acc + (c.toNat - 48))
    rw [Lib.parseUintM, if_pos hc, if_neg (by omega), if_neg (by omega), vals_cons, show acc * 10 + (c.toNat - 48) = 10 * acc + (c.toNat - 48) by omega]
    exact parse_vals M hM r _ (fun d h => hd d (by simp [h])) hv
theorem parse_dec {u : Nat} (h : u ≤ 4294967295) : Lib.parseUintB 32 (Lib.decDigits u) = .ok u := by
  obtain ⟨f1, f2, f3⟩ := dec_facts10 u
  unfold Lib.parseUintB
  rw [if_neg f3]
  have := parse_vals (2 ^ 32 - 1) (by decide) (Lib.decDigits u) 0 f1 (by rw [f2]; omega)
  rw [f2] at this; exact this
theorem parse_itoa {n : Int} (h0 : -2147483648 ≤ n) (h1 : n ≤ 2147483647) : Lib.parseIntB 32 (Lib.itoa n) = .ok n := by
  unfold Lib.itoa
  by_cases hn : n < 0
  · rw [if_pos hn, Lib.parseIntB_minus, parse_dec (by omega)]
    unfold Lib.signedC
    simp only
    rw [if_neg (by omega)]
    congr 1; omega
  · rw [if_neg hn]
    obtain ⟨f1, f2, f3⟩ := dec_facts10 n.toNat
    have hp := parse_dec (u := n.toNat) (by omega)
    cases hd : Lib.decDigits n.toNat with
    | nil => exact absurd hd f3
    | cons c r =>
      have hc := isD_iff.1 (f1 c (by rw [hd]; simp))
      rw [hd] at hp
      rw [Lib.parseIntB_plain _ _ _ (by omega) (by omega), hp]
      unfold Lib.signlessC
      simp only
      rw [if_neg (by omega)]
      congr 1; omega
/-- The document's answer, and the program's. -/
theorem num_ref (c : UInt8) (d : Ls) (hc : c.toNat = 35) : numO (c :: d) = if (refNum d).2 = true ∧ -2147483648 ≤ (refNum d).1 ∧ (refNum d).1 ≤ 2147483647 then some (refNum d).1 else none := by
  have e : numO (c :: d) = (match Lib.parseIntB 32 d with | .ok v => if Lib.itoa v == d then some v else none | _ => none) := if_pos hc
  rw [e]
  rcases refNum_false d with h | ⟨n, h⟩
  · rw [h, if_neg (by simp)]
    split
    · rename_i v hv
      have hb := Lib.parseIntB_bounds hv
      have hne : (Lib.itoa v == d) = false := by
        rw [beq_eq_false_iff_ne]
        intro hi
        have := refNum_itoa (n := v) (by have := hb.1; simp at this; omega) (by have := hb.2; simp at this; omega)
        rw [hi, h] at this
        cases this
      rw [hne]; rfl
    · rfl
  · obtain ⟨hd, h0, h1⟩ := refNum_sound h
    rw [h]
    by_cases hb : -2147483648 ≤ n ∧ n ≤ 2147483647
    · rw [if_pos ⟨rfl, hb⟩, hd, parse_itoa hb.1 hb.2]
      simp
    · rw [if_neg (fun h => hb h.2)]
      split
      · rename_i v hv
        have hvb := Lib.parseIntB_bounds hv
        have hne : (Lib.itoa v == d) = false := by
          rw [beq_eq_false_iff_ne]
          intro hi
          have := refNum_itoa (n := v) (by have := hvb.1; simp at this; omega) (by have := hvb.2; simp at this; omega)
          rw [hi, h] at this
          injection this with this _
          apply hb
          rw [this]
          have h2 := hvb.1; have h3 := hvb.2
          simp at h2 h3
          omega
        rw [hne]; rfl
      · rfl
end Go.Proofs.YtcecgfijfnnpeaaDoor.Mt
