/- Plain words on where a text is in another one. No program is named. -/
import Derived.Lib.IndexMore
import Derived.Lib.LastIndexLaws
namespace Go.Proofs.YtnlbibfjhobmjaaDoor
open Go.Lib

theorem occ_take {A t : List UInt8} {i : Nat} (h : occAt A t i = true) : (A.drop i).take t.length = t := by
  have := List.isPrefixOf_iff_prefix.1 h
  exact (List.prefix_iff_eq_take.1 this).symm
theorem occ_of_take {A t : List UInt8} {i : Nat} (h : (A.drop i).take t.length = t) : occAt A t i = true := by
  unfold occAt
  rw [List.isPrefixOf_iff_prefix, List.prefix_iff_eq_take]
  exact h.symm
theorem occ_len {A t : List UInt8} {i : Nat} (h : occAt A t i = true) (hi : i ≤ A.length) : i + t.length ≤ A.length := by
  have := congrArg List.length (occ_take h)
  simp at this
  omega

/-- A text that stands at place k: where it is first and last. -/
theorem finds (A t : List UInt8) (k : Nat) (hk : occAt A t k = true) (hl : k + t.length ≤ A.length) :
    ∃ I J : Nat, index A t = I ∧ lastIndex A t = J ∧ I ≤ k ∧ k ≤ J ∧ I + t.length ≤ A.length ∧ J + t.length ≤ A.length ∧ (A.drop I).take t.length = t ∧ (A.drop J).take t.length = t ∧ (t ≠ [] → index (A.take (I + t.length - 1)) t = -1) := by
  obtain ⟨I, hI, hI1, hI2, hI3⟩ : ∃ I : Nat, index A t = I ∧ I ≤ k ∧ occAt A t I = true ∧ NoOcc A t I := by
    rcases index_spec A t with ⟨h1, h2⟩ | ⟨i, h1, h2, h3, h4⟩
    · rw [h2 k (by omega)] at hk; cases hk
    · refine ⟨i, h1, ?_, h3, h4⟩
      rcases Nat.lt_or_ge k i with h | h
      · rw [h4 k h] at hk; cases hk
      · exact h
  obtain ⟨J, hJ, hJ1, hJ2, hJ3⟩ : ∃ J : Nat, lastIndex A t = J ∧ k ≤ J ∧ occAt A t J = true ∧ J + t.length ≤ A.length := by
    unfold lastIndex
    rw [if_pos (by omega)]
    rcases lastOcc_spec A t (A.length - t.length + 1) with ⟨h1, h2⟩ | ⟨i, h1, h2, h3, h4⟩
    · rw [h2 k (by omega)] at hk; cases hk
    · refine ⟨i, h2, ?_, h3, by omega⟩
      rcases Nat.lt_or_ge i k with h | h
      · rw [h4 k h (by omega)] at hk; cases hk
      · exact h
  refine ⟨I, J, hI, hJ, hI1, hJ1, occ_len hI2 (by omega), hJ3, occ_take hI2, occ_take hJ2, fun hne => ?_⟩
  have htl : 0 < t.length := List.length_pos_iff.2 hne
  rcases index_spec (A.take (I + t.length - 1)) t with ⟨h1, _⟩ | ⟨i, _, h2, h3, _⟩
  · exact h1
  · exfalso
    have hr := occ_len h3 h2
    simp at hr
    have hio : occAt A t i = true := by
      apply occ_of_take
      have h4 := occ_take h3
      rw [List.drop_take, List.take_take, Nat.min_eq_left (by omega)] at h4
      exact h4
    rw [hI3 i (by omega)] at hio
    cases hio
theorem emod_of_tmod (n b : Int) (hb : 1 ≤ b) : n % b = if n.tmod b < 0 then n.tmod b + b else n.tmod b := by
  have h := @Int.tmod_eq_emod n b
  have h1 := Int.emod_nonneg n (b := b) (by omega)
  have h2 := Int.emod_lt_of_pos n (b := b) (by omega)
  have hab : (b.natAbs : Int) = b := by omega
  by_cases hd : 0 ≤ n ∨ b ∣ n
  · rw [if_pos hd] at h; rw [h]; rw [if_neg (by omega)]; omega
  · rw [if_neg hd] at h; rw [h]; rw [if_pos (by omega)]; omega
theorem tmod_bounds (n b : Int) (hb : 1 ≤ b) : -b ≤ n.tmod b ∧ n.tmod b < b := by
  have h := emod_of_tmod n b hb
  have h1 := Int.emod_nonneg n (b := b) (by omega)
  have h2 := Int.emod_lt_of_pos n (b := b) (by omega)
  split at h <;> omega
end Go.Proofs.YtnlbibfjhobmjaaDoor
