/- Plain words on one letter replaced by a text. No program is named. -/
import Derived.Test.YtnlbibfjhobmjaaRepM
namespace Go.Proofs.Ytnlbibfjhobmjaa
open Go.Lib

theorem rep_one (a : UInt8) (wi : Bl) : ∀ l : Bl, rep [a] wi l = l.flatMap (fun c => if c = a then wi else [c])
  | [] => by rw [rep_nil]; rfl
  | c :: r => by
    by_cases h : c = a
    · rw [rep_hit [a] wi (by simp) (c :: r) (by simp [h])]
      simp [h, rep_one a wi r]
    · have h2 : [a].isPrefixOf (c :: r) = false := by
        show (a == c && List.isPrefixOf [] r) = false
        rw [beq_eq_false_iff_ne.2 (fun e => h e.symm)]; rfl
      rw [rep_miss [a] wi c r h2, rep_one a wi r]
      simp [h]
theorem rep_one_len (a : UInt8) (wi : Bl) : ∀ l : Bl, (rep [a] wi l).length + l.count a = l.length + l.count a * wi.length := by
  intro l
  rw [rep_one]
  induction l with
  | nil => simp
  | cons c r ih =>
    by_cases h : c = a
    · subst h
      simp only [List.flatMap_cons, if_true, List.length_append, List.count_cons_self, List.length_cons, Nat.add_mul, Nat.one_mul]
      omega
    · rw [List.flatMap_cons, if_neg h, List.length_append, List.count_cons_of_ne h]
      simp only [List.length_cons, List.length_nil]
      omega
theorem rep_one_mem (a : UInt8) (wi : Bl) (h : a ∉ wi) (l : Bl) : a ∉ rep [a] wi l := by
  rw [rep_one]
  intro hm
  rw [List.mem_flatMap] at hm
  obtain ⟨c, _, hc⟩ := hm
  split at hc
  · exact h hc
  · rename_i hn; simp at hc; exact hn hc.symm
theorem rep_one_self (a : UInt8) (l : Bl) : rep [a] [a] l = l := by
  rw [rep_one]
  induction l with
  | nil => rfl
  | cons c r ih =>
    rw [List.flatMap_cons, ih]
    by_cases h : c = a
    · rw [if_pos h, h]; rfl
    · rw [if_neg h]; rfl
theorem index_none (a : UInt8) (l : Bl) (h : a ∉ l) : index l [a] = -1 := by
  rcases index_spec l [a] with ⟨h1, _⟩ | ⟨i, _, h2, h3, _⟩
  · exact h1
  · exfalso
    have : [a] <+: l.drop i := List.isPrefixOf_iff_prefix.1 h3
    obtain ⟨t, ht⟩ := this
    apply h
    have : a ∈ l.drop i := by rw [← ht]; simp
    exact List.mem_of_mem_drop this
theorem rep_one_all (a : UInt8) (wi : Bl) (n : Nat) : (rep [a] wi (List.replicate n a)).length = n * wi.length := by
  have h := rep_one_len a wi (List.replicate n a)
  simp at h
  omega
end Go.Proofs.Ytnlbibfjhobmjaa
