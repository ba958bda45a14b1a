/- Package match, plainly: where a byte is first, what lies between bytes, what a pattern is and what it fits. No program is named. -/
import Derived.Lib.Split
import Derived.Lib.SplitLaws
import Derived.Lib.Strings
import Derived.Lib.IndexMore
import Derived.Lib.IndexLaws
import Derived.Lib.CountLaws
import Derived.Test.YtcecgfijfnnpeaaDoorBase
namespace Go.Proofs.YtcecgfijfnnpeaaDoor.Mt
open Go.RowKit

abbrev Ls := List UInt8
def digB (c : UInt8) : Bool := decide (48 ≤ c.toNat) && decide (c.toNat ≤ 57)
def nameByteB (c : UInt8) : Bool := digB c || c.toNat == 95 || (decide (97 ≤ c.toNat) && decide (c.toNat ≤ 122))
theorem occ_one (l : Ls) (c : UInt8) (j : Nat) : Lib.occAt l [c] j = (l[j]? == some c) := by
  unfold Lib.occAt
  rw [← List.head?_drop]
  cases l.drop j with
  | nil => rfl
  | cons x r =>
    simp only [List.isPrefixOf, List.head?_cons, Bool.and_true]
    rw [Bool.eq_iff_iff]; simp only [beq_iff_eq, Option.some.injEq]; exact ⟨fun h => h.symm, fun h => h.symm⟩
theorem index_at (a b : Ls) (c : UInt8) (h : c ∉ a) : Lib.index (a ++ c :: b) [c] = a.length := by
  refine Lib.index_hit (fun j hj => ?_) (by simp) ?_
  · rw [occ_one, List.getElem?_append_left hj, List.getElem?_eq_getElem hj]
    rw [beq_eq_false_iff_ne]; intro e; injection e with e; exact h (e ▸ List.getElem_mem hj)
  · rw [occ_one, List.getElem?_append_right (Nat.le_refl _), Nat.sub_self]; simp
theorem index_no (a : Ls) (c : UInt8) (h : c ∉ a) : Lib.index a [c] = -1 := by
  refine Lib.index_none (fun j hj => ?_)
  rw [occ_one, beq_eq_false_iff_ne]
  intro e
  exact h (List.mem_of_getElem? e)
theorem cut_at (a b : Ls) (c : UInt8) (h : c ∉ a) : Lib.cut (a ++ c :: b) [c] = (a, b, true) := by
  unfold Lib.cut
  rw [index_at a b c h, if_pos (by omega)]
  simp
theorem cut_no (a : Ls) (c : UInt8) (h : c ∉ a) : Lib.cut a [c] = (a, [], false) := by
  unfold Lib.cut
  rw [index_no a c h, if_neg (by omega)]
theorem split_no (a : Ls) (c : UInt8) (h : c ∉ a) : Lib.split a [c] = [a] := by
  unfold Lib.split
  rw [Lib.count_miss (index_no a c h)]; rfl
theorem split_at_ (a b : Ls) (c : UInt8) (h : c ∉ a) : Lib.split (a ++ c :: b) [c] = a :: Lib.split b [c] := by
  unfold Lib.split
  rw [Lib.count_hit (by simp) (index_at a b c h), Nat.add_comm 1]
  have e : (Lib.index (a ++ c :: b) [c] == -1) = false := by rw [index_at a b c h, beq_eq_false_iff_ne]; omega
  rw [Lib.splitK, e, index_at a b c h]
  simp
/-- Every text has no such byte, or a first one. -/
theorem first_of (l : Ls) (c : UInt8) : c ∉ l ∨ ∃ a b, l = a ++ c :: b ∧ c ∉ a := by
  by_cases h : c ∈ l
  · exact .inr (List.eq_append_cons_of_mem h)
  · exact .inl h

/-- A name. -/
def nameL (l : Ls) : Bool :=
  match l with
  | [] => false
  | c :: r => decide (l.length ≤ 32) && (!digB c) && (c :: r).all nameByteB
def patB (l : Ls) : Bool := l == [42] || nameL ((Lib.cut l [42]).1 ++ (Lib.cut l [42]).2.1)
def validB (l : Ls) : Bool := decide (l.length ≤ 64) && (Lib.split l [32]).all patB
def fitsB (p w : Ls) : Bool :=
  if (Lib.cut p [42]).2.2 then Lib.hasPrefix w (Lib.cut p [42]).1 && ((Lib.cut p [42]).2.1.isEmpty || Lib.hasPrefix ((Lib.cut p [42]).1 ++ (Lib.cut p [42]).2.1) w) else w == p
def verbB (l w : Ls) : Bool := validB l && (Lib.split l [32]).any (fun p => fitsB p w)

theorem pat_no (a : Ls) (h : 42 ∉ a) : patB a = nameL a := by
  unfold patB
  rw [cut_no a 42 h, List.append_nil]
  have : (a == [42]) = false := by rw [beq_eq_false_iff_ne]; rintro rfl; simp at h
  rw [this]; rfl
theorem pat_at (a b : Ls) (h : 42 ∉ a) : patB (a ++ 42 :: b) = ((a ++ b).isEmpty || nameL (a ++ b)) := by
  unfold patB
  rw [cut_at a b 42 h]
  congr 1
  rw [Bool.eq_iff_iff, beq_iff_eq, List.isEmpty_iff]
  constructor
  · intro e
    have := congrArg List.length e
    simp at this
    have h1 : a = [] := List.eq_nil_of_length_eq_zero (by omega)
    have h2 : b = [] := List.eq_nil_of_length_eq_zero (by omega)
    rw [h1, h2]; rfl
  · intro e
    rw [List.append_eq_nil_iff] at e
    rw [e.1, e.2]; rfl
theorem fits_no (a w : Ls) (h : 42 ∉ a) : fitsB a w = (w == a) := by
  unfold fitsB; rw [cut_no a 42 h]; rfl
theorem fits_at (a b w : Ls) (h : 42 ∉ a) : fitsB (a ++ 42 :: b) w = (Lib.hasPrefix w a && (b.isEmpty || Lib.hasPrefix (a ++ b) w)) := by
  unfold fitsB; rw [cut_at a b 42 h]; rfl
theorem pre_iff (s p : Ls) : Lib.hasPrefix s p = true ↔ p <+: s := by unfold Lib.hasPrefix; exact List.isPrefixOf_iff_prefix

/-- The letters of a name are no signs. -/
theorem name_bytes {l : Ls} (h : nameL l = true) : l ≠ [] ∧ l.length ≤ 32 ∧ (∀ c ∈ l, nameByteB c = true) ∧ 42 ∉ l ∧ 32 ∉ l := by
  cases l with
  | nil => cases h
  | cons c r =>
    unfold nameL at h
    simp only [Bool.and_eq_true, decide_eq_true_eq] at h
    obtain ⟨⟨h1, h2⟩, h3⟩ := h
    rw [List.all_eq_true] at h3
    refine ⟨by simp, h1, h3, fun hm => ?_, fun hm => ?_⟩
    · have := h3 _ hm; revert this; decide
    · have := h3 _ hm; revert this; decide

theorem one_piece {l : Ls} (h : 32 ∉ l) : Lib.split l [32] = [l] := split_no l 32 h
theorem valid_one {l : Ls} (h : 32 ∉ l) : validB l = (decide (l.length ≤ 64) && patB l) := by
  unfold validB; rw [one_piece h]; simp
theorem verb_one {l : Ls} (w : Ls) (h : 32 ∉ l) (hv : validB l = true) : verbB l w = fitsB l w := by
  unfold verbB; rw [hv, one_piece h]; simp
theorem pre_len {s p : Ls} (h : s.length < p.length) : Lib.hasPrefix s p = false := by
  cases hq : Lib.hasPrefix s p with
  | false => rfl
  | true => rw [pre_iff] at hq; have := hq.length_le; omega
theorem pre_true {s p : Ls} (h : p <+: s) : Lib.hasPrefix s p = true := (pre_iff s p).2 h

/-- All that the statement on stars asks, of names a and b. -/
structure Stars (a b p o : Ls) : Prop where
  vp : validB p = true
  aa : verbB (a ++ b) (a ++ b) = true
  pa : verbB p (a ++ b) = true
  pb : verbB p a = true
  px : ∀ c, verbB p (a ++ b ++ [c]) = false
  ps : verbB p (a.take (a.length - 1)) = false
  sa : verbB (a ++ [42]) (a ++ b) = true
  s1 : verbB [42] (a ++ b) = true
  pk : ∀ k, a.length ≤ k → verbB p ((a ++ b).take k) = true
  ok : ∀ k, a.length ≤ k → verbB o ((a ++ b).take k) = true
  as : verbB (a ++ b) ((a ++ b).take ((a ++ b).length - 1)) = false
theorem stars_all {a b : Ls} (ha : 1 ≤ a.length) (ha2 : a.length ≤ 10) (hb : 1 ≤ b.length) (hb2 : b.length ≤ 10) (hv : validB (a ++ b) = true) (hva : validB a = true) (h1 : 42 ∉ a ++ b) (h2 : 32 ∉ a ++ b) :
    Stars a b (a ++ 42 :: b) ([111, 116, 104, 101, 114, 32] ++ (a ++ 42 :: b)) := by
  have ha42 : 42 ∉ a := fun h => h1 (by simp [h])
  have ha32 : 32 ∉ a := fun h => h2 (by simp [h])
  have hb32 : 32 ∉ b := fun h => h2 (by simp [h])
  have hp32 : 32 ∉ a ++ 42 :: b := by simp [ha32, hb32]
  have hs32 : 32 ∉ a ++ [42] := by simp [ha32]
  have hbe : b.isEmpty = false := by cases b with | nil => simp at hb | cons x r => rfl
  have n1 : nameL (a ++ b) = true := by
    rw [valid_one h2, pat_no _ h1] at hv; simp only [Bool.and_eq_true] at hv; exact hv.2
  have n2 : nameL a = true := by
    rw [valid_one ha32, pat_no _ ha42] at hva; simp only [Bool.and_eq_true] at hva; exact hva.2
  have vp : validB (a ++ 42 :: b) = true := by
    rw [valid_one hp32, pat_at a b ha42, n1, Bool.or_true, Bool.and_true, decide_eq_true_eq]; simp; omega
  have vs : validB (a ++ [42]) = true := by
    rw [valid_one hs32, pat_at a [] ha42, List.append_nil, n2, Bool.or_true, Bool.and_true, decide_eq_true_eq]; simp; omega
  have hpk : ∀ k, a.length ≤ k → fitsB (a ++ 42 :: b) ((a ++ b).take k) = true := fun k hk => by
    rw [fits_at a b _ ha42, hbe, Bool.false_or, pre_true (List.take_prefix _ _), Bool.and_true]
    refine pre_true ?_
    rw [List.prefix_take_iff]
    exact ⟨List.prefix_append _ _, hk⟩
  refine ⟨vp, ?_, ?_, ?_, fun c => ?_, ?_, ?_, ?_, fun k hk => ?_, fun k hk => ?_, ?_⟩
  · rw [verb_one _ h2 hv, fits_no _ _ h1]; simp
  · rw [verb_one _ hp32 vp, fits_at a b _ ha42, pre_true (List.prefix_append _ _), hbe, pre_true (List.prefix_refl _)]; rfl
  · rw [verb_one _ hp32 vp, fits_at a b _ ha42, pre_true (List.prefix_refl _), hbe, pre_true (List.prefix_append _ _)]; rfl
  · rw [verb_one _ hp32 vp, fits_at a b _ ha42, hbe, pre_len (s := a ++ b) (by simp)]; simp
  · rw [verb_one _ hp32 vp, fits_at a b _ ha42, pre_len (p := a) (by rw [List.length_take]; omega)]; rfl
  · rw [verb_one _ hs32 vs, fits_at a [] _ ha42, pre_true (List.prefix_append _ _)]; rfl
  · rw [verb_one _ (by decide) (by decide +kernel)]
    exact (fits_at [] [] (a ++ b) (by simp)).trans (by simp [Lib.hasPrefix])
  · rw [verb_one _ hp32 vp]; exact hpk k hk
  · have e : [111, 116, 104, 101, 114, 32] ++ (a ++ 42 :: b) = [111, 116, 104, 101, 114] ++ 32 :: (a ++ 42 :: b) := by simp
    have hsp : Lib.split ([111, 116, 104, 101, 114, 32] ++ (a ++ 42 :: b)) [32] = [[111, 116, 104, 101, 114], a ++ 42 :: b] := by
      rw [e, split_at_ _ _ _ (by decide), one_piece hp32]
    have hvo : validB ([111, 116, 104, 101, 114, 32] ++ (a ++ 42 :: b)) = true := by
      have h3 : patB (a ++ 42 :: b) = true := by rw [pat_at a b ha42, n1, Bool.or_true]
      unfold validB; rw [hsp]; simp only [List.all_cons, List.all_nil, h3, Bool.and_true, Bool.and_eq_true, decide_eq_true_eq]
      refine ⟨by simp; omega, by rw [pat_no _ (by decide)]; decide +kernel⟩
    unfold verbB; rw [hvo, hsp]
    simp only [List.any_cons, hpk k hk, Bool.true_and, Bool.true_or, Bool.or_true]
  · rw [verb_one _ h2 hv, fits_no _ _ h1, beq_eq_false_iff_ne]
    intro e
    have := congrArg List.length e
    rw [List.length_take, List.length_append] at this
    omega

theorem name_head {c : UInt8} {r : Ls} : nameL (c :: r) = (decide (r.length + 1 ≤ 32) && (!digB c) && (c :: r).all nameByteB) := by unfold nameL; rw [List.length_cons]
theorem name_bad {l : Ls} {j : Nat} (hj : j < l.length) (h : nameByteB l[j] = false ∨ (j = 0 ∧ digB l[j] = true)) : nameL l = false := by
  cases l with
  | nil => rfl
  | cons c r =>
    rw [name_head]
    rcases h with h | ⟨rfl, h⟩
    · have : (c :: r).all nameByteB = false := by rw [List.all_eq_false]; exact ⟨_, List.getElem_mem hj, by simp [h]⟩
      rw [this]; simp
    · simp only [List.getElem_cons_zero] at h; rw [h]; simp
theorem name_good {l : Ls} (h0 : 0 < l.length) (h32 : l.length ≤ 32) (hd : digB l[0] = false) (h : l.all nameByteB = true) : nameL l = true := by
  cases l with
  | nil => simp at h0
  | cons c r =>
    simp only [List.getElem_cons_zero] at hd
    rw [name_head, h, hd, decide_eq_true (by simpa using h32)]; rfl
theorem name_long {l : Ls} (h : 32 < l.length) : nameL l = false := by
  cases l with
  | nil => rfl
  | cons c r => rw [name_head, decide_eq_false (by simp at h; omega)]; rfl
/-- What a byte is within a name: by its number. -/
theorem byte_good {c : UInt8} (h : (97 ≤ c.toNat ∧ c.toNat ≤ 122) ∨ c.toNat = 95 ∨ (48 ≤ c.toNat ∧ c.toNat ≤ 57)) : nameByteB c = true := by
  unfold nameByteB digB
  rcases h with ⟨h1, h2⟩ | h | ⟨h1, h2⟩
  · simp [h1, h2]
  · simp [h]
  · simp [h1, h2]
theorem byte_bad {c : UInt8} (h : ¬ ((97 ≤ c.toNat ∧ c.toNat ≤ 122) ∨ c.toNat = 95 ∨ (48 ≤ c.toNat ∧ c.toNat ≤ 57))) : nameByteB c = false := by
  cases hq : nameByteB c with
  | false => rfl
  | true =>
    exfalso; apply h
    unfold nameByteB digB at hq
    simp only [Bool.or_eq_true, Bool.and_eq_true, decide_eq_true_eq, beq_iff_eq] at hq
    omega
theorem byte_dig {c : UInt8} : digB c = true ↔ 48 ≤ c.toNat ∧ c.toNat ≤ 57 := by unfold digB; simp
theorem all_step {l : Ls} {j : Nat} (hj : j < l.length) (h : (l.take j).all nameByteB = true) (hb : nameByteB l[j] = true) : (l.take (j + 1)).all nameByteB = true := by
  rw [List.take_succ_eq_append_getElem hj, List.all_append, h]; simp [hb]
end Go.Proofs.YtcecgfijfnnpeaaDoor.Mt
