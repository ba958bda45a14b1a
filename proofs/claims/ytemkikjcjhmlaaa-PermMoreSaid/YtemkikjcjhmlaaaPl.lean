/- The statements on perm: plain facts. Printed by gen_perm.py. -/
import Derived.Test.YtemkikjcjhmlaaaPr2
import Derived.Test.YtemkikjcjhmlaaaLexNb
import Derived.Laws.BitsLemmas
namespace Go.Proofs.Ytemkikjcjhmlaaa.Pm
open Go.RowKit
set_option maxRecDepth 100000

theorem an_bit (a : Int) (j : Nat) (hj : j < 8) : an a ((2 ^ j : Nat) : Int) = (BitVec.ofInt 64 a).getLsbD j := by
  have hk : (BitVec.ofInt 64 ((2 ^ j : Nat) : Int)) = BitVec.twoPow 64 j := by
    apply BitVec.eq_of_toNat_eq
    rw [BitVec.toNat_twoPow, BitVec.toNat_ofInt]
    norm_cast
  have hb : bits .and .i64 a ((2 ^ j : Nat) : Int) = IntKind.i64.wrap (((BitVec.ofInt 64 a &&& BitVec.ofInt 64 ((2 ^ j : Nat) : Int)).toNat : Nat) : Int) := rfl
  unfold an
  rw [hb, hk, BitVec.and_twoPow]
  have h8 : 2 ^ j ≤ 128 := by
    have : 2 ^ j ≤ 2 ^ 7 := Nat.pow_le_pow_right (by omega) (by omega)
    omega
  have hp : 0 < 2 ^ j := Nat.pos_of_ne_zero (by simp)
  cases h : (BitVec.ofInt 64 a).getLsbD j with
  | false =>
    rw [if_neg (by decide)]
    rfl
  | true =>
    rw [if_pos rfl, BitVec.toNat_twoPow, IntKind.wrap_i64]
    have e : 2 ^ j % 2 ^ 64 = 2 ^ j := Nat.mod_eq_of_lt (by omega)
    rw [e]
    generalize 2 ^ j = q at *
    have h1 : (((q : Nat) : Int) + 9223372036854775808) % 18446744073709551616 - 9223372036854775808 ≠ 0 := by omega
    simpa using h1
theorem or_bits (a x : Int) : BitVec.ofInt 64 (bits .or .i64 a x) = BitVec.ofInt 64 a ||| BitVec.ofInt 64 x := by
  have hb : bits .or .i64 a x = IntKind.i64.wrap (((BitVec.ofInt 64 a ||| BitVec.ofInt 64 x).toNat : Nat) : Int) := rfl
  rw [hb, IntKind.wrap_i64]
  generalize BitVec.ofInt 64 a ||| BitVec.ofInt 64 x = v
  apply BitVec.eq_of_toNat_eq
  rw [BitVec.toNat_ofInt]
  have := v.isLt
  omega
theorem an_or (a x : Int) (j : Nat) (hj : j < 8) (h : an a ((2 ^ j : Nat) : Int) = true) : an (bits .or .i64 a x) ((2 ^ j : Nat) : Int) = true := by
  rw [an_bit _ j hj] at h ⊢
  rw [or_bits, BitVec.getLsbD_or, h]; rfl
theorem an_or1 (a x : Int) (h : an a 1 = true) : an (bits .or .i64 a x) 1 = true := an_or a x 0 (by omega) h
theorem an_or2 (a x : Int) (h : an a 2 = true) : an (bits .or .i64 a x) 2 = true := an_or a x 1 (by omega) h
theorem an_or4 (a x : Int) (h : an a 4 = true) : an (bits .or .i64 a x) 4 = true := an_or a x 2 (by omega) h
theorem slot_or (id : Int) (wz : Bool) (op ow b x : Int) (h : slotB id wz op ow b = true) : slotB id wz op ow (bits .or .i64 b x) = true := by
  unfold slotB at h ⊢
  by_cases h1 : op = 1
  · rw [if_pos h1] at h ⊢
    cases ha : an b 1 with
    | true => rw [an_or1 b x ha]; rfl
    | false => rw [ha, Bool.false_or] at h; rw [h, Bool.or_true]
  rw [if_neg h1] at h ⊢
  by_cases h2 : op = 2
  · rw [if_pos h2] at h ⊢
    cases ha : an b 2 with
    | true => rw [an_or2 b x ha]; rfl
    | false => rw [ha, Bool.false_or] at h; rw [h, Bool.or_true]
  rw [if_neg h2] at h ⊢
  exact h
theorem verb_or (id : Int) (wz pg : Bool) (op ow b x : Int) (h : verbB id wz pg op ow b = true) : verbB id wz pg op ow (bits .or .i64 b x) = true := by
  unfold verbB at h ⊢
  by_cases h1 : op = 5
  · rw [if_pos h1] at h ⊢
    cases ha : an b 1 with
    | true => rw [an_or1 b x ha]; rfl
    | false => rw [ha, Bool.false_or] at h; rw [h, Bool.or_true]
  rw [if_neg h1] at h ⊢
  by_cases h2 : op = 6
  · rw [if_pos h2] at h ⊢
    rw [Bool.and_eq_true] at h ⊢
    refine ⟨h.1, ?_⟩
    have h := h.2
    cases ha : an b 2 with
    | true => rw [an_or2 b x ha]; rfl
    | false => rw [ha, Bool.false_or] at h; rw [h, Bool.or_true]
  rw [if_neg h2] at h ⊢
  by_cases h3 : op = 7
  · rw [if_pos h3] at h ⊢
    exact an_or4 b x h
  rw [if_neg h3] at h
  cases h
theorem go_all (id ow : Int) : goB id true ow = true := rfl
theorem slot_all (id : Int) (wz : Bool) (op ow b : Int) (h : slotB id wz op ow b = true) : slotB id true op ow b = true := by
  unfold slotB at h ⊢
  rw [go_all, Bool.or_true, Bool.or_true]
  by_cases h1 : op = 1
  · subst h1; simp_all
  by_cases h2 : op = 2
  · subst h2; simp_all
  by_cases h4 : op = 4
  · subst h4; simp_all
  exfalso
  simp_all
theorem verb_all (id : Int) (wz pg : Bool) (op ow b : Int) (h : verbB id wz pg op ow b = true) : verbB id true true op ow b = true := by
  unfold verbB at h ⊢
  rw [go_all, Bool.or_true, Bool.or_true]
  by_cases h5 : op = 5
  · subst h5; simp_all
  by_cases h6 : op = 6
  · subst h6; simp_all
  by_cases h7 : op = 7
  · subst h7; simp_all
  exfalso
  simp_all
theorem obj_all (id : Int) (wz pg : Bool) (op ow f : Int) (h : objB id wz pg op ow f = true) : objB id true true op ow f = true := by
  unfold objB at h ⊢
  rw [go_all, Bool.or_true]
  by_cases h8 : op = 8
  · subst h8; simp_all
  by_cases h3 : op = 3
  · subst h3; simp_all
  by_cases h13 : op = 13
  · subst h13; simp_all
  by_cases h10 : op = 10
  · subst h10; simp_all
  by_cases h12 : op = 12
  · subst h12; simp_all
  by_cases h14 : op = 14
  · subst h14; simp_all
  by_cases h15 : op = 15
  · subst h15; simp_all
  exfalso
  simp_all
theorem two_all (id : Int) (wz pg : Bool) (op i ow f pw : Int) (h : twoB id wz pg op i ow f pw = true) : twoB id true true op i ow f pw = true := by
  unfold twoB at h ⊢
  rw [go_all, go_all, go_all, Bool.or_true]
  by_cases h9 : op = 9
  · subst h9; simp_all
  by_cases h11 : op = 11
  · subst h11; simp_all
  exfalso
  simp_all
theorem imp_ok {a b : Bool} (h : a = true → b = true) : (a && !b) = false := by cases a <;> cases b <;> simp_all
theorem an_zero : an 0 1 = false ∧ an 0 2 = false ∧ an 0 4 = false ∧ an 0 16 = false ∧ an 0 32 = false := by decide +kernel
theorem boxs3 {w : World} {g : Nat} {c0 c1 c2 : Value} {t : TypeId} (h : w.heap[g]? = some (.cells #[c0, c1, c2] t (0, 0))) : w.cell? ⟨g, 0, none⟩ = some c0 ∧ w.cell? ⟨g, 1, none⟩ = some c1 ∧ w.cell? ⟨g, 2, none⟩ = some c2 :=
  ⟨(cell_of_row _ _ 0 _ _ _ h).trans rfl, (cell_of_row _ _ 1 _ _ _ h).trans rfl, (cell_of_row _ _ 2 _ _ _ h).trans rfl⟩
theorem boxs5 {w : World} {g : Nat} {c0 c1 c2 c3 c4 : Value} {t : TypeId} (h : w.heap[g]? = some (.cells #[c0, c1, c2, c3, c4] t (0, 0))) : w.cell? ⟨g, 0, none⟩ = some c0 ∧ w.cell? ⟨g, 1, none⟩ = some c1 ∧ w.cell? ⟨g, 2, none⟩ = some c2 ∧ w.cell? ⟨g, 3, none⟩ = some c3 ∧ w.cell? ⟨g, 4, none⟩ = some c4 :=
  ⟨(cell_of_row _ _ 0 _ _ _ h).trans rfl, (cell_of_row _ _ 1 _ _ _ h).trans rfl, (cell_of_row _ _ 2 _ _ _ h).trans rfl, (cell_of_row _ _ 3 _ _ _ h).trans rfl, (cell_of_row _ _ 4 _ _ _ h).trans rfl⟩
theorem boxs8 {w : World} {g : Nat} {c0 c1 c2 c3 c4 c5 c6 c7 : Value} {t : TypeId} (h : w.heap[g]? = some (.cells #[c0, c1, c2, c3, c4, c5, c6, c7] t (0, 0))) : w.cell? ⟨g, 0, none⟩ = some c0 ∧ w.cell? ⟨g, 1, none⟩ = some c1 ∧ w.cell? ⟨g, 2, none⟩ = some c2 ∧ w.cell? ⟨g, 3, none⟩ = some c3 ∧ w.cell? ⟨g, 4, none⟩ = some c4 ∧ w.cell? ⟨g, 5, none⟩ = some c5 ∧ w.cell? ⟨g, 6, none⟩ = some c6 ∧ w.cell? ⟨g, 7, none⟩ = some c7 :=
  ⟨(cell_of_row _ _ 0 _ _ _ h).trans rfl, (cell_of_row _ _ 1 _ _ _ h).trans rfl, (cell_of_row _ _ 2 _ _ _ h).trans rfl, (cell_of_row _ _ 3 _ _ _ h).trans rfl, (cell_of_row _ _ 4 _ _ _ h).trans rfl, (cell_of_row _ _ 5 _ _ _ h).trans rfl, (cell_of_row _ _ 6 _ _ _ h).trans rfl, (cell_of_row _ _ 7 _ _ _ h).trans rfl⟩
theorem boxs10 {w : World} {g : Nat} {c0 c1 c2 c3 c4 c5 c6 c7 c8 c9 : Value} {t : TypeId} (h : w.heap[g]? = some (.cells #[c0, c1, c2, c3, c4, c5, c6, c7, c8, c9] t (0, 0))) : w.cell? ⟨g, 0, none⟩ = some c0 ∧ w.cell? ⟨g, 1, none⟩ = some c1 ∧ w.cell? ⟨g, 2, none⟩ = some c2 ∧ w.cell? ⟨g, 3, none⟩ = some c3 ∧ w.cell? ⟨g, 4, none⟩ = some c4 ∧ w.cell? ⟨g, 5, none⟩ = some c5 ∧ w.cell? ⟨g, 6, none⟩ = some c6 ∧ w.cell? ⟨g, 7, none⟩ = some c7 ∧ w.cell? ⟨g, 8, none⟩ = some c8 ∧ w.cell? ⟨g, 9, none⟩ = some c9 :=
  ⟨(cell_of_row _ _ 0 _ _ _ h).trans rfl, (cell_of_row _ _ 1 _ _ _ h).trans rfl, (cell_of_row _ _ 2 _ _ _ h).trans rfl, (cell_of_row _ _ 3 _ _ _ h).trans rfl, (cell_of_row _ _ 4 _ _ _ h).trans rfl, (cell_of_row _ _ 5 _ _ _ h).trans rfl, (cell_of_row _ _ 6 _ _ _ h).trans rfl, (cell_of_row _ _ 7 _ _ _ h).trans rfl, (cell_of_row _ _ 8 _ _ _ h).trans rfl, (cell_of_row _ _ 9 _ _ _ h).trans rfl⟩
end Go.Proofs.Ytemkikjcjhmlaaa.Pm
