/- The document's odd: what is first amiss with a node. -/
import Derived.Test.YtminmadaeaiihaaDoorRnm
import Derived.Test.YtminmadaeaiihaaDoorRp2
import Derived.Test.YtminmadaeaiihaaDoorSeeAt
import Derived.Test.YtminmadaeaiihaaDoorRight
import Derived.Test.YtminmadaeaiihaaDoorTk
import Derived.Test.YtminmadaeaiihaaDoorTck3
import Derived.Test.YtminmadaeaiihaaDoorTm
namespace Go.Proofs.YtminmadaeaiihaaDoor
open Go.RowKit
set_option maxRecDepth 100000

/-- A fault that a node has, as the document's words lay it. -/
def fR : Option (Int × Nat) → Value
  | none => fv 0
  | some f => fp (101 + f.2) f.1
/-- Does a Break, or a Continue, lead nowhere? -/
def awayB (o : Int) (lp : Bool) : Bool := ((o == 45) || (o == 46)) && !lp
theorem stand_away (o a : Int) (lp : Bool) (ha : 0 ≤ a ∧ a ≤ 8) : mayStandB o a lp = (mayStandB o a true && !awayB o lp) := by
  have hc : a = 0 ∨ a = 1 ∨ a = 2 ∨ a = 3 ∨ a = 4 ∨ a = 5 ∨ a = 6 ∨ a = 7 ∨ a = 8 := by omega
  clear ha
  by_cases h5 : o = 45
  · subst h5; rcases hc with rfl | rfl | rfl | rfl | rfl | rfl | rfl | rfl | rfl <;> cases lp <;> decide
  by_cases h6 : o = 46
  · subst h6; rcases hc with rfl | rfl | rfl | rfl | rfl | rfl | rfl | rfl | rfl <;> cases lp <;> decide
  have e5 : (o == 45) = false := by simpa using h5
  have e6 : (o == 46) = false := by simpa using h6
  have e : awayB o lp = false := by unfold awayB; rw [e5, e6]; rfl
  have f5 : (o != 45) = true := by simpa using h5
  have f6 : (o != 46) = true := by simpa using h6
  rw [e, Bool.not_false, Bool.and_true]
  unfold mayStandB
  rw [f5, f6]
  cases lp <;> rfl
theorem named_two (o : Int) (s : ByteArray) : (namedR o s == 2) = (!(s.size == 0) && !isNamedB o) := by
  unfold namedR isNamedB
  by_cases h2 : o = 2
  · subst h2; cases isNameB s <;> simp
  by_cases h24 : o = 24
  · subst h24; cases isNameB s <;> simp
  by_cases h42 : o = 42
  · subst h42; cases isNameB s <;> simp
  by_cases h43 : o = 43
  · subst h43; cases isNameB s <;> simp
  by_cases h50 : o = 50
  · subst h50; by_cases hs : s.size = 0 <;> cases isNameB s <;> simp [hs]
  by_cases hs : s.size = 0 <;> simp [h2, h24, h42, h43, h50, hs]
theorem named_one (o : Int) (s : ByteArray) : (namedR o s == 1) = nameBad o s := by
  unfold namedR nameBad isNamedB
  by_cases h2 : o = 2
  · subst h2; cases isNameB s <;> simp
  by_cases h24 : o = 24
  · subst h24; cases isNameB s <;> simp
  by_cases h42 : o = 42
  · subst h42; cases isNameB s <;> simp
  by_cases h43 : o = 43
  · subst h43; cases isNameB s <;> simp
  by_cases h50 : o = 50
  · subst h50; by_cases hs : s.size = 0 <;> cases isNameB s <;> simp [hs]
  by_cases hs : s.size = 0 <;> simp [h2, h24, h42, h43, h50, hs]
theorem shape_parts (o a : Int) (lp : Bool) (s : ByteArray) (v : T) (len : Nat) (ha : 0 ≤ a ∧ a ≤ 8) : shapeBad o a lp s v len = (!mayStandB o a true || !enoughB o len || !rightV o v || (namedR o s == 2) || awayB o lp) := by
  unfold shapeBad
  rw [stand_away o a lp ha, named_two]
  cases mayStandB o a true <;> cases awayB o lp <;> cases enoughB o len <;> cases rightV o v <;> cases (!(s.size == 0) && !isNamedB o) <;> rfl

/-- The boxes of the call: the node's, the fault's. -/
structure OB (w W : World) (nd : Obj) : Prop where
  bel : Below w.heap.size w W
  nod : W.heap[w.heap.size]? = some nd
  flt : W.heap[w.heap.size + 1]? = some (.cells #[.int .i64 0, .bool false, .int .i64 0, .int .i64 0, .int .i64 0, .string ⟨#[]⟩, .slice none 0 0] 53 (0, 0))
theorem OB.step {w W W' : World} {nd : Obj} (h : OB w W nd) (hb : Below W.heap.size W W') : OB w W' nd := ⟨h.bel.trans (hb.mono h.bel.size), heap_old h.nod hb, heap_old h.flt hb⟩
theorem OB.start (w : World) (nd : Obj) : OB w ((w.alloc nd).alloc (.cells #[.int .i64 0, .bool false, .int .i64 0, .int .i64 0, .int .i64 0, .string ⟨#[]⟩, .slice none 0 0] 53)) nd :=
  ⟨((Below.refl _ _).alloc (Nat.le_refl _) _).alloc (by simp) _, heap_alloc_ _ _ _ _ (heap_alloc_new w nd), by have := heap_alloc_new (w.alloc nd) (.cells #[.int .i64 0, .bool false, .int .i64 0, .int .i64 0, .int .i64 0, .string ⟨#[]⟩, .slice none 0 0] 53); rw [World.size_alloc] at this; exact this⟩

theorem eqV_zero (v : T) : eqV v zV = emptyV v := by
  obtain ⟨k, n, s, l⟩ := v
  unfold eqV emptyV
  have h1 : eqAll l [] = (l.length == 0) := by cases l <;> simp [eqAll]
  have h2 : (s.toList == (⟨#[]⟩ : ByteArray).toList) = (s.size == 0) := by
    have := CkOk_name s
    rw [← this, show (⟨#[]⟩ : ByteArray).toList = [] from by rw [Go.ByteArray.toList_eq]]
    cases s.toList <;> rfl
  rw [h1, h2]
  simp only [T.k, T.n, T.s, T.l]
  cases (k == 0) <;> cases (n == 0) <;> cases (s.size == 0) <;> cases (l.length == 0) <;> rfl

/-- What V comes to, way by way. -/
theorem v_ways {o k m : Int} {v : T} (e1 : v.k = k) (e2 : v.n = m) :
    ((o == 1) = true ∧ rightB v = false ∧ rightV o v = false) ∨ ((o == 1) = true ∧ rightB v = true ∧ (k != 4) = false ∧ rightV o v = false) ∨ ((o == 1) = true ∧ rightB v = true ∧ (k != 4) = true ∧ (k != 0) = false ∧ (m != -9223372036854775808) = false ∧ rightV o v = false) ∨
    ((o == 1) = false ∧ emptyV v = false ∧ rightV o v = false) ∨ ((o == 1) = true ∧ rightB v = true ∧ (k != 4) = true ∧ (k != 0) = true ∧ rightV o v = true) ∨ ((o == 1) = true ∧ rightB v = true ∧ (k != 4) = true ∧ (k != 0) = false ∧ (m != -9223372036854775808) = true ∧ rightV o v = true) ∨
    ((o == 1) = false ∧ emptyV v = true ∧ rightV o v = true) := by
  unfold rightV
  rw [e1, e2]
  by_cases ho : o = 1
  · have b1 : (o == 1) = true := by simpa using ho
    rw [if_pos ho, b1]
    by_cases h4 : k = 4
    · rw [if_pos (.inl h4)]
      have b4 : (k != 4) = false := by simpa using h4
      rw [b4]
      cases rightB v <;> simp
    · have b4 : (k != 4) = true := by simpa using h4
      rw [b4]
      by_cases h0 : k = 0
      · have b0 : (k != 0) = false := by simpa using h0
        rw [b0]
        by_cases hm : m = -9223372036854775808
        · have bm : (m != -9223372036854775808) = false := by simpa using hm
          rw [if_pos (.inr ⟨h0, hm⟩), bm]
          cases rightB v <;> simp
        · have bm : (m != -9223372036854775808) = true := by simpa using hm
          rw [if_neg (by rintro (h | h); exact h4 h; exact hm h.2), bm]
          cases rightB v <;> simp
      · have b0 : (k != 0) = true := by simpa using h0
        rw [if_neg (by rintro (h | h); exact h4 h; exact h0 h.1), b0]
        cases rightB v <;> simp
  · have b1 : (o == 1) = false := by simpa using ho
    rw [if_neg ho, b1]
    cases emptyV v <;> simp
end Go.Proofs.YtminmadaeaiihaaDoor
