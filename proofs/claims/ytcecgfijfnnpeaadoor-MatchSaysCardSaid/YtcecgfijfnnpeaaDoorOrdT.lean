/- The order of values is one: it turns round, it has no circles. -/
import Derived.Test.YtcecgfijfnnpeaaDoorOrd
import Derived.Sort.Statements
namespace Go.Proofs.YtcecgfijfnnpeaaDoor

/-- No circle: all three are 0, or there is one above and one below. -/
def C3 (p q r : Int) : Prop := ¬(p ≤ 0 ∧ q ≤ 0 ∧ r ≤ 0 ∧ (p < 0 ∨ q < 0 ∨ r < 0)) ∧ ¬(0 ≤ p ∧ 0 ≤ q ∧ 0 ≤ r ∧ (0 < p ∨ 0 < q ∨ 0 < r))
theorem C3.lex {p q r p' q' r' : Int} (h : C3 p q r) (h' : p = 0 → q = 0 → r = 0 → C3 p' q' r') : C3 (if p ≠ 0 then p else p') (if q ≠ 0 then q else q') (if r ≠ 0 then r else r') := by
  by_cases e : p = 0 ∧ q = 0 ∧ r = 0
  · obtain ⟨e1, e2, e3⟩ := e
    subst e1 e2 e3
    simpa using h' rfl rfl rfl
  · unfold C3 at h ⊢
    by_cases e1 : p = 0 <;> by_cases e2 : q = 0 <;> by_cases e3 : r = 0 <;> simp only [e1, e2, e3, ne_eq, not_true_eq_false, not_false_eq_true, if_true, if_false] <;> omega
theorem cmpI_ne (a b : Int) : cmpI a b ≠ 0 ↔ a ≠ b := by
  unfold cmpI
  by_cases h1 : a < b
  · rw [if_pos h1]; omega
  · rw [if_neg h1]
    by_cases h2 : b < a
    · rw [if_pos h2]; omega
    · rw [if_neg h2]; omega
theorem cmpI_anti (a b : Int) : cmpI b a = -cmpI a b := by unfold cmpI; repeat' split <;> omega
theorem cmpI_c3 (a b c : Int) : C3 (cmpI a b) (cmpI b c) (cmpI c a) := by
  unfold cmpI C3
  by_cases h1 : a < b <;> by_cases h2 : b < a <;> by_cases h3 : b < c <;> by_cases h4 : c < b <;> by_cases h5 : c < a <;> by_cases h6 : a < c <;> simp only [h1, h2, h3, h4, h5, h6, if_true, if_false] <;> omega
theorem cmpI_zero {a b : Int} (h : cmpI a b = 0) : a = b := by
  by_cases e : a = b
  · exact e
  · exact absurd h ((cmpI_ne a b).2 e)

def cmpB (a b : UInt8) : Int := cmpI a.toNat b.toNat
theorem compareBytes_cons (a b : UInt8) (x y : List UInt8) : Lib.compareBytes (a :: x) (b :: y) = if cmpB a b ≠ 0 then cmpB a b else Lib.compareBytes x y := by
  rw [Lib.compareBytes]; unfold cmpB cmpI
  simp only [UInt8.lt_iff_toNat_lt]
  by_cases h1 : a.toNat < b.toNat
  · have h1' : (a.toNat : Int) < b.toNat := by omega
    simp [h1, h1']
  · by_cases h2 : b.toNat < a.toNat
    · have h1' : ¬ (a.toNat : Int) < b.toNat := by omega
      have h2' : (b.toNat : Int) < a.toNat := by omega
      simp [h1, h2, h1', h2']
    · have h1' : ¬ (a.toNat : Int) < b.toNat := by omega
      have h2' : ¬ (b.toNat : Int) < a.toNat := by omega
      simp [h1, h2, h1', h2']
theorem bytes_anti : ∀ x y : List UInt8, Lib.compareBytes y x = -Lib.compareBytes x y
  | [], [] => rfl
  | [], _ :: _ => rfl
  | _ :: _, [] => rfl
  | a :: x, b :: y => by
    rw [compareBytes_cons, compareBytes_cons, bytes_anti x y]
    have := cmpI_anti a.toNat b.toNat
    unfold cmpB
    rw [this]
    by_cases h : cmpI a.toNat b.toNat = 0
    · simp [h]
    · rw [if_pos (by omega), if_pos h]
theorem bytes_c3 : ∀ x y z : List UInt8, C3 (Lib.compareBytes x y) (Lib.compareBytes y z) (Lib.compareBytes z x)
  | [], [], [] => by simp [Lib.compareBytes, C3]
  | [], [], _ :: _ => by simp [Lib.compareBytes, C3]
  | [], _ :: _, [] => by simp [Lib.compareBytes, C3]
  | _ :: _, [], [] => by simp [Lib.compareBytes, C3]
  | [], _ :: _, _ :: _ => by simp only [Lib.compareBytes, C3]; omega
  | _ :: _, [], _ :: _ => by simp only [Lib.compareBytes, C3]; omega
  | _ :: _, _ :: _, [] => by simp only [Lib.compareBytes, C3]; omega
  | a :: x, b :: y, c :: z => by
    rw [compareBytes_cons, compareBytes_cons, compareBytes_cons]
    exact C3.lex (cmpI_c3 _ _ _) (fun _ _ _ => bytes_c3 x y z)
theorem bytes_zero : ∀ x y : List UInt8, Lib.compareBytes x y = 0 → x = y
  | [], [], _ => rfl
  | [], _ :: _, h => by simp [Lib.compareBytes] at h
  | _ :: _, [], h => by simp [Lib.compareBytes] at h
  | a :: x, b :: y, h => by
    rw [compareBytes_cons] at h
    by_cases e : cmpB a b = 0
    · rw [if_neg (by omega)] at h
      have h1 := cmpI_zero e
      rw [bytes_zero x y h, show a = b from UInt8.toNat_inj.1 (by omega)]
    · rw [if_pos e] at h; exact absurd h e

/-- Behind the kind. -/
def ord2 (k : Int) (n : Int) (s : ByteArray) (l : List T) (n' : Int) (s' : ByteArray) (l' : List T) : Int := if k = 2 then Lib.compareBytes s.data.toList s'.data.toList else if k = 4 then ordAll l l' else cmpI n n'
theorem ord_mk (k n : Int) (s : ByteArray) (l : List T) (k' n' : Int) (s' : ByteArray) (l' : List T) : ord (.mk k n s l) (.mk k' n' s' l') = if cmpI k k' ≠ 0 then cmpI k k' else ord2 k n s l n' s' l' := by
  rw [ord]
  by_cases h : k = k'
  · have e : cmpI k k' = 0 := by
      by_cases e : cmpI k k' = 0
      · exact e
      · exact absurd h ((cmpI_ne _ _).1 e)
    rw [if_neg (c := k ≠ k') (fun hn => hn h), if_neg (c := cmpI k k' ≠ 0) (fun hn => hn e)]; rfl
  · rw [if_pos h, if_pos ((cmpI_ne _ _).2 h)]
theorem ordAll_cons (x y : T) (a b : List T) : ordAll (x :: a) (y :: b) = if ord x y ≠ 0 then ord x y else ordAll a b := by rw [ordAll]
theorem ordAll_anti : ∀ (a b : List T), (∀ x ∈ a, ∀ y, ord y x = -ord x y) → ordAll b a = -ordAll a b
  | [], [], _ => by simp [ordAll]
  | [], _ :: _, _ => by simp [ordAll]
  | _ :: _, [], _ => by simp [ordAll]
  | x :: a, y :: b, h => by
    rw [ordAll_cons, ordAll_cons, h x (by simp) y, ordAll_anti a b (fun t ht => h t (by simp [ht]))]
    by_cases e : ord x y = 0
    · simp [e]
    · rw [if_pos (by omega), if_pos e]
theorem ord_anti : ∀ x y : T, ord y x = -ord x y := by
  refine T.ind_ (fun k n s l ih y => ?_)
  match y with
  | .mk k' n' s' l' =>
    rw [ord_mk, ord_mk, cmpI_anti k k']
    by_cases e : cmpI k k' = 0
    · have hk := cmpI_zero e
      subst hk
      rw [if_neg (by omega), if_neg (by omega)]
      unfold ord2
      by_cases h2 : k = 2
      · rw [if_pos h2, if_pos h2]; exact bytes_anti _ _
      · rw [if_neg h2, if_neg h2]
        by_cases h4 : k = 4
        · rw [if_pos h4, if_pos h4]; exact ordAll_anti l l' ih
        · rw [if_neg h4, if_neg h4]; exact cmpI_anti _ _
    · rw [if_pos (by omega), if_pos e]
theorem ordAll_c3 : ∀ (a b c : List T), (∀ x ∈ a, ∀ y z, C3 (ord x y) (ord y z) (ord z x)) → C3 (ordAll a b) (ordAll b c) (ordAll c a)
  | [], [], [], _ => by simp [ordAll, C3]
  | [], [], _ :: _, _ => by simp [ordAll, C3]
  | [], _ :: _, [], _ => by simp [ordAll, C3]
  | _ :: _, [], [], _ => by simp [ordAll, C3]
  | [], y :: b, z :: c, _ => by
    have e1 : ordAll [] (y :: b) = -1 := by simp [ordAll]
    have e2 : ordAll (z :: c) [] = 1 := by simp [ordAll]
    rw [e1, e2]; unfold C3; omega
  | x :: a, [], z :: c, _ => by
    have e1 : ordAll (x :: a) [] = 1 := by simp [ordAll]
    have e2 : ordAll [] (z :: c) = -1 := by simp [ordAll]
    rw [e1, e2]; unfold C3; omega
  | x :: a, y :: b, [], _ => by
    have e1 : ordAll (y :: b) [] = 1 := by simp [ordAll]
    have e2 : ordAll [] (x :: a) = -1 := by simp [ordAll]
    rw [e1, e2]; unfold C3; omega
  | x :: a, y :: b, z :: c, h => by
    rw [ordAll_cons, ordAll_cons, ordAll_cons]
    exact C3.lex (h x (by simp) y z) (fun _ _ _ => ordAll_c3 a b c (fun t ht => h t (by simp [ht])))
theorem ord_c3 : ∀ x y z : T, C3 (ord x y) (ord y z) (ord z x) := by
  refine T.ind_ (fun k n s l ih y z => ?_)
  match y, z with
  | .mk k' n' s' l', .mk k'' n'' s'' l'' =>
    rw [ord_mk, ord_mk, ord_mk]
    refine C3.lex (cmpI_c3 _ _ _) (fun e1 e2 _ => ?_)
    have hk := cmpI_zero e1
    have hk2 := cmpI_zero e2
    subst hk; subst hk2
    unfold ord2
    by_cases h2 : k = 2
    · simp only [if_pos h2]; exact bytes_c3 _ _ _
    · simp only [if_neg h2]
      by_cases h4 : k = 4
      · simp only [if_pos h4]; exact ordAll_c3 l l' l'' ih
      · simp only [if_neg h4]; exact cmpI_c3 _ _ _
theorem ord_refl0 (x : T) : ord x x = 0 := by have := ord_anti x x; omega
/-- 'Ahead of' is a strict weak order. -/
theorem ord_swo {α : Type} [Inhabited α] (f : α → T) : Sort.SWO (fun x y => decide (ord (f x) (f y) < 0)) where
  irrefl := fun x => by simp [ord_refl0]
  trans := fun x y z h1 h2 => by
    simp only [decide_eq_true_eq] at *
    have h3 := ord_c3 (f x) (f y) (f z)
    have h4 := ord_anti (f x) (f z)
    unfold C3 at h3; omega
  ntrans := fun x y z h1 h2 => by
    simp only [decide_eq_false_iff_not, Int.not_lt] at *
    have h3 := ord_c3 (f x) (f y) (f z)
    have h4 := ord_anti (f x) (f z)
    unfold C3 at h3; omega
end Go.Proofs.YtcecgfijfnnpeaaDoor
