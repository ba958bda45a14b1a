/- SeqSets in plain words: what is the same is alike among right values; what is sorted is sorted one way; counts. -/
import Derived.Test.YtjipchloebbldaaOrdT
import Derived.Test.YtjipchloebbldaaFull
import Derived.Test.YtjipchloebbldaaWithout
namespace Go.Proofs.Ytjipchloebbldaa

theorem bytes_empty {s : ByteArray} (h : s.size = 0) : s = ByteArray.empty := by
  cases s with | mk d => have : d = #[] := Array.eq_empty_of_size_eq_zero h; subst this; rfl
theorem oddAll_same : ∀ (l l' : List T), (∀ x ∈ l, ∀ (d z : Int), (odd x d z).1 = 0 → ∀ (y : T) (d' z' : Int), (odd y d' z').1 = 0 → ord x y = 0 → x = y) → ∀ (d z d' z' : Int), (oddAll l d z).1 = 0 → (oddAll l' d' z').1 = 0 → ordAll l l' = 0 → l = l'
  | [], [], _, _, _, _, _, _, _, _ => rfl
  | [], _ :: _, _, _, _, _, _, _, _, h => by simp [ordAll] at h
  | _ :: _, [], _, _, _, _, _, _, _, h => by simp [ordAll] at h
  | x :: a, y :: b, hx, d, z, d', z', h1, h2, h => by
    rw [oddAll] at h1 h2
    rw [ordAll_cons] at h
    by_cases c1 : (odd x d z).1 ≠ 0
    · rw [if_pos c1] at h1; exact absurd h1 c1
    · by_cases c2 : (odd y d' z').1 ≠ 0
      · rw [if_pos c2] at h2; exact absurd h2 c2
      · rw [if_neg c1] at h1
        rw [if_neg c2] at h2
        by_cases c3 : ord x y = 0
        · rw [if_neg (fun h => h c3)] at h
          rw [hx x (by simp) d z (by omega) y d' z' (by omega) c3, oddAll_same a b (fun t ht => hx t (by simp [ht])) _ _ _ _ h1 h2 h]
        · rw [if_pos c3] at h; exact absurd h c3
/-- What an item is that is right. -/
theorem odd_shape {k n : Int} {s : ByteArray} {l : List T} {d z : Int} (h : (odd (.mk k n s l) d z).1 = 0) : badShape k n s l.length = false ∧ ∃ d' z', (oddAll l d' z').1 = 0 := by
  rw [odd] at h
  generalize (if k = 2 then z + 1 + (s.size : Int) else z + 1) = z1 at h
  by_cases c1 : 40 < d
  · simp [c1] at h
  · by_cases c2 : 4096 < z1
    · simp [c1, c2] at h
    · by_cases c3 : badRange k n = true
      · simp [c1, c2, c3] at h
      · by_cases c4 : badShape k n s l.length = true
        · simp [c1, c2, c3, c4] at h
        · refine ⟨by simpa using c4, d + 1, z1, ?_⟩
          simpa [c1, c2, c3, c4] using h
theorem shape_parts {k n : Int} {s : ByteArray} {len : Nat} (h : badShape k n s len = false) : (k = 2 ∨ k = 4 → n = 0) ∧ (k ≠ 2 → s.size = 0) ∧ (k ≠ 4 → len = 0) := by
  unfold badShape at h
  simp only [Bool.or_eq_false_iff, Bool.and_eq_false_imp, Bool.or_eq_true, beq_iff_eq, bne_iff_ne, bne_eq_false_iff_eq] at h
  obtain ⟨⟨⟨h1, h2⟩, h3⟩, _⟩ := h
  exact ⟨h1, h2, h3⟩
theorem odd_same : ∀ (x : T) (d z : Int), (odd x d z).1 = 0 → ∀ (y : T) (d' z' : Int), (odd y d' z').1 = 0 → ord x y = 0 → x = y := by
  refine T.ind_ (fun k n s l ih d z h1 y d' z' h2 h => ?_)
  match y, h2 with
  | .mk k' n' s' l', h2 =>
    obtain ⟨b1, e1, f1, g1⟩ := odd_shape h1
    obtain ⟨b2, e2, f2, g2⟩ := odd_shape h2
    rw [ord_mk] at h
    by_cases c : cmpI k k' = 0
    · rw [if_neg (fun h => h c)] at h
      have hk := cmpI_zero c
      subst hk
      obtain ⟨p1, p2, p3⟩ := shape_parts b1
      obtain ⟨q1, q2, q3⟩ := shape_parts b2
      unfold ord2 at h
      by_cases k2 : k = 2
      · rw [if_pos k2] at h
        have hs := bytes_zero _ _ h
        have hs2 : s = s' := by
          cases s with | mk a => cases s' with | mk b => (have : a = b := Array.toList_inj.1 hs); rw [this]
        have l1 := List.eq_nil_of_length_eq_zero (p3 (by omega))
        have l2 := List.eq_nil_of_length_eq_zero (q3 (by omega))
        rw [hs2, l1, l2, p1 (Or.inl k2), q1 (Or.inl k2)]
      · rw [if_neg k2] at h
        have hs2 : s = s' := by rw [bytes_empty (p2 k2), bytes_empty (q2 k2)]
        by_cases k4 : k = 4
        · rw [if_pos k4] at h
          rw [hs2, oddAll_same l l' ih _ _ _ _ g1 g2 h, p1 (Or.inr k4), q1 (Or.inr k4)]
        · rw [if_neg k4] at h
          have l1 := List.eq_nil_of_length_eq_zero (p3 k4)
          have l2 := List.eq_nil_of_length_eq_zero (q3 k4)
          rw [hs2, l1, l2, cmpI_zero h]
    · rw [if_pos c] at h; exact absurd h c
theorem right_same {x y : T} (hx : rightB x = true) (hy : rightB y = true) (h : ord x y = 0) : x = y :=
  odd_same x 1 0 (by simpa [rightB, oddCode] using hx) y 1 0 (by simpa [rightB, oddCode] using hy) h

def Asc (l : List T) : Prop := l.Pairwise (fun a b => ¬ ord b a < 0)
/-- There is one sorted row of the same right values. -/
theorem asc_one : ∀ (s s' : List T), s.Perm s' → Asc s → Asc s' → (∀ x ∈ s, rightB x = true) → s = s'
  | [], s', hp, _, _, _ => (List.nil_perm.1 hp).symm
  | a :: r, [], hp, _, _, _ => by simpa using hp.length_eq
  | a :: r, b :: r', hp, h1, h2, hr => by
    have ha : a ∈ b :: r' := hp.mem_iff.1 (by simp)
    have hb : b ∈ a :: r := hp.mem_iff.2 (by simp)
    have h1' := List.pairwise_cons.1 h1
    have h2' := List.pairwise_cons.1 h2
    have hab : a = b := by
      rcases List.mem_cons.1 ha with e | ha
      · exact e
      · rcases List.mem_cons.1 hb with e | hb'
        · exact e.symm
        · have x1 := h1'.1 b hb'
          have x2 := h2'.1 a ha
          have x3 := ord_anti a b
          exact right_same (hr a (by simp)) (hr b hb) (by omega)
    subst hab
    rw [asc_one r r' (List.perm_cons a |>.1 hp) h1'.2 h2'.2 (fun x hx => hr x (by simp [hx]))]
theorem asc_at {s : List T} (h : Asc s) (i : Nat) (h1 : 1 ≤ i) (h2 : i < s.length) : decide (ord s[i] (s[i - 1]'(by omega)) < 0) = false := by
  have := List.pairwise_iff_getElem.1 h (i - 1) i (by omega) h2 (by omega)
  simpa using this

/-- How many of the first k are the same as x. -/
def cnt (l : List T) (x : T) (k : Nat) : Int := ((l.take k).countP (fun y => sameB y x) : Nat)
theorem cnt_zero (l : List T) (x : T) : cnt l x 0 = 0 := by simp [cnt]
theorem cnt_step (l : List T) (x : T) (k : Nat) (h : k < l.length) : cnt l x (k + 1) = cnt l x k + (if sameB l[k] x = true then 1 else 0) := by
  unfold cnt
  rw [List.take_succ_eq_append_getElem h, List.countP_append]
  by_cases c : sameB l[k] x = true <;> simp [c]
theorem cnt_perm {l s : List T} (h : s.Perm l) (x : T) : cnt l x l.length = cnt s x s.length := by
  unfold cnt
  rw [List.take_length, List.take_length, h.countP_eq]

theorem fnd_app (t : T) : ∀ l : List T, fnd t (l ++ [t]) ≤ l.length
  | [] => by simp [fnd, sameB_self]
  | x :: r => by have := fnd_app t r; simp only [List.cons_append, fnd, List.length_cons]; split <;> omega
theorem find_app (l : List T) (t : T) : 0 < findS (l ++ [t]) t := by
  have := fnd_app t l
  unfold findS
  rw [if_neg (by rw [List.length_append]; simp; omega)]; omega
theorem without_len (l : List T) (t : T) : (((withoutS l t).length : Int) == (l.length : Int)) = (findS l t == 0) := by
  have hf := fnd_le t l
  unfold withoutS findS
  by_cases c : fnd t l = l.length
  · rw [if_pos c, if_pos c]; simp
  · rw [if_neg c, if_neg c]
    have h1 : ((fnd t l : Int) + 1 == 0) = false := by simp; omega
    rw [h1]
    simp only [List.length_append, List.length_take, List.length_drop, beq_eq_false_iff_ne]
    omega
end Go.Proofs.Ytjipchloebbldaa
