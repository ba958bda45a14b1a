/- The merge in place, as plain words about arrays: exchanges, turns, and what a merge asks and gives. No program is named. -/
import Derived.Sort.LotA
namespace Go.Proofs.Ytjipchloebbldaa
open Go.Sort
variable {α : Type} [Inhabited α]

/-- n places from a on and n from b on (they don't meet) have been exchanged. -/
def SwapAt (a b n : Nat) (d d' : Array α) : Prop := d'.size = d.size ∧ ∀ k, d'[k]! = if a ≤ k ∧ k < a + n then d[k + (b - a)]! else if b ≤ k ∧ k < b + n then d[k - (b - a)]! else d[k]!
theorem SwapAt.start (a b : Nat) (d : Array α) : SwapAt a b 0 d d := ⟨rfl, fun k => by rw [if_neg (by omega), if_neg (by omega)]⟩
theorem SwapAt.step {a b n : Nat} {d d1 : Array α} (h : SwapAt a b n d d1) (hab : a + n < b) (hb : b + n < d.size) : SwapAt a b (n + 1) d (swp d1 (a + n) (b + n)) := by
  refine ⟨by rw [size_swp]; exact h.1, fun k => ?_⟩
  rw [swp_get d1 (by rw [h.1]; omega) (by rw [h.1]; omega)]
  have h1 := h.2 (a + n); have h2 := h.2 (b + n); have h3 := h.2 k
  rw [if_neg (by omega), if_neg (by omega)] at h1 h2
  by_cases e2 : k = b + n
  · subst e2
    rw [if_pos rfl, if_neg (by omega), if_pos (by omega), h1]
    congr 1; omega
  · rw [if_neg e2]
    by_cases e1 : k = a + n
    · subst e1
      rw [if_pos rfl, if_pos (by omega), h2]
      congr 1; omega
    · rw [if_neg e1, h3]
      by_cases c1 : a ≤ k ∧ k < a + n
      · rw [if_pos c1, if_pos (by omega)]
      · rw [if_neg c1, if_neg (c := a ≤ k ∧ k < a + (n + 1)) (by omega)]
        by_cases c2 : b ≤ k ∧ k < b + n
        · rw [if_pos c2, if_pos (by omega)]
        · rw [if_neg c2, if_neg (by omega)]

/-- What stood in a..m and m..b stands the other way round. -/
def RotAt (a m b : Nat) (d d' : Array α) : Prop := d'.size = d.size ∧ ∀ k, d'[k]! = if a ≤ k ∧ k < a + (b - m) then d[k + (m - a)]! else if a + (b - m) ≤ k ∧ k < b then d[k - (b - m)]! else d[k]!
theorem RotAt.left {m i j : Nat} {d d1 d' : Array α} (him : i ≤ m) (hij : j < i) (h : SwapAt (m - i) m j d d1) (hr : RotAt (m - (i - j)) m (m + j) d1 d') : RotAt (m - i) m (m + j) d d' := by
  refine ⟨hr.1.trans h.1, fun k => ?_⟩
  rw [hr.2 k]
  by_cases c1 : k < m - i ∨ m + j ≤ k
  · rw [if_neg (by omega), if_neg (by omega), h.2 k, if_neg (by omega), if_neg (by omega), if_neg (by omega), if_neg (by omega)]
  by_cases c2 : k < m - i + j
  · rw [if_neg (by omega), if_neg (by omega), h.2 k, if_pos (by omega), if_pos (by omega)]
  rw [if_neg (c := m - i ≤ k ∧ _) (by omega), if_pos (c := m - i + (m + j - m) ≤ k ∧ _) (by omega)]
  by_cases c3 : k < m - (i - j) + j
  · rw [if_pos (by omega), h.2, if_neg (by omega), if_pos (by omega)]
    congr 1; omega
  · rw [if_neg (by omega), if_pos (by omega), h.2, if_neg (by omega), if_neg (by omega)]
theorem RotAt.right {m i j : Nat} {d d1 d' : Array α} (him : i ≤ m) (hij : i < j) (h : SwapAt (m - i) (m + j - i) i d d1) (hr : RotAt (m - i) m (m + (j - i)) d1 d') : RotAt (m - i) m (m + j) d d' := by
  refine ⟨hr.1.trans h.1, fun k => ?_⟩
  rw [hr.2 k]
  by_cases c1 : k < m - i ∨ m + j ≤ k
  · rw [if_neg (by omega), if_neg (by omega), h.2 k, if_neg (by omega), if_neg (by omega), if_neg (by omega), if_neg (by omega)]
  by_cases c2 : k < m - i + (j - i)
  · rw [if_pos (by omega), h.2, if_neg (by omega), if_neg (by omega), if_pos (by omega)]
  by_cases c3 : k < m + (j - i)
  · rw [if_neg (by omega), if_pos (by omega), h.2, if_pos (by omega), if_pos (by omega)]
    congr 1; omega
  · rw [if_neg (by omega), if_neg (by omega), h.2, if_neg (by omega), if_pos (by omega), if_neg (by omega), if_pos (by omega)]
    congr 1; omega
theorem RotAt.both {m i : Nat} {d d' : Array α} (him : i ≤ m) (h : SwapAt (m - i) m i d d') : RotAt (m - i) m (m + i) d d' := by
  refine ⟨h.1, fun k => ?_⟩
  rw [h.2 k]
  by_cases c1 : k < m - i ∨ m + i ≤ k
  · rw [if_neg (by omega), if_neg (by omega), if_neg (by omega), if_neg (by omega)]
  by_cases c2 : k < m
  · rw [if_pos (by omega), if_pos (by omega)]
  · rw [if_neg (by omega), if_pos (by omega), if_neg (by omega), if_pos (by omega)]
    congr 1; omega

variable {lt : α → α → Bool}
theorem SortedIn.part {a b a' b' : Nat} {d : Array α} (h : SortedIn lt a b d) (ha : a ≤ a') (hb : b' ≤ b) : SortedIn lt a' b' d := fun i j h1 h2 h3 => h i j (by omega) h2 (by omega)
/-- Not behind: i may be j. -/
theorem SortedIn.le (hS : SWO lt) {a b : Nat} {d : Array α} (h : SortedIn lt a b d) {i j : Nat} (h1 : a ≤ i) (h2 : i ≤ j) (h3 : j < b) : lt d[j]! d[i]! = false := by
  by_cases e : i = j
  · subst e; exact hS.irrefl _
  · exact h i j h1 (by omega) h3

/-- The turned row: its four pieces are sorted, and what is ahead of mid is not behind what is from mid on. -/
theorem turned (hS : SWO lt) {a s m e b : Nat} {d d2 : Array α} (h1 : a ≤ s) (h2 : s ≤ m) (h3 : m ≤ e) (h4 : e ≤ b) (hX : SortedIn lt a m d) (hY : SortedIn lt m b d)
    (H1 : a < s → e < b → lt d[e]! d[s - 1]! = false) (H2 : s < m → m < e → lt d[e - 1]! d[s]! = true) (hr : RotAt s m e d d2) :
    SortedIn lt a s d2 ∧ SortedIn lt s (s + (e - m)) d2 ∧ SortedIn lt (s + (e - m)) e d2 ∧ SortedIn lt e b d2 ∧ ∀ i j, a ≤ i → i < s + (e - m) → s + (e - m) ≤ j → j < b → lt d2[j]! d2[i]! = false := by
  have g1 : ∀ k, k < s → d2[k]! = d[k]! := fun k hk => by rw [hr.2, if_neg (by omega), if_neg (by omega)]
  have g2 : ∀ k, s ≤ k → k < s + (e - m) → d2[k]! = d[k + (m - s)]! := fun k hk hk' => by rw [hr.2, if_pos (by omega)]
  have g3 : ∀ k, s + (e - m) ≤ k → k < e → d2[k]! = d[k - (e - m)]! := fun k hk hk' => by rw [hr.2, if_neg (by omega), if_pos (by omega)]
  have g4 : ∀ k, e ≤ k → d2[k]! = d[k]! := fun k hk => by rw [hr.2, if_neg (by omega), if_neg (by omega)]
  refine ⟨fun i j i1 i2 i3 => ?_, fun i j i1 i2 i3 => ?_, fun i j i1 i2 i3 => ?_, fun i j i1 i2 i3 => ?_, fun i j i1 i2 j1 j2 => ?_⟩
  · rw [g1 i (by omega), g1 j (by omega)]; exact hX _ _ i1 i2 (by omega)
  · rw [g2 i (by omega) (by omega), g2 j (by omega) (by omega)]; exact hY _ _ (by omega) (by omega) (by omega)
  · rw [g3 i (by omega) (by omega), g3 j (by omega) (by omega)]; exact hX _ _ (by omega) (by omega) (by omega)
  · rw [g4 i (by omega), g4 j (by omega)]; exact hY _ _ (by omega) (by omega) (by omega)
  · by_cases ci : i < s
    · rw [g1 i ci]
      by_cases cj : j < e
      · rw [g3 j j1 cj]; exact hX _ _ i1 (by omega) (by omega)
      · rw [g4 j (by omega)]
        have x1 := SortedIn.le hS hX i1 (show i ≤ s - 1 by omega) (by omega)
        have x2 := H1 (by omega) (by omega)
        have x3 := SortedIn.le hS hY h3 (show e ≤ j by omega) j2
        exact hS.ntrans _ _ _ x3 (hS.ntrans _ _ _ x2 x1)
    · rw [g2 i (by omega) i2]
      by_cases cj : j < e
      · rw [g3 j j1 cj]
        have x1 := SortedIn.le hS hY (show m ≤ i + (m - s) by omega) (show i + (m - s) ≤ e - 1 by omega) (by omega)
        have x2 := hS.asymmA (H2 (by omega) (by omega))
        have x3 := SortedIn.le hS hX h1 (show s ≤ j - (e - m) by omega) (by omega)
        exact hS.ntrans _ _ _ x3 (hS.ntrans _ _ _ x2 x1)
      · rw [g4 j (by omega)]; exact hY _ _ (by omega) (by omega) (by omega)
/-- Both pieces sorted among themselves: the whole is. -/
theorem joined {a c b : Nat} {d d3 d4 : Array α} (h1 : a ≤ c) (h2 : c ≤ b) (hb : b ≤ d.size) (hc : ∀ i j, a ≤ i → i < c → c ≤ j → j < b → lt d[j]! d[i]! = false)
    (p3 : PermIn a c d d3) (s3 : SortedIn lt a c d3) (p4 : PermIn c b d3 d4) (s4 : SortedIn lt c b d4) : PermIn a b d d4 ∧ SortedIn lt a b d4 := by
  have z3 := p3.1
  have z4 := p4.1
  refine ⟨permIn_trans _ _ _ _ _ (permIn_mono _ _ _ _ _ _ (Nat.le_refl _) h2 hb p3) (permIn_mono _ _ _ _ _ _ h1 (Nat.le_refl _) (by omega) p4), ?_⟩
  -- the cross, twice moved
  have c3 : ∀ i j, a ≤ i → i < c → c ≤ j → j < b → lt d3[j]! d3[i]! = false := fun i j i1 i2 j1 j2 => by
    rw [p3.2.1 j (Or.inr j1)]
    exact permIn_all d d3 a c (fun x => lt d[j]! x = false) (by omega) p3 (fun i i1 i2 => hc i j i1 i2 j1 j2) i i1 i2
  have c4 : ∀ i j, a ≤ i → i < c → c ≤ j → j < b → lt d4[j]! d4[i]! = false := fun i j i1 i2 j1 j2 => by
    rw [p4.2.1 i (Or.inl i2)]
    exact permIn_all d3 d4 c b (fun x => lt x d3[i]! = false) (by omega) p4 (fun j j1 j2 => c3 i j i1 i2 j1 j2) j j1 j2
  intro i j i1 i2 j1
  by_cases ci : j < c
  · have e1 := p4.2.1 j (Or.inl ci); have e2 := p4.2.1 i (Or.inl (by omega))
    rw [e1, e2]; exact s3 i j i1 i2 ci
  · by_cases cj : c ≤ i
    · exact s4 i j cj i2 j1
    · exact c4 i j i1 (by omega) (by omega) j1

/-- The first moved behind those that are less than it. -/
theorem inserted_up (hS : SWO lt) {a i b : Nat} {d d' : Array α} (h1 : a < i) (h2 : i ≤ b) (hY : SortedIn lt (a + 1) b d) (H1 : a + 1 < i → lt d[i - 1]! d[a]! = true) (H2 : i < b → lt d[i]! d[a]! = false)
    (hd : ∀ k, d'[k]! = if a ≤ k ∧ k < i - 1 then d[k + 1]! else if k = i - 1 then d[a]! else d[k]!) : SortedIn lt a b d' := by
  intro x y x1 x2 y1
  rw [hd x, hd y]
  by_cases cy : y < i - 1
  · rw [if_pos (by omega), if_pos (by omega)]; exact hY _ _ (by omega) (by omega) (by omega)
  · by_cases ey : y = i - 1
    · rw [if_neg (by omega), if_pos ey, if_pos (by omega)]
      have := hS.asymmA (H1 (by omega))
      exact hS.ntrans _ _ _ this (SortedIn.le hS hY (show a + 1 ≤ x + 1 by omega) (by omega) (by omega))
    · rw [if_neg (c := a ≤ y ∧ _) (by omega), if_neg ey]
      by_cases cx : x < i - 1
      · rw [if_pos (by omega)]; exact hY _ _ (by omega) (by omega) (by omega)
      · by_cases ex : x = i - 1
        · rw [if_neg (by omega), if_pos ex]
          exact hS.ntrans _ _ _ (SortedIn.le hS hY (show a + 1 ≤ i by omega) (show i ≤ y by omega) y1) (H2 (by omega))
        · rw [if_neg (by omega), if_neg ex]; exact hY _ _ (by omega) (by omega) (by omega)
/-- The last moved ahead of those that it is less than. -/
theorem inserted_down (hS : SWO lt) {a i m : Nat} {d d' : Array α} (h1 : a ≤ i) (h2 : i ≤ m) (hX : SortedIn lt a m d) (H1 : a < i → lt d[m]! d[i - 1]! = false) (H2 : i < m → lt d[m]! d[i]! = true)
    (hd : ∀ k, d'[k]! = if k = i then d[m]! else if i < k ∧ k ≤ m then d[k - 1]! else d[k]!) : SortedIn lt a (m + 1) d' := by
  intro x y x1 x2 y1
  rw [hd x, hd y]
  by_cases cx : x < i
  · rw [if_neg (c := x = i) (by omega), if_neg (c := i < x ∧ _) (by omega)]
    by_cases ey : y = i
    · rw [if_pos ey]
      exact hS.ntrans _ _ _ (H1 (by omega)) (SortedIn.le hS hX x1 (by omega) (by omega))
    · rw [if_neg ey]
      by_cases cy : i < y
      · rw [if_pos (by omega)]; exact SortedIn.le hS hX x1 (by omega) (by omega)
      · rw [if_neg (by omega)]; exact hX _ _ x1 x2 (by omega)
  · rw [if_neg (c := y = i) (by omega), if_pos (c := i < y ∧ _) (by omega)]
    by_cases ex : x = i
    · rw [if_pos ex]
      have := hS.asymmA (H2 (by omega))
      exact hS.ntrans _ _ _ (SortedIn.le hS hX h1 (show i ≤ y - 1 by omega) (by omega)) this
    · rw [if_neg ex, if_pos (by omega)]; exact hX _ _ (by omega) (by omega) (by omega)
end Go.Proofs.Ytjipchloebbldaa
