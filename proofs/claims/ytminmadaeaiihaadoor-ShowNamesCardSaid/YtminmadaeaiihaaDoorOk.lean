/- What is right is as it has to be, and its text is not long. -/
import Derived.Test.YtminmadaeaiihaaDoorOdd2
import Derived.Test.YtminmadaeaiihaaDoorParse2
import Derived.Lib.ItoaLen
namespace Go.Proofs.YtminmadaeaiihaaDoor
open Go.RowKit

theorem RepAll.mem {w : World} {lo hi : Nat} : ∀ {l : List T} {p : Option Addr}, RepAll w lo hi l p → ∀ t ∈ l, ∃ v, Rep w lo hi t v
  | [], _, _, t, ht => by cases ht
  | x :: r, p, h, t, ht => by
    unfold RepAll at h
    obtain ⟨a, c0, c1, c2, c3, hp, hl, hb, h0, h1, h2, h3, hx, hr⟩ := h
    rcases List.mem_cons.1 ht with e | e
    · exact ⟨_, e ▸ hx⟩
    · exact RepAll.mem hr t e
theorem printedL_iff (l : List UInt8) : printedL l = true ↔ ∀ c ∈ l, 32 ≤ c.toNat ∧ c.toNat ≤ 126 := by
  induction l with
  | nil => simp [printedL]
  | cons c r ih => simp [printedL, ih]
theorem okA_of : ∀ {l : List T}, (∀ t ∈ l, okT t) → okA l
  | [], _ => trivial
  | x :: r, h => ⟨h x (by simp), okA_of (fun t ht => h t (by simp [ht]))⟩
theorem oddAll_zero {l : List T} : ∀ {d z : Int}, (oddAll l d z).1 = 0 → ∀ t ∈ l, ∃ z', (odd t d z').1 = 0 := by
  induction l with
  | nil => intro _ _ _ t ht; cases ht
  | cons x r ih =>
    intro d z h t ht
    rw [oddAll] at h
    by_cases hc : (odd x d z).1 ≠ 0
    · rw [if_pos hc] at h; exact absurd h hc
    · rw [if_neg hc] at h
      rcases List.mem_cons.1 ht with e | e
      · exact ⟨z, by rw [e]; omega⟩
      · exact ih h t e
theorem odd_zero {k n : Int} {s : ByteArray} {l : List T} {d z : Int} (h : (odd (.mk k n s l) d z).1 = 0) : d ≤ 40 ∧ zz k s z ≤ 4096 ∧ badRange k n = false ∧ badShape k n s l.length = false ∧ (oddAll l (d + 1) (zz k s z)).1 = 0 := by
  by_cases hd : 40 < d
  · rw [odd] at h; simp [hd] at h
  by_cases h4 : 4096 < zz k s z
  · rw [odd_104 (by omega) h4] at h; simp at h
  cases hr : badRange k n with
  | true => rw [odd_105 (by omega) (by omega) hr] at h; simp at h
  | false =>
    cases hs : badShape k n s l.length with
    | true => rw [odd_103 (by omega) (by omega) hr hs] at h; simp at h
    | false =>
      rw [odd_fine (by omega) (by omega) hr hs] at h
      exact ⟨by omega, by omega, rfl, rfl, h⟩
theorem Rep.ok : ∀ (t : T) {w : World} {lo hi : Nat} {v : Value} {d z : Int}, Rep w lo hi t v → (odd t d z).1 = 0 → okT t := by
  refine T.ind_ (fun k n s l ih => ?_)
  intro w lo hi v d z hr h
  unfold Rep at hr
  obtain ⟨p, cap, _, _, hn, _, _, _, hra⟩ := hr
  obtain ⟨_, _, hb, hs, ha⟩ := odd_zero h
  have hl : okA l := okA_of (fun t ht => by
    obtain ⟨v', hv'⟩ := hra.mem t ht
    obtain ⟨z', hz'⟩ := oddAll_zero ha t ht
    exact ih t ht hv' hz')
  simp only [badRange, badShape, Bool.or_eq_false_iff, Bool.and_eq_false_iff, decide_eq_false_iff_not, beq_eq_false_iff_ne, bne_eq_false_iff_eq, Bool.not_eq_false', ne_eq] at hb hs
  obtain ⟨⟨⟨hb1, hb2⟩, hb3⟩, hb4⟩ := hb
  obtain ⟨⟨⟨hs1, hs2⟩, hs3⟩, hs4⟩ := hs
  have he : k ≠ 2 → s = ByteArray.empty := fun hk => ByteArray.size_eq_zero_iff.1 (by rcases hs2 with h | h; exact absurd h hk; exact h)
  have hle : k ≠ 4 → l = [] := fun hk => List.eq_nil_of_length_eq_zero (by rcases hs3 with h | h; exact absurd h hk; exact h)
  have hk : k = 0 ∨ k = 1 ∨ k = 2 ∨ k = 3 ∨ k = 4 := by omega
  rw [okT]
  rcases hk with rfl | rfl | rfl | rfl | rfl
  · exact .inl ⟨rfl, hn, he (by omega), hle (by omega)⟩
  · exact .inr (.inl ⟨rfl, by omega, by omega, he (by omega), hle (by omega)⟩)
  · exact .inr (.inr (.inl ⟨rfl, by omega, hle (by omega), (printedL_iff _).1 hs4⟩))
  · exact .inr (.inr (.inr (.inl ⟨rfl, by omega, by omega, he (by omega), hle (by omega)⟩)))
  · exact .inr (.inr (.inr (.inr ⟨rfl, by omega, he (by omega), hl⟩)))

/-- What is as it has to be, and neither too great nor too deep, is right. -/
theorem odd_of_ok : ∀ (t : T) (d z : Int), okT t → d + dp t ≤ 41 → z + sz t ≤ 4096 → (odd t d z).1 = 0 ∧ (odd t d z).2 = z + sz t := by
  refine T.ind_ (fun k n s l ih => ?_)
  intro d z h hd hz
  have hall : ∀ (l : List T), (∀ t ∈ l, ∀ (d z : Int), okT t → d + dp t ≤ 41 → z + sz t ≤ 4096 → (odd t d z).1 = 0 ∧ (odd t d z).2 = z + sz t) → ∀ (d z : Int), okA l → d + dpAll l ≤ 41 → z + szAll l ≤ 4096 → (oddAll l d z).1 = 0 ∧ (oddAll l d z).2 = z + szAll l := by
    intro l
    induction l with
    | nil => intro _ d z _ _ _; simp [oddAll, szAll]
    | cons x r ihr =>
      intro hx d z hk hd hz
      rw [okA] at hk
      have hn := szAll_nonneg r
      simp only [dpAll] at hd
      rw [szAll] at hz ⊢
      have h1 := hx x (by simp) d z hk.1 (by omega) (by omega)
      rw [oddAll, if_neg (by omega), h1.2]
      have h2 := ihr (fun t ht => hx t (by simp [ht])) d (z + sz x) hk.2 (by omega) (by omega)
      exact ⟨h2.1, by rw [h2.2]; omega⟩
  have hn := szAll_nonneg l
  have hdn := dpAll_nonneg l
  have hzz : zz k s z = z + (if k = 2 then 1 + (s.size : Int) else 1) := by unfold zz; split <;> omega
  simp only [sz] at hz
  simp only [dp] at hd
  have hdl : d ≤ 40 := by split at hd <;> omega
  rw [okT] at h
  have hr : badRange k n = false := by
    simp only [badRange, Bool.or_eq_false_iff, Bool.and_eq_false_iff, decide_eq_false_iff_not, beq_eq_false_iff_ne]
    rcases h with h | h | h | h | h <;> omega
  have hpe : printed ByteArray.empty = true := rfl
  have hs : badShape k n s l.length = false := by
    rcases h with ⟨rfl, _, rfl, rfl⟩ | ⟨rfl, _, _, rfl, rfl⟩ | ⟨rfl, rfl, rfl, h⟩ | ⟨rfl, _, _, rfl, rfl⟩ | ⟨rfl, rfl, rfl, _⟩
    · simp [badShape, hpe]
    · simp [badShape, hpe]
    · have hp : printed s = true := (printedL_iff _).2 h
      simp [badShape, hp]
    · simp [badShape, hpe]
    · simp [badShape, hpe]
  have hka : okA l := by
    rcases h with ⟨_, _, _, rfl⟩ | ⟨_, _, _, _, rfl⟩ | ⟨_, _, rfl, _⟩ | ⟨_, _, _, _, rfl⟩ | ⟨_, _, _, h⟩
    · trivial
    · trivial
    · trivial
    · trivial
    · exact h
  have hdl2 : d + 1 + dpAll l ≤ 41 := by
    rcases h with ⟨rfl, _, _, rfl⟩ | ⟨rfl, _, _, _, rfl⟩ | ⟨rfl, _, rfl, _⟩ | ⟨rfl, _, _, _, rfl⟩ | ⟨rfl, _, _, _⟩
    · simp [dpAll]; omega
    · simp [dpAll]; omega
    · simp [dpAll]; omega
    · simp [dpAll]; omega
    · simp at hd; omega
  rw [odd_fine hdl (by omega) hr hs]
  have h2 := hall l ih (d + 1) (zz k s z) hka (by omega) (by omega)
  exact ⟨h2.1, by rw [h2.2]; simp only [sz]; omega⟩

theorem nameOf_len {n : Int} (h0 : 0 ≤ n) (h1 : n ≤ 14) : (nameOf n).length ≤ 9 := by
  have h8 : ∀ i : Fin 15, (nameOf ((i : Nat) : Int)).length ≤ 9 := by decide
  exact fifteen (P := fun n => (nameOf n).length ≤ 9) h8 h0 h1
theorem esc_len2 (l : Bs) : (esc l).length ≤ 2 * l.length := by
  induction l with
  | nil => simp [esc]
  | cons c q ih => rw [esc]; split <;> simp <;> omega
theorem tx_len : ∀ (t : T), okT t → ((tx t).length : Int) ≤ 24 * sz t - 2 := by
  refine T.ind_ (fun k n s l ih => ?_)
  intro h
  have hall : ∀ (l : List T), (∀ t ∈ l, okT t → ((tx t).length : Int) ≤ 24 * sz t - 2) → okA l → ((txr l).length : Int) ≤ 24 * szAll l ∧ ((txs l).length : Int) ≤ 24 * szAll l := by
    intro l
    induction l with
    | nil => intro _ _; simp [txr, txs, szAll]
    | cons x r ihr =>
      intro hx hk
      rw [okA] at hk
      have h1 := hx x (by simp) hk.1
      have h2 := ihr (fun t ht => hx t (by simp [ht])) hk.2
      simp only [txr, txs, szAll, List.length_cons, List.length_append]
      omega
  rw [okT] at h
  have hn := szAll_nonneg l
  rcases h with ⟨rfl, h, rfl, rfl⟩ | ⟨rfl, h0, h1, rfl, rfl⟩ | ⟨rfl, rfl, rfl, h⟩ | ⟨rfl, h0, h1, rfl, rfl⟩ | ⟨rfl, rfl, rfl, h⟩
  · rw [tx0]; have := Lib.itoa_length_le n h.1 h.2; simp [sz, szAll]; omega
  · rw [tx1]; have := Lib.itoa_length_le n (by omega) (by omega); simp [sz, szAll]; omega
  · rw [tx2]; have := esc_len2 s.data.toList; simp at this; simp [sz, szAll]; omega
  · rw [tx3]; have := nameOf_len h0 h1; simp [sz, szAll]; omega
  · rw [tx4]; have := (hall l ih h).2; simp [sz]; omega

end Go.Proofs.YtminmadaeaiihaaDoor
