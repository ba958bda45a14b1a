/- What is read of a text is written so, and what is written is read so, whole or cut off. No program is named. -/
import Derived.Test.YtcecgfijfnnpeaaDoorParse
namespace Go.Proofs.YtcecgfijfnnpeaaDoor
open Go.RowKit

mutual
/-- A tree whose values are as they have to be, however great and deep it is. -/
def okT : T → Prop
  | .mk k n s l => (k = 0 ∧ I64 n ∧ s = ByteArray.empty ∧ l = []) ∨ (k = 1 ∧ -2147483648 ≤ n ∧ n ≤ 2147483647 ∧ s = ByteArray.empty ∧ l = []) ∨
      (k = 2 ∧ n = 0 ∧ l = [] ∧ ∀ c ∈ s.data.toList, 32 ≤ c.toNat ∧ c.toNat ≤ 126) ∨ (k = 3 ∧ 0 ≤ n ∧ n ≤ 14 ∧ s = ByteArray.empty ∧ l = []) ∨ (k = 4 ∧ n = 0 ∧ s = ByteArray.empty ∧ okA l)
def okA : List T → Prop
  | [] => True
  | t :: r => okT t ∧ okA r
end
theorem okA_append : ∀ a b, okA (a ++ b) ↔ okA a ∧ okA b
  | [], b => by simp [okA]
  | x :: r, b => by simp [okA, okA_append r b, and_assoc]
theorem okA_mem : ∀ {l : List T}, okA l → ∀ t ∈ l, okT t
  | [], _, t, ht => by cases ht
  | x :: r, h, t, ht => by
    rw [okA] at h
    rcases List.mem_cons.1 ht with e | e
    · exact e ▸ h.1
    · exact okA_mem h.2 t e

theorem tx0 (n : Int) (s : ByteArray) (l : List T) : tx (.mk 0 n s l) = Lib.itoa n := by rw [tx, if_pos rfl]
theorem tx1 (n : Int) (s : ByteArray) (l : List T) : tx (.mk 1 n s l) = 35 :: Lib.itoa n := by rw [tx, if_neg (by omega), if_pos rfl]
theorem tx2 (n : Int) (s : ByteArray) (l : List T) : tx (.mk 2 n s l) = 34 :: (esc s.data.toList ++ [34]) := by rw [tx, if_neg (by omega), if_neg (by omega), if_pos rfl]
theorem tx3 (n : Int) (s : ByteArray) (l : List T) : tx (.mk 3 n s l) = nameOf n := by rw [tx, if_neg (by omega), if_neg (by omega), if_neg (by omega), if_pos rfl]
theorem tx4 (n : Int) (s : ByteArray) (l : List T) : tx (.mk 4 n s l) = 123 :: (txs l ++ [125]) := by rw [tx, if_neg (by omega), if_neg (by omega), if_neg (by omega), if_neg (by omega)]

/-! ### What is read is written so -/
def pre : Md → Bs
  | .val => []
  | .items l => 123 :: (txs l ++ if l.length = 0 then [] else [44, 32])
  | .tail l => 123 :: txs l
def okM : Md → Prop
  | .val => True
  | .items l => okA l
  | .tail l => okA l ∧ l.length ≠ 0

theorem one_sound {i : Bs} {t : T} {r : Bs} (h : one i = .ok t r) : i = tx t ++ r ∧ okT t := by
  unfold one at h
  by_cases h1 : hd 34 i = true
  · rw [if_pos h1] at h
    rcases hq : strOf (i.drop 1) with ⟨o, x⟩
    rw [hq] at h
    cases o with
    | none => simp [resS] at h
    | some s =>
      simp only [resS, Res.ok.injEq] at h
      obtain ⟨rfl, rfl⟩ := h
      obtain ⟨e1, e2⟩ := strOf_sound _ _ (Nat.le_refl _) hq
      refine ⟨?_, ?_⟩
      · rw [tx2, hd_lit h1, e1]; simp
      · rw [okT]; right; right; left; exact ⟨rfl, rfl, rfl, by simpa using e2⟩
  · rw [if_neg h1] at h
    by_cases h2 : hd 35 i = true
    · rw [if_pos h2] at h
      rcases hq : numC 2147483647 (i.drop 1) with ⟨o, x⟩
      rw [hq] at h
      cases o with
      | none => simp [res] at h
      | some n =>
        simp only [res, Res.ok.injEq] at h
        obtain ⟨rfl, rfl⟩ := h
        obtain ⟨e1, e2, e3⟩ := numC_sound (by omega) hq
        refine ⟨?_, ?_⟩
        · rw [tx1, hd_lit h2, e1]; simp
        · rw [okT]; right; left; exact ⟨rfl, by omega, by omega, rfl, rfl⟩
    · rw [if_neg h2] at h
      by_cases h3 : (hd 45 i || hdD i) = true
      · rw [if_pos h3] at h
        rcases hq : numC 9223372036854775807 i with ⟨o, x⟩
        rw [hq] at h
        cases o with
        | none => simp [res] at h
        | some n =>
          simp only [res, Res.ok.injEq] at h
          obtain ⟨rfl, rfl⟩ := h
          obtain ⟨e1, e2, e3⟩ := numC_sound (by omega) hq
          refine ⟨?_, ?_⟩
          · rw [tx0]; exact e1
          · rw [okT]; left; exact ⟨rfl, by unfold I64; omega, rfl, rfl⟩
      · rw [if_neg h3] at h
        rcases hq : codeOf i with ⟨o, x⟩
        rw [hq] at h
        cases o with
        | none => simp [res] at h
        | some n =>
          simp only [res, Res.ok.injEq] at h
          obtain ⟨rfl, rfl⟩ := h
          obtain ⟨e1, e2, e3⟩ := codeOf_sound hq
          refine ⟨?_, ?_⟩
          · rw [tx3]; exact e1
          · rw [okT]; right; right; right; left; exact ⟨rfl, e2, e3, rfl, rfl⟩

theorem Go.sound_ {m : Md} {i : Bs} {R : Res} (h : Go m i R) : okM m → ∀ t r, R = .ok t r → pre m ++ i = tx t ++ r ∧ okT t := by
  induction h with
  | one _ => intro _ t r e; exact one_sound e
  | none =>
    intro _ t r e
    injection e with e1 e2
    subst e1 e2
    exact ⟨by rw [tx4]; rfl, by rw [okT]; simp [okA]⟩
  | list _ _ ih =>
    intro _ t r e
    obtain ⟨h1, h2⟩ := ih (by simp [okM, okA]) t r e
    exact ⟨by rw [← h1]; simp [pre, txs], h2⟩
  | itemBad _ _ => intro _ t r e; cases e
  | item hv _ ih1 ih2 =>
    intro hm t r e
    obtain ⟨h1, h2⟩ := ih1 trivial _ _ rfl
    obtain ⟨h3, h4⟩ := ih2 (by simp only [okM] at hm ⊢; rw [okA_append]; exact ⟨⟨hm, by simp [okA, h2]⟩, by simp⟩) t r e
    refine ⟨?_, h4⟩
    rw [← h3]
    simp only [pre, List.nil_append] at h1 ⊢
    rw [h1, txs_snoc]
    split
    · rename_i hl; have := List.eq_nil_of_length_eq_zero hl; subst this; simp [txs]
    · simp
  | tailEnd =>
    intro hm t r e
    injection e with e1 e2
    subst e1 e2
    refine ⟨by rw [tx4]; simp [pre], ?_⟩
    rw [okT]; right; right; right; right; exact ⟨rfl, rfl, rfl, hm.1⟩
  | @tailOn l r R _ ih =>
    intro hm t r' e
    obtain ⟨h1, h2⟩ := ih hm.1 t r' e
    refine ⟨?_, h2⟩
    rw [← h1]
    have hne : l ≠ [] := by intro e; exact hm.2 (by simp [e])
    simp [pre, hne]
  | tailComma _ => intro _ t r e; cases e
  | tailBad _ _ => intro _ t r e; cases e

theorem Go.sound {i : Bs} {t : T} {r : Bs} (h : Go .val i (.ok t r)) : i = tx t ++ r ∧ okT t := h.sound_ trivial t r rfl

/-! ### What is written is read so -/
theorem hd_take {n k : Nat} {i : Bs} (h : hd n i = false) : hd n (i.take k) = false := by
  cases k with
  | zero => rfl
  | succ k => cases i with
    | nil => rfl
    | cons c r => exact h
theorem itoa_head (n : Int) (r : Bs) : (hd 45 (Lib.itoa n ++ r) || hdD (Lib.itoa n ++ r)) = true ∧ 0 < (Lib.itoa n).length := by
  unfold Lib.itoa
  by_cases hn : n < 0
  · rw [if_pos hn]; simp [hd]
  · rw [if_neg hn]
    by_cases hz : n = 0
    · subst hz; rw [show (0 : Int).toNat = 0 from rfl, dec_small (by omega)]; simp [hd, hdD, isD]
    · obtain ⟨h1, h2, h3⟩ := dec_head n.toNat (by omega) r
      refine ⟨by rw [h2]; simp, ?_⟩
      have := Lib.nDigits_pos n.toNat
      rw [Lib.decDigits_length]; omega
theorem num_head {i : Bs} (h : (hd 45 i || hdD i) = true) : hd 34 i = false ∧ hd 35 i = false ∧ hd 123 i = false ∧ hd 125 i = false := by
  cases i with
  | nil => simp [hd, hdD] at h
  | cons c r =>
    simp only [hd, hdD, Bool.or_eq_true, beq_iff_eq, isD_iff] at h
    refine ⟨?_, ?_, ?_, ?_⟩ <;> simp [hd] <;> omega
theorem name_head {n : Int} (h0 : 0 ≤ n) (h1 : n ≤ 14) : ∃ q, nameOf n = 69 :: q := by
  have h : n = 0 ∨ n = 1 ∨ n = 2 ∨ n = 3 ∨ n = 4 ∨ n = 5 ∨ n = 6 ∨ n = 7 ∨ n = 8 ∨ n = 9 ∨ n = 10 ∨ n = 11 ∨ n = 12 ∨ n = 13 ∨ n = 14 := by omega
  rcases h with rfl | rfl | rfl | rfl | rfl | rfl | rfl | rfl | rfl | rfl | rfl | rfl | rfl | rfl | rfl
  all_goals exact ⟨_, rfl⟩

/-- The first byte of a value. -/
theorem tx_head {t : T} (h : okT t) (r : Bs) : hd 125 (tx t ++ r) = false ∧ 0 < (tx t).length := by
  match t, h with
  | .mk k n s l, h =>
    rw [okT] at h
    rcases h with ⟨rfl, _⟩ | ⟨rfl, _⟩ | ⟨rfl, _⟩ | ⟨rfl, h0, h1, _⟩ | ⟨rfl, _⟩
    · rw [tx0]; have h := itoa_head n r; exact ⟨(num_head h.1).2.2.2, h.2⟩
    · rw [tx1]; simp [hd]
    · rw [tx2]; simp [hd]
    · rw [tx3]; obtain ⟨q, e⟩ := name_head h0 h1; rw [e]; simp [hd]
    · rw [tx4]; simp [hd]

/-- One that is no list: its text is read. -/
theorem one_tx {k n : Int} {s : ByteArray} {l : List T} {r : Bs} (h : okT (.mk k n s l)) (hk : k ≠ 4) (hr : k = 0 ∨ k = 1 → hdD r = false) : hd 123 (tx (.mk k n s l) ++ r) = false ∧ one (tx (.mk k n s l) ++ r) = .ok (.mk k n s l) r := by
  rw [okT] at h
  rcases h with ⟨rfl, h1, rfl, rfl⟩ | ⟨rfl, h0, h1, rfl, rfl⟩ | ⟨rfl, rfl, rfl, h1⟩ | ⟨rfl, h0, h1, rfl, rfl⟩ | ⟨rfl, _⟩
  · rw [tx0]
    have hh := (itoa_head n r).1
    obtain ⟨h2, h3, h4, _⟩ := num_head hh
    unfold I64 at h1
    refine ⟨h4, ?_⟩
    unfold one
    rw [h2, h3, hh, numC_itoa (by omega) (by omega) (hr (.inl rfl))]; rfl
  · rw [tx1]
    refine ⟨rfl, ?_⟩
    have e := numC_itoa (most := 2147483647) (n := n) (r := r) (by omega) (by omega) (hr (.inr rfl))
    unfold one
    simp only [List.cons_append, List.drop_succ_cons, List.drop_zero, e]
    rfl
  · rw [tx2]
    refine ⟨rfl, ?_⟩
    have e := strOf_esc s.data.toList r h1
    unfold one
    simp only [List.cons_append, List.drop_succ_cons, List.drop_zero, List.append_assoc, List.nil_append, e]
    simp [hd, resS]
  · rw [tx3]
    have e := codeOf_name h0 h1 r
    obtain ⟨q, hq⟩ := name_head h0 h1
    rw [hq] at e ⊢
    refine ⟨rfl, ?_⟩
    unfold one
    rw [e]; rfl
  · omega

theorem tails_ok {xs : List T} (hx : ∀ t ∈ xs, okT t ∧ ∀ r, (t.k = 0 ∨ t.k = 1 → hdD r = false) → Go .val (tx t ++ r) (.ok t r)) (r : Bs) (done : List T) :
    Go (.tail done) (txr xs ++ (125 :: r)) (.ok (.mk 4 0 ByteArray.empty (done ++ xs)) r) := by
  induction xs generalizing done with
  | nil => simpa [txr] using Go.tailEnd
  | cons x q ih =>
    rw [txr]
    simp only [List.cons_append, List.append_assoc]
    have h2 := ih (fun t ht => hx t (by simp [ht])) (done ++ [x])
    rw [List.append_assoc, List.singleton_append] at h2
    refine Go.tailOn (Go.item ((hx x (by simp)).2 _ (fun _ => ?_)) h2)
    cases q with
    | nil => rfl
    | cons y q => rfl

theorem Go.full (t : T) : okT t → ∀ r, (t.k = 0 ∨ t.k = 1 → hdD r = false) → Go .val (tx t ++ r) (.ok t r) := by
  refine T.ind_ (P := fun t => okT t → ∀ r, (t.k = 0 ∨ t.k = 1 → hdD r = false) → Go .val (tx t ++ r) (.ok t r)) (fun k n s l ih => ?_) t
  intro h r hr
  by_cases hk : k = 4
  · subst hk
    rw [okT] at h
    obtain ⟨rfl, rfl, hl⟩ : n = 0 ∧ s = ByteArray.empty ∧ okA l := by
      rcases h with h | h | h | h | h
      · omega
      · omega
      · omega
      · omega
      · exact h.2
    rw [tx4]
    have hm := okA_mem hl
    cases l with
    | nil => exact Go.none
    | cons x q =>
      rw [txs]
      simp only [List.cons_append, List.append_assoc, List.nil_append]
      have hx := hm x (by simp)
      refine Go.list (tx_head hx _).1 (Go.item (ih x (by simp) hx _ (fun _ => ?_)) ?_)
      · cases q with
        | nil => rfl
        | cons y q => rfl
      · exact tails_ok (fun t ht => ⟨hm t (by simp [ht]), ih t (by simp [ht]) (hm t (by simp [ht]))⟩) r [x]
  · have := one_tx (r := r) h hk (by simpa [T.k] using hr)
    rw [← this.2]
    exact Go.one this.1

/-! ### What is cut off -/
def Short (t : T) (R : Res) : Prop := R = .bad [] ∨ ((t.k = 0 ∨ t.k = 1) ∧ ∃ t', R = .ok t' [])

theorem one_cut {k n : Int} {s : ByteArray} {l : List T} {j : Nat} (h : okT (.mk k n s l)) (hk : k ≠ 4) (hj : j < (tx (.mk k n s l)).length) :
    hd 123 ((tx (.mk k n s l)).take j) = false ∧ Short (.mk k n s l) (one ((tx (.mk k n s l)).take j)) := by
  refine ⟨?_, ?_⟩
  · have hh := (one_tx (r := []) h hk (fun _ => rfl)).1
    rw [List.append_nil] at hh
    exact hd_take hh
  cases j with
  | zero => rw [List.take_zero]; exact .inl rfl
  | succ j =>
  rw [okT] at h
  rcases h with ⟨rfl, h1, rfl, rfl⟩ | ⟨rfl, h0, h1, rfl, rfl⟩ | ⟨rfl, rfl, rfl, h1⟩ | ⟨rfl, h0, h1, rfl, rfl⟩ | ⟨rfl, _⟩
  · rw [tx0] at hj ⊢
    have hh := (itoa_head n []).1
    rw [List.append_nil] at hh
    unfold I64 at h1
    have hh' : (hd 45 ((Lib.itoa n).take (j + 1)) || hdD ((Lib.itoa n).take (j + 1))) = true := by
      revert hh
      cases Lib.itoa n with
      | nil => exact id
      | cons c q => exact id
    obtain ⟨h2, h3, _⟩ := num_head hh'
    unfold one
    rw [h2, h3, hh']
    rcases numC_take (most := 9223372036854775807) (by omega) (by omega) hj with e | ⟨n', e⟩
    · rw [e]; exact .inl rfl
    · rw [e]; exact .inr ⟨.inl rfl, _, rfl⟩
  · rw [tx1] at hj ⊢
    rw [List.take_succ_cons]
    simp only [List.length_cons] at hj
    unfold one
    simp only [List.drop_succ_cons, List.drop_zero]
    rcases numC_take (most := 2147483647) (n := n) (by omega) (by omega) (show j < (Lib.itoa n).length by omega) with e | ⟨n', e⟩
    · rw [e]; exact .inl rfl
    · rw [e]; exact .inr ⟨.inr rfl, _, rfl⟩
  · rw [tx2] at hj ⊢
    rw [List.take_succ_cons]
    simp only [List.length_cons, List.length_append, List.length_nil] at hj
    unfold one
    simp only [List.drop_succ_cons, List.drop_zero]
    rw [List.take_append_of_le_length (by omega), strOf_take _ _ h1 (by omega)]
    exact .inl rfl
  · rw [tx3] at hj ⊢
    have e := codeOf_take h0 h1 hj
    obtain ⟨q, hq⟩ := name_head h0 h1
    rw [hq, List.take_succ_cons] at e ⊢
    unfold one
    rw [e]; exact .inl rfl
  · omega

theorem hdD_rest (xs : List T) (r : Bs) (j : Nat) : hdD ((txr xs ++ (125 :: r)).take j) = false := by
  cases j with
  | zero => rfl
  | succ j => cases xs with
    | nil => rfl
    | cons y q => rfl

theorem items_cut {x : T} {xs done : List T} {j : Nat} (hx : okT x) (cx : ∀ j, j < (tx x).length → ∃ R, Go .val ((tx x).take j) R ∧ Short x R)
    (hxs : ∀ done j, j ≤ (txr xs).length → Go (.tail done) ((txr xs ++ [125]).take j) (.bad [])) (hj : j ≤ (tx x).length + (txr xs).length) :
    Go (.items done) ((tx x ++ (txr xs ++ [125])).take j) (.bad []) := by
  by_cases h : j < (tx x).length
  · rw [List.take_append_of_le_length (by omega)]
    obtain ⟨R, h1, h2⟩ := cx j h
    rcases h2 with rfl | ⟨_, t', rfl⟩
    · exact Go.itemBad h1
    · exact Go.item h1 (Go.tailBad rfl rfl)
  · obtain ⟨i, rfl⟩ : ∃ i, j = (tx x).length + i := ⟨j - (tx x).length, by omega⟩
    rw [List.take_length_add_append]
    exact Go.item (Go.full x hx _ (fun _ => hdD_rest xs [] i)) (hxs _ i (by omega))

theorem tails_cut {xs : List T} (hx : ∀ t ∈ xs, okT t ∧ ∀ j, j < (tx t).length → ∃ R, Go .val ((tx t).take j) R ∧ Short t R) :
    ∀ done j, j ≤ (txr xs).length → Go (.tail done) ((txr xs ++ [125]).take j) (.bad []) := by
  induction xs with
  | nil =>
    intro done j hj
    simp only [txr, List.length_nil] at hj
    rw [show j = 0 by omega]
    exact Go.tailBad rfl rfl
  | cons x q ih =>
    intro done j hj
    have hq := ih (fun t ht => hx t (by simp [ht]))
    rw [txr] at hj ⊢
    simp only [List.length_cons, List.length_append] at hj
    simp only [List.cons_append, List.append_assoc]
    match j with
    | 0 => exact Go.tailBad rfl rfl
    | 1 => exact Go.tailComma rfl
    | j + 2 =>
      rw [List.take_succ_cons, List.take_succ_cons]
      exact Go.tailOn (items_cut (hx x (by simp)).1 (hx x (by simp)).2 hq (by omega))

theorem Go.cut (t : T) : okT t → ∀ j, j < (tx t).length → ∃ R, Go .val ((tx t).take j) R ∧ Short t R := by
  refine T.ind_ (P := fun t => okT t → ∀ j, j < (tx t).length → ∃ R, Go .val ((tx t).take j) R ∧ Short t R) (fun k n s l ih => ?_) t
  intro h j hj
  by_cases hk : k = 4
  · subst hk
    rw [okT] at h
    obtain ⟨rfl, rfl, hl⟩ : n = 0 ∧ s = ByteArray.empty ∧ okA l := by
      rcases h with h | h | h | h | h
      · omega
      · omega
      · omega
      · omega
      · exact h.2
    have hm := okA_mem hl
    rw [tx4] at hj ⊢
    simp only [List.length_cons, List.length_append, List.length_nil] at hj
    refine ⟨.bad [], ?_, .inl rfl⟩
    match j with
    | 0 => exact Go.one (i := []) rfl
    | j + 1 =>
      rw [List.take_succ_cons]
      cases l with
      | nil =>
        simp only [txs, List.length_nil] at hj
        rw [show j = 0 by omega]
        exact Go.list rfl (Go.itemBad (Go.one (i := []) rfl))
      | cons x q =>
        rw [txs] at hj ⊢
        simp only [List.length_append] at hj
        rw [List.append_assoc]
        have hx := hm x (by simp)
        exact Go.list (hd_take (tx_head hx _).1) (items_cut hx (ih x (by simp) hx) (tails_cut (fun t ht => ⟨hm t (by simp [ht]), ih t (by simp [ht]) (hm t (by simp [ht]))⟩)) (by omega))
  · obtain ⟨h1, h2⟩ := one_cut h hk hj
    exact ⟨_, Go.one h1, h2⟩

end Go.Proofs.YtcecgfijfnnpeaaDoor
