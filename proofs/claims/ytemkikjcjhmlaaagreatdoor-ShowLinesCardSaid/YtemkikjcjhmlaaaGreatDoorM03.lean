/- Contracts of the small methods of the reader of texts: what stands next, passing it, asking whether a list is open or there is room. What is read of a text is written so, and what is written is read so, whole or cut off. No program is named. Trees of nodes: plain data, and what memory holds them. No program is named. What may stand where, as plain data. No program is named. Package tree: what may stand where: the small functions. A range over a function whose iterator reads, behind a round, what it laid itself: XHandsK's law, with a word that a round keeps all that lay there since the loop began. No program is named. tree.walk, tree.all: all nodes, each ahead of what it has. Package tree: the places, the names, how deep. Package tree: names. -/
import Derived.Test.YtemkikjcjhmlaaaGreatDoorM01
import Derived.Test.YtemkikjcjhmlaaaGreatDoorM00
import Derived.BigQuiet
import Derived.Test.YtemkikjcjhmlaaaGreatDoorProg
import Derived.WalkKit
import Derived.ProofKit
import Derived.WalkSpells
import Derived.RangeFuncNested
import Derived.RangeFuncCalls
import Derived.RangeFuncLeaves
import Derived.Below
import Derived.OwnWalkIn
import Derived.TacticsInMore
import Derived.LoopNIn
import Derived.LoopIn
import Derived.Shelf.Abstract
import Derived.Shelf.RegionOpen
namespace Go.Proofs.YtemkikjcjhmlaaaGreatDoor
open Go.RowKit

/-- What a reader holds, but its text. -/
structure Rd where
  pos : Nat
  ov : Value
  sk : Nat
  md : Nat
  c0 : Value
  c1 : Value
  c2 : Value
  c3 : Value
theorem But.drewN {g : Nat} {a w : World} (h : But g a w) (n : Nat) : But g a (w.drewN n) := ⟨h.os, h.tape, h.output, h.size, h.block⟩
theorem below_drewN {B : Nat} {a w : World} (h : Below B a w) (n : Nat) : Below B a (w.drewN n) := ⟨h.os, h.tape, h.output, h.size, h.block⟩
/-- The byte that stands next; 0 at the end. -/
def nx : Bs → UInt8 | [] => 0 | c :: _ => c
theorem nx_end (s : ByteArray) : nx (s.data.toList.drop s.size) = 0 := by rw [List.drop_of_length_le (by simp)]; rfl
theorem nx_at (s : ByteArray) (j : Nat) (h : j < s.size) : nx (s.data.toList.drop j) = s[j] := by
  have h' : j < s.data.toList.length := by simpa using h
  rw [List.drop_eq_getElem_cons h']; rfl
theorem ret_u8 {a b : UInt8} (h : a = b) : Ending.returned (.int .u8 (a.toNat : Int)) = .returned (.int .u8 (b.toNat : Int)) := by rw [h]

theorem nx_hd {r : Bs} {n : Nat} (hn : 0 < n) : hd n r = ((nx r).toNat == n) := by
  cases r with
  | nil => simp [hd, nx]; omega
  | cons c q => rfl
theorem hd_lt {s : ByteArray} {j n : Nat} (h : hd n (s.data.toList.drop j) = true) : j < s.size := by
  rcases Nat.lt_or_ge j s.size with h1 | h1
  · exact h1
  · rw [List.drop_of_length_le (by simpa using h1)] at h; simp [hd] at h
theorem nx_isD (r : Bs) : isD (nx r) = hdD r := by cases r <;> rfl
theorem nx_drop {s : ByteArray} {j : Nat} (h : (nx (s.data.toList.drop j)).toNat ≠ 0) : j < s.size := by
  rcases Nat.lt_or_ge j s.size with h1 | h1
  · exact h1
  · rw [List.drop_of_length_le (by simpa using h1)] at h; exact absurd rfl h

theorem lcp_le : ∀ a b : Bs, lcp a b ≤ a.length ∧ lcp a b ≤ b.length
  | a :: r, b :: q => by
    rw [lcp]; have := lcp_le r q; split <;> simp <;> omega
  | [], b => by simp [lcp]
  | a :: r, [] => by simp [lcp]
theorem lcp_step {a b : ByteArray} {j : Nat} (ha : j < a.size) (hb : j < b.size) : lcp (a.data.toList.drop j) (b.data.toList.drop j) = if a[j] = b[j] then lcp (a.data.toList.drop (j + 1)) (b.data.toList.drop (j + 1)) + 1 else 0 := by
  have ha' : j < a.data.toList.length := by simpa using ha
  have hb' : j < b.data.toList.length := by simpa using hb
  rw [List.drop_eq_getElem_cons ha', List.drop_eq_getElem_cons hb', lcp]; rfl
theorem lcp_end {a b : ByteArray} {j : Nat} (h : a.size ≤ j ∨ b.size ≤ j) : lcp (a.data.toList.drop j) (b.data.toList.drop j) = 0 := by
  rcases h with h | h
  · rw [List.drop_of_length_le (l := a.data.toList) (by simpa using h)]; simp [lcp]
  · rw [List.drop_of_length_le (l := b.data.toList) (by simpa using h)]; cases a.data.toList.drop j <;> simp [lcp]

end Go.Proofs.YtemkikjcjhmlaaaGreatDoor

namespace Go.Proofs.YtemkikjcjhmlaaaGreatDoor
open Go.RowKit

mutual
/-- A tree whose values are as they have to be, however great and deep it is. -/
def okT : T → Prop
  | .mk k n s l => (k = 0 ∧ I64 n ∧ s = ByteArray.empty ∧ l = []) ∨ (k = 1 ∧ -2147483648 ≤ n ∧ n ≤ 2147483647 ∧ s = ByteArray.empty ∧ l = []) ∨
      (k = 2 ∧ n = 0 ∧ l = [] ∧ ∀ c ∈ s.data.toList, 32 ≤ c.toNat ∧ c.toNat ≤ 126) ∨ (k = 3 ∧ 0 ≤ n ∧ n ≤ 14 ∧ s = ByteArray.empty ∧ l = []) ∨ (k = 4 ∧ n = 0 ∧ s = ByteArray.empty ∧ okA l)
def okA : List T → Prop
  | [] => True
  | t :: r => okT t ∧ okA r
end
theorem okA_append : ∀ a b, okA (a ++ b) ↔ okA a ∧ okA b
  | [], b => by simp [okA]
  | x :: r, b => by simp [okA, okA_append r b, and_assoc]
theorem okA_mem : ∀ {l : List T}, okA l → ∀ t ∈ l, okT t
  | [], _, t, ht => by cases ht
  | x :: r, h, t, ht => by
    rw [okA] at h
    rcases List.mem_cons.1 ht with e | e
    · exact e ▸ h.1
    · exact okA_mem h.2 t e

theorem tx0 (n : Int) (s : ByteArray) (l : List T) : tx (.mk 0 n s l) = Lib.itoa n := by rw [tx, if_pos rfl]
theorem tx1 (n : Int) (s : ByteArray) (l : List T) : tx (.mk 1 n s l) = 35 :: Lib.itoa n := by rw [tx, if_neg (by omega), if_pos rfl]
theorem tx2 (n : Int) (s : ByteArray) (l : List T) : tx (.mk 2 n s l) = 34 :: (esc s.data.toList ++ [34]) := by rw [tx, if_neg (by omega), if_neg (by omega), if_pos rfl]
theorem tx3 (n : Int) (s : ByteArray) (l : List T) : tx (.mk 3 n s l) = nameOf n := by rw [tx, if_neg (by omega), if_neg (by omega), if_neg (by omega), if_pos rfl]
theorem tx4 (n : Int) (s : ByteArray) (l : List T) : tx (.mk 4 n s l) = 123 :: (txs l ++ [125]) := by rw [tx, if_neg (by omega), if_neg (by omega), if_neg (by omega), if_neg (by omega)]

/-! ### What is read is written so -/
def pre : Md → Bs
  | .val => []
  | .items l => 123 :: (txs l ++ if l.length = 0 then [] else [44, 32])
  | .tail l => 123 :: txs l
def okM : Md → Prop
  | .val => True
  | .items l => okA l
  | .tail l => okA l ∧ l.length ≠ 0

theorem one_sound {i : Bs} {t : T} {r : Bs} (h : one i = .ok t r) : i = tx t ++ r ∧ okT t := by
  unfold one at h
  by_cases h1 : hd 34 i = true
  · rw [if_pos h1] at h
    rcases hq : strOf (i.drop 1) with ⟨o, x⟩
    rw [hq] at h
    cases o with
    | none => simp [resS] at h
    | some s =>
      simp only [resS, Res.ok.injEq] at h
      obtain ⟨rfl, rfl⟩ := h
      obtain ⟨e1, e2⟩ := strOf_sound _ _ (Nat.le_refl _) hq
      refine ⟨?_, ?_⟩
      · rw [tx2, hd_lit h1, e1]; simp
      · rw [okT]; right; right; left; exact ⟨rfl, rfl, rfl, by simpa using e2⟩
  · rw [if_neg h1] at h
    by_cases h2 : hd 35 i = true
    · rw [if_pos h2] at h
      rcases hq : numC 2147483647 (i.drop 1) with ⟨o, x⟩
      rw [hq] at h
      cases o with
      | none => simp [res] at h
      | some n =>
        simp only [res, Res.ok.injEq] at h
        obtain ⟨rfl, rfl⟩ := h
        obtain ⟨e1, e2, e3⟩ := numC_sound (by omega) hq
        refine ⟨?_, ?_⟩
        · rw [tx1, hd_lit h2, e1]; simp
        · rw [okT]; right; left; exact ⟨rfl, by omega, by omega, rfl, rfl⟩
    · rw [if_neg h2] at h
      by_cases h3 : (hd 45 i || hdD i) = true
      · rw [if_pos h3] at h
        rcases hq : numC 9223372036854775807 i with ⟨o, x⟩
        rw [hq] at h
        cases o with
        | none => simp [res] at h
        | some n =>
          simp only [res, Res.ok.injEq] at h
          obtain ⟨rfl, rfl⟩ := h
          obtain ⟨e1, e2, e3⟩ := numC_sound (by omega) hq
          refine ⟨?_, ?_⟩
          · rw [tx0]; exact e1
          · rw [okT]; left; exact ⟨rfl, by unfold I64; omega, rfl, rfl⟩
      · rw [if_neg h3] at h
        rcases hq : codeOf i with ⟨o, x⟩
        rw [hq] at h
        cases o with
        | none => simp [res] at h
        | some n =>
          simp only [res, Res.ok.injEq] at h
          obtain ⟨rfl, rfl⟩ := h
          obtain ⟨e1, e2, e3⟩ := codeOf_sound hq
          refine ⟨?_, ?_⟩
          · rw [tx3]; exact e1
          · rw [okT]; right; right; right; left; exact ⟨rfl, e2, e3, rfl, rfl⟩

theorem Go.sound_ {m : Md} {i : Bs} {R : Res} (h : Go m i R) : okM m → ∀ t r, R = .ok t r → pre m ++ i = tx t ++ r ∧ okT t := by
  induction h with
  | one _ => intro _ t r e; exact one_sound e
  | none =>
    intro _ t r e
    injection e with e1 e2
    subst e1 e2
    exact ⟨by rw [tx4]; rfl, by rw [okT]; simp [okA]⟩
  | list _ _ ih =>
    intro _ t r e
    obtain ⟨h1, h2⟩ := ih (by simp [okM, okA]) t r e
    exact ⟨by rw [← h1]; simp [pre, txs], h2⟩
  | itemBad _ _ => intro _ t r e; cases e
  | item hv _ ih1 ih2 =>
    intro hm t r e
    obtain ⟨h1, h2⟩ := ih1 trivial _ _ rfl
    obtain ⟨h3, h4⟩ := ih2 (by simp only [okM] at hm ⊢; rw [okA_append]; exact ⟨⟨hm, by simp [okA, h2]⟩, by simp⟩) t r e
    refine ⟨?_, h4⟩
    rw [← h3]
    simp only [pre, List.nil_append] at h1 ⊢
    rw [h1, txs_snoc]
    split
    · rename_i hl; have := List.eq_nil_of_length_eq_zero hl; subst this; simp [txs]
    · simp
  | tailEnd =>
    intro hm t r e
    injection e with e1 e2
    subst e1 e2
    refine ⟨by rw [tx4]; simp [pre], ?_⟩
    rw [okT]; right; right; right; right; exact ⟨rfl, rfl, rfl, hm.1⟩
  | @tailOn l r R _ ih =>
    intro hm t r' e
    obtain ⟨h1, h2⟩ := ih hm.1 t r' e
    refine ⟨?_, h2⟩
    rw [← h1]
    have hne : l ≠ [] := by intro e; exact hm.2 (by simp [e])
    simp [pre, hne]
  | tailComma _ => intro _ t r e; cases e
  | tailBad _ _ => intro _ t r e; cases e

theorem Go.sound {i : Bs} {t : T} {r : Bs} (h : Go .val i (.ok t r)) : i = tx t ++ r ∧ okT t := h.sound_ trivial t r rfl

/-! ### What is written is read so -/
theorem hd_take {n k : Nat} {i : Bs} (h : hd n i = false) : hd n (i.take k) = false := by
  cases k with
  | zero => rfl
  | succ k => cases i with
    | nil => rfl
    | cons c r => exact h
theorem itoa_head (n : Int) (r : Bs) : (hd 45 (Lib.itoa n ++ r) || hdD (Lib.itoa n ++ r)) = true ∧ 0 < (Lib.itoa n).length := by
  unfold Lib.itoa
  by_cases hn : n < 0
  · rw [if_pos hn]; simp [hd]
  · rw [if_neg hn]
    by_cases hz : n = 0
    · subst hz; rw [show (0 : Int).toNat = 0 from rfl, dec_small (by omega)]; simp [hd, hdD, isD]
    · obtain ⟨h1, h2, h3⟩ := dec_head n.toNat (by omega) r
      refine ⟨by rw [h2]; simp, ?_⟩
      have := Lib.nDigits_pos n.toNat
      rw [Lib.decDigits_length]; omega
theorem num_head {i : Bs} (h : (hd 45 i || hdD i) = true) : hd 34 i = false ∧ hd 35 i = false ∧ hd 123 i = false ∧ hd 125 i = false := by
  cases i with
  | nil => simp [hd, hdD] at h
  | cons c r =>
    simp only [hd, hdD, Bool.or_eq_true, beq_iff_eq, isD_iff] at h
    refine ⟨?_, ?_, ?_, ?_⟩ <;> simp [hd] <;> omega
theorem name_head {n : Int} (h0 : 0 ≤ n) (h1 : n ≤ 14) : ∃ q, nameOf n = 69 :: q := by
  have h : n = 0 ∨ n = 1 ∨ n = 2 ∨ n = 3 ∨ n = 4 ∨ n = 5 ∨ n = 6 ∨ n = 7 ∨ n = 8 ∨ n = 9 ∨ n = 10 ∨ n = 11 ∨ n = 12 ∨ n = 13 ∨ n = 14 := by omega
  rcases h with rfl | rfl | rfl | rfl | rfl | rfl | rfl | rfl | rfl | rfl | rfl | rfl | rfl | rfl | rfl
  all_goals exact ⟨_, rfl⟩

/-- The first byte of a value. -/
theorem tx_head {t : T} (h : okT t) (r : Bs) : hd 125 (tx t ++ r) = false ∧ 0 < (tx t).length := by
  match t, h with
  | .mk k n s l, h =>
    rw [okT] at h
    rcases h with ⟨rfl, _⟩ | ⟨rfl, _⟩ | ⟨rfl, _⟩ | ⟨rfl, h0, h1, _⟩ | ⟨rfl, _⟩
    · rw [tx0]; have h := itoa_head n r; exact ⟨(num_head h.1).2.2.2, h.2⟩
    · rw [tx1]; simp [hd]
    · rw [tx2]; simp [hd]
    · rw [tx3]; obtain ⟨q, e⟩ := name_head h0 h1; rw [e]; simp [hd]
    · rw [tx4]; simp [hd]

/-- One that is no list: its text is read. -/
theorem one_tx {k n : Int} {s : ByteArray} {l : List T} {r : Bs} (h : okT (.mk k n s l)) (hk : k ≠ 4) (hr : k = 0 ∨ k = 1 → hdD r = false) : hd 123 (tx (.mk k n s l) ++ r) = false ∧ one (tx (.mk k n s l) ++ r) = .ok (.mk k n s l) r := by
  rw [okT] at h
  rcases h with ⟨rfl, h1, rfl, rfl⟩ | ⟨rfl, h0, h1, rfl, rfl⟩ | ⟨rfl, rfl, rfl, h1⟩ | ⟨rfl, h0, h1, rfl, rfl⟩ | ⟨rfl, _⟩
  · rw [tx0]
    have hh := (itoa_head n r).1
    obtain ⟨h2, h3, h4, _⟩ := num_head hh
    unfold I64 at h1
    refine ⟨h4, ?_⟩
    unfold one
    rw [h2, h3, hh, numC_itoa (by omega) (by omega) (hr (.inl rfl))]; rfl
  · rw [tx1]
    refine ⟨rfl, ?_⟩
    have e := numC_itoa (most := 2147483647) (n := n) (r := r) (by omega) (by omega) (hr (.inr rfl))
    unfold one
    simp only [List.cons_append, List.drop_succ_cons, List.drop_zero, e]
    rfl
  · rw [tx2]
    refine ⟨rfl, ?_⟩
    have e := strOf_esc s.data.toList r h1
    unfold one
    simp only [List.cons_append, List.drop_succ_cons, List.drop_zero, List.append_assoc, List.nil_append, e]
    simp [hd, resS]
  · rw [tx3]
    have e := codeOf_name h0 h1 r
    obtain ⟨q, hq⟩ := name_head h0 h1
    rw [hq] at e ⊢
    refine ⟨rfl, ?_⟩
    unfold one
    rw [e]; rfl
  · omega

theorem tails_ok {xs : List T} (hx : ∀ t ∈ xs, okT t ∧ ∀ r, (t.k = 0 ∨ t.k = 1 → hdD r = false) → Go .val (tx t ++ r) (.ok t r)) (r : Bs) (done : List T) :
    Go (.tail done) (txr xs ++ (125 :: r)) (.ok (.mk 4 0 ByteArray.empty (done ++ xs)) r) := by
  induction xs generalizing done with
  | nil => simpa [txr] using Go.tailEnd
  | cons x q ih =>
    rw [txr]
    simp only [List.cons_append, List.append_assoc]
    have h2 := ih (fun t ht => hx t (by simp [ht])) (done ++ [x])
    rw [List.append_assoc, List.singleton_append] at h2
    refine Go.tailOn (Go.item ((hx x (by simp)).2 _ (fun _ => ?_)) h2)
    cases q with
    | nil => rfl
    | cons y q => rfl

theorem Go.full (t : T) : okT t → ∀ r, (t.k = 0 ∨ t.k = 1 → hdD r = false) → Go .val (tx t ++ r) (.ok t r) := by
  refine T.ind_ (P := fun t => okT t → ∀ r, (t.k = 0 ∨ t.k = 1 → hdD r = false) → Go .val (tx t ++ r) (.ok t r)) (fun k n s l ih => ?_) t
  intro h r hr
  by_cases hk : k = 4
  · subst hk
    rw [okT] at h
    obtain ⟨rfl, rfl, hl⟩ : n = 0 ∧ s = ByteArray.empty ∧ okA l := by
      rcases h with h | h | h | h | h
      · omega
      · omega
      · omega
      · omega
      · exact h.2
    rw [tx4]
    have hm := okA_mem hl
    cases l with
    | nil => exact Go.none
    | cons x q =>
      rw [txs]
      simp only [List.cons_append, List.append_assoc, List.nil_append]
      have hx := hm x (by simp)
      refine Go.list (tx_head hx _).1 (Go.item (ih x (by simp) hx _ (fun _ => ?_)) ?_)
      · cases q with
        | nil => rfl
        | cons y q => rfl
      · exact tails_ok (fun t ht => ⟨hm t (by simp [ht]), ih t (by simp [ht]) (hm t (by simp [ht]))⟩) r [x]
  · have := one_tx (r := r) h hk (by simpa [T.k] using hr)
    rw [← this.2]
    exact Go.one this.1

/-! ### What is cut off -/
def Short (t : T) (R : Res) : Prop := R = .bad [] ∨ ((t.k = 0 ∨ t.k = 1) ∧ ∃ t', R = .ok t' [])

theorem one_cut {k n : Int} {s : ByteArray} {l : List T} {j : Nat} (h : okT (.mk k n s l)) (hk : k ≠ 4) (hj : j < (tx (.mk k n s l)).length) :
    hd 123 ((tx (.mk k n s l)).take j) = false ∧ Short (.mk k n s l) (one ((tx (.mk k n s l)).take j)) := by
  refine ⟨?_, ?_⟩
  · have hh := (one_tx (r := []) h hk (fun _ => rfl)).1
    rw [List.append_nil] at hh
    exact hd_take hh
  cases j with
  | zero => rw [List.take_zero]; exact .inl rfl
  | succ j =>
  rw [okT] at h
  rcases h with ⟨rfl, h1, rfl, rfl⟩ | ⟨rfl, h0, h1, rfl, rfl⟩ | ⟨rfl, rfl, rfl, h1⟩ | ⟨rfl, h0, h1, rfl, rfl⟩ | ⟨rfl, _⟩
  · rw [tx0] at hj ⊢
    have hh := (itoa_head n []).1
    rw [List.append_nil] at hh
    unfold I64 at h1
    have hh' : (hd 45 ((Lib.itoa n).take (j + 1)) || hdD ((Lib.itoa n).take (j + 1))) = true := by
      revert hh
      cases Lib.itoa n with
      | nil => exact id
      | cons c q => exact id
    obtain ⟨h2, h3, _⟩ := num_head hh'
    unfold one
    rw [h2, h3, hh']
    rcases numC_take (most := 9223372036854775807) (by omega) (by omega) hj with e | ⟨n', e⟩
    · rw [e]; exact .inl rfl
    · rw [e]; exact .inr ⟨.inl rfl, _, rfl⟩
  · rw [tx1] at hj ⊢
    rw [List.take_succ_cons]
    simp only [List.length_cons] at hj
    unfold one
    simp only [List.drop_succ_cons, List.drop_zero]
    rcases numC_take (most := 2147483647) (n := n) (by omega) (by omega) (show j < (Lib.itoa n).length by omega) with e | ⟨n', e⟩
    · rw [e]; exact .inl rfl
    · rw [e]; exact .inr ⟨.inr rfl, _, rfl⟩
  · rw [tx2] at hj ⊢
    rw [List.take_succ_cons]
    simp only [List.length_cons, List.length_append, List.length_nil] at hj
    unfold one
    simp only [List.drop_succ_cons, List.drop_zero]
    rw [List.take_append_of_le_length (by omega), strOf_take _ _ h1 (by omega)]
    exact .inl rfl
  · rw [tx3] at hj ⊢
    have e := codeOf_take h0 h1 hj
    obtain ⟨q, hq⟩ := name_head h0 h1
    rw [hq, List.take_succ_cons] at e ⊢
    unfold one
    rw [e]; exact .inl rfl
  · omega

theorem hdD_rest (xs : List T) (r : Bs) (j : Nat) : hdD ((txr xs ++ (125 :: r)).take j) = false := by
  cases j with
  | zero => rfl
  | succ j => cases xs with
    | nil => rfl
    | cons y q => rfl

theorem items_cut {x : T} {xs done : List T} {j : Nat} (hx : okT x) (cx : ∀ j, j < (tx x).length → ∃ R, Go .val ((tx x).take j) R ∧ Short x R)
    (hxs : ∀ done j, j ≤ (txr xs).length → Go (.tail done) ((txr xs ++ [125]).take j) (.bad [])) (hj : j ≤ (tx x).length + (txr xs).length) :
    Go (.items done) ((tx x ++ (txr xs ++ [125])).take j) (.bad []) := by
  by_cases h : j < (tx x).length
  · rw [List.take_append_of_le_length (by omega)]
    obtain ⟨R, h1, h2⟩ := cx j h
    rcases h2 with rfl | ⟨_, t', rfl⟩
    · exact Go.itemBad h1
    · exact Go.item h1 (Go.tailBad rfl rfl)
  · obtain ⟨i, rfl⟩ : ∃ i, j = (tx x).length + i := ⟨j - (tx x).length, by omega⟩
    rw [List.take_length_add_append]
    exact Go.item (Go.full x hx _ (fun _ => hdD_rest xs [] i)) (hxs _ i (by omega))

theorem tails_cut {xs : List T} (hx : ∀ t ∈ xs, okT t ∧ ∀ j, j < (tx t).length → ∃ R, Go .val ((tx t).take j) R ∧ Short t R) :
    ∀ done j, j ≤ (txr xs).length → Go (.tail done) ((txr xs ++ [125]).take j) (.bad []) := by
  induction xs with
  | nil =>
    intro done j hj
    simp only [txr, List.length_nil] at hj
    rw [show j = 0 by omega]
    exact Go.tailBad rfl rfl
  | cons x q ih =>
    intro done j hj
    have hq := ih (fun t ht => hx t (by simp [ht]))
    rw [txr] at hj ⊢
    simp only [List.length_cons, List.length_append] at hj
    simp only [List.cons_append, List.append_assoc]
    match j with
    | 0 => exact Go.tailBad rfl rfl
    | 1 => exact Go.tailComma rfl
    | j + 2 =>
      rw [List.take_succ_cons, List.take_succ_cons]
      exact Go.tailOn (items_cut (hx x (by simp)).1 (hx x (by simp)).2 hq (by omega))

theorem Go.cut (t : T) : okT t → ∀ j, j < (tx t).length → ∃ R, Go .val ((tx t).take j) R ∧ Short t R := by
  refine T.ind_ (P := fun t => okT t → ∀ j, j < (tx t).length → ∃ R, Go .val ((tx t).take j) R ∧ Short t R) (fun k n s l ih => ?_) t
  intro h j hj
  by_cases hk : k = 4
  · subst hk
    rw [okT] at h
    obtain ⟨rfl, rfl, hl⟩ : n = 0 ∧ s = ByteArray.empty ∧ okA l := by
      rcases h with h | h | h | h | h
      · omega
      · omega
      · omega
      · omega
      · exact h.2
    have hm := okA_mem hl
    rw [tx4] at hj ⊢
    simp only [List.length_cons, List.length_append, List.length_nil] at hj
    refine ⟨.bad [], ?_, .inl rfl⟩
    match j with
    | 0 => exact Go.one (i := []) rfl
    | j + 1 =>
      rw [List.take_succ_cons]
      cases l with
      | nil =>
        simp only [txs, List.length_nil] at hj
        rw [show j = 0 by omega]
        exact Go.list rfl (Go.itemBad (Go.one (i := []) rfl))
      | cons x q =>
        rw [txs] at hj ⊢
        simp only [List.length_append] at hj
        rw [List.append_assoc]
        have hx := hm x (by simp)
        exact Go.list (hd_take (tx_head hx _).1) (items_cut hx (ih x (by simp) hx) (tails_cut (fun t ht => ⟨hm t (by simp [ht]), ih t (by simp [ht]) (hm t (by simp [ht]))⟩)) (by omega))
  · obtain ⟨h1, h2⟩ := one_cut h hk hj
    exact ⟨_, Go.one h1, h2⟩

end Go.Proofs.YtemkikjcjhmlaaaGreatDoor

namespace Go.Proofs.YtemkikjcjhmlaaaGreatDoor
open Go.RowKit

/-- A node as plain data. -/
inductive Nd where
  | mk (o n : Int) (s : ByteArray) (v : T) (l : List Nd)

namespace Nd
def o : Nd → Int | mk o _ _ _ _ => o
def n : Nd → Int | mk _ n _ _ _ => n
def s : Nd → ByteArray | mk _ _ s _ _ => s
def v : Nd → T | mk _ _ _ v _ => v
def l : Nd → List Nd | mk _ _ _ _ l => l
end Nd

theorem Nd.ind_ {P : Nd → Prop} (h : ∀ o n s v l, (∀ t ∈ l, P t) → P (.mk o n s v l)) (t : Nd) : P t :=
  Nd.rec (motive_1 := P) (motive_2 := fun l => ∀ t ∈ l, P t) (fun o n s v l ih => h o n s v l ih) (fun t ht => absurd ht (by simp))
    (fun x r hx hr t ht => by rcases List.mem_cons.1 ht with h | h; exact h ▸ hx; exact hr t h) t

mutual
/-- In w, the value x is the node, and what it has lies in blocks from lo on, below hi. -/
def NRep (w : World) (lo hi : Nat) : Nd → Value → Prop
  | .mk o n s v l, x => ∃ (k m : Int) (z : ByteArray) (q : Option Addr) (ql qc : Nat) (p : Option Addr) (cap : Nat), x = .agg #[.int .i64 o, .int .i64 n, .string s, .int .i64 k, .int .i64 m, .string z, .slice q ql qc, .slice p l.length cap] ∧
      I64 o ∧ I64 n ∧ s.size ≤ 140737488355328 ∧ Rep w lo hi v (.agg #[.int .i64 k, .int .i64 m, .string z, .slice q ql qc]) ∧ l.length ≤ cap ∧ l.length * 112 ≤ 140737488355328 ∧ NAll w lo hi l p
def NAll (w : World) (lo hi : Nat) : List Nd → Option Addr → Prop
  | [], _ => True
  | t :: r, p => ∃ (a : Addr) (c0 c1 c2 c3 c4 c5 c6 c7 : Value), p = some a ∧ lo ≤ a.block ∧ a.block < hi ∧ w.cell? a = some c0 ∧ w.cell? (a.add 1) = some c1 ∧ w.cell? (a.add 2) = some c2 ∧ w.cell? (a.add 3) = some c3 ∧
      w.cell? (a.add 4) = some c4 ∧ w.cell? (a.add 5) = some c5 ∧ w.cell? (a.add 6) = some c6 ∧ w.cell? (a.add 7) = some c7 ∧
      NRep w lo hi t (.agg #[c0, c1, c2, c3, c4, c5, c6, c7]) ∧ NAll w lo hi r (some (a.add 8))
end

mutual
theorem NRep.keep {w w' : World} {lo hi lo' hi' : Nat} (hlo : lo' ≤ lo) (hhi : hi ≤ hi') (hk : ∀ p : Addr, lo ≤ p.block → p.block < hi → w'.cell? p = w.cell? p) : (t : Nd) → (x : Value) → NRep w lo hi t x → NRep w' lo' hi' t x
  | .mk o n s v l, x, h => by
    unfold NRep at h ⊢
    obtain ⟨k, m, z, q, ql, qc, p, cap, hx, h1, h2, h3, h4, h5, h6, h7⟩ := h
    exact ⟨k, m, z, q, ql, qc, p, cap, hx, h1, h2, h3, h4.keep hlo hhi hk, h5, h6, NAll.keep hlo hhi hk l p h7⟩
theorem NAll.keep {w w' : World} {lo hi lo' hi' : Nat} (hlo : lo' ≤ lo) (hhi : hi ≤ hi') (hk : ∀ p : Addr, lo ≤ p.block → p.block < hi → w'.cell? p = w.cell? p) : (l : List Nd) → (p : Option Addr) → NAll w lo hi l p → NAll w' lo' hi' l p
  | [], p, _ => by unfold NAll; trivial
  | t :: r, p, h => by
    unfold NAll at h ⊢
    obtain ⟨a, c0, c1, c2, c3, c4, c5, c6, c7, hp, hl, hb, h0, h1, h2, h3, h4, h5, h6, h7, ht, hr⟩ := h
    refine ⟨a, c0, c1, c2, c3, c4, c5, c6, c7, hp, by omega, by omega, ?_, ?_, ?_, ?_, ?_, ?_, ?_, ?_, NRep.keep hlo hhi hk t _ ht, NAll.keep hlo hhi hk r _ hr⟩
    · rw [hk a (by omega) (by omega)]; exact h0
    all_goals (rw [hk _ (by rw [block_add]; omega) (by rw [block_add]; omega)]; assumption)
end

theorem NRep.below {w w' : World} {lo hi B : Nat} {t : Nd} {v : Value} (h : NRep w lo hi t v) (hb : Below B w w') (hB : hi ≤ B) : NRep w' lo hi t v :=
  h.keep (Nat.le_refl _) (Nat.le_refl _) (fun p _ hp => hb.cell (by omega))
theorem NAll.below {w w' : World} {lo hi B : Nat} {l : List Nd} {p : Option Addr} (h : NAll w lo hi l p) (hb : Below B w w') (hB : hi ≤ B) : NAll w' lo hi l p :=
  h.keep (Nat.le_refl _) (Nat.le_refl _) (fun p _ hp => hb.cell (by omega))
theorem NRep.alloc {w : World} {lo hi : Nat} {t : Nd} {v : Value} (h : NRep w lo hi t v) (hB : hi ≤ w.heap.size) (o : Obj) : NRep (w.alloc o) lo hi t v :=
  h.keep (Nat.le_refl _) (Nat.le_refl _) (fun p _ hp => World.cell?_alloc_lt w o p (by omega))
theorem NAll.alloc {w : World} {lo hi : Nat} {t : List Nd} {v : Option Addr} (h : NAll w lo hi t v) (hB : hi ≤ w.heap.size) (o : Obj) : NAll (w.alloc o) lo hi t v :=
  h.keep (Nat.le_refl _) (Nat.le_refl _) (fun p _ hp => World.cell?_alloc_lt w o p (by omega))
theorem NRep.setCell {w : World} {lo hi : Nat} {t : Nd} {v : Value} (h : NRep w lo hi t v) {p : Addr} (hB : p.block < lo ∨ hi ≤ p.block) (u : Value) : NRep (w.setCell p u) lo hi t v :=
  h.keep (Nat.le_refl _) (Nat.le_refl _) (fun q hl hp => World.cell?_setCell_other w p q u (fun e => by subst e; omega))
theorem NAll.setCell {w : World} {lo hi : Nat} {t : List Nd} {v : Option Addr} (h : NAll w lo hi t v) {p : Addr} (hB : p.block < lo ∨ hi ≤ p.block) (u : Value) : NAll (w.setCell p u) lo hi t v :=
  h.keep (Nat.le_refl _) (Nat.le_refl _) (fun q hl hp => World.cell?_setCell_other w p q u (fun e => by subst e; omega))
theorem NRep.wide {w : World} {lo hi lo' hi' : Nat} {t : Nd} {v : Value} (h : NRep w lo hi t v) (h1 : lo' ≤ lo) (h2 : hi ≤ hi') : NRep w lo' hi' t v := h.keep h1 h2 (fun _ _ _ => rfl)
theorem NAll.wide {w : World} {lo hi lo' hi' : Nat} {t : List Nd} {v : Option Addr} (h : NAll w lo hi t v) (h1 : lo' ≤ lo) (h2 : hi ≤ hi') : NAll w lo' hi' t v := h.keep h1 h2 (fun _ _ _ => rfl)
theorem NAll.nil (w : World) (lo hi : Nat) (p : Option Addr) : NAll w lo hi [] p := by unfold NAll; trivial

/-- Item i of a row of nodes in memory. -/
theorem NAll.at {w : World} {lo hi : Nat} : {l : List Nd} → {p : Option Addr} → (h : NAll w lo hi l p) → (i : Nat) → (hil : i < l.length) →
    ∃ (a : Addr) (c0 c1 c2 c3 c4 c5 c6 c7 : Value), p = some a ∧ lo ≤ a.block ∧ a.block < hi ∧ w.cell? (a.add (i * 8)) = some c0 ∧ w.cell? (a.add (i * 8 + 1)) = some c1 ∧ w.cell? (a.add (i * 8 + 2)) = some c2 ∧ w.cell? (a.add (i * 8 + 3)) = some c3 ∧
      w.cell? (a.add (i * 8 + 4)) = some c4 ∧ w.cell? (a.add (i * 8 + 5)) = some c5 ∧ w.cell? (a.add (i * 8 + 6)) = some c6 ∧ w.cell? (a.add (i * 8 + 7)) = some c7 ∧
      NRep w lo hi (l[i]) (.agg #[c0, c1, c2, c3, c4, c5, c6, c7])
  | [], _, _, _, hil => absurd hil (by simp)
  | t :: r, p, h, 0, _ => by
    unfold NAll at h
    obtain ⟨a, c0, c1, c2, c3, c4, c5, c6, c7, hp, hl, hb, h0, h1, h2, h3, h4, h5, h6, h7, ht, hr⟩ := h
    exact ⟨a, c0, c1, c2, c3, c4, c5, c6, c7, hp, hl, hb, h0, by simpa using h1, by simpa using h2, by simpa using h3, by simpa using h4, by simpa using h5, by simpa using h6, by simpa using h7, ht⟩
  | t :: r, p, h, i + 1, hil => by
    unfold NAll at h
    obtain ⟨a, c0, c1, c2, c3, c4, c5, c6, c7, hp, hl, hb, h0, h1, h2, h3, h4, h5, h6, h7, ht, hr⟩ := h
    obtain ⟨a', d0, d1, d2, d3, d4, d5, d6, d7, hp', hl', hb', e0, e1, e2, e3, e4, e5, e6, e7, ht'⟩ := NAll.at hr i (by simpa using hil)
    injection hp' with hp'
    subst hp'
    rw [add_add] at e0 e1 e2 e3 e4 e5 e6 e7
    refine ⟨a, d0, d1, d2, d3, d4, d5, d6, d7, hp, hl, hb, ?_, ?_, ?_, ?_, ?_, ?_, ?_, ?_, by simpa using ht'⟩
    · rw [← e0]; congr 1; congr 1; omega
    · rw [← e1]; congr 1; congr 1; omega
    · rw [← e2]; congr 1; congr 1; omega
    · rw [← e3]; congr 1; congr 1; omega
    · rw [← e4]; congr 1; congr 1; omega
    · rw [← e5]; congr 1; congr 1; omega
    · rw [← e6]; congr 1; congr 1; omega
    · rw [← e7]; congr 1; congr 1; omega

/-- Item i, its cells written out. -/
theorem NAll.item {w : World} {lo hi : Nat} {l : List Nd} {p : Option Addr} (h : NAll w lo hi l p) (i : Nat) (hil : i < l.length) :
    ∃ (b off : Nat) (o n : Int) (s : ByteArray) (v : T) (ll : List Nd) (k m : Int) (z : ByteArray) (q : Option Addr) (ql qc : Nat) (r : Option Addr) (c : Nat), p = some ⟨b, off, none⟩ ∧ lo ≤ b ∧ b < hi ∧ l[i] = .mk o n s v ll ∧
      w.cell? ⟨b, off + i * 8, none⟩ = some (.int .i64 o) ∧ w.cell? ⟨b, off + i * 8 + 1, none⟩ = some (.int .i64 n) ∧ w.cell? ⟨b, off + i * 8 + 2, none⟩ = some (.string s) ∧
      w.cell? ⟨b, off + i * 8 + 3, none⟩ = some (.int .i64 k) ∧ w.cell? ⟨b, off + i * 8 + 4, none⟩ = some (.int .i64 m) ∧ w.cell? ⟨b, off + i * 8 + 5, none⟩ = some (.string z) ∧ w.cell? ⟨b, off + i * 8 + 6, none⟩ = some (.slice q ql qc) ∧ w.cell? ⟨b, off + i * 8 + 7, none⟩ = some (.slice r ll.length c) ∧
      NRep w lo hi (l[i]) (.agg #[.int .i64 o, .int .i64 n, .string s, .int .i64 k, .int .i64 m, .string z, .slice q ql qc, .slice r ll.length c]) := by
  obtain ⟨a, d0, d1, d2, d3, d4, d5, d6, d7, hp, _, _, e0, _⟩ := NAll.at h 0 (by omega)
  rw [Nat.zero_mul, add_zero] at e0
  have hs := spot_none e0
  obtain ⟨a', c0, c1, c2, c3, c4, c5, c6, c7, hp', hl, hb, h0, h1, h2, h3, h4, h5, h6, h7, ht⟩ := NAll.at h i hil
  rw [hp] at hp'
  injection hp' with hp'
  subst hp'
  obtain ⟨b, off, sp⟩ := a
  simp only at hs
  subst hs
  have hadd : ∀ n, Addr.add ⟨b, off, none⟩ n = ⟨b, off + n, none⟩ := by
    intro n; unfold Addr.add; split
    · rename_i h; subst h; rfl
    · rfl
  rw [hadd] at h0 h1 h2 h3 h4 h5 h6 h7
  match hm : l[i], ht with
  | .mk o n s v ll, ht =>
    have ht' := ht
    unfold NRep at ht'
    obtain ⟨k, m, z, q, ql, qc, r, c, hx, _⟩ := ht'
    simp only [Value.agg.injEq, Array.mk.injEq, List.cons.injEq, and_true] at hx
    obtain ⟨rfl, rfl, rfl, rfl, rfl, rfl, rfl, rfl⟩ := hx
    exact ⟨b, off, o, n, s, v, ll, k, m, z, q, ql, qc, r, c, hp, hl, hb, rfl, h0, h1, h2, h3, h4, h5, h6, h7, ht⟩

/-- What a node of memory says of its own. -/
theorem NRep.open {w : World} {lo hi : Nat} {o n : Int} {s : ByteArray} {v : T} {l : List Nd} {x : Value} (h : NRep w lo hi (.mk o n s v l) x) :
    ∃ (k m : Int) (z : ByteArray) (q : Option Addr) (ql qc : Nat) (p : Option Addr) (cap : Nat), x = .agg #[.int .i64 o, .int .i64 n, .string s, .int .i64 k, .int .i64 m, .string z, .slice q ql qc, .slice p l.length cap] ∧
      I64 o ∧ I64 n ∧ s.size ≤ 140737488355328 ∧ Rep w lo hi v (.agg #[.int .i64 k, .int .i64 m, .string z, .slice q ql qc]) ∧ l.length ≤ cap ∧ l.length * 112 ≤ 140737488355328 ∧ NAll w lo hi l p := by
  unfold NRep at h; exact h

theorem NRep.parts {w : World} {lo hi : Nat} {o n k m : Int} {s z : ByteArray} {v : T} {ll : List Nd} {q r : Option Addr} {ql qc len c : Nat}
    (h : NRep w lo hi (.mk o n s v ll) (.agg #[.int .i64 o, .int .i64 n, .string s, .int .i64 k, .int .i64 m, .string z, .slice q ql qc, .slice r len c])) :
    I64 o ∧ I64 n ∧ s.size ≤ 140737488355328 ∧ Rep w lo hi v (.agg #[.int .i64 k, .int .i64 m, .string z, .slice q ql qc]) ∧ ll.length ≤ c ∧ ll.length * 112 ≤ 140737488355328 ∧ NAll w lo hi ll r := by
  obtain ⟨k', m', z', q', ql', qc', p', cap', hx, h1, h2, h3, h4, h5, h6, h7⟩ := h.open
  simp only [Value.agg.injEq, Array.mk.injEq, List.cons.injEq, and_true, true_and] at hx
  obtain ⟨a1, a2, a3, a4, a5⟩ := hx
  injection a1 with _ a1; subst a1
  injection a2 with _ a2; subst a2
  injection a3 with a3; subst a3
  injection a4 with b1 b2 b3; subst b1; subst b2; subst b3
  injection a5 with b1 b2 b3; subst b1; subst b2; subst b3
  exact ⟨h1, h2, h3, h4, h5, h6, h7⟩

mutual
/-- How many nodes. -/
def cnt : Nd → Nat | .mk _ _ _ _ l => 1 + cntAll l
def cntAll : List Nd → Nat | [] => 0 | t :: r => cnt t + cntAll r
end
theorem cntAll_app : ∀ a b, cntAll (a ++ b) = cntAll a + cntAll b
  | [], b => by simp [cntAll]
  | x :: r, b => by simp only [List.cons_append, cntAll, cntAll_app r b]; omega
theorem cntAll_split (l : List Nd) (i : Nat) (h : i < l.length) : cntAll (l.take (i + 1)) = cntAll (l.take i) + cnt l[i] := by
  rw [List.take_succ_eq_append_getElem h, cntAll_app]; simp [cntAll]
theorem cnt_pos : ∀ t, 1 ≤ cnt t
  | .mk _ _ _ _ l => by simp only [cnt]; omega
theorem len_cnt : ∀ l, l.length ≤ cntAll l
  | [] => by simp [cntAll]
  | x :: r => by have := len_cnt r; have := cnt_pos x; simp only [List.length_cons, cntAll]; omega
theorem cntAll_mem {l : List Nd} {t : Nd} (h : t ∈ l) : cnt t ≤ cntAll l := by
  induction l with
  | nil => cases h
  | cons x r ih =>
    simp only [cntAll]
    rcases List.mem_cons.1 h with rfl | h
    · omega
    · have := ih h; omega
theorem cntAll_take_le (l : List Nd) (i : Nat) : cntAll (l.take i) ≤ cntAll l := by
  have h := cntAll_app (l.take i) (l.drop i)
  rw [List.take_append_drop] at h; omega

mutual
/-- How deep. -/
def dpN : Nd → Nat | .mk _ _ _ _ l => 1 + dpNAll l
def dpNAll : List Nd → Nat | [] => 0 | t :: r => max (dpN t) (dpNAll r)
end
theorem dpNAll_app : ∀ a b, dpNAll (a ++ b) = max (dpNAll a) (dpNAll b)
  | [], b => by simp [dpNAll]
  | x :: r, b => by simp only [List.cons_append, dpNAll, dpNAll_app r b]; omega
theorem dpNAll_split (l : List Nd) (i : Nat) (h : i < l.length) : dpNAll (l.take (i + 1)) = max (dpNAll (l.take i)) (dpN l[i]) := by
  rw [List.take_succ_eq_append_getElem h, dpNAll_app]; simp [dpNAll]
mutual
theorem dpN_le : ∀ t, dpN t ≤ cnt t
  | .mk _ _ _ _ l => by have := dpNAll_le l; simp only [dpN, cnt]; omega
theorem dpNAll_le : ∀ l, dpNAll l ≤ cntAll l
  | [] => by simp [dpNAll, cntAll]
  | x :: r => by have := dpN_le x; have := dpNAll_le r; simp only [dpNAll, cntAll]; omega
end

mutual
/-- All nodes, each ahead of what it has. -/
def flatN : Nd → List Nd | t@(.mk _ _ _ _ l) => t :: flatL l
def flatL : List Nd → List Nd | [] => [] | t :: r => flatN t ++ flatL r
end
mutual
theorem flatN_len : ∀ t, (flatN t).length = cnt t
  | .mk _ _ _ _ l => by simp only [flatN, List.length_cons, cnt, flatL_len l]; omega
theorem flatL_len : ∀ l, (flatL l).length = cntAll l
  | [] => rfl
  | t :: r => by simp only [flatL, List.length_append, cntAll, flatN_len t, flatL_len r]
end
theorem flatL_app : ∀ a b, flatL (a ++ b) = flatL a ++ flatL b
  | [], b => rfl
  | x :: r, b => by rw [List.cons_append, flatL, flatL, flatL_app r b, List.append_assoc]

end Go.Proofs.YtemkikjcjhmlaaaGreatDoor

namespace Go.Proofs.YtemkikjcjhmlaaaGreatDoor
open Go.RowKit

def isStmtB (o : Int) : Bool := decide (40 ≤ o) && decide (o ≤ 51) && (o != 50)
def isExprB (o : Int) : Bool := decide (1 ≤ o) && decide (o ≤ 29) && (o != 26)
def mayStandB (o at_ : Int) (lp : Bool) : Bool :=
  if at_ = 0 then isStmtB o && (lp || ((o != 45) && (o != 46))) else if at_ = 1 then o == 52 else if at_ = 2 then o == 50 else if at_ = 4 then (o == 26) || isExprB o else
  if at_ = 5 then o == 25 else if at_ = 6 then ((o == 2) || (o == 22)) || (o == 20) else if at_ = 7 then o == 2 else if at_ = 8 then (o == 2) || (o == 26) else isExprB o
def boundsN (o : Int) : Int × Int :=
  if o = 1 ∨ o = 2 ∨ o = 45 ∨ o = 46 then (0, 0) else if o = 47 then (0, 1) else if o = 3 ∨ o = 4 ∨ o = 26 ∨ o = 40 then (1, 1) else if o = 29 then (2, 3) else if o = 19 ∨ o = 21 ∨ o = 43 then (3, 3) else
  if o = 23 ∨ o = 28 ∨ o = 41 ∨ o = 49 then (2, 9223372036854775807) else if o = 24 ∨ o = 25 ∨ o = 52 then (0, 9223372036854775807) else (2, 2)
def enoughB (o : Int) (len : Nat) : Bool := decide ((boundsN o).1 ≤ len) && decide ((len : Int) ≤ (boundsN o).2)
def isNamedB (o : Int) : Bool := (o == 2) || (o == 24) || (o == 42) || (o == 43) || (o == 50)
/-- The place of the i-th of so many, last being the last one's number. -/
def placeInN (o at_ i last : Int) : Int :=
  if o = 52 then 0 else if o = 51 then 1 else if o = 41 then (if i.tmod 2 = 1 ∨ i = last then 1 else 3) else if o = 42 ∨ o = 43 ∨ o = 44 ∨ o = 48 then (if i = last then 1 else 3) else
  if o = 49 then (if i = 0 then 1 else 2) else if o = 50 then (if i = 0 then 5 else 1) else if o = 29 then (if i = 1 then 5 else 3) else if o = 25 then (if at_ = 5 then 3 else 4) else if o = 24 then 4 else
  if o = 23 then (if i < 2 then 3 else 4) else if o = 26 then (if at_ = 8 then 7 else 3) else if o = 27 then (if i = 0 then 6 else 3) else if o = 20 then (if i = 0 ∧ at_ = 6 then 6 else 3) else
  if o = 28 then (if i = last then 3 else if i = last - 1 then 8 else 7) else 3
def keyWords : List (List UInt8) := [[105, 102], [101, 108, 115, 101, 105, 102], [101, 108, 115, 101], [101, 110, 100, 105, 102], [102, 111, 114], [105, 110], [101, 110, 100, 102, 111, 114], [119, 104, 105, 108, 101], [101, 110, 100, 119, 104, 105, 108, 101], [98, 114, 101, 97, 107], [99, 111, 110, 116, 105, 110, 117, 101], [114, 101, 116, 117, 114, 110], [102, 111, 114, 107], [101, 110, 100, 102, 111, 114, 107], [116, 114, 121], [101, 120, 99, 101, 112, 116], [102, 105, 110, 97, 108, 108, 121], [101, 110, 100, 116, 114, 121], [97, 110, 121]]
def isKeyB (s : ByteArray) : Bool := keyWords.any (fun k => s.toList == k)
def digB (c : UInt8) : Bool := decide (48 ≤ c.toNat) && decide (c.toNat ≤ 57)
def nameByteB (c : UInt8) : Bool := digB c || c.toNat == 95 || (decide (97 ≤ c.toNat) && decide (c.toNat ≤ 122))
/-- A name that is no key. -/
def isNameB (s : ByteArray) : Bool :=
  match s.data.toList with
  | [] => false
  | c :: r => decide (s.size ≤ 32) && !digB c && !isKeyB s && (c :: r).all nameByteB
/-- A value that is nothing. -/
def emptyV (v : T) : Bool := (v.k == 0) && (v.n == 0) && (v.s.size == 0) && (v.l.length == 0)
def loopIn (o : Int) (lp : Bool) : Bool := if o = 42 ∨ o = 43 ∨ o = 44 then true else if o = 48 then false else lp
end Go.Proofs.YtemkikjcjhmlaaaGreatDoor

namespace Go.Proofs.YtemkikjcjhmlaaaGreatDoor
open Go.RowKit
set_option maxRecDepth 100000

set_option maxHeartbeats 400000 in
theorem isStmt_any (o : Int) (w : World) : Calls Tryz.prog 75 #[.int .i64 o] w fun e w' => e = .returned (.bool (isStmtB o)) ∧ w' = w := by
  go_enter Tryz.func75, Tryz.ntmps75
  by_cases h1 : (40 : Int) ≤ o
  · by_cases h2 : o ≤ 51
    · have h3 : isStmtB o = (o != 50) := by simp [isStmtB, h1, h2]
      go_wp2
      go_ret
      exact ⟨by first | rfl | (rw [h3]; rfl), rfl⟩
    · have h3 : isStmtB o = false := by simp [isStmtB, h2]
      go_wp2
      go_ret
      exact ⟨by first | rfl | (rw [h3]; rfl), rfl⟩
  · have h3 : isStmtB o = false := by simp [isStmtB, h1]
    go_wp2
    go_ret
    exact ⟨by first | rfl | (rw [h3]; rfl), rfl⟩
set_option maxHeartbeats 400000 in
theorem isExpr_any (o : Int) (w : World) : Calls Tryz.prog 76 #[.int .i64 o] w fun e w' => e = .returned (.bool (isExprB o)) ∧ w' = w := by
  go_enter Tryz.func76, Tryz.ntmps76
  by_cases h1 : (1 : Int) ≤ o
  · by_cases h2 : o ≤ 29
    · have h3 : isExprB o = (o != 26) := by simp [isExprB, h1, h2]
      go_wp2
      go_ret
      exact ⟨by first | rfl | (rw [h3]; rfl), rfl⟩
    · have h3 : isExprB o = false := by simp [isExprB, h2]
      go_wp2
      go_ret
      exact ⟨by first | rfl | (rw [h3]; rfl), rfl⟩
  · have h3 : isExprB o = false := by simp [isExprB, h1]
    go_wp2
    go_ret
    exact ⟨by first | rfl | (rw [h3]; rfl), rfl⟩
set_option maxHeartbeats 400000 in
theorem isNamed_any (o : Int) (w : World) : Calls Tryz.prog 54 #[.int .i64 o] w fun e w' => e = .returned (.bool (isNamedB o)) ∧ w' = w := by
  go_enter Tryz.func54, Tryz.ntmps54
  go_wp2
  all_goals (go_ret; exact ⟨by simp_all [isNamedB], rfl⟩)
set_option maxHeartbeats 400000 in
theorem either_any (b : Bool) (x y : Int) (w : World) : Calls Tryz.prog 82 #[.bool b, .int .i64 x, .int .i64 y] w fun e w' => e = .returned (.int .i64 (if b then x else y)) ∧ w' = w := by
  go_enter Tryz.func82, Tryz.ntmps82
  cases b
  · go_wp2; go_ret; exact ⟨rfl, rfl⟩
  · go_wp2; go_ret; exact ⟨rfl, rfl⟩
set_option maxHeartbeats 400000 in
theorem bounds_any (o : Int) (w : World) : Calls Tryz.prog 77 #[.int .i64 o] w fun e w' => e = .returned (.tuple #[.int .i64 (boundsN o).1, .int .i64 (boundsN o).2]) ∧ w' = w := by
  go_enter Tryz.func77, Tryz.ntmps77
  go_wp2
  all_goals (go_ret2; exact ⟨by simp_all [boundsN], rfl⟩)
set_option maxHeartbeats 1000000 in
theorem mayStand_any (o at_ : Int) (lp : Bool) (w : World) : Calls Tryz.prog 51 #[.int .i64 o, .int .i64 at_, .bool lp] w fun e w' => e = .returned (.bool (mayStandB o at_ lp)) ∧ w' = w := by
  go_enter Tryz.func51, Tryz.ntmps51
  by_cases h0 : at_ = 0
  · subst h0
    have hm : mayStandB o 0 lp = (isStmtB o && (lp || ((o != 45) && (o != 46)))) := by simp [mayStandB]
    have HM := Lib.hid hm
    clear hm
    obtain ⟨st, hst⟩ : ∃ st, st = isStmtB o := ⟨_, rfl⟩
    have HS := Lib.hid (show ∀ w, Calls Tryz.prog 75 #[.int .i64 o] w fun e w' => e = .returned (.bool st) ∧ w' = w from fun w => hst ▸ isStmt_any o w)
    rw [← hst] at HM
    clear hst
    cases st
    · go_wp2_with (go_at_call 75; refine (HS.out _).mono ?_; rintro e w2 ⟨rfl, rfl⟩)
      go_ret
      exact ⟨by rw [HM.out]; rfl, rfl⟩
    · cases lp
      · by_cases h45 : o = 45
        · subst h45
          go_wp2_with (go_at_call 75; refine (HS.out _).mono ?_; rintro e w2 ⟨rfl, rfl⟩)
          go_ret
          exact ⟨by rw [HM.out]; rfl, rfl⟩
        · have h45b : (o != 45) = true := by simpa using h45
          go_wp2_with (go_at_call 75; refine (HS.out _).mono ?_; rintro e w2 ⟨rfl, rfl⟩)
          go_ret
          exact ⟨by rw [HM.out]; simp [h45], rfl⟩
      · go_wp2_with (go_at_call 75; refine (HS.out _).mono ?_; rintro e w2 ⟨rfl, rfl⟩)
        go_ret
        exact ⟨by rw [HM.out]; rfl, rfl⟩
  have b0 : (at_ == 0) = false := by simpa using h0
  by_cases h1 : at_ = 1
  · subst h1
    go_wp2; go_ret; exact ⟨rfl, rfl⟩
  have b1 : (at_ == 1) = false := by simpa using h1
  by_cases h2 : at_ = 2
  · subst h2
    go_wp2; go_ret; exact ⟨rfl, rfl⟩
  have b2 : (at_ == 2) = false := by simpa using h2
  by_cases h4 : at_ = 4
  · subst h4
    have HM := Lib.hid (show mayStandB o 4 lp = ((o == 26) || isExprB o) from by simp [mayStandB])
    by_cases h26 : o = 26
    · subst h26
      go_wp2; go_ret; exact ⟨rfl, rfl⟩
    · have h26b : (o == 26) = false := by simpa using h26
      go_wp2_with (go_at_call 76; refine (isExpr_any o _).mono ?_; rintro e w2 ⟨rfl, rfl⟩)
      go_ret
      exact ⟨by rw [HM.out, h26b]; rfl, rfl⟩
  have b4 : (at_ == 4) = false := by simpa using h4
  by_cases h5 : at_ = 5
  · subst h5
    go_wp2; go_ret; exact ⟨rfl, rfl⟩
  have b5 : (at_ == 5) = false := by simpa using h5
  by_cases h6 : at_ = 6
  · subst h6
    have HM := Lib.hid (show mayStandB o 6 lp = (((o == 2) || (o == 22)) || (o == 20)) from by simp [mayStandB])
    by_cases k2 : o = 2
    · subst k2; go_wp2; go_ret; exact ⟨rfl, rfl⟩
    have k2b : (o == 2) = false := by simpa using k2
    by_cases k22 : o = 22
    · subst k22; go_wp2; go_ret; exact ⟨rfl, rfl⟩
    have k22b : (o == 22) = false := by simpa using k22
    go_wp2; go_ret; exact ⟨by rw [HM.out, k2b, k22b]; rfl, rfl⟩
  have b6 : (at_ == 6) = false := by simpa using h6
  by_cases h7 : at_ = 7
  · subst h7
    go_wp2; go_ret; exact ⟨rfl, rfl⟩
  have b7 : (at_ == 7) = false := by simpa using h7
  by_cases h8 : at_ = 8
  · subst h8
    have HM := Lib.hid (show mayStandB o 8 lp = ((o == 2) || (o == 26)) from by simp [mayStandB])
    by_cases k2 : o = 2
    · subst k2; go_wp2; go_ret; exact ⟨rfl, rfl⟩
    have k2b : (o == 2) = false := by simpa using k2
    go_wp2; go_ret; exact ⟨by rw [HM.out, k2b]; rfl, rfl⟩
  have b8 : (at_ == 8) = false := by simpa using h8
  have HM := Lib.hid (show mayStandB o at_ lp = isExprB o from by simp [mayStandB, h0, h1, h2, h4, h5, h6, h7, h8])
  go_wp2_with (go_at_call 76; refine (isExpr_any o _).mono ?_; rintro e w2 ⟨rfl, rfl⟩)
  go_ret
  exact ⟨by rw [HM.out]; rfl, rfl⟩
end Go.Proofs.YtemkikjcjhmlaaaGreatDoor

namespace Go.Proofs.YtemkikjcjhmlaaaGreatDoor
open Go.RowKit

/-- What lay from s on lies as it lay. -/
def KeptK (s : Nat) (X Y : World) : Prop := X.heap.size ≤ Y.heap.size ∧ ∀ b, s ≤ b → b < X.heap.size → Y.heap[b]? = X.heap[b]?
theorem KeptK.refl (s : Nat) (X : World) : KeptK s X X := ⟨Nat.le_refl _, fun _ _ _ => rfl⟩
theorem KeptK.trans {s : Nat} {X Y Z : World} (h : KeptK s X Y) (h2 : KeptK s Y Z) : KeptK s X Z := ⟨Nat.le_trans h.1 h2.1, fun b h3 h4 => (h2.2 b h3 (Nat.lt_of_lt_of_le h4 h.1)).trans (h.2 b h3 h4)⟩
theorem KeptK.of_below {s : Nat} {X Y : World} (h : Below X.heap.size X Y) : KeptK s X Y := ⟨h.size, fun b _ h4 => h.block b h4⟩
theorem KeptK.setCell (s : Nat) (X : World) {p : Addr} (hp : p.block < s) (v : Value) : KeptK s X (X.setCell p v) := ⟨by simp, fun b h3 _ => Below.heap_setCell _ _ _ _ (by omega)⟩
theorem KeptK.alloc (s : Nat) (X : World) (o : Obj) : KeptK s X (X.alloc o) := .of_below ((Below.refl _ X).alloc (Nat.le_refl _) o)
theorem KeptK.drew (s : Nat) (X : World) : KeptK s X X.drew := ⟨Nat.le_refl _, fun _ _ _ => rfl⟩

/-- What an iterator promises: round j (of N) is handed values of which H speaks, in the world in which it is called, made in blocks from b on, which were new behind a state of the caller's; J tells what the caller keeps from round to round, Kw what the iterator wants to find of it. A round that goes on keeps what lies beyond the loop's start. -/
def HandsK (F : Fence) (n : Nat) (P : Program) (gf : Nat) (lb : Array Value) (H : Nat → Array Value → Nat → World → Prop) (N : Nat) (Kw : World → Prop) : Prop :=
  ∀ (l : Nat) (J : Nat → World → Prop) (Jx : World → Prop) (W : World), (∀ j X Y, J j X → Below X.heap.size X Y → J j Y) → (∀ j X, J j X → Kw X) →
    (∀ j xs b X, J j X → (∃ X0, J j X0 ∧ X0.heap.size = b) → j < N → H j xs b X → YieldAt F (n - 1) P l xs X fun e Y => (e = .returned (.bool true) ∧ J (j + 1) Y ∧ KeptK W.heap.size X Y) ∨ (e = .returned (.bool false) ∧ Jx Y)) →
    J 0 W → CallsIn F n P gf (#[.func (.yield l) #[] #[]] ++ lb) W fun e Y => (∃ v, e = .returned v) ∧ (J N Y ∨ Jx Y)

/-- How a round's body may be left. -/
def RoundPostK (s : Nat) (I : World → Prop) (Ix : Code → World → Prop) (X : World) : Exit → Act → World → Prop
  | .normal, _, Y => KeptK s X Y ∧ I Y
  | .ret, _, Y => KeptK s X Y ∧ Ix .ret Y
  | .exit id, _, Y => KeptK s X Y ∧ Ix (.exit id) Y
  | _, _, _ => False
/-- What is asked behind the assignments to the loop's variables: the body, from whatever the record is turned to. -/
def AssignPostK (F : Fence) (n : Nat) (P : Program) (s : Nat) (body : Code) (I : World → Prop) (Ix : Code → World → Prop) (X : World) (a : Act) (Y : World) : Prop :=
  KeptK s X Y ∧ ∀ r : Loop, body.wpIn (F.inRound (s + 1)) n P (RoundPostK s I Ix (Y.putObj (s + 1) (.loop r))) a (Y.putObj (s + 1) (.loop r))

theorem putObj_belowK (W : World) {B l : Nat} (h : B ≤ l) (_hl : l < W.heap.size) (o : Obj) : Below B W (W.putObj l o) :=
  ⟨rfl, rfl, rfl, by simp, fun k hk => World.putObj_heap_other (by omega)⟩

theorem range_keeps {F : Fence} {n : Nat} {P : Program} {g : Operand} {ps : Array Tmp} {assign body : Code} {Q : Exit → Act → World → Prop} {a : Act} {w : World}
    (hro : F.round = none) (h1 : 1 ≤ n) {gf : Nat} {lb : Array Value} (hg : a.eval g = .func (.func gf) #[] lb) (hFg : F.fn gf) (eg : ∀ args w, (callFunc gf args).run P w = .ok (.enter gf args) w)
    {H : Nat → Array Value → Nat → World → Prop} {N : Nat} {Kw : World → Prop} (hseq : HandsK F (n - 1) P gf lb H N Kw) (hps : ∀ j xs b X, H j xs b X → xs.size = ps.size)
    (I : Nat → World → Prop) (Ix : Code → World → Prop) (hI : ∀ j X Y, I j X → Below w.heap.size X Y → I j Y) (hIx : ∀ c X Y, Ix c X → Below w.heap.size X Y → Ix c Y) (hKw : ∀ j X, I j X → Kw X) (h0 : I 0 w)
    (hround : ∀ j xs b X, j < N → I j X → H j xs b X → w.heap.size + 1 < b → w.heap.size + 1 < X.heap.size →
      assign.wpIn (F.inRound (w.heap.size + 1)) (n - 1 - 1) P (Exit.then (AssignPostK F (n - 1 - 1) P w.heap.size body (I (j + 1)) Ix X) (fun _ _ _ => False)) { tmps := (ps.zip xs).foldl (fun t (p, v) => t.setIfInBounds p v) a.tmps, defers := [] } X)
    (hdone : ∀ Y, I N Y → Y.heap[w.heap.size]? = some (.deferred (some [])) → Q .normal { a with defers := { target := .collected w.heap.size, args := #[] } :: a.defers } Y)
    (hstop : ∀ c Y, Ix c Y → Y.heap[w.heap.size]? = some (.deferred (some [])) → c.wpIn F n P Q { a with defers := { target := .collected w.heap.size, args := #[] } :: a.defers } Y) :
    (Code.rangeFunc g ps assign body).wpIn F n P Q a w := by
  refine wpIn_rangeFunc ?_
  intro fn hfn
  rw [hro]
  obtain ⟨rc, hrc⟩ : ∃ rc : LoopState → Option Code → Loop, rc = fun st pe => { state := st, pending := pe, fn, tmps := a.tmps, params := ps, assign, body, defers := w.heap.size } := ⟨_, rfl⟩
  obtain ⟨W1, hW1⟩ : ∃ W1, (w.alloc (.deferred (some []))).alloc (.loop (rc .ready none)) = W1 := ⟨_, rfl⟩
  have hb1 : Below w.heap.size w W1 := by rw [← hW1]; exact ((Below.refl _ w).alloc (Nat.le_refl _) _).alloc (by simp) _
  have hs1 : W1.heap.size = w.heap.size + 2 := by rw [← hW1]; simp
  have hL1 : W1.heap[w.heap.size + 1]? = some (.loop (rc .ready none)) := by
    rw [← hW1]; have := World.alloc_heap_new (w.alloc (.deferred (some []))) (.loop (rc .ready none)); rwa [World.size_alloc] at this
  have hD1 : W1.heap[w.heap.size]? = some (.deferred (some [])) := by
    rw [← hW1]; exact (Below.heap_alloc _ _ _ (by simp)).trans (World.alloc_heap_new w _)
  refine ⟨w.heap.size + 1, [{ target := .collected w.heap.size, args := #[] }], W1, { target := .fn (.func gf) lb, args := #[.func (.yield (w.heap.size + 1)) #[] #[]] }, W1, gf, #[.func (.yield (w.heap.size + 1)) #[] #[]] ++ lb, W1, ?_, ?_, ?_, ?_, fun _ => h1, ?_⟩
  · rw [← hW1, hrc]; exact run_enterLoop_outer _ _ _ _ _
  · simp only [resolve, hg]
    simp [go_sem]
  · intro f' hf'; simp [Target.leads] at hf'; subst hf'; exact hFg
  · simp [invoke, go_sem, eg]
  generalize hsd : w.heap.size = s at *
  refine (hseq (s + 1) (fun j X => I j X ∧ X.heap[s + 1]? = some (.loop (rc .ready none)) ∧ X.heap[s]? = some (.deferred (some [])) ∧ s + 1 < X.heap.size)
    (fun X => ∃ c, Ix c X ∧ X.heap[s + 1]? = some (.loop (rc .done (some c))) ∧ X.heap[s]? = some (.deferred (some [])) ∧ s + 1 < X.heap.size) W1
    (fun j X Y h hb => ⟨hI j X Y h.1 (hb.mono (by have := h.2.2.2; omega)), (hb.block _ h.2.2.2).trans h.2.1, (hb.block _ (by have := h.2.2.2; omega)).trans h.2.2.1, Nat.lt_of_lt_of_le h.2.2.2 hb.size⟩)
    (fun j X h => hKw j X h.1) ?_ ⟨hI 0 _ _ h0 hb1, hL1, hD1, by omega⟩).mono ?_
  · rintro j xs b X ⟨hi, hl, hd, hlt⟩ ⟨X0, ⟨_, _, _, hlt0⟩, hX0⟩ hj hx
    have hy := run_yield (P := P) (args := xs) hl (by rw [hrc]; exact hps j xs b X hx)
    rw [hrc] at hy
    refine ⟨fn, _, assign, body, hy, roundIn_of_wpIn hfn (wpIn_mono (hround j xs b X hj hi hx (hX0 ▸ hlt0) hlt) ?_)⟩
    clear hy
    intro e a₁ Y hpost
    cases e with
    | normal =>
      obtain ⟨hk, hbody⟩ := hpost
      have hkA := hk
      have hk1 := hk.1
      have hk2 := hk.2 s (Nat.le_refl _) (by omega)
      have hk3 := hk.2 (s + 1) (by omega) hlt
      have hlY := hk3.trans hl
      have hdY := hk2.trans hd
      have hltY : s + 1 < Y.heap.size := by omega
      refine ⟨_, run_beginRound hlY (by rw [hrc]), ?_⟩
      have hl2 : (Y.putObj (s + 1) (.loop { rc .ready none with state := .busy })).heap[s + 1]? = some (.loop { rc .ready none with state := .busy }) := World.putObj_heap_same hltY
      have hd2 : (Y.putObj (s + 1) (.loop { rc .ready none with state := .busy })).heap[s]? = some (.deferred (some [])) := (World.putObj_heap_other (by omega)).trans hdY
      have hz2 : (Y.putObj (s + 1) (.loop { rc .ready none with state := .busy })).heap.size = Y.heap.size := by simp
      refine wpIn_mono (hbody _) ?_
      have fin : ∀ (jump : Option Code) (Z : World), KeptK s (Y.putObj (s + 1) (.loop { rc .ready none with state := .busy })) Z →
          (Instr.endRound (s + 1) jump).run P Z = .ok (.bool jump.isNone) (Z.putObj (s + 1) (.loop (rc (if jump.isNone then .ready else .done) jump))) ∧ s + 1 < Z.heap.size ∧ Z.heap[s]? = some (.deferred (some [])) := fun jump Z hz => by
        have hl3 := (hz.2 (s + 1) (by omega) (by omega)).trans hl2
        have hr := run_endRound (P := P) jump hl3
        rw [hrc] at hr ⊢
        exact ⟨hr, by have := hz.1; omega, (hz.2 s (Nat.le_refl _) (by omega)).trans hd2⟩
      have back : ∀ (jump : Option Code) (Z : World), s + 1 < Z.heap.size → Z.heap[s]? = some (.deferred (some [])) → ∀ st,
          Below s Z (Z.putObj (s + 1) (.loop (rc st jump))) ∧ (Z.putObj (s + 1) (.loop (rc st jump))).heap[s + 1]? = some (.loop (rc st jump)) ∧ (Z.putObj (s + 1) (.loop (rc st jump))).heap[s]? = some (.deferred (some [])) ∧ s + 1 < (Z.putObj (s + 1) (.loop (rc st jump))).heap.size :=
        fun jump Z hz hd3 st => ⟨putObj_belowK Z (by omega) hz _, World.putObj_heap_same hz, (World.putObj_heap_other (by omega)).trans hd3, by simpa using hz⟩
      rintro e a3 Z hp
      cases e with
      | normal =>
        obtain ⟨hk, hi3⟩ := hp
        obtain ⟨hr, hz, hd3⟩ := fin none Z hk
        obtain ⟨b1, b2, b3, b4⟩ := back none Z hz hd3 .ready
        exact ⟨_, _, hr, .inl ⟨rfl, ⟨hI _ _ _ hi3 b1, b2, b3, b4⟩, by
          rw [hs1]
          refine ⟨by have := hk.1; simp at this ⊢; omega, fun b h3 h4 => ?_⟩
          exact (World.putObj_heap_other (by omega)).trans ((hk.2 b (by omega) (by simp; omega)).trans ((World.putObj_heap_other (by omega)).trans (hkA.2 b (by omega) h4)))⟩⟩
      | ret =>
        obtain ⟨hk, hi3⟩ := hp
        obtain ⟨hr, hz, hd3⟩ := fin (some .ret) Z hk
        obtain ⟨b1, b2, b3, b4⟩ := back (some .ret) Z hz hd3 .done
        exact ⟨_, _, hr, .inr ⟨rfl, .ret, hIx _ _ _ hi3 b1, b2, b3, b4⟩⟩
      | exit id =>
        obtain ⟨hk, hi3⟩ := hp
        obtain ⟨hr, hz, hd3⟩ := fin (some (.exit id)) Z hk
        obtain ⟨b1, b2, b3, b4⟩ := back (some (.exit id)) Z hz hd3 .done
        exact ⟨_, _, hr, .inr ⟨rfl, .exit id, hIx _ _ _ hi3 b1, b2, b3, b4⟩⟩
      | goto t => exact hp.elim
      | panic ch => exact hp.elim
      | outgrown => exact hp.elim
    | exit id => exact hpost.elim
    | goto t => exact hpost.elim
    | ret => exact hpost.elim
    | panic ch => exact hpost.elim
    | outgrown => exact hpost.elim
  · rintro e Y ⟨⟨v, rfl⟩, (⟨hi, hl, hd, hlt⟩ | ⟨c, hi, hl, hd, hlt⟩)⟩
    · refine ⟨none, _, by have := run_endLoop (P := P) hl (by rw [hrc]; simp); rw [hrc] at this; exact this, hdone _ (hI _ _ _ hi (putObj_belowK Y (by omega) hlt _)) ((World.putObj_heap_other (by omega)).trans hd)⟩
    · refine ⟨some c, _, by have := run_endLoop (P := P) hl (by rw [hrc]; simp); rw [hrc] at this; exact this, hstop c _ (hIx _ _ _ hi (putObj_belowK Y (by omega) hlt _)) ((World.putObj_heap_other (by omega)).trans hd)⟩
end Go.Proofs.YtemkikjcjhmlaaaGreatDoor

namespace Go.Proofs.YtemkikjcjhmlaaaGreatDoor
open Go.RowKit
set_option maxRecDepth 100000
attribute [local go_sem] Oper.semAt_some

theorem heap_ltN {w : World} {g : Nat} {o : Obj} (h : w.heap[g]? = some o) : g < w.heap.size := by
  rcases Nat.lt_or_ge g w.heap.size with h1 | h1
  · exact h1
  · rw [Array.getElem?_eq_none h1] at h; cases h
/-- The cells from lo on, below hi, are as in W0. -/
def KeepC (W0 : World) (lo hi : Nat) (X : World) : Prop := hi ≤ X.heap.size ∧ ∀ a : Addr, lo ≤ a.block → a.block < hi → X.cell? a = W0.cell? a
theorem roundAny {m m' : Nat} {P : Program} {l : Nat} {f : FuncId} {tmps : Array Value} {assign body : Code} {w : World} {R : Ending → World → Prop}
    (h : RoundIn Fence.wide m P l f tmps assign body w R) : RoundIn Fence.wide m' P l f tmps assign body w R := ⟨h.1, fun c cs _ => h.2 c cs (fun d h => by cases h)⟩
theorem yieldAny {m : Nat} (m' : Nat) {P : Program} {l : Nat} {args : Array Value} {W : World} {R : Ending → World → Prop} (h : YieldAt Fence.wide m P l args W R) : YieldAt Fence.wide m' P l args W R := by
  obtain ⟨fn, tmps, assign, body, hy, hR⟩ := h
  exact ⟨fn, tmps, assign, body, hy, roundAny hR⟩
/-- What a walk may ask of its yield: it is handed the nodes of Fl in their order. -/
structure YOk (W0 : World) (lo hi l b0 : Nat) (Fl : List Nd) (J : Nat → World → Prop) (Jx : World → Prop) : Prop where
  st : ∀ j X Y, J j X → Below X.heap.size X Y → J j Y
  kc : ∀ j X, J j X → KeepC W0 lo hi X
  y : ∀ (m j : Nat) (hj : j < Fl.length) (v : Value) (X : World), J j X → NRep X lo hi Fl[j] v → YieldAt Fence.wide m Tryz.prog l #[v] X fun e Y => (e = .returned (.bool true) ∧ J (j + 1) Y ∧ KeptK b0 X Y) ∨ (e = .returned (.bool false) ∧ Jx Y)
def WalkOk (L : List Nd) : Prop := ∀ (W0 : World) (lo hi l b0 : Nat) (Fl : List Nd) (J : Nat → World → Prop) (Jx : World → Prop), YOk W0 lo hi l b0 Fl J Jx → ∀ (pre rest : List Nd) (p : Option Addr) (cap : Nat) (X : World),
  NAll W0 lo hi L p → Fl = pre ++ (flatL L ++ rest) → b0 ≤ X.heap.size → L.length ≤ cap → L.length * 112 ≤ 140737488355328 → J pre.length X →
  Calls Tryz.prog 74 #[.slice p L.length cap, .func (.yield l) #[] #[]] X fun e Y => (e = .returned (.bool true) ∧ J (pre.length + cntAll L) Y ∧ KeptK b0 X Y) ∨ (e = .returned (.bool false) ∧ Jx Y)

theorem box8_in (w2 : World) (g : Nat) (c0 c1 c2 c3 c4 c5 c6 c7 : Value) (t : TypeId) (h : w2.heap[g]? = some (.cells #[c0, c1, c2, c3, c4, c5, c6, c7] t (0, 0))) : w2.cell? ⟨g, 0, none⟩ = some c0 ∧ w2.cell? ⟨g, 1, none⟩ = some c1 ∧
    w2.cell? ⟨g, 2, none⟩ = some c2 ∧ w2.cell? ⟨g, 3, none⟩ = some c3 ∧ w2.cell? ⟨g, 4, none⟩ = some c4 ∧ w2.cell? ⟨g, 5, none⟩ = some c5 ∧ w2.cell? ⟨g, 6, none⟩ = some c6 ∧ w2.cell? ⟨g, 7, none⟩ = some c7 ∧ ∀ o, w2.frozen? ⟨g, o, none⟩ = false :=
  ⟨(cell_of_row _ _ 0 _ _ _ h).trans rfl, (cell_of_row _ _ 1 _ _ _ h).trans rfl, (cell_of_row _ _ 2 _ _ _ h).trans rfl, (cell_of_row _ _ 3 _ _ _ h).trans rfl, (cell_of_row _ _ 4 _ _ _ h).trans rfl, (cell_of_row _ _ 5 _ _ _ h).trans rfl, (cell_of_row _ _ 6 _ _ _ h).trans rfl, (cell_of_row _ _ 7 _ _ _ h).trans rfl, fun o => by simp [World.frozen?, h]⟩

set_option maxHeartbeats 2000000 in
theorem walk_of (L : List Nd) (ih : ∀ t ∈ L, WalkOk t.l) : WalkOk L := by
  intro W0 lo hi l b0 Fl J Jx hYO pre rest p cap X hall hFl hb0 hlc hcap hJ0
  have HIH := Lib.hid ih
  have HY := Lib.hid hYO
  have HA := Lib.hid hall
  have HF := Lib.hid hFl
  have H0 := Lib.hid hJ0
  clear ih hYO hall hFl hJ0
  refine (callsIn_wide (n := 8)).1 ?_
  refine callsIn_of_wp Tryz.func74 rfl trivial ?_ rfl
  simp only [Tryz.ntmps74, List.size_toArray, List.length_cons, List.length_nil, Nat.reduceAdd, Nat.reduceSub, Array.replicate_succ, Array.replicate_zero, List.push_toArray, List.append_toArray, List.nil_append, List.cons_append]
  gi_wp2
  gi_loopw [9] (fun i wr => ∃ j : Nat, j ≤ L.length ∧ i = .int .i64 j ∧ Hid (J (pre.length + cntAll (L.take j)) wr) ∧ Hid (KeptK b0 X wr)) (fun i _ => L.length - (intOf i).toNat)
  case atStart => exact ⟨0, Nat.zero_le _, rfl, by simpa [cntAll] using H0, Lib.hid (KeptK.refl _ _)⟩
  case round =>
    obtain ⟨j, hj, rfl, HJj, HKj⟩ := hrel
    by_cases hlj : j < L.length
    · have hkc := HY.out.kc _ _ HJj.out
      have hallr : NAll wr lo hi L p := HA.out.keep (Nat.le_refl _) (Nat.le_refl _) hkc.2
      obtain ⟨b, off, o, n, s, v, ll, k, m, z, q, ql, qc, r, c, hp, _, hbhi, hli, h0, h1, h2, h3, h4, h5, h6, h7, hrep⟩ := hallr.item j hlj
      have hle := hkc.1
      have hbw : b < wr.heap.size := by omega
      have hmem : L[j] ∈ L := List.getElem_mem hlj
      have hih := HIH.out _ hmem
      have hsp := cntAll_split L j hlj
      rw [hli] at hih hsp
      -- where the nodes lie in the row of all
      obtain ⟨pr2, hpr2⟩ : ∃ pr2, pr2 = pre ++ flatL (L.take j) := ⟨_, rfl⟩
      obtain ⟨re2, hre2⟩ : ∃ re2, re2 = flatL (L.drop (j + 1)) ++ rest := ⟨_, rfl⟩
      have hF2 : Fl = pr2 ++ (.mk o n s v ll :: (flatL ll ++ re2)) := by
        rw [HF.out, hpr2, hre2]
        conv => lhs; rw [← List.take_append_drop j L, List.drop_eq_getElem_cons hlj, hli]
        rw [flatL_app, flatL, flatN]
        simp
      have hp2 : pr2.length = pre.length + cntAll (L.take j) := by rw [hpr2, List.length_append, flatL_len]
      have hjl : pr2.length < Fl.length := by rw [hF2]; simp
      have hget : Fl[pr2.length] = .mk o n s v ll := by simp [hF2]
      rw [← hp2] at HJj
      subst hp
      obtain ⟨b0g, hb0g⟩ : ∃ g, g = wr.heap.size := ⟨_, rfl⟩
      have HBW := Lib.hid ((Below.refl wr.heap.size wr).alloc (Nat.le_refl _) (.cells #[.int .i64 o, .int .i64 n, .string s, .int .i64 k, .int .i64 m, .string z, .slice q ql qc, .slice r ll.length c] 33))
      have HX1 := Lib.hid (heap_alloc_new wr (.cells #[.int .i64 o, .int .i64 n, .string s, .int .i64 k, .int .i64 m, .string z, .slice q ql qc, .slice r ll.length c] 33))
      have hJ1 := HY.out.st _ _ _ HJj.out HBW.out
      have hr1 : NRep (wr.alloc (.cells #[.int .i64 o, .int .i64 n, .string s, .int .i64 k, .int .i64 m, .string z, .slice q ql qc, .slice r ll.length c] 33)) lo hi Fl[pr2.length] (.agg #[.int .i64 o, .int .i64 n, .string s, .int .i64 k, .int .i64 m, .string z, .slice q ql qc, .slice r ll.length c]) := by
        rw [hget, ← hli]; exact hrep.alloc hle _
      obtain ⟨fn, tmps, assign, body, hy, hR⟩ := HY.out.y (8 - 1) pr2.length hjl _ _ hJ1 hr1
      have HLL : Hid (NAll W0 lo hi ll r ∧ ll.length ≤ c ∧ ll.length * 112 ≤ 140737488355328) := by
        have := hrep
        rw [hli] at this
        obtain ⟨k', m', z', q', ql', qc', r', c', hx, _, _, _, _, e1, e2, e3⟩ := this.open
        simp only [Value.agg.injEq, Array.mk.injEq, List.cons.injEq, and_true, Value.slice.injEq] at hx
        obtain ⟨_, _, _, _, _, _, _, rfl, _, rfl⟩ := hx
        exact Lib.hid ⟨e3.keep (Nat.le_refl _) (Nat.le_refl _) (fun a h1 h2 => (hkc.2 a h1 h2).symm), e1, e2⟩
      have HSP := Lib.hid (show pre.length + cntAll (L.take (j + 1)) = pr2.length + cnt (.mk o n s v ll) from by omega)
      have HF2 := Lib.hid hF2
      have hbs : b0 ≤ wr.heap.size := Nat.le_trans hb0 HKj.out.1
      clear hkc hallr hrep hli hJ1 hr1 hget hpr2 hre2 hp2 hsp hF2 hb0g hmem
      gi_wp2
      refine hR.mono ?_
      rintro e W3 (⟨rfl, hJ3, hk3⟩ | ⟨rfl, hJx3⟩)
      · have HJ3 := Lib.hid hJ3
        have HK3 := Lib.hid hk3
        have HX3 := Lib.hid ((hk3.2 wr.heap.size hbs (by simp)).trans HX1.out)
        obtain ⟨x0, x1, x2, x3, x4, x5, x6, x7, _⟩ := box8_in _ _ _ _ _ _ _ _ _ _ _ HX3.out
        have hw3 : wr.heap.size < W3.heap.size := by have := hk3.1; simp at this; omega
        have HC := Lib.hid (hih W0 lo hi l b0 Fl J Jx HY.out (pr2 ++ [.mk o n s v ll]) re2 r c W3 HLL.out.1 (by rw [HF2.out]; simp [Nd.l]) (by omega) HLL.out.2.1 HLL.out.2.2 (by simpa using HJ3.out))
        clear hJ3 hk3 hih hR hy
        gi_wp2_with (refine ⟨trivial, ?_⟩; gi_at_call 74; refine (callsIn_wide.2 HC.out).mono ?_; rintro e W4 (⟨rfl, hJ4, hk4⟩ | ⟨rfl, hJx4⟩))
        · have HJ4 := Lib.hid hJ4
          have HK4 := Lib.hid hk4
          clear hJ4 hk4
          gi_wp2
          go_roundw
          case rel =>
            refine ⟨j + 1, by omega, by simp, Lib.hid ?_, Lib.hid (HKj.out.trans ((KeptK.of_below HBW.out).trans (HK3.out.trans HK4.out)))⟩
            have e : pre.length + cntAll (L.take (j + 1)) = (pr2 ++ [Nd.mk o n s v ll]).length + cntAll ll := by
              have := HSP.out
              simp only [cnt] at this
              simp; omega
            rw [e]; exact HJ4.out
          case measure => simp [intOf]; omega
        · gi_wp2
          go_ret
          exact .inr ⟨rfl, hJx4⟩
      · gi_wp2
        refine ⟨trivial, ?_⟩
        gi_wp2
        go_ret
        exact .inr ⟨rfl, hJx3⟩
    · have hje : j = L.length := by omega
      subst hje
      gi_wp2
      go_ret
      exact .inl ⟨rfl, by simpa using HJj.out, HKj.out⟩
theorem walk_any (L : List Nd) : WalkOk L := by
  have key : ∀ t : Nd, WalkOk t.l := Nd.ind_ (fun o n s v l ih => walk_of l ih)
  exact walk_of L (fun t _ => key t)

/-- tree.all: a function that goes through all nodes. -/
theorem all_any (p : Option Addr) (len cap : Nat) (w : World) :
    Calls Tryz.prog 50 #[.slice p len cap] w fun e w' => e = .returned (.func (.func 73) #[] #[.pointer (some ⟨w.heap.size, 0, none⟩)]) ∧ w' = w.alloc (.cells #[.slice p len cap] 22) := by
  go_enter Tryz.func50, Tryz.ntmps50
  go_wp2
  go_ret
  exact ⟨rfl, rfl⟩

/-- What a round over all nodes is handed: the node, in blocks from lo on, below hi. -/
def HdA (Fl : List Nd) (lo hi : Nat) (j : Nat) (xs : Array Value) (_ : Nat) (X : World) : Prop := ∃ (h : j < Fl.length) (v : Value), xs = #[v] ∧ NRep X lo hi Fl[j] v
/-- What the walk wants to find: its box, and the nodes. -/
def KwA (W0 : World) (lo hi B : Nat) (p : Option Addr) (len cap : Nat) (X : World) : Prop := KeepC W0 lo hi X ∧ X.heap[B]? = some (.cells #[.slice p len cap] 22 (0, 0))

theorem cell_oneN (w : World) (g : Nat) (v : Value) (t : TypeId) (h : w.heap[g]? = some (.cells #[v] t (0, 0))) : w.cell? ⟨g, 0, none⟩ = some v ∧ w.frozen? ⟨g, 0, none⟩ = false :=
  ⟨(cell_of_row _ _ 0 _ _ _ h).trans rfl, by simp [World.frozen?, h]⟩

set_option maxHeartbeats 1000000 in
theorem all_hands (n : Nat) (L : List Nd) (W0 : World) (B lo hi : Nat) (p : Option Addr) (cap : Nat) (hall : NAll W0 lo hi L p) (hlc : L.length ≤ cap) (hcap : L.length * 112 ≤ 140737488355328) :
    HandsK Fence.wide n Tryz.prog 73 #[.pointer (some ⟨B, 0, none⟩)] (HdA (flatL L) lo hi) (cntAll L) (KwA W0 lo hi B p L.length cap) := by
  intro l J Jx W hJ hK hY h0
  have hYO : YOk W0 lo hi l W.heap.size (flatL L) J Jx := ⟨hJ, fun j X h => (hK j X h).1, fun m j hj v X hx hr => yieldAny m (hY j #[v] X.heap.size X hx ⟨X, hx, rfl⟩ (by rw [← flatL_len]; exact hj) ⟨hj, v, rfl, hr⟩)⟩
  have HC := Lib.hid (walk_any L W0 lo hi l W.heap.size (flatL L) J Jx hYO [] [] p cap W hall (by simp) (Nat.le_refl _) hlc hcap h0)
  obtain ⟨hc, hf⟩ := cell_oneN _ _ _ _ (hK 0 W h0).2
  have hlt := heap_ltN (hK 0 W h0).2
  clear hYO hY hJ hK h0 hall
  refine callsIn_of_wp Tryz.func73 rfl trivial ?_ rfl
  simp only [Tryz.ntmps73, List.size_toArray, List.length_cons, List.length_nil, Nat.reduceAdd, Nat.reduceSub, Array.replicate_succ, Array.replicate_zero, List.push_toArray, List.append_toArray, List.nil_append, List.cons_append]
  gi_wp2_with (refine ⟨trivial, (fun h => by cases h), ?_⟩; gi_at_call 74; refine (callsIn_wide.2 HC.out).mono ?_; rintro e W4 h4; obtain ⟨bb, rfl, HE4⟩ : ∃ bb, e = .returned (.bool bb) ∧ Hid (J (cntAll L) W4 ∨ Jx W4) := (by rcases h4 with ⟨rfl, h5, _⟩ | ⟨rfl, h5⟩; exact ⟨_, rfl, Lib.hid (.inl (by simpa using h5))⟩; exact ⟨_, rfl, Lib.hid (.inr h5)⟩); clear h4)
  go_end0
  exact ⟨⟨_, rfl⟩, HE4.out⟩
end Go.Proofs.YtemkikjcjhmlaaaGreatDoor

namespace Go.Proofs.YtemkikjcjhmlaaaGreatDoor
open Go.RowKit
set_option maxRecDepth 100000

set_option maxHeartbeats 1000000 in
theorem isKey_any (s : ByteArray) (w : World) : Calls Tryz.prog 81 #[.string s] w fun e w' => e = .returned (.bool (isKeyB s)) ∧ w' = w := by
  go_enter Tryz.func81, Tryz.ntmps81
  by_cases h0 : (s.toList == [105, 102]) = true
  · have HM := Lib.hid (show isKeyB s = true from by simp [isKeyB, keyWords, h0])
    go_wp2; go_ret; exact ⟨by rw [HM.out]; rfl, rfl⟩
  replace h0 : (s.toList == [105, 102]) = false := by simpa using h0
  by_cases h1 : (s.toList == [101, 108, 115, 101, 105, 102]) = true
  · have HM := Lib.hid (show isKeyB s = true from by simp [isKeyB, keyWords, h1])
    go_wp2; go_ret; exact ⟨by rw [HM.out]; rfl, rfl⟩
  replace h1 : (s.toList == [101, 108, 115, 101, 105, 102]) = false := by simpa using h1
  by_cases h2 : (s.toList == [101, 108, 115, 101]) = true
  · have HM := Lib.hid (show isKeyB s = true from by simp [isKeyB, keyWords, h2])
    go_wp2; go_ret; exact ⟨by rw [HM.out]; rfl, rfl⟩
  replace h2 : (s.toList == [101, 108, 115, 101]) = false := by simpa using h2
  by_cases h3 : (s.toList == [101, 110, 100, 105, 102]) = true
  · have HM := Lib.hid (show isKeyB s = true from by simp [isKeyB, keyWords, h3])
    go_wp2; go_ret; exact ⟨by rw [HM.out]; rfl, rfl⟩
  replace h3 : (s.toList == [101, 110, 100, 105, 102]) = false := by simpa using h3
  by_cases h4 : (s.toList == [102, 111, 114]) = true
  · have HM := Lib.hid (show isKeyB s = true from by simp [isKeyB, keyWords, h4])
    go_wp2; go_ret; exact ⟨by rw [HM.out]; rfl, rfl⟩
  replace h4 : (s.toList == [102, 111, 114]) = false := by simpa using h4
  by_cases h5 : (s.toList == [105, 110]) = true
  · have HM := Lib.hid (show isKeyB s = true from by simp [isKeyB, keyWords, h5])
    go_wp2; go_ret; exact ⟨by rw [HM.out]; rfl, rfl⟩
  replace h5 : (s.toList == [105, 110]) = false := by simpa using h5
  by_cases h6 : (s.toList == [101, 110, 100, 102, 111, 114]) = true
  · have HM := Lib.hid (show isKeyB s = true from by simp [isKeyB, keyWords, h6])
    go_wp2; go_ret; exact ⟨by rw [HM.out]; rfl, rfl⟩
  replace h6 : (s.toList == [101, 110, 100, 102, 111, 114]) = false := by simpa using h6
  by_cases h7 : (s.toList == [119, 104, 105, 108, 101]) = true
  · have HM := Lib.hid (show isKeyB s = true from by simp [isKeyB, keyWords, h7])
    go_wp2; go_ret; exact ⟨by rw [HM.out]; rfl, rfl⟩
  replace h7 : (s.toList == [119, 104, 105, 108, 101]) = false := by simpa using h7
  by_cases h8 : (s.toList == [101, 110, 100, 119, 104, 105, 108, 101]) = true
  · have HM := Lib.hid (show isKeyB s = true from by simp [isKeyB, keyWords, h8])
    go_wp2; go_ret; exact ⟨by rw [HM.out]; rfl, rfl⟩
  replace h8 : (s.toList == [101, 110, 100, 119, 104, 105, 108, 101]) = false := by simpa using h8
  by_cases h9 : (s.toList == [98, 114, 101, 97, 107]) = true
  · have HM := Lib.hid (show isKeyB s = true from by simp [isKeyB, keyWords, h9])
    go_wp2; go_ret; exact ⟨by rw [HM.out]; rfl, rfl⟩
  replace h9 : (s.toList == [98, 114, 101, 97, 107]) = false := by simpa using h9
  by_cases h10 : (s.toList == [99, 111, 110, 116, 105, 110, 117, 101]) = true
  · have HM := Lib.hid (show isKeyB s = true from by simp [isKeyB, keyWords, h10])
    go_wp2; go_ret; exact ⟨by rw [HM.out]; rfl, rfl⟩
  replace h10 : (s.toList == [99, 111, 110, 116, 105, 110, 117, 101]) = false := by simpa using h10
  by_cases h11 : (s.toList == [114, 101, 116, 117, 114, 110]) = true
  · have HM := Lib.hid (show isKeyB s = true from by simp [isKeyB, keyWords, h11])
    go_wp2; go_ret; exact ⟨by rw [HM.out]; rfl, rfl⟩
  replace h11 : (s.toList == [114, 101, 116, 117, 114, 110]) = false := by simpa using h11
  by_cases h12 : (s.toList == [102, 111, 114, 107]) = true
  · have HM := Lib.hid (show isKeyB s = true from by simp [isKeyB, keyWords, h12])
    go_wp2; go_ret; exact ⟨by rw [HM.out]; rfl, rfl⟩
  replace h12 : (s.toList == [102, 111, 114, 107]) = false := by simpa using h12
  by_cases h13 : (s.toList == [101, 110, 100, 102, 111, 114, 107]) = true
  · have HM := Lib.hid (show isKeyB s = true from by simp [isKeyB, keyWords, h13])
    go_wp2; go_ret; exact ⟨by rw [HM.out]; rfl, rfl⟩
  replace h13 : (s.toList == [101, 110, 100, 102, 111, 114, 107]) = false := by simpa using h13
  by_cases h14 : (s.toList == [116, 114, 121]) = true
  · have HM := Lib.hid (show isKeyB s = true from by simp [isKeyB, keyWords, h14])
    go_wp2; go_ret; exact ⟨by rw [HM.out]; rfl, rfl⟩
  replace h14 : (s.toList == [116, 114, 121]) = false := by simpa using h14
  by_cases h15 : (s.toList == [101, 120, 99, 101, 112, 116]) = true
  · have HM := Lib.hid (show isKeyB s = true from by simp [isKeyB, keyWords, h15])
    go_wp2; go_ret; exact ⟨by rw [HM.out]; rfl, rfl⟩
  replace h15 : (s.toList == [101, 120, 99, 101, 112, 116]) = false := by simpa using h15
  by_cases h16 : (s.toList == [102, 105, 110, 97, 108, 108, 121]) = true
  · have HM := Lib.hid (show isKeyB s = true from by simp [isKeyB, keyWords, h16])
    go_wp2; go_ret; exact ⟨by rw [HM.out]; rfl, rfl⟩
  replace h16 : (s.toList == [102, 105, 110, 97, 108, 108, 121]) = false := by simpa using h16
  by_cases h17 : (s.toList == [101, 110, 100, 116, 114, 121]) = true
  · have HM := Lib.hid (show isKeyB s = true from by simp [isKeyB, keyWords, h17])
    go_wp2; go_ret; exact ⟨by rw [HM.out]; rfl, rfl⟩
  replace h17 : (s.toList == [101, 110, 100, 116, 114, 121]) = false := by simpa using h17
  by_cases h18 : (s.toList == [97, 110, 121]) = true
  · have HM := Lib.hid (show isKeyB s = true from by simp [isKeyB, keyWords, h18])
    go_wp2; go_ret; exact ⟨by rw [HM.out]; rfl, rfl⟩
  replace h18 : (s.toList == [97, 110, 121]) = false := by simpa using h18
  have HM := Lib.hid (show isKeyB s = false from by simp only [isKeyB, keyWords, List.any_cons, List.any_nil, h0, h1, h2, h3, h4, h5, h6, h7, h8, h9, h10, h11, h12, h13, h14, h15, h16, h17, h18, Bool.or_false])
  go_wp2; go_ret; exact ⟨by rw [HM.out]; rfl, rfl⟩
set_option maxHeartbeats 400000 in
theorem isDigit_any (c : Nat) (w : World) : Calls Tryz.prog 80 #[.int .u8 c] w fun e w' => e = .returned (.bool (decide (48 ≤ c) && decide (c ≤ 57))) ∧ w' = w := by
  go_enter Tryz.func80, Tryz.ntmps80
  by_cases h1 : (48 : Int) ≤ c
  · have HM := Lib.hid (show (decide (48 ≤ c) && decide (c ≤ 57)) = decide ((c : Int) ≤ 57) from (by
      have h2 : 48 ≤ c := by omega
      rw [decide_eq_true h2, Bool.true_and]
      exact decide_eq_decide.2 (by omega)))
    go_wp2; go_ret; exact ⟨by rw [HM.out]; rfl, rfl⟩
  · have HM := Lib.hid (show (decide (48 ≤ c) && decide (c ≤ 57)) = false from (by
      have h2 : ¬ 48 ≤ c := by omega
      rw [decide_eq_false h2, Bool.false_and]))
    go_wp2; go_ret; exact ⟨by rw [HM.out]; rfl, rfl⟩
set_option maxHeartbeats 2000000 in
theorem placeIn_any (o n : Int) (s : ByteArray) (k m : Int) (z : ByteArray) (q : Option Addr) (ql qc : Nat) (p : Option Addr) (len cap : Nat) (at_ i : Int) (w : World) (hl : len ≤ 1000000000000) :
    Calls Tryz.prog 56 #[.agg #[.int .i64 o, .int .i64 n, .string s, .int .i64 k, .int .i64 m, .string z, .slice q ql qc, .slice p len cap], .int .i64 at_, .int .i64 i] w fun e w' => e = .returned (.int .i64 (placeInN o at_ i ((len : Int) - 1))) ∧ Below w.heap.size w w' := by
  have HB := Lib.hid ((Below.refl w.heap.size w).alloc (Nat.le_refl _) (.cells #[.int .i64 o, .int .i64 n, .string s, .int .i64 k, .int .i64 m, .string z, .slice q ql qc, .slice p len cap] 33))
  have hl1 : (len : Int) ≤ 1000000000000 := by omega
  go_enter Tryz.func56, Tryz.ntmps56
  go_wp2_with (go_at_call 82; refine (either_any _ _ _ _).mono ?_; rintro e w2 ⟨rfl, rfl⟩)
  all_goals (go_ret; exact ⟨by simp_all [placeInN], HB.out⟩)
theorem rep_open {w : World} {lo hi : Nat} {v : T} {k m : Int} {z : ByteArray} {q : Option Addr} {ql qc : Nat} (h : Rep w lo hi v (.agg #[.int .i64 k, .int .i64 m, .string z, .slice q ql qc])) : v.k = k ∧ v.n = m ∧ v.s = z ∧ v.l.length = ql := by
  match v, h with
  | .mk k' n' s' l', h =>
    unfold Rep at h
    obtain ⟨p, cap, hv, _⟩ := h
    simp only [Value.agg.injEq, Array.mk.injEq, List.cons.injEq, and_true, Value.int.injEq, Value.string.injEq, Value.slice.injEq, true_and] at hv
    obtain ⟨rfl, rfl, rfl, _, rfl, _⟩ := hv
    exact ⟨rfl, rfl, rfl, rfl⟩

set_option maxHeartbeats 400000 in
theorem hasEnough_any (o n : Int) (s : ByteArray) (k m : Int) (z : ByteArray) (q : Option Addr) (ql qc : Nat) (p : Option Addr) (len cap : Nat) (w : World) :
    Calls Tryz.prog 52 #[.agg #[.int .i64 o, .int .i64 n, .string s, .int .i64 k, .int .i64 m, .string z, .slice q ql qc, .slice p len cap]] w fun e w' => e = .returned (.bool (enoughB o len)) ∧ Below w.heap.size w w' := by
  have HB := Lib.hid ((Below.refl w.heap.size w).alloc (Nat.le_refl _) (.cells #[.int .i64 o, .int .i64 n, .string s, .int .i64 k, .int .i64 m, .string z, .slice q ql qc, .slice p len cap] 33))
  obtain ⟨a, ha⟩ : ∃ a, a = (boundsN o).1 := ⟨_, rfl⟩
  obtain ⟨b, hb⟩ : ∃ b, b = (boundsN o).2 := ⟨_, rfl⟩
  have HC := Lib.hid (show ∀ w, Calls Tryz.prog 77 #[.int .i64 o] w fun e w' => e = .returned (.tuple #[.int .i64 a, .int .i64 b]) ∧ w' = w from fun w => ha ▸ hb ▸ bounds_any o w)
  have HE := Lib.hid (show enoughB o len = (decide (a ≤ (len : Int)) && decide ((len : Int) ≤ b)) from (by rw [ha, hb]; rfl))
  clear ha hb
  go_enter Tryz.func52, Tryz.ntmps52
  by_cases h1 : a ≤ (len : Int)
  · go_wp2_with (go_at_call 77; refine (HC.out _).mono ?_; rintro e w2 ⟨rfl, rfl⟩)
    go_ret; exact ⟨by rw [HE.out, decide_eq_true h1]; rfl, HB.out⟩
  · go_wp2_with (go_at_call 77; refine (HC.out _).mono ?_; rintro e w2 ⟨rfl, rfl⟩)
    go_ret; exact ⟨by rw [HE.out, decide_eq_false (show ¬ a ≤ (len : Int) by omega)]; rfl, HB.out⟩

set_option maxHeartbeats 1000000 in
/-- tree.Deep. -/
theorem deep_of (L : List Nd) (ih : ∀ t ∈ L, ∀ (w : World) (lo hi : Nat) (p : Option Addr) (cap : Nat), NAll w lo hi t.l p → hi ≤ w.heap.size → t.l.length ≤ cap → t.l.length * 112 ≤ 140737488355328 → cntAll t.l ≤ 1000000000 →
      Calls Tryz.prog 31 #[.slice p t.l.length cap] w fun e w' => e = .returned (.int .i64 (dpNAll t.l : Int)) ∧ Below w.heap.size w w')
    (w : World) (lo hi : Nat) (p : Option Addr) (cap : Nat) (hall : NAll w lo hi L p) (hhi : hi ≤ w.heap.size) (_hlc : L.length ≤ cap) (hcap : L.length * 112 ≤ 140737488355328) (hN : cntAll L ≤ 1000000000) :
    Calls Tryz.prog 31 #[.slice p L.length cap] w fun e w' => e = .returned (.int .i64 (dpNAll L : Int)) ∧ Below w.heap.size w w' := by
  have HIH := Lib.hid ih
  have HA := Lib.hid hall
  clear ih hall
  have hdle := dpNAll_le L
  go_enter Tryz.func31, Tryz.ntmps31
  go_wp2
  go_loopw [3, 8] (fun d i wr => ∃ j : Nat, j ≤ L.length ∧ d = .int .i64 (dpNAll (L.take j) : Int) ∧ i = .int .i64 j ∧ Hid (Below w.heap.size w wr)) (fun _ i _ => L.length - (intOf i).toNat)
  case atStart => exact ⟨0, Nat.zero_le _, by simp [dpNAll], rfl, Lib.hid (Below.refl _ _)⟩
  case round =>
    obtain ⟨j, hj, rfl, rfl, HB⟩ := hrel
    have hwr := HB.out.size
    by_cases hlj : j < L.length
    · have hallr := HA.out.below HB.out hhi
      obtain ⟨b, off, o, n, s, v, ll, k, m, z, q, ql, qc, r, c, hp, _, hbhi, hli, h0, h1, h2, h3, h4, h5, h6, h7, hrep⟩ := hallr.item j hlj
      have hmem : L[j] ∈ L := List.getElem_mem hlj
      have hcn := cntAll_mem hmem
      have hsp := dpNAll_split L j hlj
      have hdm := dpNAll_le (L.take j)
      have hct := cntAll_take_le L j
      have hih := HIH.out _ hmem
      rw [hli] at hih hrep hsp hcn
      simp only [Nd.l, dpN, cnt] at hih hsp hcn
      have hdl := dpNAll_le ll
      obtain ⟨_, _, _, _, e1, e2, e3⟩ := hrep.parts
      have HC := Lib.hid (hih (wr.alloc (.cells #[.int .i64 o, .int .i64 n, .string s, .int .i64 k, .int .i64 m, .string z, .slice q ql qc, .slice r ll.length c] 33)) lo hi r c (e3.alloc (by omega) _) (by simp; omega) e1 e2 (by omega))
      have HSP := Lib.hid hsp
      have HBW := Lib.hid (HB.out.alloc hwr (.cells #[.int .i64 o, .int .i64 n, .string s, .int .i64 k, .int .i64 m, .string z, .slice q ql qc, .slice r ll.length c] 33))
      have hbw : b < wr.heap.size := by omega
      have hb1 : (dpNAll ll : Int) ≤ 1000000000 := by omega
      have hb2 : (dpNAll (L.take j) : Int) ≤ 1000000000 := by omega
      subst hp
      clear hallr hrep hli hih hsp hmem e3
      obtain ⟨d1, hd1⟩ : ∃ d1 : Nat, d1 = dpNAll (L.take j) := ⟨_, rfl⟩
      obtain ⟨d2, hd2⟩ : ∃ d2 : Nat, d2 = dpNAll ll := ⟨_, rfl⟩
      have HD := Lib.hid (show dpNAll (L.take (j + 1)) = max d1 (1 + d2) from (by rw [HSP.out, hd1, hd2]))
      rw [← hd1] at hb2 ⊢
      rw [← hd2] at hb1 HC
      clear hd1 hd2 hdm hdl hcn
      by_cases hmx : (d1 : Int) < 1 + (d2 : Int)
      · go_wp2_with (go_at_call 31; refine HC.out.mono ?_; rintro e w2 ⟨rfl, hb2⟩; have HB2 := Lib.hid (HBW.out.trans (hb2.mono HBW.out.size)); clear hb2)
        go_roundw
        case rel => exact ⟨j + 1, by omega, by rw [HD.out]; congr 1; omega, by go_num, HB2⟩
        case measure => simp [intOf]; omega
      · go_wp2_with (go_at_call 31; refine HC.out.mono ?_; rintro e w2 ⟨rfl, hb2⟩; have HB2 := Lib.hid (HBW.out.trans (hb2.mono HBW.out.size)); clear hb2)
        go_roundw
        case rel => exact ⟨j + 1, by omega, by rw [HD.out]; congr 1; omega, by go_num, HB2⟩
        case measure => simp [intOf]; omega
    · have hje : j = L.length := by omega
      subst hje
      go_wp2
      go_ret
      exact ⟨by simp, HB.out⟩
theorem deep_any (L : List Nd) (w : World) (lo hi : Nat) (p : Option Addr) (cap : Nat) (hall : NAll w lo hi L p) (hhi : hi ≤ w.heap.size) (hlc : L.length ≤ cap) (hcap : L.length * 112 ≤ 140737488355328) (hN : cntAll L ≤ 1000000000) :
    Calls Tryz.prog 31 #[.slice p L.length cap] w fun e w' => e = .returned (.int .i64 (dpNAll L : Int)) ∧ Below w.heap.size w w' := by
  have key : ∀ t : Nd, ∀ (w : World) (lo hi : Nat) (p : Option Addr) (cap : Nat), NAll w lo hi t.l p → hi ≤ w.heap.size → t.l.length ≤ cap → t.l.length * 112 ≤ 140737488355328 → cntAll t.l ≤ 1000000000 →
      Calls Tryz.prog 31 #[.slice p t.l.length cap] w fun e w' => e = .returned (.int .i64 (dpNAll t.l : Int)) ∧ Below w.heap.size w w' :=
    Nd.ind_ (fun o n s v l ih => deep_of l ih)
  exact deep_of L (fun t _ => key t) w lo hi p cap hall hhi hlc hcap hN
end Go.Proofs.YtemkikjcjhmlaaaGreatDoor

namespace Go.Proofs.YtemkikjcjhmlaaaGreatDoor
open Go.RowKit
set_option maxRecDepth 100000

set_option maxHeartbeats 2000000 in
theorem isName_any (s : ByteArray) (hs : s.size ≤ 140737488355328) (w : World) : Calls Tryz.prog 55 #[.string s] w fun e w' => e = .returned (.bool (isNameB s)) ∧ w' = w := by
  go_enter Tryz.func55, Tryz.ntmps55
  have hdl : s.data.toList.length = s.size := by simp
  by_cases h0 : s.size = 0
  · have HM := Lib.hid (show isNameB s = false from (by
      have : s.data.toList = [] := List.eq_nil_of_length_eq_zero (by omega)
      unfold isNameB; rw [this]))
    have hse2 : s.toList.isEmpty = true := by
      rw [Go.ByteArray.toList_eq, List.eq_nil_of_length_eq_zero (by omega : s.data.toList.length = 0)]; rfl
    go_wp2
    go_ret; exact ⟨by rw [HM.out]; rfl, rfl⟩
  have hd0 : 0 < s.data.size := by
    have : s.data.size = s.size := rfl
    omega
  have hse2 : s.toList.isEmpty = false := by
    rw [Go.ByteArray.toList_eq]
    cases hl : s.data.toList with
    | nil => rw [hl] at hdl; simp at hdl; omega
    | cons c r => rfl
  have hh : s.data.toList = s[0] :: s.data.toList.tail := by
    cases hl : s.data.toList with
    | nil => rw [hl] at hdl; simp at hdl; omega
    | cons c r =>
      have : s[0] = c := by
        have h1 : s[0] = s.data[0] := rfl
        rw [h1, ← Array.getElem_toList]; simp [hl]
      rw [this]; rfl
  have HN := Lib.hid (show isNameB s = (decide (s.size ≤ 32) && !digB s[0] && !isKeyB s && s.data.toList.all nameByteB) from (by
    unfold isNameB; rw [hh]))
  clear hh
  by_cases h32 : (32 : Int) < s.size
  · have HM := Lib.hid (show isNameB s = false from (by
      have : ¬ s.size ≤ 32 := by omega
      rw [HN.out, decide_eq_false this]; simp))
    go_wp2
    go_ret; exact ⟨by rw [HM.out]; rfl, rfl⟩
  have HD := Lib.hid (fun (c : UInt8) (w : World) => (show Calls Tryz.prog 80 #[.int .u8 (c.toNat : Int)] w fun e w' => e = .returned (.bool (digB c)) ∧ w' = w from isDigit_any c.toNat w))
  have hs0 : (0 : Int) < s.size := by omega
  cases hd : digB s[0]
  · cases hk : isKeyB s
    · have HM := Lib.hid (show isNameB s = s.data.toList.all nameByteB from (by
        have : s.size ≤ 32 := by omega
        rw [HN.out, hd, hk, decide_eq_true this]; simp))
      have HD0 := Lib.hid (fun (w : World) => by have := HD.out s[0] w; rw [hd] at this; exact this)
      have HK := Lib.hid (fun (w : World) => by have := isKey_any s w; rw [hk] at this; exact this)
      clear hd hk HN
      go_wp2_with (first
        | (go_at_call 80; refine (HD0.out _).mono ?_; rintro e w2 ⟨rfl, rfl⟩)
        | (go_at_call 81; refine (HK.out _).mono ?_; rintro e w2 ⟨rfl, rfl⟩))
      go_loop [23] (fun i => ∃ j : Nat, j ≤ s.size ∧ i = .int .i64 j ∧ Hid ((s.data.toList.take j).all nameByteB = true)) (fun i => s.size - (intOf i).toNat)
      case atStart => exact ⟨0, Nat.zero_le _, rfl, Lib.hid rfl⟩
      case round =>
        obtain ⟨j, hj, rfl, hA⟩ := hrel
        by_cases hjs : j < s.size
        · have hj' : j < s.data.toList.length := by simpa using hjs
          have hget : s.data.toList[j] = s[j] := by
            rw [Array.getElem_toList]; rfl
          cases hb : nameByteB s[j]
          · have HF := Lib.hid (show isNameB s = false from (by
              rw [HM.out, List.all_eq_false]
              exact ⟨s[j], by rw [← hget]; exact List.getElem_mem hj', by simp [hb]⟩))
            have HDj := Lib.hid (fun (w : World) => by
              have hdj : digB s[j] = false := by unfold nameByteB at hb; simp at hb; exact hb.1.1
              have := HD.out s[j] w; rw [hdj] at this; exact this)
            have h95 : (((s[j]).toNat : Int) != 95) = true := by
              unfold nameByteB at hb; simp at hb; simp; omega
            by_cases h97 : ((s[j]).toNat : Int) < 97
            · clear hb hget
              go_wp2_with (go_at_call 80; refine (HDj.out _).mono ?_; rintro e w2 ⟨rfl, rfl⟩)
              go_ret; exact ⟨by rw [HF.out]; rfl, rfl⟩
            · have h122 : (122 : Int) < ((s[j]).toNat : Int) := by
                unfold nameByteB at hb; simp at hb; omega
              clear hb hget
              go_wp2_with (go_at_call 80; refine (HDj.out _).mono ?_; rintro e w2 ⟨rfl, rfl⟩)
              go_ret; exact ⟨by rw [HF.out]; rfl, rfl⟩
          · have HNX := Lib.hid (show (s.data.toList.take (j + 1)).all nameByteB = true from (by
              rw [List.take_succ_eq_append_getElem hj', List.all_append, hA.out, hget]
              simp [hb]))
            cases hdj : digB s[j]
            · have HDj := Lib.hid (fun (w : World) => by have := HD.out s[j] w; rw [hdj] at this; exact this)
              by_cases h95 : ((s[j]).toNat : Int) = 95
              · have h95b : (((s[j]).toNat : Int) != 95) = false := by rw [h95]; rfl
                clear hb hget hdj h95
                go_wp2_with (go_at_call 80; refine (HDj.out _).mono ?_; rintro e w2 ⟨rfl, rfl⟩)
                go_round
                case rel => exact ⟨j + 1, by omega, by go_num, HNX⟩
                case measure => simp [intOf]; omega
              · have h95b : (((s[j]).toNat : Int) != 95) = true := by simpa using h95
                have h97 : ¬ ((s[j]).toNat : Int) < 97 := by
                  unfold nameByteB at hb; rw [hdj] at hb; simp at hb; omega
                have h122 : ¬ (122 : Int) < ((s[j]).toNat : Int) := by
                  unfold nameByteB at hb; rw [hdj] at hb; simp at hb; omega
                clear hb hget hdj
                go_wp2_with (go_at_call 80; refine (HDj.out _).mono ?_; rintro e w2 ⟨rfl, rfl⟩)
                go_round
                case rel => exact ⟨j + 1, by omega, by go_num, HNX⟩
                case measure => simp [intOf]; omega
            · have HDj := Lib.hid (fun (w : World) => by have := HD.out s[j] w; rw [hdj] at this; exact this)
              clear hb hget hdj
              go_wp2_with (go_at_call 80; refine (HDj.out _).mono ?_; rintro e w2 ⟨rfl, rfl⟩)
              go_round
              case rel => exact ⟨j + 1, by omega, by go_num, HNX⟩
              case measure => simp [intOf]; omega
        · have hje : j = s.size := by omega
          have HF := Lib.hid (show isNameB s = true from (by
            have := hA.out
            rw [hje, List.take_of_length_le (by omega)] at this
            rw [HM.out, this]))
          go_wp2
          go_ret; exact ⟨by rw [HF.out]; rfl, rfl⟩
    · have HM := Lib.hid (show isNameB s = false from (by rw [HN.out, hk]; simp))
      have HD0 := Lib.hid (fun (w : World) => by have := HD.out s[0] w; rw [hd] at this; exact this)
      have HK := Lib.hid (fun (w : World) => by have := isKey_any s w; rw [hk] at this; exact this)
      clear hd hk HN
      go_wp2_with (first
        | (go_at_call 80; refine (HD0.out _).mono ?_; rintro e w2 ⟨rfl, rfl⟩)
        | (go_at_call 81; refine (HK.out _).mono ?_; rintro e w2 ⟨rfl, rfl⟩))
      go_ret; exact ⟨by rw [HM.out]; rfl, rfl⟩
  · have HM := Lib.hid (show isNameB s = false from (by rw [HN.out, hd]; simp))
    have HD0 := Lib.hid (fun (w : World) => by have := HD.out s[0] w; rw [hd] at this; exact this)
    clear hd HN
    go_wp2_with (go_at_call 80; refine (HD0.out _).mono ?_; rintro e w2 ⟨rfl, rfl⟩)
    go_ret; exact ⟨by rw [HM.out]; rfl, rfl⟩

end Go.Proofs.YtemkikjcjhmlaaaGreatDoor
