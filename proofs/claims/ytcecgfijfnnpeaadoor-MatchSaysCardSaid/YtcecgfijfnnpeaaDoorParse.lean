/- Texts of values as plain data: how a value is written, and how a text is read, byte by byte; what is written is read again. No program is named. -/
import Derived.Test.YtcecgfijfnnpeaaDoorBase
import Derived.Lib.ItoaNum
namespace Go.Proofs.YtcecgfijfnnpeaaDoor
open Go.RowKit

abbrev Bs := List UInt8

def isD (c : UInt8) : Bool := 48 ≤ c.toNat && c.toNat ≤ 57
/-- Does a digit stand first? -/
def hdD : Bs → Bool | [] => false | c :: _ => isD c
/-- Does this byte stand first? -/
def hd (n : Nat) : Bs → Bool | [] => false | c :: _ => c.toNat == n

/-- Digits, as far as they go and are not too much. -/
def dig (most n : Nat) : Bs → Bool × Nat × Bs
  | [] => (true, n, [])
  | c :: r => if isD c then (if (most - (c.toNat - 48)) / 10 < n then (false, n, c :: r) else dig most (n * 10 + (c.toNat - 48)) r) else (true, n, c :: r)

/-- Digits behind a sign. -/
def numU (most : Nat) (sg : Int) (inp : Bs) : Option Int × Bs :=
  if hd 48 inp || !hdD inp then (none, inp) else ((if (dig most 0 inp).1 then some (sg * ((dig most 0 inp).2.1 : Int)) else none), (dig most 0 inp).2.2)
/-- A number; behind a 0 nothing is looked at. -/
def numC (most : Nat) (inp : Bs) : Option Int × Bs :=
  if hd 48 inp then (some 0, inp.drop 1) else if hd 45 inp then numU (most + 1) (-1) (inp.drop 1) else numU most 1 inp
/-- A number; behind a 0 stands no digit. -/
def num (most : Nat) (inp : Bs) : Option Int × Bs :=
  if hd 48 inp && hdD (inp.drop 1) then (none, inp.drop 1) else numC most inp

/-- The signs of a Str, up to its last quote. -/
def strOf : Bs → Option Bs × Bs
  | [] => (none, [])
  | c :: r => if c.toNat < 32 ∨ 126 < c.toNat then (none, c :: r) else if c.toNat = 34 then (some [], r) else if c.toNat = 92 then
      (match r with
        | [] => (none, [])
        | d :: r' => if d.toNat = 34 ∨ d.toNat = 92 then ((strOf r').1.map (d :: ·), (strOf r').2) else (none, d :: r'))
    else ((strOf r).1.map (c :: ·), (strOf r).2)

def names : List Bs :=
  [[69, 95, 78, 79, 78, 69], [69, 95, 84, 89, 80, 69], [69, 95, 68, 73, 86], [69, 95, 80, 69, 82, 77], [69, 95, 80, 82, 79, 80, 78, 70], [69, 95, 86, 69, 82, 66, 78, 70],
   [69, 95, 86, 65, 82, 78, 70], [69, 95, 73, 78, 86, 73, 78, 68], [69, 95, 82, 69, 67, 77, 79, 86, 69], [69, 95, 77, 65, 88, 82, 69, 67], [69, 95, 82, 65, 78, 71, 69],
   [69, 95, 65, 82, 71, 83], [69, 95, 78, 65, 67, 67], [69, 95, 73, 78, 86, 65, 82, 71], [69, 95, 81, 85, 79, 84, 65]]

/-- With how many bytes both begin. -/
def lcp : Bs → Bs → Nat
  | a :: r, b :: q => if a = b then lcp r q + 1 else 0
  | _, _ => 0
def codeGo (inp : Bs) : Nat → Nat → List Bs → Option Int × Nat
  | _, far, [] => (none, far)
  | i, far, x :: xs => if lcp inp x = x.length then (some (i : Int), x.length) else codeGo inp (i + 1) (max far (lcp inp x)) xs
def codeOf (inp : Bs) : Option Int × Bs := ((codeGo inp 0 0 names).1, inp.drop (codeGo inp 0 0 names).2)

/-- What a reading comes to: a tree, and what stands behind; or what stands at the first byte that doesn't fit. -/
inductive Res where
  | ok (t : T) (r : Bs)
  | bad (r : Bs)

def res (k : Int) (q : Option Int × Bs) : Res := match q.1 with | some n => .ok (.mk k n ByteArray.empty []) q.2 | none => .bad q.2
def resS (q : Option Bs × Bs) : Res := match q.1 with | some s => .ok (.mk 2 0 ⟨s.toArray⟩ []) q.2 | none => .bad q.2
/-- One that is no list. -/
def one (inp : Bs) : Res :=
  if hd 34 inp then resS (strOf (inp.drop 1)) else if hd 35 inp then res 1 (numC 2147483647 (inp.drop 1)) else
    if hd 45 inp || hdD inp then res 0 (numC 9223372036854775807 inp) else res 3 (codeOf inp)

inductive Md where
  | val
  | items (l : List T)
  | tail (l : List T)

/-- The reading of a value; of what stands at an item's place; of what stands behind an item. -/
inductive Go : Md → Bs → Res → Prop
  | one {i} : hd 123 i = false → Go .val i (one i)
  | none {r} : Go .val (123 :: 125 :: r) (.ok (.mk 4 0 ByteArray.empty []) r)
  | list {r R} : hd 125 r = false → Go (.items []) r R → Go .val (123 :: r) R
  | itemBad {l r x} : Go .val r (.bad x) → Go (.items l) r (.bad x)
  | item {l r t r' R} : Go .val r (.ok t r') → Go (.tail (l ++ [t])) r' R → Go (.items l) r R
  | tailEnd {l r} : Go (.tail l) (125 :: r) (.ok (.mk 4 0 ByteArray.empty l) r)
  | tailOn {l r R} : Go (.items l) r R → Go (.tail l) (44 :: 32 :: r) R
  | tailComma {l r} : hd 32 r = false → Go (.tail l) (44 :: r) (.bad r)
  | tailBad {l r} : hd 125 r = false → hd 44 r = false → Go (.tail l) r (.bad r)

theorem Go.det {m : Md} {i : Bs} {R R' : Res} (h : Go m i R) (h' : Go m i R') : R = R' := by
  induction h generalizing R' with
  | one hh =>
    cases h' with
    | one _ => rfl
    | none => simp [hd] at hh
    | list _ _ => simp [hd] at hh
  | none =>
    cases h' with
    | one hh => simp [hd] at hh
    | none => rfl
    | list hh _ => simp [hd] at hh
  | list hh _ ih =>
    cases h' with
    | one hh' => simp [hd] at hh'
    | none => simp [hd] at hh
    | list _ h2 => exact ih h2
  | itemBad _ ih =>
    cases h' with
    | itemBad h2 => exact ih h2
    | item h2 _ => cases ih h2
  | item _ _ ih1 ih2 =>
    cases h' with
    | itemBad h2 => cases ih1 h2
    | item h2 h3 =>
      have e := ih1 h2
      injection e with e1 e2
      subst e1 e2
      exact ih2 h3
  | tailEnd =>
    cases h' with
    | tailEnd => rfl
    | tailBad hh _ => simp [hd] at hh
  | tailOn _ ih =>
    cases h' with
    | tailOn h2 => exact ih h2
    | tailComma hh => simp [hd] at hh
    | tailBad _ hh => simp [hd] at hh
  | tailComma hh =>
    cases h' with
    | tailOn h2 => simp [hd] at hh
    | tailComma hh => rfl
    | tailBad _ hh => simp [hd] at hh
  | tailBad hh hh' =>
    cases h' with
    | tailEnd => simp [hd] at hh
    | tailOn h2 => simp [hd] at hh'
    | tailComma h2 => simp [hd] at hh'
    | tailBad _ _ => rfl

/-! ### How a value is written -/
def nameOf (n : Int) : Bs := if n < 0 then [] else (names[n.toNat]?).getD []
def esc : Bs → Bs
  | [] => []
  | c :: r => if c.toNat = 34 ∨ c.toNat = 92 then 92 :: c :: esc r else c :: esc r
mutual
def tx : T → Bs
  | .mk k n s l => if k = 0 then Lib.itoa n else if k = 1 then 35 :: Lib.itoa n else if k = 2 then 34 :: (esc s.data.toList ++ [34]) else if k = 3 then nameOf n else 123 :: (txs l ++ [125])
def txs : List T → Bs
  | [] => []
  | t :: r => tx t ++ txr r
def txr : List T → Bs
  | [] => []
  | t :: r => 44 :: 32 :: (tx t ++ txr r)
end
theorem txr_append : ∀ a b, txr (a ++ b) = txr a ++ txr b
  | [], b => by simp [txr]
  | x :: r, b => by simp [txr, txr_append r b]
theorem txs_snoc (l : List T) (t : T) : txs (l ++ [t]) = if l.length = 0 then tx t else txs l ++ (44 :: 32 :: tx t) := by
  cases l with
  | nil => simp [txs, txr]
  | cons x r => simp [txs, txr_append, txr]

/-! ### Digits -/
theorem dec_small {u : Nat} (h : u < 10) : Lib.decDigits u = [UInt8.ofNat (48 + u)] := Lib.decDigits_one h
theorem dec_big {u : Nat} (h : ¬ u < 10) : Lib.decDigits u = Lib.decDigits (u / 10) ++ [UInt8.ofNat (48 + u % 10)] := by rw [Lib.decDigits, dif_neg h]
theorem ofNat_toNat_lt {n : Nat} (h : n < 256) : (UInt8.ofNat n).toNat = n := by simp [UInt8.toNat_ofNat']; omega
theorem isD_ofNat {d : Nat} (h : d < 10) : isD (UInt8.ofNat (48 + d)) = true := by
  unfold isD; rw [ofNat_toNat_lt (by omega)]; simp; omega
theorem isD_iff {c : UInt8} : isD c = true ↔ 48 ≤ c.toNat ∧ c.toNat ≤ 57 := by unfold isD; simp
theorem ofNat_isD {c : UInt8} (h : isD c = true) : UInt8.ofNat (48 + (c.toNat - 48)) = c := by
  have := isD_iff.1 h
  rw [show 48 + (c.toNat - 48) = c.toNat by omega]; exact UInt8.ofNat_toNat

theorem dig_sound {most : Nat} : ∀ (inp : Bs) {n m : Nat} {r : Bs}, 0 < n → n ≤ most → dig most n inp = (true, m, r) → ∃ ds, inp = ds ++ r ∧ Lib.decDigits m = Lib.decDigits n ++ ds ∧ m ≤ most ∧ 0 < m ∧ hdD r = false
  | [], n, m, r, hn, hm, h => by
    simp only [dig, Prod.mk.injEq, true_and] at h
    obtain ⟨rfl, rfl⟩ := h
    exact ⟨[], by simp, by simp, hm, hn, rfl⟩
  | c :: q, n, m, r, hn, hm, h => by
    rw [dig] at h
    by_cases hc : isD c = true
    · rw [if_pos hc] at h
      by_cases ho : (most - (c.toNat - 48)) / 10 < n
      · rw [if_pos ho] at h; simp at h
      · rw [if_neg ho] at h
        have hc' := isD_iff.1 hc
        obtain ⟨ds, h1, h2, h3, h4, h5⟩ := dig_sound q (by omega) (by omega) h
        refine ⟨c :: ds, by rw [h1]; rfl, ?_, h3, h4, h5⟩
        rw [h2, dec_big (by omega), show (n * 10 + (c.toNat - 48)) / 10 = n by omega, show (n * 10 + (c.toNat - 48)) % 10 = c.toNat - 48 by omega, ofNat_isD hc]
        simp
    · rw [if_neg hc] at h
      simp only [Prod.mk.injEq, true_and] at h
      obtain ⟨rfl, rfl⟩ := h
      exact ⟨[], by simp, by simp, hm, hn, by simp [hdD]; simpa using hc⟩

theorem dig_dec {most : Nat} (u : Nat) (r : Bs) (hu : u ≤ most) : dig most 0 (Lib.decDigits u ++ r) = dig most u r := by
  induction u using Nat.strongRecOn generalizing r with
  | _ u ih =>
    by_cases h : u < 10
    · rw [dec_small h, List.singleton_append, dig, if_pos (isD_ofNat h), ofNat_toNat_lt (by omega), if_neg (by omega)]
      congr 1; omega
    · rw [dec_big h, List.append_assoc, ih (u / 10) (by omega) _ (by omega), List.singleton_append, dig, if_pos (isD_ofNat (by omega)), ofNat_toNat_lt (by omega), if_neg (by omega)]
      congr 1; omega
theorem dig_stop {most u : Nat} {r : Bs} (h : hdD r = false) : dig most u r = (true, u, r) := by
  cases r with
  | nil => rfl
  | cons c q => rw [dig, if_neg (by simpa [hdD] using h)]
theorem dec_head (u : Nat) (hu : 0 < u) (r : Bs) : hd 48 (Lib.decDigits u ++ r) = false ∧ hdD (Lib.decDigits u ++ r) = true ∧ hd 45 (Lib.decDigits u ++ r) = false := by
  induction u using Nat.strongRecOn generalizing r with
  | _ u ih =>
    by_cases h : u < 10
    · rw [dec_small h]
      refine ⟨?_, ?_, ?_⟩
      · simp only [hd, List.cons_append, ofNat_toNat_lt (show 48 + u < 256 by omega)]; simp; omega
      · simpa [hdD] using isD_ofNat h
      · simp only [hd, List.cons_append, ofNat_toNat_lt (show 48 + u < 256 by omega)]; simp; omega
    · rw [dec_big h, List.append_assoc]
      exact ih (u / 10) (by omega) (by omega) _

theorem numU_dec {most u : Nat} (sg : Int) {r : Bs} (hu : 0 < u) (hm : u ≤ most) (hr : hdD r = false) : numU most sg (Lib.decDigits u ++ r) = (some (sg * (u : Int)), r) := by
  obtain ⟨h1, h2, _⟩ := dec_head u hu r
  unfold numU
  rw [h1, h2, dig_dec u r hm, dig_stop hr]
  simp

theorem num_itoa {most : Nat} {n : Int} {r : Bs} (h0 : -(most : Int) - 1 ≤ n) (h1 : n ≤ most) (hr : hdD r = false) : num most (Lib.itoa n ++ r) = (some n, r) := by
  by_cases hz : n = 0
  · subst hz
    rw [show Lib.itoa 0 = [48] from by unfold Lib.itoa; rw [if_neg (by omega)]; exact dec_small (by omega)]
    simp [num, numC, hd, hr]
  · by_cases hn : n < 0
    · have e : Lib.itoa n = 45 :: Lib.decDigits n.natAbs := by unfold Lib.itoa; rw [if_pos hn]
      have h := numU_dec (most := most + 1) (-1) (r := r) (show 0 < n.natAbs by omega) (by omega) hr
      rw [e]
      simp only [num, numC, hd, List.cons_append, List.drop_succ_cons, List.drop_zero]
      simp only [show ((45 : UInt8).toNat == 48) = false from rfl, show ((45 : UInt8).toNat == 45) = true from rfl, Bool.false_and, if_true, h]
      simp; omega
    · have e : Lib.itoa n = Lib.decDigits n.toNat := by unfold Lib.itoa; rw [if_neg hn]
      have h := numU_dec (most := most) 1 (r := r) (show 0 < n.toNat by omega) (by omega) hr
      obtain ⟨h1, h2, h3⟩ := dec_head n.toNat (by omega) r
      rw [e]
      simp only [num, numC, h1, h3, Bool.false_and, h]
      simp; omega

theorem numU_sound {most : Nat} {sg n : Int} {inp r : Bs} (hm : 9 ≤ most) (h : numU most sg inp = (some n, r)) : ∃ u : Nat, n = sg * u ∧ 0 < u ∧ u ≤ most ∧ inp = Lib.decDigits u ++ r ∧ hdD r = false := by
  unfold numU at h
  by_cases hb : (hd 48 inp || !hdD inp) = true
  · rw [if_pos hb] at h; simp at h
  · rw [if_neg hb] at h
    cases inp with
    | nil => simp [hdD] at hb
    | cons c q =>
      simp only [hd, hdD, Bool.or_eq_true, beq_iff_eq, Bool.not_eq_true', not_or, Bool.not_eq_false] at hb
      obtain ⟨hc0, hcd⟩ := hb
      have hc := isD_iff.1 hcd
      have e : dig most 0 (c :: q) = dig most (c.toNat - 48) q := by
        rw [dig, if_pos hcd, if_neg (by omega)]; congr 1; omega
      rw [e] at h
      rcases hq : dig most (c.toNat - 48) q with ⟨b, m, r'⟩
      rw [hq] at h
      cases b with
      | false => simp at h
      | true =>
        simp only [if_true, Prod.mk.injEq, Option.some.injEq] at h
        obtain ⟨rfl, rfl⟩ := h
        obtain ⟨ds, h1, h2, h3, h4, h5⟩ := dig_sound q (by omega) (by omega) hq
        refine ⟨m, rfl, h4, h3, ?_, h5⟩
        rw [h2, h1, dec_small (by omega), ofNat_isD hcd]; simp

theorem hd_iff {n : Nat} {inp : Bs} (h : hd n inp = true) : ∃ c r, inp = c :: r ∧ c.toNat = n := by
  cases inp with
  | nil => simp [hd] at h
  | cons c r => exact ⟨c, r, rfl, by simpa [hd] using h⟩
theorem hd_lit {n : Nat} {inp : Bs} (h : hd n inp = true) : inp = UInt8.ofNat n :: inp.drop 1 := by
  obtain ⟨c, r, rfl, hc⟩ := hd_iff h
  simp only [List.drop_succ_cons, List.drop_zero]
  rw [← hc, UInt8.ofNat_toNat]

theorem num_sound {most : Nat} {n : Int} {inp r : Bs} (hm : 9 ≤ most) (h : num most inp = (some n, r)) : inp = Lib.itoa n ++ r ∧ -(most : Int) - 1 ≤ n ∧ n ≤ most ∧ hdD r = false := by
  unfold num numC at h
  by_cases h0 : hd 48 inp = true
  · rw [h0] at h
    by_cases hb : hdD (inp.drop 1) = true
    · rw [hb] at h; simp at h
    · simp only [Bool.eq_false_iff.2 hb, Bool.and_false, if_true] at h
      simp only [Bool.false_eq_true, if_false, Prod.mk.injEq, Option.some.injEq] at h
      obtain ⟨rfl, rfl⟩ := h
      refine ⟨?_, by omega, by omega, by simpa using hb⟩
      have := hd_lit h0
      rw [show Lib.itoa 0 = [48] from by unfold Lib.itoa; rw [if_neg (by omega)]; exact dec_small (by omega)]
      exact this
  · simp only [Bool.eq_false_iff.2 h0, Bool.false_and] at h
    by_cases h4 : hd 45 inp = true
    · simp only [h4, if_true, Bool.false_eq_true, if_false] at h
      obtain ⟨u, rfl, hu, hum, hi, hr⟩ := numU_sound (by omega) h
      refine ⟨?_, by omega, by omega, hr⟩
      have e : Lib.itoa (-1 * (u : Int)) = 45 :: Lib.decDigits u := by unfold Lib.itoa; rw [if_pos (by omega)]; congr 2; omega
      rw [e, List.cons_append, ← hi]
      exact hd_lit h4
    · simp only [Bool.eq_false_iff.2 h4, Bool.false_eq_true, if_false] at h
      obtain ⟨u, rfl, hu, hum, hi, hr⟩ := numU_sound (by omega) h
      refine ⟨?_, by omega, by omega, hr⟩
      have e : Lib.itoa (1 * (u : Int)) = Lib.decDigits u := by unfold Lib.itoa; rw [if_neg (by omega)]; congr 1; omega
      rw [e]; exact hi

theorem dec_take (u k : Nat) (hk : k < (Lib.decDigits u).length) : (Lib.decDigits u).take k = [] ∨ (0 < u ∧ ∃ v, 0 < v ∧ v ≤ u ∧ (Lib.decDigits u).take k = Lib.decDigits v) := by
  induction u using Nat.strongRecOn generalizing k with
  | _ u ih =>
    by_cases h : u < 10
    · rw [dec_small h] at hk ⊢
      simp only [List.length_singleton] at hk
      left; rw [show k = 0 by omega]; rfl
    · rw [dec_big h] at hk ⊢
      simp only [List.length_append, List.length_singleton] at hk
      rw [List.take_append_of_le_length (by omega)]
      by_cases hl : k < (Lib.decDigits (u / 10)).length
      · rcases ih (u / 10) (by omega) k hl with h1 | ⟨_, v, hv0, hv, h1⟩
        · left; exact h1
        · right; exact ⟨by omega, v, hv0, by omega, h1⟩
      · right
        exact ⟨by omega, u / 10, by omega, by omega, List.take_of_length_le (by omega)⟩

theorem num_take {most : Nat} {n : Int} {k : Nat} (h0 : -(most : Int) - 1 ≤ n) (h1 : n ≤ most) (hk : k < (Lib.itoa n).length) : num most ((Lib.itoa n).take k) = (none, []) ∨ ∃ n', num most ((Lib.itoa n).take k) = (some n', []) := by
  by_cases hn : n < 0
  · have e : Lib.itoa n = 45 :: Lib.decDigits n.natAbs := by unfold Lib.itoa; rw [if_pos hn]
    rw [e] at hk ⊢
    cases k with
    | zero => left; rfl
    | succ k =>
      simp only [List.length_cons] at hk
      rw [List.take_succ_cons]
      rcases dec_take n.natAbs k (by omega) with h | ⟨_, v, hv0, hv, h⟩
      · left; rw [h]; rfl
      · right
        refine ⟨-(v : Int), ?_⟩
        have e' : Lib.itoa (-(v : Int)) = 45 :: Lib.decDigits v := by unfold Lib.itoa; rw [if_pos (by omega)]; congr 2; omega
        have := num_itoa (most := most) (n := -(v : Int)) (r := []) (by omega) (by omega) rfl
        rw [e', List.append_nil] at this
        rw [h]; exact this
  · have e : Lib.itoa n = Lib.decDigits n.toNat := by unfold Lib.itoa; rw [if_neg hn]
    rw [e] at hk ⊢
    rcases dec_take n.toNat k hk with h | ⟨_, v, hv0, hv, h⟩
    · left; rw [h]; rfl
    · right
      refine ⟨(v : Int), ?_⟩
      have e' : Lib.itoa (v : Int) = Lib.decDigits v := by unfold Lib.itoa; rw [if_neg (by omega)]; congr 1
      have := num_itoa (most := most) (n := (v : Int)) (r := []) (by omega) (by omega) rfl
      rw [e', List.append_nil] at this
      rw [h]; exact this

/-! ### Where behind a 0 nothing is looked at -/
theorem num_is_numC {most : Nat} {i : Bs} (h : (hd 48 i && hdD (i.drop 1)) = false) : num most i = numC most i := by unfold num; rw [h]; rfl
theorem numC_itoa {most : Nat} {n : Int} {r : Bs} (h0 : -(most : Int) - 1 ≤ n) (h1 : n ≤ most) (hr : hdD r = false) : numC most (Lib.itoa n ++ r) = (some n, r) := by
  have h := num_itoa h0 h1 hr
  cases hb : (hd 48 (Lib.itoa n ++ r) && hdD ((Lib.itoa n ++ r).drop 1)) with
  | false => rw [← num_is_numC hb]; exact h
  | true => unfold num at h; rw [hb] at h; simp at h
theorem numC_sound {most : Nat} {n : Int} {inp r : Bs} (hm : 9 ≤ most) (h : numC most inp = (some n, r)) : inp = Lib.itoa n ++ r ∧ -(most : Int) - 1 ≤ n ∧ n ≤ most := by
  cases hb : (hd 48 inp && hdD (inp.drop 1)) with
  | false => rw [← num_is_numC hb] at h; have := num_sound hm h; exact ⟨this.1, this.2.1, this.2.2.1⟩
  | true =>
    have h0 : hd 48 inp = true := by cases h1 : hd 48 inp; rw [h1] at hb; simp at hb; rfl
    unfold numC at h
    rw [if_pos h0] at h
    simp only [Prod.mk.injEq, Option.some.injEq] at h
    obtain ⟨rfl, rfl⟩ := h
    refine ⟨?_, by omega, by omega⟩
    rw [show Lib.itoa 0 = [48] from by unfold Lib.itoa; rw [if_neg (by omega)]; exact dec_small (by omega)]
    exact hd_lit h0
theorem numC_take {most : Nat} {n : Int} {k : Nat} (h0 : -(most : Int) - 1 ≤ n) (h1 : n ≤ most) (hk : k < (Lib.itoa n).length) : numC most ((Lib.itoa n).take k) = (none, []) ∨ ∃ n', numC most ((Lib.itoa n).take k) = (some n', []) := by
  have h := num_take h0 h1 hk
  cases hb : (hd 48 ((Lib.itoa n).take k) && hdD (((Lib.itoa n).take k).drop 1)) with
  | false => rw [num_is_numC hb] at h; exact h
  | true =>
    have hb' := hb
    unfold num at h
    rw [hb] at h
    simp only [if_true, Prod.mk.injEq, true_and, reduceCtorEq, false_and, exists_false, or_false] at h
    rw [h] at hb'
    simp [hdD] at hb'

/-! ### Strs -/
theorem strOf_nil : strOf [] = (none, []) := by rw [strOf.eq_def]
theorem strOf_cons (c : UInt8) (r : Bs) : strOf (c :: r) = if c.toNat < 32 ∨ 126 < c.toNat then (none, c :: r) else if c.toNat = 34 then (some [], r) else if c.toNat = 92 then
      (match r with
        | [] => (none, [])
        | d :: r' => if d.toNat = 34 ∨ d.toNat = 92 then ((strOf r').1.map (d :: ·), (strOf r').2) else (none, d :: r'))
    else ((strOf r).1.map (c :: ·), (strOf r).2) := (strOf.eq_def (c :: r)).trans rfl
theorem strOf_quote (r : Bs) : strOf (34 :: r) = (some [], r) := by rw [strOf_cons]; rfl
theorem strOf_back {d : UInt8} (h : d.toNat = 34 ∨ d.toNat = 92) (r : Bs) : strOf (92 :: d :: r) = ((strOf r).1.map (d :: ·), (strOf r).2) := by
  rw [strOf_cons]; simp [h]
theorem strOf_back_nil : strOf [92] = (none, []) := by rw [strOf_cons]; rfl
theorem strOf_plain {c : UInt8} (h0 : 32 ≤ c.toNat) (h1 : c.toNat ≤ 126) (h2 : ¬ (c.toNat = 34 ∨ c.toNat = 92)) (r : Bs) : strOf (c :: r) = ((strOf r).1.map (c :: ·), (strOf r).2) := by
  rw [strOf_cons, if_neg (by omega), if_neg (by omega), if_neg (by omega)]
theorem strOf_esc : ∀ (s r : Bs), (∀ c ∈ s, 32 ≤ c.toNat ∧ c.toNat ≤ 126) → strOf (esc s ++ (34 :: r)) = (some s, r)
  | [], r, _ => by rw [esc, List.nil_append, strOf_quote]
  | c :: q, r, h => by
    have hc := h c (by simp)
    have ih := strOf_esc q r (fun x hx => h x (by simp [hx]))
    rw [esc]
    by_cases he : c.toNat = 34 ∨ c.toNat = 92
    · rw [if_pos he, List.cons_append, List.cons_append, strOf_back he, ih]; rfl
    · rw [if_neg he, List.cons_append, strOf_plain hc.1 hc.2 he, ih]; rfl
theorem strOf_sound : ∀ (n : Nat) (inp : Bs) {s r : Bs}, inp.length ≤ n → strOf inp = (some s, r) → inp = esc s ++ (34 :: r) ∧ ∀ c ∈ s, 32 ≤ c.toNat ∧ c.toNat ≤ 126
  | n, [], s, r, _, h => by simp [strOf_nil] at h
  | 0, c :: q, s, r, hl, _ => by simp at hl
  | n + 1, c :: q, s, r, hl, h => by
    simp only [List.length_cons] at hl
    rw [strOf_cons] at h
    by_cases h1 : c.toNat < 32 ∨ 126 < c.toNat
    · rw [if_pos h1] at h; simp at h
    · rw [if_neg h1] at h
      by_cases h2 : c.toNat = 34
      · rw [if_pos h2] at h
        simp only [Prod.mk.injEq, Option.some.injEq] at h
        obtain ⟨rfl, rfl⟩ := h
        refine ⟨?_, by simp⟩
        have : c = 34 := by rw [← UInt8.ofNat_toNat (x := c), h2]; rfl
        rw [this]; rfl
      · rw [if_neg h2] at h
        by_cases h3 : c.toNat = 92
        · rw [if_pos h3] at h
          have hc : c = 92 := by rw [← UInt8.ofNat_toNat (x := c), h3]; rfl
          cases q with
          | nil => simp at h
          | cons d q' =>
            simp only at h
            by_cases h4 : d.toNat = 34 ∨ d.toNat = 92
            · rw [if_pos h4] at h
              rcases hq : strOf q' with ⟨o, r'⟩
              rw [hq] at h
              cases o with
              | none => simp at h
              | some s' =>
                simp only [Option.map_some, Prod.mk.injEq, Option.some.injEq] at h
                obtain ⟨rfl, rfl⟩ := h
                obtain ⟨e1, e2⟩ := strOf_sound n q' (by simp only [List.length_cons] at hl; omega) hq
                refine ⟨by rw [esc, if_pos h4, e1, hc]; simp, fun x hx => ?_⟩
                rcases List.mem_cons.1 hx with rfl | hx
                · omega
                · exact e2 x hx
            · rw [if_neg h4] at h; simp at h
        · rw [if_neg h3] at h
          rcases hq : strOf q with ⟨o, r'⟩
          rw [hq] at h
          cases o with
          | none => simp at h
          | some s' =>
            simp only [Option.map_some, Prod.mk.injEq, Option.some.injEq] at h
            obtain ⟨rfl, rfl⟩ := h
            obtain ⟨e1, e2⟩ := strOf_sound n q (by omega) hq
            refine ⟨by rw [esc, if_neg (by omega), e1]; simp, fun x hx => ?_⟩
            rcases List.mem_cons.1 hx with rfl | hx
            · omega
            · exact e2 x hx
theorem strOf_take : ∀ (s : Bs) (k : Nat), (∀ c ∈ s, 32 ≤ c.toNat ∧ c.toNat ≤ 126) → k ≤ (esc s).length → strOf ((esc s).take k) = (none, [])
  | [], k, _, _ => by simp [esc, strOf_nil]
  | c :: q, k, h, hk => by
    have hc := h c (by simp)
    have ih := fun j => strOf_take q j (fun x hx => h x (by simp [hx]))
    rw [esc] at hk ⊢
    by_cases he : c.toNat = 34 ∨ c.toNat = 92
    · rw [if_pos he] at hk ⊢
      match k with
      | 0 => exact strOf_nil
      | 1 => exact strOf_back_nil
      | k + 2 =>
        simp only [List.length_cons] at hk
        rw [List.take_succ_cons, List.take_succ_cons, strOf_back he, ih k (by omega)]; rfl
    · rw [if_neg he] at hk ⊢
      match k with
      | 0 => exact strOf_nil
      | k + 1 =>
        simp only [List.length_cons] at hk
        rw [List.take_succ_cons, strOf_plain hc.1 hc.2 he, ih k (by omega)]; rfl

/-! ### Names -/
theorem lcp_full : ∀ (inp x : Bs), lcp inp x = x.length → inp = x ++ inp.drop x.length
  | inp, [], _ => by simp
  | [], b :: q, h => by simp [lcp] at h
  | a :: r, b :: q, h => by
    rw [lcp] at h
    by_cases e : a = b
    · rw [if_pos e] at h
      simp only [List.length_cons, Nat.add_right_cancel_iff] at h
      subst e
      have := lcp_full r q h
      simp only [List.cons_append, List.length_cons, List.drop_succ_cons]
      rw [← this]
    · rw [if_neg e] at h; simp at h
theorem codeGo_sound (inp : Bs) : ∀ (xs : List Bs) (i far : Nat) {n : Int} {m : Nat}, codeGo inp i far xs = (some n, m) → ∃ (j : Nat) (x : Bs), xs[j]? = some x ∧ n = ((i + j : Nat) : Int) ∧ m = x.length ∧ inp = x ++ inp.drop m
  | [], i, far, n, m, h => by simp [codeGo] at h
  | x :: xs, i, far, n, m, h => by
    rw [codeGo] at h
    by_cases e : lcp inp x = x.length
    · rw [if_pos e] at h
      simp only [Prod.mk.injEq, Option.some.injEq] at h
      obtain ⟨rfl, rfl⟩ := h
      exact ⟨0, x, rfl, rfl, rfl, lcp_full inp x e⟩
    · rw [if_neg e] at h
      obtain ⟨j, y, h1, h2, h3, h4⟩ := codeGo_sound inp xs _ _ h
      exact ⟨j + 1, y, by simpa using h1, by rw [h2]; omega, h3, h4⟩
theorem codeOf_sound {inp : Bs} {n : Int} {r : Bs} (h : codeOf inp = (some n, r)) : inp = nameOf n ++ r ∧ 0 ≤ n ∧ n ≤ 14 := by
  unfold codeOf at h
  simp only [Prod.mk.injEq] at h
  obtain ⟨h1, h2⟩ := h
  rcases hq : codeGo inp 0 0 names with ⟨o, m⟩
  rw [hq] at h1 h2
  simp only at h1 h2
  subst h1
  obtain ⟨j, x, e1, e2, e3, e4⟩ := codeGo_sound inp names 0 0 hq
  have hj : j < names.length := by
    rcases Nat.lt_or_ge j names.length with h | h
    · exact h
    · rw [List.getElem?_eq_none h] at e1; cases e1
  have hl : names.length = 15 := rfl
  refine ⟨?_, by omega, by omega⟩
  rw [← h2]
  unfold nameOf
  rw [if_neg (by omega), show n.toNat = j by omega, e1]
  exact e4
theorem fifteen {P : Int → Prop} (h : ∀ i : Fin 15, P ((i : Nat) : Int)) {n : Int} (h0 : 0 ≤ n) (h1 : n ≤ 14) : P n := by
  have := h ⟨n.toNat, by omega⟩
  simp only at this
  rwa [show ((n.toNat : Nat) : Int) = n by omega] at this
theorem codeOf_name {n : Int} (h0 : 0 ≤ n) (h1 : n ≤ 14) (r : Bs) : codeOf (nameOf n ++ r) = (some n, r) := by
  have h : n = 0 ∨ n = 1 ∨ n = 2 ∨ n = 3 ∨ n = 4 ∨ n = 5 ∨ n = 6 ∨ n = 7 ∨ n = 8 ∨ n = 9 ∨ n = 10 ∨ n = 11 ∨ n = 12 ∨ n = 13 ∨ n = 14 := by omega
  rcases h with rfl | rfl | rfl | rfl | rfl | rfl | rfl | rfl | rfl | rfl | rfl | rfl | rfl | rfl | rfl
  all_goals simp [codeOf, nameOf, names, codeGo, lcp]
theorem codeOf_take {n : Int} (h0 : 0 ≤ n) (h1 : n ≤ 14) {k : Nat} (hk : k < (nameOf n).length) : codeOf ((nameOf n).take k) = (none, []) := by
  have h8 : ∀ i : Fin 15, (nameOf ((i : Nat) : Int)).length ≤ 9 := by decide
  have h9 : k < 9 := Nat.lt_of_lt_of_le hk (fifteen (P := fun n => (nameOf n).length ≤ 9) h8 h0 h1)
  have h : ∀ i : Fin 15, ∀ k : Fin 9, k.val < (nameOf ((i : Nat) : Int)).length → codeOf ((nameOf ((i : Nat) : Int)).take k.val) = (none, []) := by decide
  exact fifteen (P := fun n => ∀ k : Fin 9, k.val < (nameOf n).length → codeOf ((nameOf n).take k.val) = (none, [])) h h0 h1 ⟨k, h9⟩ hk

end Go.Proofs.YtcecgfijfnnpeaaDoor
