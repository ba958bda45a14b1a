/- The reading of a text with the open lists laid out, as plain data: the innermost one first. No program is named. -/
import Derived.Test.YtcinhndidkllbaaDoorParse2
namespace Go.Proofs.YtcinhndidkllbaaDoor
open Go.RowKit

/-- What a value that was read within these lists makes of the whole. -/
def ContV : List (List T) → Res → Res → Prop
  | [], R1, R => R = R1
  | _ :: _, .bad x, R => R = .bad x
  | l :: st, .ok t r, R => ∃ R2, Go (.tail (l ++ [t])) r R2 ∧ ContV st R2 R
def RunVal (st : List (List T)) (i : Bs) (R : Res) : Prop := ∃ R1, Go .val i R1 ∧ ContV st R1 R
def RunAft : List (List T) → T → Bs → Res → Prop
  | [], wh, i, R => R = .ok wh i
  | l :: st, _, i, R => ∃ R2, Go (.tail l) i R2 ∧ ContV st R2 R
def addT : List (List T) → T → List (List T)
  | [], _ => []
  | l :: st, t => (l ++ [t]) :: st

theorem contV_bad : ∀ (st : List (List T)) (x : Bs), ContV st (.bad x) (.bad x)
  | [], _ => rfl
  | _ :: _, _ => rfl
theorem contV_of_aft {st : List (List T)} {t : T} {r : Bs} {R : Res} (h : RunAft (addT st t) t r R) : ContV st (.ok t r) R := by
  cases st with
  | nil => exact h
  | cons l st => exact h
theorem run_one_ok {st : List (List T)} {i r : Bs} {t : T} {R : Res} (h0 : hd 123 i = false) (h1 : one i = .ok t r) (h : RunAft (addT st t) t r R) : RunVal st i R :=
  ⟨.ok t r, h1 ▸ Go.one h0, contV_of_aft h⟩
theorem run_one_bad {st : List (List T)} {i x : Bs} (h0 : hd 123 i = false) (h1 : one i = .bad x) : RunVal st i (.bad x) :=
  ⟨.bad x, h1 ▸ Go.one h0, contV_bad _ _⟩
theorem run_begin {st : List (List T)} {r : Bs} {R : Res} (h0 : hd 125 r = false) (h : RunVal ([] :: st) r R) : RunVal st (123 :: r) R := by
  obtain ⟨R1, h1, h2⟩ := h
  cases R1 with
  | bad x =>
    cases h2
    exact ⟨.bad x, Go.list h0 (Go.itemBad h1), contV_bad _ _⟩
  | ok t q =>
    obtain ⟨R2, h3, h4⟩ := h2
    exact ⟨R2, Go.list h0 (Go.item h1 h3), h4⟩
theorem tail_end {l : List T} {q : Bs} {R : Res} (h : Go (.tail l) (125 :: q) R) : R = .ok (.mk 4 0 ByteArray.empty l) q := Go.det h Go.tailEnd
theorem run_empty {st : List (List T)} {wh : T} {q : Bs} {R : Res} (h : RunAft ([] :: st) wh (125 :: q) R) : RunVal st (123 :: 125 :: q) R := by
  obtain ⟨R2, h1, h2⟩ := h
  rw [tail_end h1] at h2
  exact ⟨_, Go.none, h2⟩
theorem run_end {st : List (List T)} {l : List T} {wh : T} {r : Bs} {R : Res} (h : RunAft (addT st (.mk 4 0 ByteArray.empty l)) (.mk 4 0 ByteArray.empty l) r R) : RunAft (l :: st) wh (125 :: r) R :=
  ⟨_, Go.tailEnd, contV_of_aft h⟩
theorem run_next {st : List (List T)} {l : List T} {wh : T} {r : Bs} {R : Res} (h : RunVal (l :: st) r R) : RunAft (l :: st) wh (44 :: 32 :: r) R := by
  obtain ⟨R1, h1, h2⟩ := h
  cases R1 with
  | bad x =>
    cases h2
    exact ⟨.bad x, Go.tailOn (Go.itemBad h1), contV_bad _ _⟩
  | ok t q =>
    obtain ⟨R2, h3, h4⟩ := h2
    exact ⟨R2, Go.tailOn (Go.item h1 h3), h4⟩
theorem run_comma {st : List (List T)} {l : List T} {wh : T} {r : Bs} (h : hd 32 r = false) : RunAft (l :: st) wh (44 :: r) (.bad r) := ⟨_, Go.tailComma h, contV_bad _ _⟩
theorem run_tail {st : List (List T)} {l : List T} {wh : T} {r : Bs} (h : hd 125 r = false) (h' : hd 44 r = false) : RunAft (l :: st) wh r (.bad r) := ⟨_, Go.tailBad h h', contV_bad _ _⟩

/-! ### How many values there are -/
mutual
def cnt : T → Nat | .mk _ _ _ l => 1 + cntA l
def cntA : List T → Nat | [] => 0 | t :: r => cnt t + cntA r
end
theorem cntA_append : ∀ a b, cntA (a ++ b) = cntA a + cntA b
  | [], b => by simp [cntA]
  | x :: r, b => by simp only [List.cons_append, cntA, cntA_append r b]; omega
mutual
theorem cnt_le_sz : ∀ t, (cnt t : Int) ≤ sz t
  | .mk k n s l => by have h := cntA_le_sz l; simp only [cnt, sz]; split <;> omega
theorem cntA_le_sz : ∀ l, (cntA l : Int) ≤ szAll l
  | [] => by simp [cntA, szAll]
  | x :: r => by have h := cnt_le_sz x; have h2 := cntA_le_sz r; simp only [cntA, szAll]; omega
end
def cntS : List (List T) → Nat | [] => 0 | l :: st => 1 + cntA l + cntS st
/-- How many values were made, ahead of a value, and behind one. -/
def cV (st : List (List T)) : Nat := cntS st
def cA (st : List (List T)) (wh : T) : Nat := if st.isEmpty then cnt wh else cntS st
theorem cA_add (st : List (List T)) (t : T) : cA (addT st t) t = cntS st + cnt t := by
  cases st with
  | nil => simp [addT, cA, cntS]
  | cons l st => simp [addT, cA, cntS, cntA_append, cntA]; omega
theorem cA_cons (l : List T) (st : List (List T)) (wh : T) : cA (l :: st) wh = cntS (l :: st) := rfl
theorem addT_length (st : List (List T)) (t : T) : (addT st t).length = st.length := by cases st <;> rfl

/-- How what is made stands to what would be: the same, as long as there is room; else full. (sa: what would be; st: what is.) -/
def Room (sa st : List (List T)) (sk md : Nat) : Prop := (md ≤ 4096 ∧ sk = 0 ∧ st = sa) ∨ (md = 4097 ∧ sa.length = st.length + sk ∧ (st = [] → sk = 0))
structure SimV (sa st : List (List T)) (sk md : Nat) : Prop where
  c : md = cntS st
  le : md ≤ cntS sa
  r : Room sa st sk md
structure SimA (sa st : List (List T)) (wa wr : T) (sk md : Nat) : Prop where
  c : md = cA st wr
  le : md ≤ cA sa wa
  r : Room sa st sk md
  w : st = [] → md ≤ 4096 → wr = wa

theorem SimV.start : SimV [] [] 0 0 := ⟨rfl, Nat.le_refl _, .inl ⟨by omega, rfl, rfl⟩⟩
theorem SimV.begin {sa st : List (List T)} {sk md : Nat} (h : SimV sa st sk md) (hm : md ≤ 4096) : SimV ([] :: sa) ([] :: st) sk (md + 1) := by
  have h1 := h.c; have h2 := h.le
  refine ⟨by simp [cntS, cntA]; omega, by simp [cntS, cntA]; omega, ?_⟩
  rcases h.r with ⟨_, r2, r3⟩ | ⟨r1, _⟩
  · subst r2 r3
    by_cases h3 : md + 1 ≤ 4096
    · exact .inl ⟨h3, rfl, rfl⟩
    · exact .inr ⟨by omega, rfl, fun _ => rfl⟩
  · omega
theorem SimV.skip {sa st : List (List T)} {sk md : Nat} (h : SimV sa st sk md) (hm : ¬ md ≤ 4096) : SimV ([] :: sa) st (sk + 1) md ∧ st ≠ [] := by
  have h1 := h.c; have h2 := h.le
  rcases h.r with ⟨r1, _⟩ | ⟨r1, r2, r3⟩
  · omega
  · have hne : st ≠ [] := by intro e; subst e; simp [cntS] at h1; omega
    exact ⟨⟨h1, by simp [cntS, cntA]; omega, .inr ⟨r1, by simp; omega, fun e => absurd e hne⟩⟩, hne⟩
theorem SimV.single {sa st : List (List T)} {sk md : Nat} {t : T} (h : SimV sa st sk md) (ht : cnt t = 1) (hm : md ≤ 4096) : SimA (addT sa t) (addT st t) t t sk (md + 1) := by
  have h1 := h.c; have h2 := h.le
  refine ⟨by rw [cA_add]; omega, by rw [cA_add]; omega, ?_, fun _ _ => rfl⟩
  rcases h.r with ⟨_, r2, r3⟩ | ⟨r1, _⟩
  · subst r2 r3
    by_cases h3 : md + 1 ≤ 4096
    · exact .inl ⟨h3, rfl, rfl⟩
    · exact .inr ⟨by omega, rfl, fun _ => rfl⟩
  · omega
theorem SimV.pass {sa st : List (List T)} {sk md : Nat} {t wr : T} (h : SimV sa st sk md) (ht : cnt t = 1) (hm : ¬ md ≤ 4096) : SimA (addT sa t) st t wr sk md ∧ st ≠ [] := by
  have h1 := h.c; have h2 := h.le
  rcases h.r with ⟨r1, _⟩ | ⟨r1, r2, r3⟩
  · omega
  · have hne : st ≠ [] := by intro e; subst e; simp [cntS] at h1; omega
    refine ⟨⟨?_, by rw [cA_add]; omega, .inr ⟨r1, by rw [addT_length]; exact r2, fun e => absurd e hne⟩, fun h => absurd h hne⟩, hne⟩
    cases st with
    | nil => exact absurd rfl hne
    | cons l st => rw [cA_cons]; exact h1
/-- A list that was begun and has nothing yet. -/
theorem SimV.aft {sa st : List (List T)} {sk md : Nat} {wa wr : T} (h : SimV sa st sk md) (hs : st ≠ []) : SimA sa st wa wr sk md := by
  have h1 := h.c; have h2 := h.le
  have hsa : sa ≠ [] := by
    rcases h.r with ⟨_, _, r3⟩ | ⟨_, r2, _⟩
    · rw [← r3]; exact hs
    · intro e; subst e; have := List.length_pos_iff.2 hs; simp at r2; omega
  cases st with
  | nil => exact absurd rfl hs
  | cons l st =>
    cases sa with
    | nil => exact absurd rfl hsa
    | cons la sa => exact ⟨h1, h2, h.r, fun e => absurd e hs⟩
theorem SimA.skip {sa st : List (List T)} {sk md : Nat} {la : List T} {wa wr : T} (h : SimA (la :: sa) st wa wr (sk + 1) md) : SimA (addT sa (.mk 4 0 ByteArray.empty la)) st (.mk 4 0 ByteArray.empty la) wr sk md := by
  have h1 := h.c; have h2 := h.le
  rcases h.r with ⟨_, r2, _⟩ | ⟨r1, r2, r3⟩
  · omega
  · have hne : st ≠ [] := fun e => by have := r3 e; omega
    refine ⟨h1, ?_, .inr ⟨r1, by rw [addT_length]; simp at r2; omega, fun e => absurd e hne⟩, fun e => absurd e hne⟩
    rw [cA_add]; rw [cA_cons] at h2; simp only [cntS] at h2; simp only [cnt]; omega
theorem SimA.end_ {sa st : List (List T)} {md : Nat} {la l : List T} {wa wr : T} (h : SimA (la :: sa) (l :: st) wa wr 0 md) : SimA (addT sa (.mk 4 0 ByteArray.empty la)) (addT st (.mk 4 0 ByteArray.empty l)) (.mk 4 0 ByteArray.empty la) (.mk 4 0 ByteArray.empty l) 0 md := by
  have h1 := h.c; have h2 := h.le
  rw [cA_cons] at h1 h2
  simp only [cntS] at h1 h2
  refine ⟨by rw [cA_add]; simp only [cnt]; omega, by rw [cA_add]; simp only [cnt]; omega, ?_, ?_⟩
  · rcases h.r with ⟨r1, _, r3⟩ | ⟨r1, r2, _⟩
    · injection r3 with e1 e2
      subst e1 e2
      exact .inl ⟨r1, rfl, rfl⟩
    · exact .inr ⟨r1, by rw [addT_length, addT_length]; simpa using r2, fun _ => rfl⟩
  · intro _ hm
    rcases h.r with ⟨_, _, r3⟩ | ⟨r1, _⟩
    · injection r3 with e1 e2
      rw [e1]
    · omega
/-- In the end: what was made is what was read, or it is too much, both. -/
theorem SimA.done {sa : List (List T)} {sk md : Nat} {wa wr : T} (h : SimA sa [] wa wr sk md) : sa = [] ∧ ((cnt wa ≤ 4096 ∧ wr = wa) ∨ (4096 < cnt wa ∧ 4096 < cnt wr)) := by
  have h1 := h.c; have h2 := h.le
  have hsa : sa = [] := by
    rcases h.r with ⟨_, _, r3⟩ | ⟨_, r2, r3⟩
    · exact r3.symm
    · exact List.eq_nil_of_length_eq_zero (by rw [r2, r3 rfl]; rfl)
  subst hsa
  refine ⟨rfl, ?_⟩
  have e1 : cA [] wr = cnt wr := rfl
  have e2 : cA [] wa = cnt wa := rfl
  rw [e1] at h1; rw [e2] at h2
  by_cases hm : md ≤ 4096
  · have := h.w rfl hm
    exact .inl ⟨by rw [← this]; omega, this⟩
  · exact .inr ⟨by omega, by omega⟩
theorem SimA.next {sa st : List (List T)} {sk md : Nat} {wa wr : T} (h : SimA sa st wa wr sk md) (hs : st ≠ []) : SimV sa st sk md ∧ sa ≠ [] := by
  have h1 := h.c; have h2 := h.le
  have hsa : sa ≠ [] := by
    rcases h.r with ⟨_, _, r3⟩ | ⟨_, r2, _⟩
    · rw [← r3]; exact hs
    · intro e; subst e; have := List.length_pos_iff.2 hs; simp at r2; omega
  cases st with
  | nil => exact absurd rfl hs
  | cons l st =>
    cases sa with
    | nil => exact absurd rfl hsa
    | cons la sa => exact ⟨⟨h1, h2, h.r⟩, by simp⟩
end Go.Proofs.YtcinhndidkllbaaDoor
