/- The walk of the statement on loops. -/
import Derived.Test.YtlinclbodbbemaaDoorLawTreeBounds
import Derived.Test.YtlinclbodbbemaaDoorSeeAt
namespace Go.Proofs.YtlinclbodbbemaaDoor
open Go.RowKit
set_option maxRecDepth 100000

def oneN : Nd := .mk 1 0 ⟨#[]⟩ (.mk 0 1 ⟨#[]⟩ []) []
def blkN (l : List Nd) : Nd := .mk 52 0 ⟨#[]⟩ zV l
/-- A statement around another one. -/
def wrapN (k : Nat) (x : Nd) : Nd :=
  if k = 0 then .mk 44 0 ⟨#[]⟩ zV [oneN, blkN [x]] else if k = 1 then .mk 48 0 ⟨#[]⟩ zV [oneN, blkN [x]] else if k = 2 then .mk 41 0 ⟨#[]⟩ zV [oneN, blkN [x]] else
  if k = 3 then .mk 51 0 ⟨#[]⟩ zV [blkN [x], blkN []] else .mk 49 0 ⟨#[]⟩ zV [blkN [x], .mk 50 0 ⟨#[]⟩ zV [.mk 25 0 ⟨#[]⟩ zV [], blkN []]]
def outN (k : Nat) (lp : Bool) : Bool := if k = 0 then true else if k = 1 then false else lp

theorem oneN_ck (lp : Bool) : ckN oneN 3 lp = none := by
  have h1 : ∀ lp, shapeBad 1 3 lp ⟨#[]⟩ (.mk 0 1 ⟨#[]⟩ []) 0 = false := by intro lp; cases lp <;> kernel_rfl
  rw [oneN, ckN, List.length_nil, h1, if_neg (by simp), if_neg (by decide), ckL]
theorem blkN_ck (x : Nd) (lp : Bool) : ckN (blkN [x]) 1 lp = ckN x 0 lp := by
  have h1 : ∀ lp, shapeBad 52 1 lp ⟨#[]⟩ zV 1 = false := by intro lp; cases lp <;> kernel_rfl
  have h2 : loopIn 52 lp = lp := by cases lp <;> rfl
  have h3 : placeInN 52 1 ((0 : Nat) : Int) (((1 : Nat) : Int) - 1) = 0 := by decide
  rw [blkN, ckN, show ([x] : List Nd).length = 1 from rfl, h1, if_neg (by simp), if_neg (by decide), ckL, h2, h3, ckL]
  cases ckN x 0 lp <;> rfl
theorem blk0_ck (lp : Bool) : ckN (blkN []) 1 lp = none := by
  have h1 : ∀ lp, shapeBad 52 1 lp ⟨#[]⟩ zV 0 = false := by intro lp; cases lp <;> kernel_rfl
  rw [blkN, ckN, List.length_nil, h1, if_neg (by simp), if_neg (by decide), ckL]
theorem two_ck (o : Int) (a b : Nd) (lp : Bool) (h1 : shapeBad o 0 lp ⟨#[]⟩ zV 2 = false) (h2 : nameBad o ⟨#[]⟩ = false) : ckN (.mk o 0 ⟨#[]⟩ zV [a, b]) 0 lp =
    match ckN a (placeInN o 0 ((0 : Nat) : Int) (((2 : Nat) : Int) - 1)) (loopIn o lp) with
    | some f => some f
    | none => ckN b (placeInN o 0 ((1 : Nat) : Int) (((2 : Nat) : Int) - 1)) (loopIn o lp) := by
  rw [ckN, show ([a, b] : List Nd).length = 2 from rfl, h1, if_neg (by simp), h2, if_neg (by simp), ckL, ckL, ckL]
  cases ckN a (placeInN o 0 ((0 : Nat) : Int) (((2 : Nat) : Int) - 1)) (loopIn o lp) with
  | some f => rfl
  | none => cases ckN b (placeInN o 0 ((1 : Nat) : Int) (((2 : Nat) : Int) - 1)) (loopIn o lp) <;> rfl
theorem exc_ck (lp : Bool) : ckN (.mk 50 0 ⟨#[]⟩ zV [.mk 25 0 ⟨#[]⟩ zV [], blkN []]) 2 lp = none := by cases lp <;> kernel_rfl
theorem wrapN_ck (k : Nat) (x : Nd) (lp : Bool) : ckN (wrapN k x) 0 lp = ckN x 0 (outN k lp) := by
  have hs : ∀ o : Int, o = 44 ∨ o = 48 ∨ o = 41 ∨ o = 51 ∨ o = 49 → shapeBad o 0 lp ⟨#[]⟩ zV 2 = false ∧ nameBad o ⟨#[]⟩ = false := by
    intro o ho
    rcases ho with rfl | rfl | rfl | rfl | rfl <;> (cases lp <;> exact ⟨by kernel_rfl, by decide⟩)
  unfold wrapN outN
  by_cases h0 : k = 0
  · rw [if_pos h0, if_pos h0, two_ck _ _ _ _ (hs 44 (by simp)).1 (hs 44 (by simp)).2, show placeInN 44 0 ((0 : Nat) : Int) (((2 : Nat) : Int) - 1) = 3 by decide, show placeInN 44 0 ((1 : Nat) : Int) (((2 : Nat) : Int) - 1) = 1 by decide, oneN_ck, blkN_ck]; cases lp <;> rfl
  rw [if_neg h0, if_neg h0]
  by_cases h1 : k = 1
  · rw [if_pos h1, if_pos h1, two_ck _ _ _ _ (hs 48 (by simp)).1 (hs 48 (by simp)).2, show placeInN 48 0 ((0 : Nat) : Int) (((2 : Nat) : Int) - 1) = 3 by decide, show placeInN 48 0 ((1 : Nat) : Int) (((2 : Nat) : Int) - 1) = 1 by decide, oneN_ck, blkN_ck]; cases lp <;> rfl
  rw [if_neg h1, if_neg h1]
  by_cases h2 : k = 2
  · rw [if_pos h2, two_ck _ _ _ _ (hs 41 (by simp)).1 (hs 41 (by simp)).2, show placeInN 41 0 ((0 : Nat) : Int) (((2 : Nat) : Int) - 1) = 3 by decide, show placeInN 41 0 ((1 : Nat) : Int) (((2 : Nat) : Int) - 1) = 1 by decide, oneN_ck, blkN_ck]; cases lp <;> rfl
  rw [if_neg h2]
  by_cases h3 : k = 3
  · rw [if_pos h3, two_ck _ _ _ _ (hs 51 (by simp)).1 (hs 51 (by simp)).2, show placeInN 51 0 ((0 : Nat) : Int) (((2 : Nat) : Int) - 1) = 1 by decide, show placeInN 51 0 ((1 : Nat) : Int) (((2 : Nat) : Int) - 1) = 1 by decide, blkN_ck, blk0_ck, show loopIn 51 lp = lp by cases lp <;> rfl]
    cases ckN x 0 lp <;> rfl
  rw [if_neg h3, two_ck _ _ _ _ (hs 49 (by simp)).1 (hs 49 (by simp)).2, show placeInN 49 0 ((0 : Nat) : Int) (((2 : Nat) : Int) - 1) = 1 by decide, show placeInN 49 0 ((1 : Nat) : Int) (((2 : Nat) : Int) - 1) = 2 by decide, blkN_ck, exc_ck, show loopIn 49 lp = lp by cases lp <;> rfl]
  cases ckN x 0 lp <;> rfl
theorem wrapN_cnt (k : Nat) (x : Nd) : cnt (wrapN k x) ≤ cnt x + 6 := by
  unfold wrapN
  (repeat' split) <;> simp only [cnt, cntAll, oneN, blkN] <;> omega
theorem wrapN_dp (k : Nat) (x : Nd) : dpN (wrapN k x) ≤ dpN x + 2 := by
  have hx : 1 ≤ dpN x := by obtain ⟨_, _, _, _, _⟩ := x; simp only [dpN]; omega
  unfold wrapN
  (repeat' split) <;> simp only [dpN, dpNAll, oneN, blkN] <;> omega

/-- Does the innermost word hold, and is it said already? -/
structure LSt (x : Nd) (fine done : Bool) : Prop where
  inv : fine = true → done = true
  ck : ∀ lp, ckN x 0 lp = if done then (if fine then none else some (0, 2)) else (if lp then none else some (0, 2))
theorem LSt.start (o : Int) (h : o = 45 ∨ o = 46) : LSt (.mk o 0 ⟨#[]⟩ zV []) false false :=
  ⟨fun h => (by cases h), fun lp => by rcases h with rfl | rfl <;> (cases lp <;> kernel_rfl)⟩
theorem LSt.next {x : Nd} {fine done : Bool} (h : LSt x fine done) (k : Nat) : LSt (wrapN k x) (if k = 0 then fine || !done else fine) (if k = 0 ∨ k = 1 then true else done) := by
  have hi := h.inv
  refine ⟨?_, fun lp => ?_⟩
  · by_cases h0 : k = 0
    · simp [h0]
    · by_cases h1 : k = 1
      · simp [h1]
      · simp [h0, h1]; exact hi
  · rw [wrapN_ck, h.ck]
    unfold outN
    by_cases h0 : k = 0
    · simp only [h0, if_true]
      cases fine <;> cases done <;> simp_all
    · by_cases h1 : k = 1
      · simp only [h1, if_true]
        cases fine <;> cases done <;> simp_all
      · simp [h0, h1]
theorem LSt.vld {x : Nd} {fine done : Bool} (h : LSt x fine done) (hc : cnt x ≤ 4096) (hd : dpN x ≤ 40) : vldF [x] 0 = if fine then .ok else .at_ 0 2 := by
  unfold vldF
  have h1 : cntAll [x] = cnt x := by rw [cntAll, cntAll]; omega
  have h2 : dpNAll [x] = dpN x := by rw [dpNAll, dpNAll]; omega
  rw [h1, h2, if_neg (by omega), if_neg (by omega), firstF, h.ck]
  have hi := h.inv
  cases fine <;> cases done <;> simp_all [firstF]

/-- Two nodes in a row of their own. -/
theorem two_row {w : World} {lo hi : Nat} {t u : Nd} {c0 c1 c2 c3 c4 c5 c6 c7 d0 d1 d2 d3 d4 d5 d6 d7 : Value} (h : NRep w lo hi t (.agg #[c0, c1, c2, c3, c4, c5, c6, c7])) (h' : NRep w lo hi u (.agg #[d0, d1, d2, d3, d4, d5, d6, d7])) (g : Nat) (ty : TypeId) (hg : hi ≤ g) (hgl : lo ≤ g)
    (hb : w.heap[g]? = some (.cells #[c0, c1, c2, c3, c4, c5, c6, c7, d0, d1, d2, d3, d4, d5, d6, d7] ty (0, 0))) : NAll w lo (g + 1) [t, u] (some ⟨g, 0, none⟩) := by
  refine NAll.of hgl (Nat.lt_succ_self g) [t, u] 0 (fun i hi => ?_)
  have hc : ∀ (o : Nat) (x : Value), (#[c0, c1, c2, c3, c4, c5, c6, c7, d0, d1, d2, d3, d4, d5, d6, d7] : Array Value)[o]? = some x → w.cell? ⟨g, o, none⟩ = some x := fun o x hx => (cell_of_row _ _ o _ _ _ hb).trans hx
  match i, hi with
  | 0, _ => exact ⟨_, _, _, _, _, _, _, _, hc 0 _ rfl, hc 1 _ rfl, hc 2 _ rfl, hc 3 _ rfl, hc 4 _ rfl, hc 5 _ rfl, hc 6 _ rfl, hc 7 _ rfl, h.wide (Nat.le_refl _) (by omega)⟩
  | 1, _ => exact ⟨_, _, _, _, _, _, _, _, hc 8 _ rfl, hc 9 _ rfl, hc 10 _ rfl, hc 11 _ rfl, hc 12 _ rfl, hc 13 _ rfl, hc 14 _ rfl, hc 15 _ rfl, h'.wide (Nat.le_refl _) (by omega)⟩
  | i + 2, hi => exact absurd hi (by simp)

/-- Numbers in memory. -/
structure IntsAt (W : World) (p : Option Addr) (zs : List Int) : Prop where
  wf : ∀ z ∈ zs, I64 z
  at_ : zs = [] ∨ ∃ b off, p = some ⟨b, off, none⟩ ∧ b < W.heap.size ∧ ∀ i (h : i < zs.length), W.cell? ⟨b, off + i, none⟩ = some (.int .i64 zs[i])

theorem loops_start (w w1 : World) (hb : Below w.heap.size w w1) (o : Int) (ho : I64 o) :
    NBx w ((w1.alloc (.cells #[.int .i64 o, .int .i64 0, .string ⟨#[]⟩, .int .i64 0, .int .i64 0, .string ⟨#[]⟩, .slice none 0 0, .slice none 0 0] 39)).alloc (.cells #[.int .i64 1, .int .i64 0, .string ⟨#[]⟩, .int .i64 0, .int .i64 1, .string ⟨#[]⟩, .slice none 0 0, .slice none 0 0] 39)) w1.heap.size (.mk o 0 ⟨#[]⟩ zV []) o none 0 0 ∧
    ((w1.alloc (.cells #[.int .i64 o, .int .i64 0, .string ⟨#[]⟩, .int .i64 0, .int .i64 0, .string ⟨#[]⟩, .slice none 0 0, .slice none 0 0] 39)).alloc (.cells #[.int .i64 1, .int .i64 0, .string ⟨#[]⟩, .int .i64 0, .int .i64 1, .string ⟨#[]⟩, .slice none 0 0, .slice none 0 0] 39)).heap[w1.heap.size + 1]? = some (.cells #[.int .i64 1, .int .i64 0, .string ⟨#[]⟩, .int .i64 0, .int .i64 1, .string ⟨#[]⟩, .slice none 0 0, .slice none 0 0] 39 (0, 0)) := by
  refine ⟨⟨(hb.alloc hb.size _).alloc (by have := hb.size; simp; omega) _, heap_alloc_ _ _ _ _ (heap_alloc_new w1 _), NRep.mk_ (l := []) ho (by unfold I64; omega) (Nat.le_refl _) (by simp) (NAll.nil _ _ _ _)⟩, ?_⟩
  have h := heap_alloc_new (w1.alloc (.cells #[.int .i64 o, .int .i64 0, .string ⟨#[]⟩, .int .i64 0, .int .i64 0, .string ⟨#[]⟩, .slice none 0 0, .slice none 0 0] 39)) (.cells #[.int .i64 1, .int .i64 0, .string ⟨#[]⟩, .int .i64 0, .int .i64 1, .string ⟨#[]⟩, .slice none 0 0, .slice none 0 0] 39)
  rw [World.size_alloc] at h
  exact h

theorem loop_base {w wr : World} {g : Nat} {x : Nd} {o : Int} {q : Option Addr} {len cp : Nat} (h : NBx w wr g x o q len cp) (hg : w.heap.size ≤ g) (o' : Int) (m : Nat) :
    Below w.heap.size w (((set8 wr g 0 (.int .i64 o') (.int .i64 0) (.string ⟨#[]⟩) (.int .i64 0) (.int .i64 0) (.string ⟨#[]⟩) (.slice none 0 0) (.slice (some ⟨m, 0, none⟩) 2 2)).alloc (.cells #[.int .i64 o, .int .i64 0, .string ⟨#[]⟩, .int .i64 0, .int .i64 0, .string ⟨#[]⟩, .slice none 0 0, .slice q len cp] 39)).alloc (.cells #[.int .i64 52, .int .i64 0, .string ⟨#[]⟩, .int .i64 0, .int .i64 0, .string ⟨#[]⟩, .slice none 0 0, .slice (some ⟨wr.heap.size, 0, none⟩) 1 1] 39)) ∧ (((set8 wr g 0 (.int .i64 o') (.int .i64 0) (.string ⟨#[]⟩) (.int .i64 0) (.int .i64 0) (.string ⟨#[]⟩) (.slice none 0 0) (.slice (some ⟨m, 0, none⟩) 2 2)).alloc (.cells #[.int .i64 o, .int .i64 0, .string ⟨#[]⟩, .int .i64 0, .int .i64 0, .string ⟨#[]⟩, .slice none 0 0, .slice q len cp] 39)).alloc (.cells #[.int .i64 52, .int .i64 0, .string ⟨#[]⟩, .int .i64 0, .int .i64 0, .string ⟨#[]⟩, .slice none 0 0, .slice (some ⟨wr.heap.size, 0, none⟩) 1 1] 39)).heap[g]? = some (.cells #[.int .i64 o', .int .i64 0, .string ⟨#[]⟩, .int .i64 0, .int .i64 0, .string ⟨#[]⟩, .slice none 0 0, .slice (some ⟨m, 0, none⟩) 2 2] 39 (0, 0)) ∧ NRep (((set8 wr g 0 (.int .i64 o') (.int .i64 0) (.string ⟨#[]⟩) (.int .i64 0) (.int .i64 0) (.string ⟨#[]⟩) (.slice none 0 0) (.slice (some ⟨m, 0, none⟩) 2 2)).alloc (.cells #[.int .i64 o, .int .i64 0, .string ⟨#[]⟩, .int .i64 0, .int .i64 0, .string ⟨#[]⟩, .slice none 0 0, .slice q len cp] 39)).alloc (.cells #[.int .i64 52, .int .i64 0, .string ⟨#[]⟩, .int .i64 0, .int .i64 0, .string ⟨#[]⟩, .slice none 0 0, .slice (some ⟨wr.heap.size, 0, none⟩) 1 1] 39)) (g + 1) (wr.heap.size + 1 + 1) (blkN [x]) (.agg #[.int .i64 52, .int .i64 0, .string ⟨#[]⟩, .int .i64 0, .int .i64 0, .string ⟨#[]⟩, .slice none 0 0, .slice (some ⟨wr.heap.size, 0, none⟩) 1 1]) ∧ (((set8 wr g 0 (.int .i64 o') (.int .i64 0) (.string ⟨#[]⟩) (.int .i64 0) (.int .i64 0) (.string ⟨#[]⟩) (.slice none 0 0) (.slice (some ⟨m, 0, none⟩) 2 2)).alloc (.cells #[.int .i64 o, .int .i64 0, .string ⟨#[]⟩, .int .i64 0, .int .i64 0, .string ⟨#[]⟩, .slice none 0 0, .slice q len cp] 39)).alloc (.cells #[.int .i64 52, .int .i64 0, .string ⟨#[]⟩, .int .i64 0, .int .i64 0, .string ⟨#[]⟩, .slice none 0 0, .slice (some ⟨wr.heap.size, 0, none⟩) 1 1] 39)).heap.size = wr.heap.size + 1 + 1 ∧ ∀ b, b ≠ g → b < wr.heap.size → (((set8 wr g 0 (.int .i64 o') (.int .i64 0) (.string ⟨#[]⟩) (.int .i64 0) (.int .i64 0) (.string ⟨#[]⟩) (.slice none 0 0) (.slice (some ⟨m, 0, none⟩) 2 2)).alloc (.cells #[.int .i64 o, .int .i64 0, .string ⟨#[]⟩, .int .i64 0, .int .i64 0, .string ⟨#[]⟩, .slice none 0 0, .slice q len cp] 39)).alloc (.cells #[.int .i64 52, .int .i64 0, .string ⟨#[]⟩, .int .i64 0, .int .i64 0, .string ⟨#[]⟩, .slice none 0 0, .slice (some ⟨wr.heap.size, 0, none⟩) 1 1] 39)).heap[b]? = wr.heap[b]? := by
  have hgw := heap_lt h.box
  have hbel := below_set8 (o := 0) h.bel hg (.int .i64 o') (.int .i64 0) (.string ⟨#[]⟩) (.int .i64 0) (.int .i64 0) (.string ⟨#[]⟩) (.slice none 0 0) (.slice (some ⟨m, 0, none⟩) 2 2)
  have hbox := heap_set8_box h.box (.int .i64 o') (.int .i64 0) (.string ⟨#[]⟩) (.int .i64 0) (.int .i64 0) (.string ⟨#[]⟩) (.slice none 0 0) (.slice (some ⟨m, 0, none⟩) 2 2)
  have hrep := h.rep.keep8 (g := g) (o := 0) (Or.inl (Nat.lt_succ_self g)) (.int .i64 o') (.int .i64 0) (.string ⟨#[]⟩) (.int .i64 0) (.int .i64 0) (.string ⟨#[]⟩) (.slice none 0 0) (.slice (some ⟨m, 0, none⟩) 2 2)
  have hz := size_set8 wr g 0 (.int .i64 o') (.int .i64 0) (.string ⟨#[]⟩) (.int .i64 0) (.int .i64 0) (.string ⟨#[]⟩) (.slice none 0 0) (.slice (some ⟨m, 0, none⟩) 2 2)
  have hoth : ∀ b, b ≠ g → (set8 wr g 0 (.int .i64 o') (.int .i64 0) (.string ⟨#[]⟩) (.int .i64 0) (.int .i64 0) (.string ⟨#[]⟩) (.slice none 0 0) (.slice (some ⟨m, 0, none⟩) 2 2)).heap[b]? = wr.heap[b]? := fun b hb => heap_set8 hb _ _ _ _ _ _ _ _ _
  generalize (set8 wr g 0 (.int .i64 o') (.int .i64 0) (.string ⟨#[]⟩) (.int .i64 0) (.int .i64 0) (.string ⟨#[]⟩) (.slice none 0 0) (.slice (some ⟨m, 0, none⟩) 2 2)) = W1 at *
  have hnew := heap_alloc_new W1 (.cells #[.int .i64 o, .int .i64 0, .string ⟨#[]⟩, .int .i64 0, .int .i64 0, .string ⟨#[]⟩, .slice none 0 0, .slice q len cp] 39)
  rw [hz] at hnew
  have hrep2 := hrep.alloc (by omega) (.cells #[.int .i64 o, .int .i64 0, .string ⟨#[]⟩, .int .i64 0, .int .i64 0, .string ⟨#[]⟩, .slice none 0 0, .slice q len cp] 39)
  have hone := one_row' hrep2 wr.heap.size _ (Nat.le_refl _) (by omega) hnew
  have hm : NRep (W1.alloc (.cells #[.int .i64 o, .int .i64 0, .string ⟨#[]⟩, .int .i64 0, .int .i64 0, .string ⟨#[]⟩, .slice none 0 0, .slice q len cp] 39)) (g + 1) (wr.heap.size + 1) (blkN [x]) (.agg #[.int .i64 52, .int .i64 0, .string ⟨#[]⟩, .int .i64 0, .int .i64 0, .string ⟨#[]⟩, .slice none 0 0, .slice (some ⟨wr.heap.size, 0, none⟩) 1 1]) :=
    NRep.mk_ (l := [x]) (by unfold I64; omega) (by unfold I64; omega) (Nat.le_refl 1) (by simp) hone
  have hs := h.bel.size
  refine ⟨(hbel.alloc (by rw [hz]; exact hs) _).alloc (by rw [World.size_alloc, hz]; omega) _, heap_alloc_ _ _ _ _ (heap_alloc_ _ _ _ _ hbox), (hm.alloc (by rw [World.size_alloc, hz]; omega) _).wide (Nat.le_refl _) (by omega), by rw [World.size_alloc, World.size_alloc, hz], fun b h1 h2 => ?_⟩
  rw [Below.heap_alloc _ _ _ (by rw [World.size_alloc, hz]; omega), Below.heap_alloc _ _ _ (by rw [hz]; omega)]
  exact hoth b h1
theorem one_rep (W : World) (lo hi : Nat) : NRep W lo hi oneN (.agg #[.int .i64 1, .int .i64 0, .string ⟨#[]⟩, .int .i64 0, .int .i64 1, .string ⟨#[]⟩, .slice none 0 0, .slice none 0 0]) := by
  unfold oneN NRep
  refine ⟨0, 1, ⟨#[]⟩, none, 0, 0, none, 0, rfl, by unfold I64; omega, by unfold I64; omega, by show (0 : Nat) ≤ _; omega, ?_, Nat.le_refl _, by simp, NAll.nil _ _ _ _⟩
  unfold Rep
  exact ⟨none, 0, rfl, by unfold I64; omega, by unfold I64; omega, by show (0 : Nat) ≤ _; omega, Nat.le_refl _, by simp, by unfold RepAll; trivial⟩
theorem leaf_rep (W : World) (lo hi : Nat) (o : Int) (ho : I64 o) : NRep W lo hi (.mk o 0 ⟨#[]⟩ zV []) (.agg #[.int .i64 o, .int .i64 0, .string ⟨#[]⟩, .int .i64 0, .int .i64 0, .string ⟨#[]⟩, .slice none 0 0, .slice none 0 0]) :=
  NRep.mk_ (l := []) ho (by unfold I64; omega) (Nat.le_refl _) (by simp) (NAll.nil _ _ _ _)
theorem wrap_0 {w wr : World} {g : Nat} {x : Nd} {o : Int} {q : Option Addr} {len cp : Nat} {g7 : Nat} (h : NBx w wr g x o q len cp) (h7 : wr.heap[g7]? = some (.cells #[.int .i64 1, .int .i64 0, .string ⟨#[]⟩, .int .i64 0, .int .i64 1, .string ⟨#[]⟩, .slice none 0 0, .slice none 0 0] 39 (0, 0))) (hg : w.heap.size ≤ g) (hg7 : g7 ≠ g ∧ g7 = g.succ) :
    NBx w ((((set8 wr g 0 (.int .i64 44) (.int .i64 0) (.string ⟨#[]⟩) (.int .i64 0) (.int .i64 0) (.string ⟨#[]⟩) (.slice none 0 0) (.slice (some ⟨wr.heap.size + 1 + 1, 0, none⟩) 2 2)).alloc (.cells #[.int .i64 o, .int .i64 0, .string ⟨#[]⟩, .int .i64 0, .int .i64 0, .string ⟨#[]⟩, .slice none 0 0, .slice q len cp] 39)).alloc (.cells #[.int .i64 52, .int .i64 0, .string ⟨#[]⟩, .int .i64 0, .int .i64 0, .string ⟨#[]⟩, .slice none 0 0, .slice (some ⟨wr.heap.size, 0, none⟩) 1 1] 39)).alloc (.cells #[.int .i64 1, .int .i64 0, .string ⟨#[]⟩, .int .i64 0, .int .i64 1, .string ⟨#[]⟩, .slice none 0 0, .slice none 0 0, .int .i64 52, .int .i64 0, .string ⟨#[]⟩, .int .i64 0, .int .i64 0, .string ⟨#[]⟩, .slice none 0 0, .slice (some ⟨wr.heap.size, 0, none⟩) 1 1] 39)) g (wrapN 0 x) 44 (some ⟨wr.heap.size + 1 + 1, 0, none⟩) 2 2 ∧ ((((set8 wr g 0 (.int .i64 44) (.int .i64 0) (.string ⟨#[]⟩) (.int .i64 0) (.int .i64 0) (.string ⟨#[]⟩) (.slice none 0 0) (.slice (some ⟨wr.heap.size + 1 + 1, 0, none⟩) 2 2)).alloc (.cells #[.int .i64 o, .int .i64 0, .string ⟨#[]⟩, .int .i64 0, .int .i64 0, .string ⟨#[]⟩, .slice none 0 0, .slice q len cp] 39)).alloc (.cells #[.int .i64 52, .int .i64 0, .string ⟨#[]⟩, .int .i64 0, .int .i64 0, .string ⟨#[]⟩, .slice none 0 0, .slice (some ⟨wr.heap.size, 0, none⟩) 1 1] 39)).alloc (.cells #[.int .i64 1, .int .i64 0, .string ⟨#[]⟩, .int .i64 0, .int .i64 1, .string ⟨#[]⟩, .slice none 0 0, .slice none 0 0, .int .i64 52, .int .i64 0, .string ⟨#[]⟩, .int .i64 0, .int .i64 0, .string ⟨#[]⟩, .slice none 0 0, .slice (some ⟨wr.heap.size, 0, none⟩) 1 1] 39)).heap[g7]? = some (.cells #[.int .i64 1, .int .i64 0, .string ⟨#[]⟩, .int .i64 0, .int .i64 1, .string ⟨#[]⟩, .slice none 0 0, .slice none 0 0] 39 (0, 0)) := by
  obtain ⟨b1, b2, b3, b4, b5⟩ := loop_base h hg 44 (wr.heap.size + 1 + 1)
  have hlt := heap_lt h7
  have hgw := heap_lt h.box
  have hs := h.bel.size
  generalize (((set8 wr g 0 (.int .i64 44) (.int .i64 0) (.string ⟨#[]⟩) (.int .i64 0) (.int .i64 0) (.string ⟨#[]⟩) (.slice none 0 0) (.slice (some ⟨wr.heap.size + 1 + 1, 0, none⟩) 2 2)).alloc (.cells #[.int .i64 o, .int .i64 0, .string ⟨#[]⟩, .int .i64 0, .int .i64 0, .string ⟨#[]⟩, .slice none 0 0, .slice q len cp] 39)).alloc (.cells #[.int .i64 52, .int .i64 0, .string ⟨#[]⟩, .int .i64 0, .int .i64 0, .string ⟨#[]⟩, .slice none 0 0, .slice (some ⟨wr.heap.size, 0, none⟩) 1 1] 39)) = W at *
  have hnew := heap_alloc_new W (.cells #[.int .i64 1, .int .i64 0, .string ⟨#[]⟩, .int .i64 0, .int .i64 1, .string ⟨#[]⟩, .slice none 0 0, .slice none 0 0, .int .i64 52, .int .i64 0, .string ⟨#[]⟩, .int .i64 0, .int .i64 0, .string ⟨#[]⟩, .slice none 0 0, .slice (some ⟨wr.heap.size, 0, none⟩) 1 1] 39)
  rw [b4] at hnew
  have hrow := two_row (one_rep _ _ _) (b3.alloc (by rw [b4]; exact Nat.le_refl _) _) (wr.heap.size + 1 + 1) _ (Nat.le_refl _) (by omega) hnew
  refine ⟨⟨b1.alloc (by rw [b4]; omega) _, heap_alloc_ _ _ _ _ b2, ?_⟩, heap_alloc_ _ _ _ _ ((b5 g7 hg7.1 hlt).trans h7)⟩
  rw [World.size_alloc, b4]
  exact NRep.mk_ (l := [_, _]) (by unfold I64; omega) (by unfold I64; omega) (Nat.le_refl 2) (by simp) hrow
theorem wrap_1 {w wr : World} {g : Nat} {x : Nd} {o : Int} {q : Option Addr} {len cp : Nat} {g7 : Nat} (h : NBx w wr g x o q len cp) (h7 : wr.heap[g7]? = some (.cells #[.int .i64 1, .int .i64 0, .string ⟨#[]⟩, .int .i64 0, .int .i64 1, .string ⟨#[]⟩, .slice none 0 0, .slice none 0 0] 39 (0, 0))) (hg : w.heap.size ≤ g) (hg7 : g7 ≠ g ∧ g7 = g.succ) :
    NBx w ((((set8 wr g 0 (.int .i64 48) (.int .i64 0) (.string ⟨#[]⟩) (.int .i64 0) (.int .i64 0) (.string ⟨#[]⟩) (.slice none 0 0) (.slice (some ⟨wr.heap.size + 1 + 1, 0, none⟩) 2 2)).alloc (.cells #[.int .i64 o, .int .i64 0, .string ⟨#[]⟩, .int .i64 0, .int .i64 0, .string ⟨#[]⟩, .slice none 0 0, .slice q len cp] 39)).alloc (.cells #[.int .i64 52, .int .i64 0, .string ⟨#[]⟩, .int .i64 0, .int .i64 0, .string ⟨#[]⟩, .slice none 0 0, .slice (some ⟨wr.heap.size, 0, none⟩) 1 1] 39)).alloc (.cells #[.int .i64 1, .int .i64 0, .string ⟨#[]⟩, .int .i64 0, .int .i64 1, .string ⟨#[]⟩, .slice none 0 0, .slice none 0 0, .int .i64 52, .int .i64 0, .string ⟨#[]⟩, .int .i64 0, .int .i64 0, .string ⟨#[]⟩, .slice none 0 0, .slice (some ⟨wr.heap.size, 0, none⟩) 1 1] 39)) g (wrapN 1 x) 48 (some ⟨wr.heap.size + 1 + 1, 0, none⟩) 2 2 ∧ ((((set8 wr g 0 (.int .i64 48) (.int .i64 0) (.string ⟨#[]⟩) (.int .i64 0) (.int .i64 0) (.string ⟨#[]⟩) (.slice none 0 0) (.slice (some ⟨wr.heap.size + 1 + 1, 0, none⟩) 2 2)).alloc (.cells #[.int .i64 o, .int .i64 0, .string ⟨#[]⟩, .int .i64 0, .int .i64 0, .string ⟨#[]⟩, .slice none 0 0, .slice q len cp] 39)).alloc (.cells #[.int .i64 52, .int .i64 0, .string ⟨#[]⟩, .int .i64 0, .int .i64 0, .string ⟨#[]⟩, .slice none 0 0, .slice (some ⟨wr.heap.size, 0, none⟩) 1 1] 39)).alloc (.cells #[.int .i64 1, .int .i64 0, .string ⟨#[]⟩, .int .i64 0, .int .i64 1, .string ⟨#[]⟩, .slice none 0 0, .slice none 0 0, .int .i64 52, .int .i64 0, .string ⟨#[]⟩, .int .i64 0, .int .i64 0, .string ⟨#[]⟩, .slice none 0 0, .slice (some ⟨wr.heap.size, 0, none⟩) 1 1] 39)).heap[g7]? = some (.cells #[.int .i64 1, .int .i64 0, .string ⟨#[]⟩, .int .i64 0, .int .i64 1, .string ⟨#[]⟩, .slice none 0 0, .slice none 0 0] 39 (0, 0)) := by
  obtain ⟨b1, b2, b3, b4, b5⟩ := loop_base h hg 48 (wr.heap.size + 1 + 1)
  have hlt := heap_lt h7
  have hgw := heap_lt h.box
  have hs := h.bel.size
  generalize (((set8 wr g 0 (.int .i64 48) (.int .i64 0) (.string ⟨#[]⟩) (.int .i64 0) (.int .i64 0) (.string ⟨#[]⟩) (.slice none 0 0) (.slice (some ⟨wr.heap.size + 1 + 1, 0, none⟩) 2 2)).alloc (.cells #[.int .i64 o, .int .i64 0, .string ⟨#[]⟩, .int .i64 0, .int .i64 0, .string ⟨#[]⟩, .slice none 0 0, .slice q len cp] 39)).alloc (.cells #[.int .i64 52, .int .i64 0, .string ⟨#[]⟩, .int .i64 0, .int .i64 0, .string ⟨#[]⟩, .slice none 0 0, .slice (some ⟨wr.heap.size, 0, none⟩) 1 1] 39)) = W at *
  have hnew := heap_alloc_new W (.cells #[.int .i64 1, .int .i64 0, .string ⟨#[]⟩, .int .i64 0, .int .i64 1, .string ⟨#[]⟩, .slice none 0 0, .slice none 0 0, .int .i64 52, .int .i64 0, .string ⟨#[]⟩, .int .i64 0, .int .i64 0, .string ⟨#[]⟩, .slice none 0 0, .slice (some ⟨wr.heap.size, 0, none⟩) 1 1] 39)
  rw [b4] at hnew
  have hrow := two_row (one_rep _ _ _) (b3.alloc (by rw [b4]; exact Nat.le_refl _) _) (wr.heap.size + 1 + 1) _ (Nat.le_refl _) (by omega) hnew
  refine ⟨⟨b1.alloc (by rw [b4]; omega) _, heap_alloc_ _ _ _ _ b2, ?_⟩, heap_alloc_ _ _ _ _ ((b5 g7 hg7.1 hlt).trans h7)⟩
  rw [World.size_alloc, b4]
  exact NRep.mk_ (l := [_, _]) (by unfold I64; omega) (by unfold I64; omega) (Nat.le_refl 2) (by simp) hrow
theorem wrap_2 {w wr : World} {g : Nat} {x : Nd} {o : Int} {q : Option Addr} {len cp : Nat} {g7 : Nat} (h : NBx w wr g x o q len cp) (h7 : wr.heap[g7]? = some (.cells #[.int .i64 1, .int .i64 0, .string ⟨#[]⟩, .int .i64 0, .int .i64 1, .string ⟨#[]⟩, .slice none 0 0, .slice none 0 0] 39 (0, 0))) (hg : w.heap.size ≤ g) (hg7 : g7 ≠ g ∧ g7 = g.succ) :
    NBx w ((((set8 wr g 0 (.int .i64 41) (.int .i64 0) (.string ⟨#[]⟩) (.int .i64 0) (.int .i64 0) (.string ⟨#[]⟩) (.slice none 0 0) (.slice (some ⟨wr.heap.size + 1 + 1, 0, none⟩) 2 2)).alloc (.cells #[.int .i64 o, .int .i64 0, .string ⟨#[]⟩, .int .i64 0, .int .i64 0, .string ⟨#[]⟩, .slice none 0 0, .slice q len cp] 39)).alloc (.cells #[.int .i64 52, .int .i64 0, .string ⟨#[]⟩, .int .i64 0, .int .i64 0, .string ⟨#[]⟩, .slice none 0 0, .slice (some ⟨wr.heap.size, 0, none⟩) 1 1] 39)).alloc (.cells #[.int .i64 1, .int .i64 0, .string ⟨#[]⟩, .int .i64 0, .int .i64 1, .string ⟨#[]⟩, .slice none 0 0, .slice none 0 0, .int .i64 52, .int .i64 0, .string ⟨#[]⟩, .int .i64 0, .int .i64 0, .string ⟨#[]⟩, .slice none 0 0, .slice (some ⟨wr.heap.size, 0, none⟩) 1 1] 39)) g (wrapN 2 x) 41 (some ⟨wr.heap.size + 1 + 1, 0, none⟩) 2 2 ∧ ((((set8 wr g 0 (.int .i64 41) (.int .i64 0) (.string ⟨#[]⟩) (.int .i64 0) (.int .i64 0) (.string ⟨#[]⟩) (.slice none 0 0) (.slice (some ⟨wr.heap.size + 1 + 1, 0, none⟩) 2 2)).alloc (.cells #[.int .i64 o, .int .i64 0, .string ⟨#[]⟩, .int .i64 0, .int .i64 0, .string ⟨#[]⟩, .slice none 0 0, .slice q len cp] 39)).alloc (.cells #[.int .i64 52, .int .i64 0, .string ⟨#[]⟩, .int .i64 0, .int .i64 0, .string ⟨#[]⟩, .slice none 0 0, .slice (some ⟨wr.heap.size, 0, none⟩) 1 1] 39)).alloc (.cells #[.int .i64 1, .int .i64 0, .string ⟨#[]⟩, .int .i64 0, .int .i64 1, .string ⟨#[]⟩, .slice none 0 0, .slice none 0 0, .int .i64 52, .int .i64 0, .string ⟨#[]⟩, .int .i64 0, .int .i64 0, .string ⟨#[]⟩, .slice none 0 0, .slice (some ⟨wr.heap.size, 0, none⟩) 1 1] 39)).heap[g7]? = some (.cells #[.int .i64 1, .int .i64 0, .string ⟨#[]⟩, .int .i64 0, .int .i64 1, .string ⟨#[]⟩, .slice none 0 0, .slice none 0 0] 39 (0, 0)) := by
  obtain ⟨b1, b2, b3, b4, b5⟩ := loop_base h hg 41 (wr.heap.size + 1 + 1)
  have hlt := heap_lt h7
  have hgw := heap_lt h.box
  have hs := h.bel.size
  generalize (((set8 wr g 0 (.int .i64 41) (.int .i64 0) (.string ⟨#[]⟩) (.int .i64 0) (.int .i64 0) (.string ⟨#[]⟩) (.slice none 0 0) (.slice (some ⟨wr.heap.size + 1 + 1, 0, none⟩) 2 2)).alloc (.cells #[.int .i64 o, .int .i64 0, .string ⟨#[]⟩, .int .i64 0, .int .i64 0, .string ⟨#[]⟩, .slice none 0 0, .slice q len cp] 39)).alloc (.cells #[.int .i64 52, .int .i64 0, .string ⟨#[]⟩, .int .i64 0, .int .i64 0, .string ⟨#[]⟩, .slice none 0 0, .slice (some ⟨wr.heap.size, 0, none⟩) 1 1] 39)) = W at *
  have hnew := heap_alloc_new W (.cells #[.int .i64 1, .int .i64 0, .string ⟨#[]⟩, .int .i64 0, .int .i64 1, .string ⟨#[]⟩, .slice none 0 0, .slice none 0 0, .int .i64 52, .int .i64 0, .string ⟨#[]⟩, .int .i64 0, .int .i64 0, .string ⟨#[]⟩, .slice none 0 0, .slice (some ⟨wr.heap.size, 0, none⟩) 1 1] 39)
  rw [b4] at hnew
  have hrow := two_row (one_rep _ _ _) (b3.alloc (by rw [b4]; exact Nat.le_refl _) _) (wr.heap.size + 1 + 1) _ (Nat.le_refl _) (by omega) hnew
  refine ⟨⟨b1.alloc (by rw [b4]; omega) _, heap_alloc_ _ _ _ _ b2, ?_⟩, heap_alloc_ _ _ _ _ ((b5 g7 hg7.1 hlt).trans h7)⟩
  rw [World.size_alloc, b4]
  exact NRep.mk_ (l := [_, _]) (by unfold I64; omega) (by unfold I64; omega) (Nat.le_refl 2) (by simp) hrow
theorem wrap_3 {w wr : World} {g : Nat} {x : Nd} {o : Int} {q : Option Addr} {len cp : Nat} {g7 : Nat} (h : NBx w wr g x o q len cp) (h7 : wr.heap[g7]? = some (.cells #[.int .i64 1, .int .i64 0, .string ⟨#[]⟩, .int .i64 0, .int .i64 1, .string ⟨#[]⟩, .slice none 0 0, .slice none 0 0] 39 (0, 0))) (hg : w.heap.size ≤ g) (hg7 : g7 ≠ g ∧ g7 = g.succ) :
    NBx w ((((set8 wr g 0 (.int .i64 51) (.int .i64 0) (.string ⟨#[]⟩) (.int .i64 0) (.int .i64 0) (.string ⟨#[]⟩) (.slice none 0 0) (.slice (some ⟨wr.heap.size + 1 + 1, 0, none⟩) 2 2)).alloc (.cells #[.int .i64 o, .int .i64 0, .string ⟨#[]⟩, .int .i64 0, .int .i64 0, .string ⟨#[]⟩, .slice none 0 0, .slice q len cp] 39)).alloc (.cells #[.int .i64 52, .int .i64 0, .string ⟨#[]⟩, .int .i64 0, .int .i64 0, .string ⟨#[]⟩, .slice none 0 0, .slice (some ⟨wr.heap.size, 0, none⟩) 1 1] 39)).alloc (.cells #[.int .i64 52, .int .i64 0, .string ⟨#[]⟩, .int .i64 0, .int .i64 0, .string ⟨#[]⟩, .slice none 0 0, .slice (some ⟨wr.heap.size, 0, none⟩) 1 1, .int .i64 52, .int .i64 0, .string ⟨#[]⟩, .int .i64 0, .int .i64 0, .string ⟨#[]⟩, .slice none 0 0, .slice none 0 0] 39)) g (wrapN 3 x) 51 (some ⟨wr.heap.size + 1 + 1, 0, none⟩) 2 2 ∧ ((((set8 wr g 0 (.int .i64 51) (.int .i64 0) (.string ⟨#[]⟩) (.int .i64 0) (.int .i64 0) (.string ⟨#[]⟩) (.slice none 0 0) (.slice (some ⟨wr.heap.size + 1 + 1, 0, none⟩) 2 2)).alloc (.cells #[.int .i64 o, .int .i64 0, .string ⟨#[]⟩, .int .i64 0, .int .i64 0, .string ⟨#[]⟩, .slice none 0 0, .slice q len cp] 39)).alloc (.cells #[.int .i64 52, .int .i64 0, .string ⟨#[]⟩, .int .i64 0, .int .i64 0, .string ⟨#[]⟩, .slice none 0 0, .slice (some ⟨wr.heap.size, 0, none⟩) 1 1] 39)).alloc (.cells #[.int .i64 52, .int .i64 0, .string ⟨#[]⟩, .int .i64 0, .int .i64 0, .string ⟨#[]⟩, .slice none 0 0, .slice (some ⟨wr.heap.size, 0, none⟩) 1 1, .int .i64 52, .int .i64 0, .string ⟨#[]⟩, .int .i64 0, .int .i64 0, .string ⟨#[]⟩, .slice none 0 0, .slice none 0 0] 39)).heap[g7]? = some (.cells #[.int .i64 1, .int .i64 0, .string ⟨#[]⟩, .int .i64 0, .int .i64 1, .string ⟨#[]⟩, .slice none 0 0, .slice none 0 0] 39 (0, 0)) := by
  obtain ⟨b1, b2, b3, b4, b5⟩ := loop_base h hg 51 (wr.heap.size + 1 + 1)
  have hlt := heap_lt h7
  have hgw := heap_lt h.box
  have hs := h.bel.size
  generalize (((set8 wr g 0 (.int .i64 51) (.int .i64 0) (.string ⟨#[]⟩) (.int .i64 0) (.int .i64 0) (.string ⟨#[]⟩) (.slice none 0 0) (.slice (some ⟨wr.heap.size + 1 + 1, 0, none⟩) 2 2)).alloc (.cells #[.int .i64 o, .int .i64 0, .string ⟨#[]⟩, .int .i64 0, .int .i64 0, .string ⟨#[]⟩, .slice none 0 0, .slice q len cp] 39)).alloc (.cells #[.int .i64 52, .int .i64 0, .string ⟨#[]⟩, .int .i64 0, .int .i64 0, .string ⟨#[]⟩, .slice none 0 0, .slice (some ⟨wr.heap.size, 0, none⟩) 1 1] 39)) = W at *
  have hnew := heap_alloc_new W (.cells #[.int .i64 52, .int .i64 0, .string ⟨#[]⟩, .int .i64 0, .int .i64 0, .string ⟨#[]⟩, .slice none 0 0, .slice (some ⟨wr.heap.size, 0, none⟩) 1 1, .int .i64 52, .int .i64 0, .string ⟨#[]⟩, .int .i64 0, .int .i64 0, .string ⟨#[]⟩, .slice none 0 0, .slice none 0 0] 39)
  rw [b4] at hnew
  have hrow := two_row (b3.alloc (by rw [b4]; exact Nat.le_refl _) _) (leaf_rep _ _ _ 52 (by unfold I64; omega)) (wr.heap.size + 1 + 1) _ (Nat.le_refl _) (by omega) hnew
  refine ⟨⟨b1.alloc (by rw [b4]; omega) _, heap_alloc_ _ _ _ _ b2, ?_⟩, heap_alloc_ _ _ _ _ ((b5 g7 hg7.1 hlt).trans h7)⟩
  rw [World.size_alloc, b4]
  exact NRep.mk_ (l := [_, _]) (by unfold I64; omega) (by unfold I64; omega) (Nat.le_refl 2) (by simp) hrow
theorem wrap_4 {w wr : World} {g : Nat} {x : Nd} {o : Int} {q : Option Addr} {len cp : Nat} {g7 : Nat} (h : NBx w wr g x o q len cp) (h7 : wr.heap[g7]? = some (.cells #[.int .i64 1, .int .i64 0, .string ⟨#[]⟩, .int .i64 0, .int .i64 1, .string ⟨#[]⟩, .slice none 0 0, .slice none 0 0] 39 (0, 0))) (hg : w.heap.size ≤ g) (hg7 : g7 ≠ g ∧ g7 = g.succ) :
    NBx w (((((set8 wr g 0 (.int .i64 49) (.int .i64 0) (.string ⟨#[]⟩) (.int .i64 0) (.int .i64 0) (.string ⟨#[]⟩) (.slice none 0 0) (.slice (some ⟨wr.heap.size + 1 + 1 + 1, 0, none⟩) 2 2)).alloc (.cells #[.int .i64 o, .int .i64 0, .string ⟨#[]⟩, .int .i64 0, .int .i64 0, .string ⟨#[]⟩, .slice none 0 0, .slice q len cp] 39)).alloc (.cells #[.int .i64 52, .int .i64 0, .string ⟨#[]⟩, .int .i64 0, .int .i64 0, .string ⟨#[]⟩, .slice none 0 0, .slice (some ⟨wr.heap.size, 0, none⟩) 1 1] 39)).alloc (.cells #[.int .i64 25, .int .i64 0, .string ⟨#[]⟩, .int .i64 0, .int .i64 0, .string ⟨#[]⟩, .slice none 0 0, .slice none 0 0, .int .i64 52, .int .i64 0, .string ⟨#[]⟩, .int .i64 0, .int .i64 0, .string ⟨#[]⟩, .slice none 0 0, .slice none 0 0] 39)).alloc (.cells #[.int .i64 52, .int .i64 0, .string ⟨#[]⟩, .int .i64 0, .int .i64 0, .string ⟨#[]⟩, .slice none 0 0, .slice (some ⟨wr.heap.size, 0, none⟩) 1 1, .int .i64 50, .int .i64 0, .string ⟨#[]⟩, .int .i64 0, .int .i64 0, .string ⟨#[]⟩, .slice none 0 0, .slice (some ⟨wr.heap.size + 1 + 1, 0, none⟩) 2 2] 39)) g (wrapN 4 x) 49 (some ⟨wr.heap.size + 1 + 1 + 1, 0, none⟩) 2 2 ∧ (((((set8 wr g 0 (.int .i64 49) (.int .i64 0) (.string ⟨#[]⟩) (.int .i64 0) (.int .i64 0) (.string ⟨#[]⟩) (.slice none 0 0) (.slice (some ⟨wr.heap.size + 1 + 1 + 1, 0, none⟩) 2 2)).alloc (.cells #[.int .i64 o, .int .i64 0, .string ⟨#[]⟩, .int .i64 0, .int .i64 0, .string ⟨#[]⟩, .slice none 0 0, .slice q len cp] 39)).alloc (.cells #[.int .i64 52, .int .i64 0, .string ⟨#[]⟩, .int .i64 0, .int .i64 0, .string ⟨#[]⟩, .slice none 0 0, .slice (some ⟨wr.heap.size, 0, none⟩) 1 1] 39)).alloc (.cells #[.int .i64 25, .int .i64 0, .string ⟨#[]⟩, .int .i64 0, .int .i64 0, .string ⟨#[]⟩, .slice none 0 0, .slice none 0 0, .int .i64 52, .int .i64 0, .string ⟨#[]⟩, .int .i64 0, .int .i64 0, .string ⟨#[]⟩, .slice none 0 0, .slice none 0 0] 39)).alloc (.cells #[.int .i64 52, .int .i64 0, .string ⟨#[]⟩, .int .i64 0, .int .i64 0, .string ⟨#[]⟩, .slice none 0 0, .slice (some ⟨wr.heap.size, 0, none⟩) 1 1, .int .i64 50, .int .i64 0, .string ⟨#[]⟩, .int .i64 0, .int .i64 0, .string ⟨#[]⟩, .slice none 0 0, .slice (some ⟨wr.heap.size + 1 + 1, 0, none⟩) 2 2] 39)).heap[g7]? = some (.cells #[.int .i64 1, .int .i64 0, .string ⟨#[]⟩, .int .i64 0, .int .i64 1, .string ⟨#[]⟩, .slice none 0 0, .slice none 0 0] 39 (0, 0)) := by
  obtain ⟨b1, b2, b3, b4, b5⟩ := loop_base h hg 49 (wr.heap.size + 1 + 1 + 1)
  have hlt := heap_lt h7
  have hgw := heap_lt h.box
  have hs := h.bel.size
  generalize (((set8 wr g 0 (.int .i64 49) (.int .i64 0) (.string ⟨#[]⟩) (.int .i64 0) (.int .i64 0) (.string ⟨#[]⟩) (.slice none 0 0) (.slice (some ⟨wr.heap.size + 1 + 1 + 1, 0, none⟩) 2 2)).alloc (.cells #[.int .i64 o, .int .i64 0, .string ⟨#[]⟩, .int .i64 0, .int .i64 0, .string ⟨#[]⟩, .slice none 0 0, .slice q len cp] 39)).alloc (.cells #[.int .i64 52, .int .i64 0, .string ⟨#[]⟩, .int .i64 0, .int .i64 0, .string ⟨#[]⟩, .slice none 0 0, .slice (some ⟨wr.heap.size, 0, none⟩) 1 1] 39)) = W at *
  have hnew := heap_alloc_new W (.cells #[.int .i64 25, .int .i64 0, .string ⟨#[]⟩, .int .i64 0, .int .i64 0, .string ⟨#[]⟩, .slice none 0 0, .slice none 0 0, .int .i64 52, .int .i64 0, .string ⟨#[]⟩, .int .i64 0, .int .i64 0, .string ⟨#[]⟩, .slice none 0 0, .slice none 0 0] 39)
  rw [b4] at hnew
  have hrow := two_row (lo := g + 1) (hi := wr.heap.size + 1 + 1) (leaf_rep (W.alloc (.cells #[.int .i64 25, .int .i64 0, .string ⟨#[]⟩, .int .i64 0, .int .i64 0, .string ⟨#[]⟩, .slice none 0 0, .slice none 0 0, .int .i64 52, .int .i64 0, .string ⟨#[]⟩, .int .i64 0, .int .i64 0, .string ⟨#[]⟩, .slice none 0 0, .slice none 0 0] 39)) _ _ 25 (by unfold I64; omega)) (leaf_rep _ _ _ 52 (by unfold I64; omega)) (wr.heap.size + 1 + 1) _ (Nat.le_refl _) (by omega) hnew
  have hexc : NRep (W.alloc (.cells #[.int .i64 25, .int .i64 0, .string ⟨#[]⟩, .int .i64 0, .int .i64 0, .string ⟨#[]⟩, .slice none 0 0, .slice none 0 0, .int .i64 52, .int .i64 0, .string ⟨#[]⟩, .int .i64 0, .int .i64 0, .string ⟨#[]⟩, .slice none 0 0, .slice none 0 0] 39)) (g + 1) (wr.heap.size + 1 + 1 + 1) (.mk 50 0 ⟨#[]⟩ zV [.mk 25 0 ⟨#[]⟩ zV [], blkN []]) (.agg #[.int .i64 50, .int .i64 0, .string ⟨#[]⟩, .int .i64 0, .int .i64 0, .string ⟨#[]⟩, .slice none 0 0, .slice (some ⟨wr.heap.size + 1 + 1, 0, none⟩) 2 2]) :=
    NRep.mk_ (l := [_, _]) (by unfold I64; omega) (by unfold I64; omega) (Nat.le_refl 2) (by simp) hrow
  have hblk := (b3.alloc (by rw [b4]; exact Nat.le_refl _) (.cells #[.int .i64 25, .int .i64 0, .string ⟨#[]⟩, .int .i64 0, .int .i64 0, .string ⟨#[]⟩, .slice none 0 0, .slice none 0 0, .int .i64 52, .int .i64 0, .string ⟨#[]⟩, .int .i64 0, .int .i64 0, .string ⟨#[]⟩, .slice none 0 0, .slice none 0 0] 39)).wide (Nat.le_refl (g + 1)) (Nat.le_succ (wr.heap.size + 1 + 1))
  have hz : (W.alloc (.cells #[.int .i64 25, .int .i64 0, .string ⟨#[]⟩, .int .i64 0, .int .i64 0, .string ⟨#[]⟩, .slice none 0 0, .slice none 0 0, .int .i64 52, .int .i64 0, .string ⟨#[]⟩, .int .i64 0, .int .i64 0, .string ⟨#[]⟩, .slice none 0 0, .slice none 0 0] 39)).heap.size = wr.heap.size + 1 + 1 + 1 := by rw [World.size_alloc, b4]
  have hbel := b1.alloc (by rw [b4]; omega) (.cells #[.int .i64 25, .int .i64 0, .string ⟨#[]⟩, .int .i64 0, .int .i64 0, .string ⟨#[]⟩, .slice none 0 0, .slice none 0 0, .int .i64 52, .int .i64 0, .string ⟨#[]⟩, .int .i64 0, .int .i64 0, .string ⟨#[]⟩, .slice none 0 0, .slice none 0 0] 39)
  have hbx := heap_alloc_ _ _ (.cells #[.int .i64 25, .int .i64 0, .string ⟨#[]⟩, .int .i64 0, .int .i64 0, .string ⟨#[]⟩, .slice none 0 0, .slice none 0 0, .int .i64 52, .int .i64 0, .string ⟨#[]⟩, .int .i64 0, .int .i64 0, .string ⟨#[]⟩, .slice none 0 0, .slice none 0 0] 39) _ b2
  have h77 := heap_alloc_ _ _ (.cells #[.int .i64 25, .int .i64 0, .string ⟨#[]⟩, .int .i64 0, .int .i64 0, .string ⟨#[]⟩, .slice none 0 0, .slice none 0 0, .int .i64 52, .int .i64 0, .string ⟨#[]⟩, .int .i64 0, .int .i64 0, .string ⟨#[]⟩, .slice none 0 0, .slice none 0 0] 39) _ ((b5 g7 hg7.1 hlt).trans h7)
  clear hnew hrow b3
  generalize W.alloc (.cells #[.int .i64 25, .int .i64 0, .string ⟨#[]⟩, .int .i64 0, .int .i64 0, .string ⟨#[]⟩, .slice none 0 0, .slice none 0 0, .int .i64 52, .int .i64 0, .string ⟨#[]⟩, .int .i64 0, .int .i64 0, .string ⟨#[]⟩, .slice none 0 0, .slice none 0 0] 39) = V at *
  have hnew := heap_alloc_new V (.cells #[.int .i64 52, .int .i64 0, .string ⟨#[]⟩, .int .i64 0, .int .i64 0, .string ⟨#[]⟩, .slice none 0 0, .slice (some ⟨wr.heap.size, 0, none⟩) 1 1, .int .i64 50, .int .i64 0, .string ⟨#[]⟩, .int .i64 0, .int .i64 0, .string ⟨#[]⟩, .slice none 0 0, .slice (some ⟨wr.heap.size + 1 + 1, 0, none⟩) 2 2] 39)
  rw [hz] at hnew
  have hrow := two_row (hblk.alloc (by rw [hz]; exact Nat.le_refl _) _) (hexc.alloc (by rw [hz]; exact Nat.le_refl _) _) (wr.heap.size + 1 + 1 + 1) _ (Nat.le_refl _) (by omega) hnew
  refine ⟨⟨hbel.alloc (by rw [hz]; omega) _, heap_alloc_ _ _ _ _ hbx, ?_⟩, heap_alloc_ _ _ _ _ h77⟩
  rw [World.size_alloc, hz]
  exact NRep.mk_ (l := [_, _]) (by unfold I64; omega) (by unfold I64; omega) (Nat.le_refl 2) (by simp) hrow

end Go.Proofs.YtlinclbodbbemaaDoor
