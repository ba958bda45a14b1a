/- What the reader's open lists hold, in memory: each list in a row of its own, what was ended in blocks that no open list writes to. -/
import Derived.Test.YtlinclbodbbemaaDoorY07
import Derived.Deep.AppendLies
namespace Go.Proofs.YtlinclbodbbemaaDoor
open Go.RowKit
set_option maxRecDepth 100000

mutual
/-- In w, the value v is the tree, and its items lie in blocks of P. -/
def RepP (w : World) (P : Nat → Prop) : T → Value → Prop
  | .mk k n s l, v => ∃ (p : Option Addr) (cap : Nat), v = .agg #[.int .i64 k, .int .i64 n, .string s, .slice p l.length cap] ∧
      I64 k ∧ I64 n ∧ s.size ≤ 140737488355328 ∧ l.length ≤ cap ∧ l.length * 56 ≤ 140737488355328 ∧ RepPA w P l p
def RepPA (w : World) (P : Nat → Prop) : List T → Option Addr → Prop
  | [], _ => True
  | t :: r, p => ∃ (a : Addr) (c0 c1 c2 c3 : Value), p = some a ∧ P a.block ∧ w.cell? a = some c0 ∧ w.cell? (a.add 1) = some c1 ∧ w.cell? (a.add 2) = some c2 ∧ w.cell? (a.add 3) = some c3 ∧
      RepP w P t (.agg #[c0, c1, c2, c3]) ∧ RepPA w P r (some (a.add 4))
end
mutual
theorem RepP.keep {w w' : World} {P P' : Nat → Prop} (hP : ∀ b, P b → P' b) (hk : ∀ p : Addr, P p.block → w'.cell? p = w.cell? p) : (t : T) → (v : Value) → RepP w P t v → RepP w' P' t v
  | .mk k n s l, v, h => by
    unfold RepP at h ⊢
    obtain ⟨p, cap, hv, h1, h2, h3, h4, h5, h6⟩ := h
    exact ⟨p, cap, hv, h1, h2, h3, h4, h5, RepPA.keep hP hk l p h6⟩
theorem RepPA.keep {w w' : World} {P P' : Nat → Prop} (hP : ∀ b, P b → P' b) (hk : ∀ p : Addr, P p.block → w'.cell? p = w.cell? p) : (l : List T) → (p : Option Addr) → RepPA w P l p → RepPA w' P' l p
  | [], p, _ => by unfold RepPA; trivial
  | t :: r, p, h => by
    unfold RepPA at h ⊢
    obtain ⟨a, c0, c1, c2, c3, hp, hb, h0, h1, h2, h3, ht, hr⟩ := h
    refine ⟨a, c0, c1, c2, c3, hp, hP _ hb, ?_, ?_, ?_, ?_, RepP.keep hP hk t _ ht, RepPA.keep hP hk r _ hr⟩
    · rw [hk a hb]; exact h0
    · rw [hk _ (by rw [block_add]; exact hb)]; exact h1
    · rw [hk _ (by rw [block_add]; exact hb)]; exact h2
    · rw [hk _ (by rw [block_add]; exact hb)]; exact h3
end
mutual
theorem RepP.rep {w : World} {P : Nat → Prop} {lo hi : Nat} (hP : ∀ b, P b → lo ≤ b ∧ b < hi) : (t : T) → (v : Value) → RepP w P t v → Rep w lo hi t v
  | .mk k n s l, v, h => by
    unfold RepP at h; unfold Rep
    obtain ⟨p, cap, hv, h1, h2, h3, h4, h5, h6⟩ := h
    exact ⟨p, cap, hv, h1, h2, h3, h4, h5, RepPA.rep hP l p h6⟩
theorem RepPA.rep {w : World} {P : Nat → Prop} {lo hi : Nat} (hP : ∀ b, P b → lo ≤ b ∧ b < hi) : (l : List T) → (p : Option Addr) → RepPA w P l p → RepAll w lo hi l p
  | [], p, _ => by unfold RepAll; trivial
  | t :: r, p, h => by
    unfold RepPA at h; unfold RepAll
    obtain ⟨a, c0, c1, c2, c3, hp, hb, h0, h1, h2, h3, ht, hr⟩ := h
    exact ⟨a, c0, c1, c2, c3, hp, (hP _ hb).1, (hP _ hb).2, h0, h1, h2, h3, RepP.rep hP t _ ht, RepPA.rep hP r _ hr⟩
end
theorem RepPA.of {w : World} {P : Nat → Prop} {gb : Nat} (hP : P gb) : ∀ (l : List T) (off : Nat), (∀ i (hi : i < l.length), ∃ c0 c1 c2 c3, w.cell? ⟨gb, off + i * 4, none⟩ = some c0 ∧ w.cell? ⟨gb, off + i * 4 + 1, none⟩ = some c1 ∧ w.cell? ⟨gb, off + i * 4 + 2, none⟩ = some c2 ∧ w.cell? ⟨gb, off + i * 4 + 3, none⟩ = some c3 ∧ RepP w P l[i] (.agg #[c0, c1, c2, c3])) →
    RepPA w P l (some ⟨gb, off, none⟩)
  | [], _, _ => by unfold RepPA; trivial
  | t :: r, off, h => by
    have hadd : ∀ n, Addr.add ⟨gb, off, none⟩ n = ⟨gb, off + n, none⟩ := by
      intro n; unfold Addr.add; split
      · rename_i h; subst h; rfl
      · rfl
    unfold RepPA
    obtain ⟨c0, c1, c2, c3, h0, h1, h2, h3, ht⟩ := h 0 (by simp)
    refine ⟨⟨gb, off, none⟩, c0, c1, c2, c3, rfl, hP, by simpa using h0, by rw [hadd]; simpa using h1, by rw [hadd]; simpa using h2, by rw [hadd]; simpa using h3, ht, ?_⟩
    rw [hadd]
    refine RepPA.of hP r (off + 4) (fun i hi => ?_)
    obtain ⟨d0, d1, d2, d3, e0, e1, e2, e3, et⟩ := h (i + 1) (by simp; omega)
    have ea : off + (i + 1) * 4 = off + 4 + i * 4 := by omega
    rw [ea] at e0 e1 e2 e3
    exact ⟨d0, d1, d2, d3, e0, e1, e2, e3, et⟩

/-- The cells of a list's items, one behind the other. -/
def Itm (w : World) (P : Nat → Prop) : List T → List Value → Prop
  | [], cs => cs = []
  | t :: r, cs => ∃ c0 c1 c2 c3 q, cs = c0 :: c1 :: c2 :: c3 :: q ∧ RepP w P t (.agg #[c0, c1, c2, c3]) ∧ Itm w P r q
theorem Itm.keep {w w' : World} {P P' : Nat → Prop} (hP : ∀ b, P b → P' b) (hk : ∀ p : Addr, P p.block → w'.cell? p = w.cell? p) : ∀ {l : List T} {cs : List Value}, Itm w P l cs → Itm w' P' l cs
  | [], _, h => h
  | _ :: _, _, ⟨c0, c1, c2, c3, q, e, ht, hr⟩ => ⟨c0, c1, c2, c3, q, e, RepP.keep hP hk _ _ ht, Itm.keep hP hk hr⟩
theorem Itm.snoc {w : World} {P : Nat → Prop} {t : T} {c0 c1 c2 c3 : Value} (ht : RepP w P t (.agg #[c0, c1, c2, c3])) : ∀ {l : List T} {cs : List Value}, Itm w P l cs → Itm w P (l ++ [t]) (cs ++ [c0, c1, c2, c3])
  | [], _, h => by cases h; exact ⟨c0, c1, c2, c3, [], rfl, ht, rfl⟩
  | _ :: _, _, ⟨d0, d1, d2, d3, q, e, hx, hr⟩ => ⟨d0, d1, d2, d3, q ++ [c0, c1, c2, c3], by rw [e]; rfl, hx, Itm.snoc ht hr⟩
theorem Itm.at_ {w : World} {P : Nat → Prop} : ∀ {l : List T} {cs : List Value}, Itm w P l cs → ∀ i (hi : i < l.length), ∃ c0 c1 c2 c3, cs[i * 4]? = some c0 ∧ cs[i * 4 + 1]? = some c1 ∧ cs[i * 4 + 2]? = some c2 ∧ cs[i * 4 + 3]? = some c3 ∧ RepP w P l[i] (.agg #[c0, c1, c2, c3])
  | _ :: _, _, ⟨c0, c1, c2, c3, q, e, hx, _⟩, 0, _ => ⟨c0, c1, c2, c3, by rw [e]; rfl, by rw [e]; rfl, by rw [e]; rfl, by rw [e]; rfl, hx⟩
  | _ :: _, _, ⟨c0, c1, c2, c3, q, e, _, hr⟩, i + 1, hi => by
    obtain ⟨d0, d1, d2, d3, e0, e1, e2, e3, ht⟩ := Itm.at_ hr i (by simpa using hi)
    refine ⟨d0, d1, d2, d3, ?_, ?_, ?_, ?_, ht⟩
    · rw [e, ← e0, show (i + 1) * 4 = i * 4 + 4 by omega]; rfl
    · rw [e, ← e1, show (i + 1) * 4 + 1 = i * 4 + 1 + 4 by omega]; rfl
    · rw [e, ← e2, show (i + 1) * 4 + 2 = i * 4 + 2 + 4 by omega]; rfl
    · rw [e, ← e3, show (i + 1) * 4 + 3 = i * 4 + 3 + 4 by omega]; rfl

theorem owns_same {w w' : World} {B : Nat} {e : TypeId} {size n : Nat} {v : Value} {xs : List Value} (h : w.ownsRow B e size v n xs) (hb : ∀ b, v.ownBlock = some b → w'.heap[b]? = w.heap[b]?) : w'.ownsRow B e size v n xs := by
  refine ⟨h.1, ?_⟩
  rcases h.2 with h2 | ⟨g, cap, cur, rfl, h3, h4, h5⟩
  · exact .inl h2
  · exact .inr ⟨g, cap, cur, rfl, h3, (hb g rfl).trans h4, h5⟩

/-- A row of values, read as a list's items. -/
theorem list_of_row {w : World} {P : Nat → Prop} {B : Nat} {lv : Value} {l : List T} {cs : List Value} (h : w.ownsRow B 32 4 lv l.length cs) (hi : Itm w P l cs) (hP : ∀ b, lv.ownBlock = some b → P b) :
    ∃ p cap, lv = .slice p l.length cap ∧ l.length ≤ cap ∧ RepPA w P l p := by
  have hh := h
  rcases h.2 with ⟨rfl, h0⟩ | ⟨g, cap, cur, rfl, _, _, hnc, _⟩
  · have hl : l = [] := List.eq_nil_of_length_eq_zero h0
    subst hl
    exact ⟨none, 0, rfl, Nat.le_refl _, by unfold RepPA; trivial⟩
  · refine ⟨some ⟨g, 0, none⟩, cap, rfl, hnc, RepPA.of (hP g rfl) l 0 (fun i hil => ?_)⟩
    obtain ⟨c0, c1, c2, c3, e0, e1, e2, e3, ht⟩ := hi.at_ i hil
    have hc := fun j (hj : j < l.length * 4) => World.ownsRow.cellAt hh j hj
    rw [Nat.zero_add]
    exact ⟨c0, c1, c2, c3, (hc _ (by omega)).trans e0, (hc _ (by omega)).trans e1, (hc _ (by omega)).trans e2, (hc _ (by omega)).trans e3, ht⟩

/-- The cells of the open lists' row. -/
def ocs : List Value → List Value
  | [] => []
  | v :: r => .int .i64 4 :: .int .i64 0 :: .string ⟨#[]⟩ :: v :: ocs r
theorem ocs_append : ∀ a b, ocs (a ++ b) = ocs a ++ ocs b
  | [], b => rfl
  | x :: r, b => by simp [ocs, ocs_append r b]
theorem ocs_length : ∀ a, (ocs a).length = a.length * 4
  | [] => rfl
  | x :: r => by simp [ocs, ocs_length r]; omega
theorem ocs_last (a : List Value) (v : Value) : (ocs (a ++ [v]))[a.length * 4]? = some (.int .i64 4) ∧ (ocs (a ++ [v]))[a.length * 4 + 1]? = some (.int .i64 0) ∧ (ocs (a ++ [v]))[a.length * 4 + 2]? = some (.string ⟨#[]⟩) ∧ (ocs (a ++ [v]))[a.length * 4 + 3]? = some v := by
  rw [ocs_append, ← ocs_length a]
  simp [ocs]
theorem ocs_set (a : List Value) (v u : Value) : (ocs (a ++ [v])).set (a.length * 4 + 3) u = ocs (a ++ [u]) := by
  rw [ocs_append, ocs_append, ← ocs_length a]
  simp [ocs]

def bk (v : Value) : List Nat := v.ownBlock.toList
theorem mem_bk {v : Value} {b : Nat} : b ∈ bk v ↔ v.ownBlock = some b := by unfold bk; cases v.ownBlock <;> simp [eq_comm]
/-- The blocks that the open lists write to. -/
def live (ov : Value) (frs : List (Value × List Value)) : List Nat := bk ov ++ frs.flatMap fun f => bk f.1
/-- A block behind the reader's own, that no open list writes to. -/
def Fr (w : World) (g : Nat) (A : List Nat) (b : Nat) : Prop := g < b ∧ b < w.heap.size ∧ b ∉ A
def Lev (w : World) (g : Nat) (A : List Nat) : List (List T) → List (Value × List Value) → Prop
  | [], [] => True
  | l :: r, f :: q => w.ownsRow (g + 1) 32 4 f.1 l.length f.2 ∧ Itm w (Fr w g A) l f.2 ∧ Lev w g A r q
  | _, _ => False
theorem Lev.keep {w w' : World} {g : Nat} {A A' : List Nat} (hP : ∀ b, Fr w g A b → Fr w' g A' b) (hk : ∀ p : Addr, Fr w g A p.block → w'.cell? p = w.cell? p) : ∀ {st : List (List T)} {frs : List (Value × List Value)}, (∀ f ∈ frs, ∀ b, f.1.ownBlock = some b → w'.heap[b]? = w.heap[b]?) → Lev w g A st frs → Lev w' g A' st frs
  | [], [], _, _ => trivial
  | _ :: _, f :: q, hf, ⟨h1, h2, h3⟩ => ⟨owns_same h1 (hf f (by simp)), h2.keep hP hk, Lev.keep hP hk (fun f' hf' => hf f' (by simp [hf'])) h3⟩
  | [], _ :: _, _, h => h.elim
  | _ :: _, [], _, h => h.elim
theorem Lev.length {w : World} {g : Nat} {A : List Nat} : ∀ {st : List (List T)} {frs : List (Value × List Value)}, Lev w g A st frs → st.length = frs.length
  | [], [], _ => rfl
  | _ :: _, _ :: _, ⟨_, _, h3⟩ => by simp [Lev.length h3]
  | [], _ :: _, h => h.elim
  | _ :: _, [], h => h.elim
theorem Lev.snoc {w : World} {g : Nat} {A : List Nat} {l : List T} {f : Value × List Value} (h1 : w.ownsRow (g + 1) 32 4 f.1 l.length f.2) (h2 : Itm w (Fr w g A) l f.2) : ∀ {st : List (List T)} {frs : List (Value × List Value)}, Lev w g A st frs → Lev w g A (st ++ [l]) (frs ++ [f])
  | [], [], _ => ⟨h1, h2, trivial⟩
  | _ :: _, _ :: _, ⟨a, b, c⟩ => ⟨a, b, Lev.snoc h1 h2 c⟩
  | [], _ :: _, h => h.elim
  | _ :: _, [], h => h.elim
theorem Lev.unsnoc {w : World} {g : Nat} {A : List Nat} {l : List T} : ∀ {st : List (List T)} {frs : List (Value × List Value)}, Lev w g A (st ++ [l]) frs → ∃ q f, frs = q ++ [f] ∧ Lev w g A st q ∧ w.ownsRow (g + 1) 32 4 f.1 l.length f.2 ∧ Itm w (Fr w g A) l f.2
  | [], [f], ⟨h1, h2, _⟩ => ⟨[], f, rfl, trivial, h1, h2⟩
  | [], _ :: _ :: _, ⟨_, _, h⟩ => h.elim
  | [], [], h => h.elim
  | x :: r, f :: q, ⟨a, b, c⟩ => by
    obtain ⟨q', f', rfl, h1, h2, h3⟩ := Lev.unsnoc (st := r) c
    exact ⟨f :: q', f', rfl, ⟨a, b, h1⟩, h2, h3⟩
  | _ :: _, [], h => h.elim

/-- The reader's open lists are st, the innermost last. -/
structure Stk (w : World) (g : Nat) (s : ByteArray) (x : Rd) (st : List (List T)) (frs : List (Value × List Value)) : Prop where
  rd : RdIs w g s x
  own : w.ownsRow (g + 1) 32 4 x.ov frs.length (ocs (frs.map (·.1)))
  lev : Lev w g (live x.ov frs) st frs
  nd : (live x.ov frs).Nodup

theorem Stk.but {w w' : World} {g : Nat} {s : ByteArray} {x x' : Rd} {st : List (List T)} {frs : List (Value × List Value)} (h : Stk w g s x st frs) (hb : But g w w') (hr : RdIs w' g s x') (ho : x'.ov = x.ov) : Stk w' g s x' st frs := by
  have hgt : ∀ f ∈ frs, True := fun _ _ => trivial
  refine ⟨hr, by rw [ho]; exact owns_but h.own hb (Nat.lt_succ_self g), ?_, by rw [ho]; exact h.nd⟩
  rw [ho]
  have hA : ∀ {st : List (List T)} {frs : List (Value × List Value)} {A : List Nat}, Lev w g A st frs → ∀ f ∈ frs, ∀ b, f.1.ownBlock = some b → w'.heap[b]? = w.heap[b]? := by
    intro st
    induction st with
    | nil =>
      intro frs A hl f hf
      cases frs with
      | nil => cases hf
      | cons _ _ => exact hl.elim
    | cons l r ih =>
      intro frs A hl f hf b hfb
      cases frs with
      | nil => cases hf
      | cons f0 q =>
        obtain ⟨h1, _, h3⟩ := hl
        rcases List.mem_cons.1 hf with e | e
        · subst e
          have := h1.lt b hfb
          exact hb.block b this.2 (by omega)
        · exact ih h3 f e b hfb
  exact h.lev.keep (fun b hf => ⟨hf.1, Nat.lt_of_lt_of_le hf.2.1 hb.size, hf.2.2⟩) (fun p hp => hb.cell hp.2.1 (by have := hp.1; omega)) (hA h.lev)

end Go.Proofs.YtlinclbodbbemaaDoor
