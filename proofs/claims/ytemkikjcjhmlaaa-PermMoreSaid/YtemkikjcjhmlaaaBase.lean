/- Plain words of this seat's proofs: trees of values, what memory holds them, and how this is kept while memory grows. No program is named. -/
import Derived.Below
import Derived.WalkKit
import Derived.ProofKit
import Derived.Lib.Hide
namespace Go.Proofs.Ytemkikjcjhmlaaa
open Go.RowKit

/-- A value as plain data: its kind, number, text and items. -/
inductive T where
  | mk (k n : Int) (s : ByteArray) (l : List T)

namespace T
def k : T → Int | mk k _ _ _ => k
def n : T → Int | mk _ n _ _ => n
def s : T → ByteArray | mk _ _ s _ => s
def l : T → List T | mk _ _ _ l => l
end T

def I64 (x : Int) : Prop := -9223372036854775808 ≤ x ∧ x ≤ 9223372036854775807

theorem spot_none {w : World} {a : Addr} {v : Value} (h : w.cell? a = some v) : a.spot = none := by
  unfold World.cell? at h
  cases hs : a.spot with
  | none => rfl
  | some x => rw [hs] at h; split at h <;> simp at h

mutual
/-- In w, the value v is the tree, and its items lie in blocks from lo on, below hi. -/
def Rep (w : World) (lo hi : Nat) : T → Value → Prop
  | .mk k n s l, v => ∃ (p : Option Addr) (cap : Nat), v = .agg #[.int .i64 k, .int .i64 n, .string s, .slice p l.length cap] ∧
      I64 k ∧ I64 n ∧ s.size ≤ 140737488355328 ∧ l.length ≤ cap ∧ l.length * 56 ≤ 140737488355328 ∧ RepAll w lo hi l p
def RepAll (w : World) (lo hi : Nat) : List T → Option Addr → Prop
  | [], _ => True
  | t :: r, p => ∃ (a : Addr) (c0 c1 c2 c3 : Value), p = some a ∧ lo ≤ a.block ∧ a.block < hi ∧ w.cell? a = some c0 ∧ w.cell? (a.add 1) = some c1 ∧ w.cell? (a.add 2) = some c2 ∧ w.cell? (a.add 3) = some c3 ∧
      Rep w lo hi t (.agg #[c0, c1, c2, c3]) ∧ RepAll w lo hi r (some (a.add 4))
end

theorem block_add (a : Addr) (n : Nat) : (a.add n).block = a.block := by unfold Addr.add; split <;> rfl
theorem add_add (a : Addr) (i j : Nat) : (a.add i).add j = a.add (i + j) := by
  unfold Addr.add
  by_cases hi : i = 0 <;> by_cases hj : j = 0 <;> simp [hi, hj, Nat.add_assoc]
theorem add_zero (a : Addr) : a.add 0 = a := rfl

mutual
theorem Rep.keep {w w' : World} {lo hi lo' hi' : Nat} (hlo : lo' ≤ lo) (hhi : hi ≤ hi') (hk : ∀ p : Addr, lo ≤ p.block → p.block < hi → w'.cell? p = w.cell? p) : (t : T) → (v : Value) → Rep w lo hi t v → Rep w' lo' hi' t v
  | .mk k n s l, v, h => by
    unfold Rep at h ⊢
    obtain ⟨p, cap, hv, h1, h2, h3, h4, h5, h6⟩ := h
    exact ⟨p, cap, hv, h1, h2, h3, h4, h5, RepAll.keep hlo hhi hk l p h6⟩
theorem RepAll.keep {w w' : World} {lo hi lo' hi' : Nat} (hlo : lo' ≤ lo) (hhi : hi ≤ hi') (hk : ∀ p : Addr, lo ≤ p.block → p.block < hi → w'.cell? p = w.cell? p) : (l : List T) → (p : Option Addr) → RepAll w lo hi l p → RepAll w' lo' hi' l p
  | [], p, _ => by unfold RepAll; trivial
  | t :: r, p, h => by
    unfold RepAll at h ⊢
    obtain ⟨a, c0, c1, c2, c3, hp, hl, hb, h0, h1, h2, h3, ht, hr⟩ := h
    refine ⟨a, c0, c1, c2, c3, hp, by omega, by omega, ?_, ?_, ?_, ?_, Rep.keep hlo hhi hk t _ ht, RepAll.keep hlo hhi hk r _ hr⟩
    · rw [hk a (by omega) (by omega)]; exact h0
    · rw [hk _ (by rw [block_add]; omega) (by rw [block_add]; omega)]; exact h1
    · rw [hk _ (by rw [block_add]; omega) (by rw [block_add]; omega)]; exact h2
    · rw [hk _ (by rw [block_add]; omega) (by rw [block_add]; omega)]; exact h3
end

theorem Rep.below {w w' : World} {lo hi B : Nat} {t : T} {v : Value} (h : Rep w lo hi t v) (hb : Below B w w') (hB : hi ≤ B) : Rep w' lo hi t v :=
  h.keep (Nat.le_refl _) (Nat.le_refl _) (fun p _ hp => hb.cell (by omega))
theorem RepAll.below {w w' : World} {lo hi B : Nat} {l : List T} {p : Option Addr} (h : RepAll w lo hi l p) (hb : Below B w w') (hB : hi ≤ B) : RepAll w' lo hi l p :=
  h.keep (Nat.le_refl _) (Nat.le_refl _) (fun p _ hp => hb.cell (by omega))

/-- Item i of a list in memory. -/
theorem RepAll.at {w : World} {lo hi : Nat} : {l : List T} → {p : Option Addr} → (h : RepAll w lo hi l p) → (i : Nat) → (hil : i < l.length) →
    ∃ (a : Addr) (c0 c1 c2 c3 : Value), p = some a ∧ lo ≤ a.block ∧ a.block < hi ∧ w.cell? (a.add (i * 4)) = some c0 ∧ w.cell? (a.add (i * 4 + 1)) = some c1 ∧ w.cell? (a.add (i * 4 + 2)) = some c2 ∧ w.cell? (a.add (i * 4 + 3)) = some c3 ∧
      Rep w lo hi (l[i]) (.agg #[c0, c1, c2, c3])
  | [], _, _, _, hil => absurd hil (by simp)
  | t :: r, p, h, 0, _ => by
    unfold RepAll at h
    obtain ⟨a, c0, c1, c2, c3, hp, hl, hb, h0, h1, h2, h3, ht, hr⟩ := h
    exact ⟨a, c0, c1, c2, c3, hp, hl, hb, h0, by simpa using h1, by simpa using h2, by simpa using h3, ht⟩
  | t :: r, p, h, i + 1, hil => by
    unfold RepAll at h
    obtain ⟨a, c0, c1, c2, c3, hp, hl, hb, h0, h1, h2, h3, ht, hr⟩ := h
    obtain ⟨a', d0, d1, d2, d3, hp', hl', hb', e0, e1, e2, e3, ht'⟩ := RepAll.at hr i (by simpa using hil)
    injection hp' with hp'
    subst hp'
    rw [add_add] at e0 e1 e2 e3
    refine ⟨a, d0, d1, d2, d3, hp, hl, hb, ?_, ?_, ?_, ?_, by simpa using ht'⟩
    · rw [← e0]; congr 1; congr 1; omega
    · rw [← e1]; congr 1; congr 1; omega
    · rw [← e2]; congr 1; congr 1; omega
    · rw [← e3]; congr 1; congr 1; omega

theorem RepAll.at' {w : World} {lo hi : Nat} {l : List T} {p : Option Addr} (h : RepAll w lo hi l p) (i : Nat) (hil : i < l.length) :
    ∃ (b off : Nat) (c0 c1 c2 c3 : Value), p = some ⟨b, off, none⟩ ∧ lo ≤ b ∧ b < hi ∧ w.cell? ⟨b, off + i * 4, none⟩ = some c0 ∧ w.cell? ⟨b, off + i * 4 + 1, none⟩ = some c1 ∧ w.cell? ⟨b, off + i * 4 + 2, none⟩ = some c2 ∧ w.cell? ⟨b, off + i * 4 + 3, none⟩ = some c3 ∧
      Rep w lo hi (l[i]) (.agg #[c0, c1, c2, c3]) := by
  obtain ⟨a, d0, d1, d2, d3, hp, _, _, e0, _, _, _, _⟩ := RepAll.at h 0 (by omega)
  rw [Nat.zero_mul, add_zero] at e0
  have hs := spot_none e0
  obtain ⟨a', c0, c1, c2, c3, hp', hl, hb, h0, h1, h2, h3, ht⟩ := RepAll.at h i hil
  rw [hp] at hp'
  injection hp' with hp'
  subst hp'
  obtain ⟨b, off, sp⟩ := a
  simp only at hs
  subst hs
  have hadd : ∀ n, Addr.add ⟨b, off, none⟩ n = ⟨b, off + n, none⟩ := by
    intro n; unfold Addr.add; split
    · rename_i h; subst h; rfl
    · rfl
  rw [hadd] at h0 h1 h2 h3
  exact ⟨b, off, c0, c1, c2, c3, hp, hl, hb, h0, h1, h2, h3, ht⟩

/-- Item i, its cells written out. -/
theorem RepAll.item {w : World} {lo hi : Nat} {l : List T} {p : Option Addr} (h : RepAll w lo hi l p) (i : Nat) (hil : i < l.length) :
    ∃ (b off : Nat) (k n : Int) (s : ByteArray) (ll : List T) (q : Option Addr) (c : Nat), p = some ⟨b, off, none⟩ ∧ lo ≤ b ∧ b < hi ∧ l[i] = .mk k n s ll ∧
      w.cell? ⟨b, off + i * 4, none⟩ = some (.int .i64 k) ∧ w.cell? ⟨b, off + i * 4 + 1, none⟩ = some (.int .i64 n) ∧ w.cell? ⟨b, off + i * 4 + 2, none⟩ = some (.string s) ∧ w.cell? ⟨b, off + i * 4 + 3, none⟩ = some (.slice q ll.length c) ∧
      Rep w lo hi (l[i]) (.agg #[.int .i64 k, .int .i64 n, .string s, .slice q ll.length c]) := by
  obtain ⟨b, off, c0, c1, c2, c3, hp, hl, hb, h0, h1, h2, h3, ht⟩ := h.at' i hil
  match hm : l[i], ht with
  | .mk k n s ll, ht =>
    have ht' := ht
    unfold Rep at ht'
    obtain ⟨q, c, hv, _⟩ := ht'
    simp only [Value.agg.injEq, Array.mk.injEq, List.cons.injEq, and_true] at hv
    obtain ⟨rfl, rfl, rfl, rfl⟩ := hv
    exact ⟨b, off, k, n, s, ll, q, c, hp, hl, hb, rfl, h0, h1, h2, h3, ht⟩

/-- The sizes of the chapter. -/
def szAlone : T → Int | .mk k _ s _ => if k = 2 then 1 + s.size else 1
mutual
def sz : T → Int | .mk k _ s l => (if k = 2 then 1 + (s.size : Int) else 1) + szAll l
def szAll : List T → Int | [] => 0 | t :: r => sz t + szAll r
end

theorem ret_bool {a b : Bool} (h : a = b) : Ending.returned (.bool a) = .returned (.bool b) := by rw [h]
theorem ret_int {k : IntKind} {a b : Int} (h : a = b) : Ending.returned (.int k a) = .returned (.int k b) := by rw [h]


theorem T.ind_ {P : T → Prop} (h : ∀ k n s l, (∀ t ∈ l, P t) → P (.mk k n s l)) (t : T) : P t :=
  T.rec (motive_1 := P) (motive_2 := fun l => ∀ t ∈ l, P t) (fun k n s l ih => h k n s l ih) (fun t ht => absurd ht (by simp))
    (fun x r hx hr t ht => by rcases List.mem_cons.1 ht with h | h; exact h ▸ hx; exact hr t h) t

theorem sz_pos : ∀ t, 1 ≤ sz t := by
  refine T.ind_ (fun k n s l ih => ?_)
  have hA : ∀ l : List T, (∀ t ∈ l, 1 ≤ sz t) → 0 ≤ szAll l := by
    intro l
    induction l with
    | nil => intro _; simp [szAll]
    | cons x r ih => intro h; have h1 := h x (by simp); have h2 := ih (fun t ht => h t (by simp [ht])); simp only [szAll]; omega
  have := hA l ih
  simp only [sz]
  split <;> omega
theorem szAll_nonneg : ∀ l, 0 ≤ szAll l
  | [] => by simp [szAll]
  | x :: r => by have := sz_pos x; have := szAll_nonneg r; simp only [szAll]; omega
theorem szAll_append : ∀ a b, szAll (a ++ b) = szAll a + szAll b
  | [], b => by simp [szAll]
  | x :: r, b => by simp only [List.cons_append, szAll, szAll_append r b]; omega
theorem szAll_split (l : List T) (i : Nat) (h : i < l.length) : szAll (l.take (i + 1)) = szAll (l.take i) + sz (l[i]) := by
  rw [List.take_succ_eq_append_getElem h, szAll_append]; simp [szAll]
theorem szAll_take_le (l : List T) (i : Nat) : szAll (l.take i) ≤ szAll l := by
  have h := szAll_append (l.take i) (l.drop i)
  rw [List.take_append_drop] at h
  have := szAll_nonneg (l.drop i); omega

theorem sz_eq (k n : Int) (s : ByteArray) (l : List T) : 1 ≤ szAlone (.mk k n s []) ∧ sz (.mk k n s l) = szAlone (.mk k n s []) + szAll l := by
  by_cases hk : k = 2 <;> simp [szAlone, sz, hk]; omega

theorem Rep.alloc {w : World} {lo hi : Nat} {t : T} {v : Value} (h : Rep w lo hi t v) (hB : hi ≤ w.heap.size) (o : Obj) : Rep (w.alloc o) lo hi t v :=
  h.keep (Nat.le_refl _) (Nat.le_refl _) (fun p _ hp => World.cell?_alloc_lt w o p (by omega))
theorem RepAll.alloc {w : World} {lo hi : Nat} {t : List T} {v : Option Addr} (h : RepAll w lo hi t v) (hB : hi ≤ w.heap.size) (o : Obj) : RepAll (w.alloc o) lo hi t v :=
  h.keep (Nat.le_refl _) (Nat.le_refl _) (fun p _ hp => World.cell?_alloc_lt w o p (by omega))
theorem Rep.setCell {w : World} {lo hi : Nat} {t : T} {v : Value} (h : Rep w lo hi t v) {p : Addr} (hB : p.block < lo ∨ hi ≤ p.block) (u : Value) : Rep (w.setCell p u) lo hi t v :=
  h.keep (Nat.le_refl _) (Nat.le_refl _) (fun q hl hp => World.cell?_setCell_other w p q u (fun e => by subst e; omega))
theorem RepAll.setCell {w : World} {lo hi : Nat} {t : List T} {v : Option Addr} (h : RepAll w lo hi t v) {p : Addr} (hB : p.block < lo ∨ hi ≤ p.block) (u : Value) : RepAll (w.setCell p u) lo hi t v :=
  h.keep (Nat.le_refl _) (Nat.le_refl _) (fun q hl hp => World.cell?_setCell_other w p q u (fun e => by subst e; omega))

theorem Rep.drew {w : World} {lo hi : Nat} {t : T} {v : Value} (h : Rep w lo hi t v) : Rep w.drew lo hi t v := Rep.keep (w := w) (w' := w.drew) (Nat.le_refl lo) (Nat.le_refl hi) (fun _ _ _ => rfl) t v h
theorem RepAll.drew {w : World} {lo hi : Nat} {t : List T} {v : Option Addr} (h : RepAll w lo hi t v) : RepAll w.drew lo hi t v := RepAll.keep (w := w) (w' := w.drew) (Nat.le_refl lo) (Nat.le_refl hi) (fun _ _ _ => rfl) t v h
theorem heap_drew {w : World} {g : Nat} {o : Obj} (h : w.heap[g]? = some o) : w.drew.heap[g]? = some o := h

theorem emod_of_tmod (n b : Int) (hb : 1 ≤ b) : n % b = if n.tmod b < 0 then n.tmod b + b else n.tmod b := by
  have h := @Int.tmod_eq_emod n b
  have h1 := Int.emod_nonneg n (b := b) (by omega)
  have h2 := Int.emod_lt_of_pos n (b := b) (by omega)
  have hab : (b.natAbs : Int) = b := by omega
  by_cases hd : 0 ≤ n ∨ b ∣ n
  · rw [if_pos hd] at h; rw [h]; rw [if_neg (by omega)]; omega
  · rw [if_neg hd] at h; rw [h]; rw [if_pos (by omega)]; omega
theorem tmod_bounds (n b : Int) (hb : 1 ≤ b) : -b ≤ n.tmod b ∧ n.tmod b < b := by
  have h := emod_of_tmod n b hb
  have h1 := Int.emod_nonneg n (b := b) (by omega)
  have h2 := Int.emod_lt_of_pos n (b := b) (by omega)
  split at h <;> omega

theorem rep_form {w : World} {lo hi : Nat} {t : T} {v : Value} (h : Rep w lo hi t v) : ∃ (k n : Int) (s : ByteArray) (p : Option Addr) (len cap : Nat), v = .agg #[.int .i64 k, .int .i64 n, .string s, .slice p len cap] := by
  match t, h with
  | .mk k n s l, h =>
    unfold Rep at h
    obtain ⟨p, cap, hv, _⟩ := h
    exact ⟨k, n, s, p, l.length, cap, hv⟩

theorem box4 (w : World) (c0 c1 c2 c3 : Value) (t : TypeId) : (w.alloc (.cells #[c0, c1, c2, c3] t)).cell? ⟨w.heap.size, 0, none⟩ = some c0 ∧ (w.alloc (.cells #[c0, c1, c2, c3] t)).cell? ⟨w.heap.size, 1, none⟩ = some c1 ∧
    (w.alloc (.cells #[c0, c1, c2, c3] t)).cell? ⟨w.heap.size, 2, none⟩ = some c2 ∧ (w.alloc (.cells #[c0, c1, c2, c3] t)).cell? ⟨w.heap.size, 3, none⟩ = some c3 := by
  have h : (w.alloc (.cells #[c0, c1, c2, c3] t)).heap[w.heap.size]? = some (.cells #[c0, c1, c2, c3] t) := heap_alloc_new w _
  exact ⟨(cell_of_row _ _ 0 _ _ _ h).trans rfl, (cell_of_row _ _ 1 _ _ _ h).trans rfl, (cell_of_row _ _ 2 _ _ _ h).trans rfl, (cell_of_row _ _ 3 _ _ _ h).trans rfl⟩

/-- A box of four cells, in whatever world it still stands. -/
theorem box4_in (w2 : World) (g : Nat) (c0 c1 c2 c3 : Value) (t : TypeId) (h : w2.heap[g]? = some (.cells #[c0, c1, c2, c3] t (0, 0))) : w2.cell? ⟨g, 0, none⟩ = some c0 ∧ w2.cell? ⟨g, 1, none⟩ = some c1 ∧
    w2.cell? ⟨g, 2, none⟩ = some c2 ∧ w2.cell? ⟨g, 3, none⟩ = some c3 ∧ ∀ o, w2.frozen? ⟨g, o, none⟩ = false :=
  ⟨(cell_of_row _ _ 0 _ _ _ h).trans rfl, (cell_of_row _ _ 1 _ _ _ h).trans rfl, (cell_of_row _ _ 2 _ _ _ h).trans rfl, (cell_of_row _ _ 3 _ _ _ h).trans rfl, fun o => by simp [World.frozen?, h]⟩
theorem heap_old {w w' : World} {g : Nat} {o : Obj} (h : w.heap[g]? = some o) (hb : Below w.heap.size w w') : w'.heap[g]? = some o := by
  refine (hb.block g ?_).trans h
  rcases Nat.lt_or_ge g w.heap.size with h1 | h1
  · exact h1
  · rw [Array.getElem?_eq_none h1] at h; cases h
theorem heap_alloc_ (w : World) (o o' : Obj) (g : Nat) (h : w.heap[g]? = some o) : (w.alloc o').heap[g]? = some o := heap_old h ((Below.refl _ _).alloc (Nat.le_refl _) _)

theorem below_bcell {W w1 : World} (hb : Below W.heap.size W w1) : (∀ b o, b < W.heap.size → w1.cell? ⟨b, o, none⟩ = W.cell? ⟨b, o, none⟩) ∧ (∀ b o, b < W.heap.size → w1.frozen? ⟨b, o, none⟩ = W.frozen? ⟨b, o, none⟩) :=
  ⟨fun b o h => hb.cell (p := ⟨b, o, none⟩) h, fun b o h => hb.frozen (p := ⟨b, o, none⟩) h⟩


def cmpI (a b : Int) : Int := if a < b then -1 else if b < a then 1 else 0

mutual
def dp : T → Int | .mk k _ _ l => (if k = 4 then dpAll l else 0) + 1
def dpAll : List T → Int | [] => 0 | t :: r => max (dp t) (dpAll r)
end
theorem dpAll_nonneg : ∀ l, 0 ≤ dpAll l
  | [] => by simp [dpAll]
  | x :: r => by have := dpAll_nonneg r; simp only [dpAll]; omega
theorem dp_pos : ∀ t, 1 ≤ dp t
  | .mk k n s l => by have := dpAll_nonneg l; simp only [dp]; split <;> omega
theorem dpAll_append : ∀ a b, dpAll (a ++ b) = max (dpAll a) (dpAll b)
  | [], b => by have := dpAll_nonneg b; simp [dpAll]; omega
  | x :: r, b => by simp only [List.cons_append, dpAll, dpAll_append r b]; omega
theorem dpAll_split (l : List T) (i : Nat) (h : i < l.length) : dpAll (l.take (i + 1)) = max (dpAll (l.take i)) (dp (l[i])) := by
  rw [List.take_succ_eq_append_getElem h, dpAll_append]; have := dp_pos l[i]; simp only [dpAll]; omega
theorem dpAll_take_le (l : List T) (i : Nat) : dpAll (l.take i) ≤ dpAll l := by
  have h := dpAll_append (l.take i) (l.drop i)
  rw [List.take_append_drop] at h; omega
mutual
theorem dp_le_sz : ∀ t, dp t ≤ sz t
  | .mk k n s l => by have h := dpAll_le_sz l; have := szAll_nonneg l; simp only [dp, sz]; split <;> split <;> omega
theorem dpAll_le_sz : ∀ l, dpAll l ≤ szAll l
  | [] => by simp [dpAll, szAll]
  | x :: r => by have h := dp_le_sz x; have h2 := dpAll_le_sz r; have := szAll_nonneg r; have := sz_pos x; simp only [dpAll, szAll]; omega
end
mutual
/-- The size that the document reckons: items count of a list alone. -/
def rsz : T → Int | .mk k _ s l => if k = 2 then 1 + (s.size : Int) else if k = 4 then 1 + rszAll l else 1
def rszAll : List T → Int | [] => 0 | t :: r => rsz t + rszAll r
end
theorem rszAll_append : ∀ a b, rszAll (a ++ b) = rszAll a + rszAll b
  | [], b => by simp [rszAll]
  | x :: r, b => by simp only [List.cons_append, rszAll, rszAll_append r b]; omega
theorem rszAll_split (l : List T) (i : Nat) (h : i < l.length) : rszAll (l.take (i + 1)) = rszAll (l.take i) + rsz (l[i]) := by
  rw [List.take_succ_eq_append_getElem h, rszAll_append]; simp [rszAll]
mutual
theorem rsz_le : ∀ t, rsz t ≤ sz t
  | .mk k n s l => by have h := rszAll_le l; have := szAll_nonneg l; simp only [rsz, sz]; split <;> (try split) <;> omega
theorem rszAll_le : ∀ l, rszAll l ≤ szAll l
  | [] => by simp [rszAll, szAll]
  | x :: r => by have h := rsz_le x; have h2 := rszAll_le r; simp only [rszAll, szAll]; omega
end
mutual
theorem rsz_pos : ∀ t, 1 ≤ rsz t
  | .mk k n s l => by have h := rszAll_nonneg l; simp only [rsz]; split <;> (try split) <;> omega
theorem rszAll_nonneg : ∀ l, 0 ≤ rszAll l
  | [] => by simp [rszAll]
  | x :: r => by have h := rsz_pos x; have h2 := rszAll_nonneg r; simp only [rszAll]; omega
end
theorem rszAll_take_le (l : List T) (i : Nat) : rszAll (l.take i) ≤ rszAll l := by
  have h := rszAll_append (l.take i) (l.drop i)
  rw [List.take_append_drop] at h
  have := rszAll_nonneg (l.drop i); omega

end Go.Proofs.Ytemkikjcjhmlaaa
