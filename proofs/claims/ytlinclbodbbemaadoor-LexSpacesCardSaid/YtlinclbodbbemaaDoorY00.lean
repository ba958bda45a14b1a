/- Plain words of this seat's proofs: trees of values, what memory holds them, and how this is kept while memory grows. No program is named. Texts of values as plain data: how a value is written, and how a text is read, byte by byte; what is written is read again. No program is named. What is read of a text is written so, and what is written is read so, whole or cut off. No program is named. Numbers in texts, as the document reads them: what it says is what the other reading says. No program is named. The names of codes, and back. No program is named. Words of a program as plain data: how a text is read, word by word, line by line. No program is named. Contracts of package val, a function each. Contracts of small functions: of the library, and of the statements' helpers. The contracts of the library that these proofs lean on, laid at this program by the kit's own command, in plain words. -/
import Derived.Below
import Derived.WalkKit
import Derived.ProofKit
import Derived.Lib.Hide
import Derived.Lib.ItoaNum
import Derived.Test.YtlinclbodbbemaaDoorRows
import Derived.Handy
import Derived.WalkSpells
import Derived.Lib.Bytealg
import Derived.Shelf.Strings.Builder1
import Derived.Shelf.Strconv.Itoa0
import Derived.Shelf.Strconv.Itoa1
import Derived.Shelf.LaysM
import Derived.Shelf.Strconv.Itoa2
import Derived.Shelf.Strconv.AppendUint10
import Derived.Shelf.Strconv.AppendInt10
import Derived.Shelf.Strconv.AppendIntPublic10
import Derived.Test.YtlinclbodbbemaaDoorProg
namespace Go.Proofs.YtlinclbodbbemaaDoor
open Go.RowKit

/-- A value as plain data: its kind, number, text and items. -/
inductive T where
  | mk (k n : Int) (s : ByteArray) (l : List T)

namespace T
def k : T → Int | mk k _ _ _ => k
def n : T → Int | mk _ n _ _ => n
def s : T → ByteArray | mk _ _ s _ => s
def l : T → List T | mk _ _ _ l => l
end T

def I64 (x : Int) : Prop := -9223372036854775808 ≤ x ∧ x ≤ 9223372036854775807

theorem spot_none {w : World} {a : Addr} {v : Value} (h : w.cell? a = some v) : a.spot = none := by
  unfold World.cell? at h
  cases hs : a.spot with
  | none => rfl
  | some x => rw [hs] at h; split at h <;> simp at h

mutual
/-- In w, the value v is the tree, and its items lie in blocks from lo on, below hi. -/
def Rep (w : World) (lo hi : Nat) : T → Value → Prop
  | .mk k n s l, v => ∃ (p : Option Addr) (cap : Nat), v = .agg #[.int .i64 k, .int .i64 n, .string s, .slice p l.length cap] ∧
      I64 k ∧ I64 n ∧ s.size ≤ 140737488355328 ∧ l.length ≤ cap ∧ l.length * 56 ≤ 140737488355328 ∧ RepAll w lo hi l p
def RepAll (w : World) (lo hi : Nat) : List T → Option Addr → Prop
  | [], _ => True
  | t :: r, p => ∃ (a : Addr) (c0 c1 c2 c3 : Value), p = some a ∧ lo ≤ a.block ∧ a.block < hi ∧ w.cell? a = some c0 ∧ w.cell? (a.add 1) = some c1 ∧ w.cell? (a.add 2) = some c2 ∧ w.cell? (a.add 3) = some c3 ∧
      Rep w lo hi t (.agg #[c0, c1, c2, c3]) ∧ RepAll w lo hi r (some (a.add 4))
end

theorem block_add (a : Addr) (n : Nat) : (a.add n).block = a.block := by unfold Addr.add; split <;> rfl
theorem add_add (a : Addr) (i j : Nat) : (a.add i).add j = a.add (i + j) := by
  unfold Addr.add
  by_cases hi : i = 0 <;> by_cases hj : j = 0 <;> simp [hi, hj, Nat.add_assoc]
theorem add_zero (a : Addr) : a.add 0 = a := rfl

mutual
theorem Rep.keep {w w' : World} {lo hi lo' hi' : Nat} (hlo : lo' ≤ lo) (hhi : hi ≤ hi') (hk : ∀ p : Addr, lo ≤ p.block → p.block < hi → w'.cell? p = w.cell? p) : (t : T) → (v : Value) → Rep w lo hi t v → Rep w' lo' hi' t v
  | .mk k n s l, v, h => by
    unfold Rep at h ⊢
    obtain ⟨p, cap, hv, h1, h2, h3, h4, h5, h6⟩ := h
    exact ⟨p, cap, hv, h1, h2, h3, h4, h5, RepAll.keep hlo hhi hk l p h6⟩
theorem RepAll.keep {w w' : World} {lo hi lo' hi' : Nat} (hlo : lo' ≤ lo) (hhi : hi ≤ hi') (hk : ∀ p : Addr, lo ≤ p.block → p.block < hi → w'.cell? p = w.cell? p) : (l : List T) → (p : Option Addr) → RepAll w lo hi l p → RepAll w' lo' hi' l p
  | [], p, _ => by unfold RepAll; trivial
  | t :: r, p, h => by
    unfold RepAll at h ⊢
    obtain ⟨a, c0, c1, c2, c3, hp, hl, hb, h0, h1, h2, h3, ht, hr⟩ := h
    refine ⟨a, c0, c1, c2, c3, hp, by omega, by omega, ?_, ?_, ?_, ?_, Rep.keep hlo hhi hk t _ ht, RepAll.keep hlo hhi hk r _ hr⟩
    · rw [hk a (by omega) (by omega)]; exact h0
    · rw [hk _ (by rw [block_add]; omega) (by rw [block_add]; omega)]; exact h1
    · rw [hk _ (by rw [block_add]; omega) (by rw [block_add]; omega)]; exact h2
    · rw [hk _ (by rw [block_add]; omega) (by rw [block_add]; omega)]; exact h3
end

theorem Rep.below {w w' : World} {lo hi B : Nat} {t : T} {v : Value} (h : Rep w lo hi t v) (hb : Below B w w') (hB : hi ≤ B) : Rep w' lo hi t v :=
  h.keep (Nat.le_refl _) (Nat.le_refl _) (fun p _ hp => hb.cell (by omega))
theorem RepAll.below {w w' : World} {lo hi B : Nat} {l : List T} {p : Option Addr} (h : RepAll w lo hi l p) (hb : Below B w w') (hB : hi ≤ B) : RepAll w' lo hi l p :=
  h.keep (Nat.le_refl _) (Nat.le_refl _) (fun p _ hp => hb.cell (by omega))

/-- Item i of a list in memory. -/
theorem RepAll.at {w : World} {lo hi : Nat} : {l : List T} → {p : Option Addr} → (h : RepAll w lo hi l p) → (i : Nat) → (hil : i < l.length) →
    ∃ (a : Addr) (c0 c1 c2 c3 : Value), p = some a ∧ lo ≤ a.block ∧ a.block < hi ∧ w.cell? (a.add (i * 4)) = some c0 ∧ w.cell? (a.add (i * 4 + 1)) = some c1 ∧ w.cell? (a.add (i * 4 + 2)) = some c2 ∧ w.cell? (a.add (i * 4 + 3)) = some c3 ∧
      Rep w lo hi (l[i]) (.agg #[c0, c1, c2, c3])
  | [], _, _, _, hil => absurd hil (by simp)
  | t :: r, p, h, 0, _ => by
    unfold RepAll at h
    obtain ⟨a, c0, c1, c2, c3, hp, hl, hb, h0, h1, h2, h3, ht, hr⟩ := h
    exact ⟨a, c0, c1, c2, c3, hp, hl, hb, h0, by simpa using h1, by simpa using h2, by simpa using h3, ht⟩
  | t :: r, p, h, i + 1, hil => by
    unfold RepAll at h
    obtain ⟨a, c0, c1, c2, c3, hp, hl, hb, h0, h1, h2, h3, ht, hr⟩ := h
    obtain ⟨a', d0, d1, d2, d3, hp', hl', hb', e0, e1, e2, e3, ht'⟩ := RepAll.at hr i (by simpa using hil)
    injection hp' with hp'
    subst hp'
    rw [add_add] at e0 e1 e2 e3
    refine ⟨a, d0, d1, d2, d3, hp, hl, hb, ?_, ?_, ?_, ?_, by simpa using ht'⟩
    · rw [← e0]; congr 1; congr 1; omega
    · rw [← e1]; congr 1; congr 1; omega
    · rw [← e2]; congr 1; congr 1; omega
    · rw [← e3]; congr 1; congr 1; omega

theorem RepAll.at' {w : World} {lo hi : Nat} {l : List T} {p : Option Addr} (h : RepAll w lo hi l p) (i : Nat) (hil : i < l.length) :
    ∃ (b off : Nat) (c0 c1 c2 c3 : Value), p = some ⟨b, off, none⟩ ∧ lo ≤ b ∧ b < hi ∧ w.cell? ⟨b, off + i * 4, none⟩ = some c0 ∧ w.cell? ⟨b, off + i * 4 + 1, none⟩ = some c1 ∧ w.cell? ⟨b, off + i * 4 + 2, none⟩ = some c2 ∧ w.cell? ⟨b, off + i * 4 + 3, none⟩ = some c3 ∧
      Rep w lo hi (l[i]) (.agg #[c0, c1, c2, c3]) := by
  obtain ⟨a, d0, d1, d2, d3, hp, _, _, e0, _, _, _, _⟩ := RepAll.at h 0 (by omega)
  rw [Nat.zero_mul, add_zero] at e0
  have hs := spot_none e0
  obtain ⟨a', c0, c1, c2, c3, hp', hl, hb, h0, h1, h2, h3, ht⟩ := RepAll.at h i hil
  rw [hp] at hp'
  injection hp' with hp'
  subst hp'
  obtain ⟨b, off, sp⟩ := a
  simp only at hs
  subst hs
  have hadd : ∀ n, Addr.add ⟨b, off, none⟩ n = ⟨b, off + n, none⟩ := by
    intro n; unfold Addr.add; split
    · rename_i h; subst h; rfl
    · rfl
  rw [hadd] at h0 h1 h2 h3
  exact ⟨b, off, c0, c1, c2, c3, hp, hl, hb, h0, h1, h2, h3, ht⟩

/-- Item i, its cells written out. -/
theorem RepAll.item {w : World} {lo hi : Nat} {l : List T} {p : Option Addr} (h : RepAll w lo hi l p) (i : Nat) (hil : i < l.length) :
    ∃ (b off : Nat) (k n : Int) (s : ByteArray) (ll : List T) (q : Option Addr) (c : Nat), p = some ⟨b, off, none⟩ ∧ lo ≤ b ∧ b < hi ∧ l[i] = .mk k n s ll ∧
      w.cell? ⟨b, off + i * 4, none⟩ = some (.int .i64 k) ∧ w.cell? ⟨b, off + i * 4 + 1, none⟩ = some (.int .i64 n) ∧ w.cell? ⟨b, off + i * 4 + 2, none⟩ = some (.string s) ∧ w.cell? ⟨b, off + i * 4 + 3, none⟩ = some (.slice q ll.length c) ∧
      Rep w lo hi (l[i]) (.agg #[.int .i64 k, .int .i64 n, .string s, .slice q ll.length c]) := by
  obtain ⟨b, off, c0, c1, c2, c3, hp, hl, hb, h0, h1, h2, h3, ht⟩ := h.at' i hil
  match hm : l[i], ht with
  | .mk k n s ll, ht =>
    have ht' := ht
    unfold Rep at ht'
    obtain ⟨q, c, hv, _⟩ := ht'
    simp only [Value.agg.injEq, Array.mk.injEq, List.cons.injEq, and_true] at hv
    obtain ⟨rfl, rfl, rfl, rfl⟩ := hv
    exact ⟨b, off, k, n, s, ll, q, c, hp, hl, hb, rfl, h0, h1, h2, h3, ht⟩

/-- The sizes of the chapter. -/
def szAlone : T → Int | .mk k _ s _ => if k = 2 then 1 + s.size else 1
mutual
def sz : T → Int | .mk k _ s l => (if k = 2 then 1 + (s.size : Int) else 1) + szAll l
def szAll : List T → Int | [] => 0 | t :: r => sz t + szAll r
end

theorem ret_bool {a b : Bool} (h : a = b) : Ending.returned (.bool a) = .returned (.bool b) := by rw [h]
theorem ret_int {k : IntKind} {a b : Int} (h : a = b) : Ending.returned (.int k a) = .returned (.int k b) := by rw [h]


theorem T.ind_ {P : T → Prop} (h : ∀ k n s l, (∀ t ∈ l, P t) → P (.mk k n s l)) (t : T) : P t :=
  T.rec (motive_1 := P) (motive_2 := fun l => ∀ t ∈ l, P t) (fun k n s l ih => h k n s l ih) (fun t ht => absurd ht (by simp))
    (fun x r hx hr t ht => by rcases List.mem_cons.1 ht with h | h; exact h ▸ hx; exact hr t h) t

theorem sz_pos : ∀ t, 1 ≤ sz t := by
  refine T.ind_ (fun k n s l ih => ?_)
  have hA : ∀ l : List T, (∀ t ∈ l, 1 ≤ sz t) → 0 ≤ szAll l := by
    intro l
    induction l with
    | nil => intro _; simp [szAll]
    | cons x r ih => intro h; have h1 := h x (by simp); have h2 := ih (fun t ht => h t (by simp [ht])); simp only [szAll]; omega
  have := hA l ih
  simp only [sz]
  split <;> omega
theorem szAll_nonneg : ∀ l, 0 ≤ szAll l
  | [] => by simp [szAll]
  | x :: r => by have := sz_pos x; have := szAll_nonneg r; simp only [szAll]; omega
theorem szAll_append : ∀ a b, szAll (a ++ b) = szAll a + szAll b
  | [], b => by simp [szAll]
  | x :: r, b => by simp only [List.cons_append, szAll, szAll_append r b]; omega
theorem szAll_split (l : List T) (i : Nat) (h : i < l.length) : szAll (l.take (i + 1)) = szAll (l.take i) + sz (l[i]) := by
  rw [List.take_succ_eq_append_getElem h, szAll_append]; simp [szAll]
theorem szAll_take_le (l : List T) (i : Nat) : szAll (l.take i) ≤ szAll l := by
  have h := szAll_append (l.take i) (l.drop i)
  rw [List.take_append_drop] at h
  have := szAll_nonneg (l.drop i); omega

theorem sz_eq (k n : Int) (s : ByteArray) (l : List T) : 1 ≤ szAlone (.mk k n s []) ∧ sz (.mk k n s l) = szAlone (.mk k n s []) + szAll l := by
  by_cases hk : k = 2 <;> simp [szAlone, sz, hk]; omega

theorem Rep.alloc {w : World} {lo hi : Nat} {t : T} {v : Value} (h : Rep w lo hi t v) (hB : hi ≤ w.heap.size) (o : Obj) : Rep (w.alloc o) lo hi t v :=
  h.keep (Nat.le_refl _) (Nat.le_refl _) (fun p _ hp => World.cell?_alloc_lt w o p (by omega))
theorem RepAll.alloc {w : World} {lo hi : Nat} {t : List T} {v : Option Addr} (h : RepAll w lo hi t v) (hB : hi ≤ w.heap.size) (o : Obj) : RepAll (w.alloc o) lo hi t v :=
  h.keep (Nat.le_refl _) (Nat.le_refl _) (fun p _ hp => World.cell?_alloc_lt w o p (by omega))
theorem Rep.setCell {w : World} {lo hi : Nat} {t : T} {v : Value} (h : Rep w lo hi t v) {p : Addr} (hB : p.block < lo ∨ hi ≤ p.block) (u : Value) : Rep (w.setCell p u) lo hi t v :=
  h.keep (Nat.le_refl _) (Nat.le_refl _) (fun q hl hp => World.cell?_setCell_other w p q u (fun e => by subst e; omega))
theorem RepAll.setCell {w : World} {lo hi : Nat} {t : List T} {v : Option Addr} (h : RepAll w lo hi t v) {p : Addr} (hB : p.block < lo ∨ hi ≤ p.block) (u : Value) : RepAll (w.setCell p u) lo hi t v :=
  h.keep (Nat.le_refl _) (Nat.le_refl _) (fun q hl hp => World.cell?_setCell_other w p q u (fun e => by subst e; omega))

theorem Rep.drew {w : World} {lo hi : Nat} {t : T} {v : Value} (h : Rep w lo hi t v) : Rep w.drew lo hi t v := Rep.keep (w := w) (w' := w.drew) (Nat.le_refl lo) (Nat.le_refl hi) (fun _ _ _ => rfl) t v h
theorem RepAll.drew {w : World} {lo hi : Nat} {t : List T} {v : Option Addr} (h : RepAll w lo hi t v) : RepAll w.drew lo hi t v := RepAll.keep (w := w) (w' := w.drew) (Nat.le_refl lo) (Nat.le_refl hi) (fun _ _ _ => rfl) t v h
theorem heap_drew {w : World} {g : Nat} {o : Obj} (h : w.heap[g]? = some o) : w.drew.heap[g]? = some o := h

theorem emod_of_tmod (n b : Int) (hb : 1 ≤ b) : n % b = if n.tmod b < 0 then n.tmod b + b else n.tmod b := by
  have h := @Int.tmod_eq_emod n b
  have h1 := Int.emod_nonneg n (b := b) (by omega)
  have h2 := Int.emod_lt_of_pos n (b := b) (by omega)
  have hab : (b.natAbs : Int) = b := by omega
  by_cases hd : 0 ≤ n ∨ b ∣ n
  · rw [if_pos hd] at h; rw [h]; rw [if_neg (by omega)]; omega
  · rw [if_neg hd] at h; rw [h]; rw [if_pos (by omega)]; omega
theorem tmod_bounds (n b : Int) (hb : 1 ≤ b) : -b ≤ n.tmod b ∧ n.tmod b < b := by
  have h := emod_of_tmod n b hb
  have h1 := Int.emod_nonneg n (b := b) (by omega)
  have h2 := Int.emod_lt_of_pos n (b := b) (by omega)
  split at h <;> omega

theorem rep_form {w : World} {lo hi : Nat} {t : T} {v : Value} (h : Rep w lo hi t v) : ∃ (k n : Int) (s : ByteArray) (p : Option Addr) (len cap : Nat), v = .agg #[.int .i64 k, .int .i64 n, .string s, .slice p len cap] := by
  match t, h with
  | .mk k n s l, h =>
    unfold Rep at h
    obtain ⟨p, cap, hv, _⟩ := h
    exact ⟨k, n, s, p, l.length, cap, hv⟩

theorem box4 (w : World) (c0 c1 c2 c3 : Value) (t : TypeId) : (w.alloc (.cells #[c0, c1, c2, c3] t)).cell? ⟨w.heap.size, 0, none⟩ = some c0 ∧ (w.alloc (.cells #[c0, c1, c2, c3] t)).cell? ⟨w.heap.size, 1, none⟩ = some c1 ∧
    (w.alloc (.cells #[c0, c1, c2, c3] t)).cell? ⟨w.heap.size, 2, none⟩ = some c2 ∧ (w.alloc (.cells #[c0, c1, c2, c3] t)).cell? ⟨w.heap.size, 3, none⟩ = some c3 := by
  have h : (w.alloc (.cells #[c0, c1, c2, c3] t)).heap[w.heap.size]? = some (.cells #[c0, c1, c2, c3] t) := heap_alloc_new w _
  exact ⟨(cell_of_row _ _ 0 _ _ _ h).trans rfl, (cell_of_row _ _ 1 _ _ _ h).trans rfl, (cell_of_row _ _ 2 _ _ _ h).trans rfl, (cell_of_row _ _ 3 _ _ _ h).trans rfl⟩

/-- A box of four cells, in whatever world it still stands. -/
theorem box4_in (w2 : World) (g : Nat) (c0 c1 c2 c3 : Value) (t : TypeId) (h : w2.heap[g]? = some (.cells #[c0, c1, c2, c3] t (0, 0))) : w2.cell? ⟨g, 0, none⟩ = some c0 ∧ w2.cell? ⟨g, 1, none⟩ = some c1 ∧
    w2.cell? ⟨g, 2, none⟩ = some c2 ∧ w2.cell? ⟨g, 3, none⟩ = some c3 ∧ ∀ o, w2.frozen? ⟨g, o, none⟩ = false :=
  ⟨(cell_of_row _ _ 0 _ _ _ h).trans rfl, (cell_of_row _ _ 1 _ _ _ h).trans rfl, (cell_of_row _ _ 2 _ _ _ h).trans rfl, (cell_of_row _ _ 3 _ _ _ h).trans rfl, fun o => by simp [World.frozen?, h]⟩
theorem heap_old {w w' : World} {g : Nat} {o : Obj} (h : w.heap[g]? = some o) (hb : Below w.heap.size w w') : w'.heap[g]? = some o := by
  refine (hb.block g ?_).trans h
  rcases Nat.lt_or_ge g w.heap.size with h1 | h1
  · exact h1
  · rw [Array.getElem?_eq_none h1] at h; cases h
theorem heap_alloc_ (w : World) (o o' : Obj) (g : Nat) (h : w.heap[g]? = some o) : (w.alloc o').heap[g]? = some o := heap_old h ((Below.refl _ _).alloc (Nat.le_refl _) _)

theorem below_bcell {W w1 : World} (hb : Below W.heap.size W w1) : (∀ b o, b < W.heap.size → w1.cell? ⟨b, o, none⟩ = W.cell? ⟨b, o, none⟩) ∧ (∀ b o, b < W.heap.size → w1.frozen? ⟨b, o, none⟩ = W.frozen? ⟨b, o, none⟩) :=
  ⟨fun b o h => hb.cell (p := ⟨b, o, none⟩) h, fun b o h => hb.frozen (p := ⟨b, o, none⟩) h⟩


def cmpI (a b : Int) : Int := if a < b then -1 else if b < a then 1 else 0

mutual
def dp : T → Int | .mk k _ _ l => (if k = 4 then dpAll l else 0) + 1
def dpAll : List T → Int | [] => 0 | t :: r => max (dp t) (dpAll r)
end
theorem dpAll_nonneg : ∀ l, 0 ≤ dpAll l
  | [] => by simp [dpAll]
  | x :: r => by have := dpAll_nonneg r; simp only [dpAll]; omega
theorem dp_pos : ∀ t, 1 ≤ dp t
  | .mk k n s l => by have := dpAll_nonneg l; simp only [dp]; split <;> omega
theorem dpAll_append : ∀ a b, dpAll (a ++ b) = max (dpAll a) (dpAll b)
  | [], b => by have := dpAll_nonneg b; simp [dpAll]; omega
  | x :: r, b => by simp only [List.cons_append, dpAll, dpAll_append r b]; omega
theorem dpAll_split (l : List T) (i : Nat) (h : i < l.length) : dpAll (l.take (i + 1)) = max (dpAll (l.take i)) (dp (l[i])) := by
  rw [List.take_succ_eq_append_getElem h, dpAll_append]; have := dp_pos l[i]; simp only [dpAll]; omega
theorem dpAll_take_le (l : List T) (i : Nat) : dpAll (l.take i) ≤ dpAll l := by
  have h := dpAll_append (l.take i) (l.drop i)
  rw [List.take_append_drop] at h; omega
mutual
theorem dp_le_sz : ∀ t, dp t ≤ sz t
  | .mk k n s l => by have h := dpAll_le_sz l; have := szAll_nonneg l; simp only [dp, sz]; split <;> split <;> omega
theorem dpAll_le_sz : ∀ l, dpAll l ≤ szAll l
  | [] => by simp [dpAll, szAll]
  | x :: r => by have h := dp_le_sz x; have h2 := dpAll_le_sz r; have := szAll_nonneg r; have := sz_pos x; simp only [dpAll, szAll]; omega
end
mutual
/-- The size that the document reckons: items count of a list alone. -/
def rsz : T → Int | .mk k _ s l => if k = 2 then 1 + (s.size : Int) else if k = 4 then 1 + rszAll l else 1
def rszAll : List T → Int | [] => 0 | t :: r => rsz t + rszAll r
end
theorem rszAll_append : ∀ a b, rszAll (a ++ b) = rszAll a + rszAll b
  | [], b => by simp [rszAll]
  | x :: r, b => by simp only [List.cons_append, rszAll, rszAll_append r b]; omega
theorem rszAll_split (l : List T) (i : Nat) (h : i < l.length) : rszAll (l.take (i + 1)) = rszAll (l.take i) + rsz (l[i]) := by
  rw [List.take_succ_eq_append_getElem h, rszAll_append]; simp [rszAll]
mutual
theorem rsz_le : ∀ t, rsz t ≤ sz t
  | .mk k n s l => by have h := rszAll_le l; have := szAll_nonneg l; simp only [rsz, sz]; split <;> (try split) <;> omega
theorem rszAll_le : ∀ l, rszAll l ≤ szAll l
  | [] => by simp [rszAll, szAll]
  | x :: r => by have h := rsz_le x; have h2 := rszAll_le r; simp only [rszAll, szAll]; omega
end
mutual
theorem rsz_pos : ∀ t, 1 ≤ rsz t
  | .mk k n s l => by have h := rszAll_nonneg l; simp only [rsz]; split <;> (try split) <;> omega
theorem rszAll_nonneg : ∀ l, 0 ≤ rszAll l
  | [] => by simp [rszAll]
  | x :: r => by have h := rsz_pos x; have h2 := rszAll_nonneg r; simp only [rszAll]; omega
end
theorem rszAll_take_le (l : List T) (i : Nat) : rszAll (l.take i) ≤ rszAll l := by
  have h := rszAll_append (l.take i) (l.drop i)
  rw [List.take_append_drop] at h
  have := rszAll_nonneg (l.drop i); omega

end Go.Proofs.YtlinclbodbbemaaDoor

namespace Go.Proofs.YtlinclbodbbemaaDoor
open Go.RowKit

abbrev Bs := List UInt8

def isD (c : UInt8) : Bool := 48 ≤ c.toNat && c.toNat ≤ 57
/-- Does a digit stand first? -/
def hdD : Bs → Bool | [] => false | c :: _ => isD c
/-- Does this byte stand first? -/
def hd (n : Nat) : Bs → Bool | [] => false | c :: _ => c.toNat == n

/-- Digits, as far as they go and are not too much. -/
def dig (most n : Nat) : Bs → Bool × Nat × Bs
  | [] => (true, n, [])
  | c :: r => if isD c then (if (most - (c.toNat - 48)) / 10 < n then (false, n, c :: r) else dig most (n * 10 + (c.toNat - 48)) r) else (true, n, c :: r)

/-- Digits behind a sign. -/
def numU (most : Nat) (sg : Int) (inp : Bs) : Option Int × Bs :=
  if hd 48 inp || !hdD inp then (none, inp) else ((if (dig most 0 inp).1 then some (sg * ((dig most 0 inp).2.1 : Int)) else none), (dig most 0 inp).2.2)
/-- A number; behind a 0 nothing is looked at. -/
def numC (most : Nat) (inp : Bs) : Option Int × Bs :=
  if hd 48 inp then (some 0, inp.drop 1) else if hd 45 inp then numU (most + 1) (-1) (inp.drop 1) else numU most 1 inp
/-- A number; behind a 0 stands no digit. -/
def num (most : Nat) (inp : Bs) : Option Int × Bs :=
  if hd 48 inp && hdD (inp.drop 1) then (none, inp.drop 1) else numC most inp

/-- The signs of a Str, up to its last quote. -/
def strOf : Bs → Option Bs × Bs
  | [] => (none, [])
  | c :: r => if c.toNat < 32 ∨ 126 < c.toNat then (none, c :: r) else if c.toNat = 34 then (some [], r) else if c.toNat = 92 then
      (match r with
        | [] => (none, [])
        | d :: r' => if d.toNat = 34 ∨ d.toNat = 92 then ((strOf r').1.map (d :: ·), (strOf r').2) else (none, d :: r'))
    else ((strOf r).1.map (c :: ·), (strOf r).2)

def names : List Bs :=
  [[69, 95, 78, 79, 78, 69], [69, 95, 84, 89, 80, 69], [69, 95, 68, 73, 86], [69, 95, 80, 69, 82, 77], [69, 95, 80, 82, 79, 80, 78, 70], [69, 95, 86, 69, 82, 66, 78, 70],
   [69, 95, 86, 65, 82, 78, 70], [69, 95, 73, 78, 86, 73, 78, 68], [69, 95, 82, 69, 67, 77, 79, 86, 69], [69, 95, 77, 65, 88, 82, 69, 67], [69, 95, 82, 65, 78, 71, 69],
   [69, 95, 65, 82, 71, 83], [69, 95, 78, 65, 67, 67], [69, 95, 73, 78, 86, 65, 82, 71], [69, 95, 81, 85, 79, 84, 65]]

/-- With how many bytes both begin. -/
def lcp : Bs → Bs → Nat
  | a :: r, b :: q => if a = b then lcp r q + 1 else 0
  | _, _ => 0
def codeGo (inp : Bs) : Nat → Nat → List Bs → Option Int × Nat
  | _, far, [] => (none, far)
  | i, far, x :: xs => if lcp inp x = x.length then (some (i : Int), x.length) else codeGo inp (i + 1) (max far (lcp inp x)) xs
def codeOf (inp : Bs) : Option Int × Bs := ((codeGo inp 0 0 names).1, inp.drop (codeGo inp 0 0 names).2)

/-- What a reading comes to: a tree, and what stands behind; or what stands at the first byte that doesn't fit. -/
inductive Res where
  | ok (t : T) (r : Bs)
  | bad (r : Bs)

def res (k : Int) (q : Option Int × Bs) : Res := match q.1 with | some n => .ok (.mk k n ByteArray.empty []) q.2 | none => .bad q.2
def resS (q : Option Bs × Bs) : Res := match q.1 with | some s => .ok (.mk 2 0 ⟨s.toArray⟩ []) q.2 | none => .bad q.2
/-- One that is no list. -/
def one (inp : Bs) : Res :=
  if hd 34 inp then resS (strOf (inp.drop 1)) else if hd 35 inp then res 1 (numC 2147483647 (inp.drop 1)) else
    if hd 45 inp || hdD inp then res 0 (numC 9223372036854775807 inp) else res 3 (codeOf inp)

inductive Md where
  | val
  | items (l : List T)
  | tail (l : List T)

/-- The reading of a value; of what stands at an item's place; of what stands behind an item. -/
inductive Go : Md → Bs → Res → Prop
  | one {i} : hd 123 i = false → Go .val i (one i)
  | none {r} : Go .val (123 :: 125 :: r) (.ok (.mk 4 0 ByteArray.empty []) r)
  | list {r R} : hd 125 r = false → Go (.items []) r R → Go .val (123 :: r) R
  | itemBad {l r x} : Go .val r (.bad x) → Go (.items l) r (.bad x)
  | item {l r t r' R} : Go .val r (.ok t r') → Go (.tail (l ++ [t])) r' R → Go (.items l) r R
  | tailEnd {l r} : Go (.tail l) (125 :: r) (.ok (.mk 4 0 ByteArray.empty l) r)
  | tailOn {l r R} : Go (.items l) r R → Go (.tail l) (44 :: 32 :: r) R
  | tailComma {l r} : hd 32 r = false → Go (.tail l) (44 :: r) (.bad r)
  | tailBad {l r} : hd 125 r = false → hd 44 r = false → Go (.tail l) r (.bad r)

theorem Go.det {m : Md} {i : Bs} {R R' : Res} (h : Go m i R) (h' : Go m i R') : R = R' := by
  induction h generalizing R' with
  | one hh =>
    cases h' with
    | one _ => rfl
    | none => simp [hd] at hh
    | list _ _ => simp [hd] at hh
  | none =>
    cases h' with
    | one hh => simp [hd] at hh
    | none => rfl
    | list hh _ => simp [hd] at hh
  | list hh _ ih =>
    cases h' with
    | one hh' => simp [hd] at hh'
    | none => simp [hd] at hh
    | list _ h2 => exact ih h2
  | itemBad _ ih =>
    cases h' with
    | itemBad h2 => exact ih h2
    | item h2 _ => cases ih h2
  | item _ _ ih1 ih2 =>
    cases h' with
    | itemBad h2 => cases ih1 h2
    | item h2 h3 =>
      have e := ih1 h2
      injection e with e1 e2
      subst e1 e2
      exact ih2 h3
  | tailEnd =>
    cases h' with
    | tailEnd => rfl
    | tailBad hh _ => simp [hd] at hh
  | tailOn _ ih =>
    cases h' with
    | tailOn h2 => exact ih h2
    | tailComma hh => simp [hd] at hh
    | tailBad _ hh => simp [hd] at hh
  | tailComma hh =>
    cases h' with
    | tailOn h2 => simp [hd] at hh
    | tailComma hh => rfl
    | tailBad _ hh => simp [hd] at hh
  | tailBad hh hh' =>
    cases h' with
    | tailEnd => simp [hd] at hh
    | tailOn h2 => simp [hd] at hh'
    | tailComma h2 => simp [hd] at hh'
    | tailBad _ _ => rfl

/-! ### How a value is written -/
def nameOf (n : Int) : Bs := if n < 0 then [] else (names[n.toNat]?).getD []
def esc : Bs → Bs
  | [] => []
  | c :: r => if c.toNat = 34 ∨ c.toNat = 92 then 92 :: c :: esc r else c :: esc r
mutual
def tx : T → Bs
  | .mk k n s l => if k = 0 then Lib.itoa n else if k = 1 then 35 :: Lib.itoa n else if k = 2 then 34 :: (esc s.data.toList ++ [34]) else if k = 3 then nameOf n else 123 :: (txs l ++ [125])
def txs : List T → Bs
  | [] => []
  | t :: r => tx t ++ txr r
def txr : List T → Bs
  | [] => []
  | t :: r => 44 :: 32 :: (tx t ++ txr r)
end
theorem txr_append : ∀ a b, txr (a ++ b) = txr a ++ txr b
  | [], b => by simp [txr]
  | x :: r, b => by simp [txr, txr_append r b]
theorem txs_snoc (l : List T) (t : T) : txs (l ++ [t]) = if l.length = 0 then tx t else txs l ++ (44 :: 32 :: tx t) := by
  cases l with
  | nil => simp [txs, txr]
  | cons x r => simp [txs, txr_append, txr]

/-! ### Digits -/
theorem dec_small {u : Nat} (h : u < 10) : Lib.decDigits u = [UInt8.ofNat (48 + u)] := Lib.decDigits_one h
theorem dec_big {u : Nat} (h : ¬ u < 10) : Lib.decDigits u = Lib.decDigits (u / 10) ++ [UInt8.ofNat (48 + u % 10)] := by rw [Lib.decDigits, dif_neg h]
theorem ofNat_toNat_lt {n : Nat} (h : n < 256) : (UInt8.ofNat n).toNat = n := by simp [UInt8.toNat_ofNat']; omega
theorem isD_ofNat {d : Nat} (h : d < 10) : isD (UInt8.ofNat (48 + d)) = true := by
  unfold isD; rw [ofNat_toNat_lt (by omega)]; simp; omega
theorem isD_iff {c : UInt8} : isD c = true ↔ 48 ≤ c.toNat ∧ c.toNat ≤ 57 := by unfold isD; simp
theorem ofNat_isD {c : UInt8} (h : isD c = true) : UInt8.ofNat (48 + (c.toNat - 48)) = c := by
  have := isD_iff.1 h
  rw [show 48 + (c.toNat - 48) = c.toNat by omega]; exact UInt8.ofNat_toNat

theorem dig_sound {most : Nat} : ∀ (inp : Bs) {n m : Nat} {r : Bs}, 0 < n → n ≤ most → dig most n inp = (true, m, r) → ∃ ds, inp = ds ++ r ∧ Lib.decDigits m = Lib.decDigits n ++ ds ∧ m ≤ most ∧ 0 < m ∧ hdD r = false
  | [], n, m, r, hn, hm, h => by
    simp only [dig, Prod.mk.injEq, true_and] at h
    obtain ⟨rfl, rfl⟩ := h
    exact ⟨[], by simp, by simp, hm, hn, rfl⟩
  | c :: q, n, m, r, hn, hm, h => by
    rw [dig] at h
    by_cases hc : isD c = true
    · rw [if_pos hc] at h
      by_cases ho : (most - (c.toNat - 48)) / 10 < n
      · rw [if_pos ho] at h; simp at h
      · rw [if_neg ho] at h
        have hc' := isD_iff.1 hc
        obtain ⟨ds, h1, h2, h3, h4, h5⟩ := dig_sound q (by omega) (by omega) h
        refine ⟨c :: ds, by rw [h1]; rfl, ?_, h3, h4, h5⟩
        rw [h2, dec_big (by omega), show (n * 10 + (c.toNat - 48)) / 10 = n by omega, show (n * 10 + (c.toNat - 48)) % 10 = c.toNat - 48 by omega, ofNat_isD hc]
        simp
    · rw [if_neg hc] at h
      simp only [Prod.mk.injEq, true_and] at h
      obtain ⟨rfl, rfl⟩ := h
      exact ⟨[], by simp, by simp, hm, hn, by simp [hdD]; simpa using hc⟩

theorem dig_dec {most : Nat} (u : Nat) (r : Bs) (hu : u ≤ most) : dig most 0 (Lib.decDigits u ++ r) = dig most u r := by
  induction u using Nat.strongRecOn generalizing r with
  | _ u ih =>
    by_cases h : u < 10
    · rw [dec_small h, List.singleton_append, dig, if_pos (isD_ofNat h), ofNat_toNat_lt (by omega), if_neg (by omega)]
      congr 1; omega
    · rw [dec_big h, List.append_assoc, ih (u / 10) (by omega) _ (by omega), List.singleton_append, dig, if_pos (isD_ofNat (by omega)), ofNat_toNat_lt (by omega), if_neg (by omega)]
      congr 1; omega
theorem dig_stop {most u : Nat} {r : Bs} (h : hdD r = false) : dig most u r = (true, u, r) := by
  cases r with
  | nil => rfl
  | cons c q => rw [dig, if_neg (by simpa [hdD] using h)]
theorem dec_head (u : Nat) (hu : 0 < u) (r : Bs) : hd 48 (Lib.decDigits u ++ r) = false ∧ hdD (Lib.decDigits u ++ r) = true ∧ hd 45 (Lib.decDigits u ++ r) = false := by
  induction u using Nat.strongRecOn generalizing r with
  | _ u ih =>
    by_cases h : u < 10
    · rw [dec_small h]
      refine ⟨?_, ?_, ?_⟩
      · simp only [hd, List.cons_append, ofNat_toNat_lt (show 48 + u < 256 by omega)]; simp; omega
      · simpa [hdD] using isD_ofNat h
      · simp only [hd, List.cons_append, ofNat_toNat_lt (show 48 + u < 256 by omega)]; simp; omega
    · rw [dec_big h, List.append_assoc]
      exact ih (u / 10) (by omega) (by omega) _

theorem numU_dec {most u : Nat} (sg : Int) {r : Bs} (hu : 0 < u) (hm : u ≤ most) (hr : hdD r = false) : numU most sg (Lib.decDigits u ++ r) = (some (sg * (u : Int)), r) := by
  obtain ⟨h1, h2, _⟩ := dec_head u hu r
  unfold numU
  rw [h1, h2, dig_dec u r hm, dig_stop hr]
  simp

theorem num_itoa {most : Nat} {n : Int} {r : Bs} (h0 : -(most : Int) - 1 ≤ n) (h1 : n ≤ most) (hr : hdD r = false) : num most (Lib.itoa n ++ r) = (some n, r) := by
  by_cases hz : n = 0
  · subst hz
    rw [show Lib.itoa 0 = [48] from by unfold Lib.itoa; rw [if_neg (by omega)]; exact dec_small (by omega)]
    simp [num, numC, hd, hr]
  · by_cases hn : n < 0
    · have e : Lib.itoa n = 45 :: Lib.decDigits n.natAbs := by unfold Lib.itoa; rw [if_pos hn]
      have h := numU_dec (most := most + 1) (-1) (r := r) (show 0 < n.natAbs by omega) (by omega) hr
      rw [e]
      simp only [num, numC, hd, List.cons_append, List.drop_succ_cons, List.drop_zero]
      simp only [show ((45 : UInt8).toNat == 48) = false from rfl, show ((45 : UInt8).toNat == 45) = true from rfl, Bool.false_and, if_true, h]
      simp; omega
    · have e : Lib.itoa n = Lib.decDigits n.toNat := by unfold Lib.itoa; rw [if_neg hn]
      have h := numU_dec (most := most) 1 (r := r) (show 0 < n.toNat by omega) (by omega) hr
      obtain ⟨h1, h2, h3⟩ := dec_head n.toNat (by omega) r
      rw [e]
      simp only [num, numC, h1, h3, Bool.false_and, h]
      simp; omega

theorem numU_sound {most : Nat} {sg n : Int} {inp r : Bs} (hm : 9 ≤ most) (h : numU most sg inp = (some n, r)) : ∃ u : Nat, n = sg * u ∧ 0 < u ∧ u ≤ most ∧ inp = Lib.decDigits u ++ r ∧ hdD r = false := by
  unfold numU at h
  by_cases hb : (hd 48 inp || !hdD inp) = true
  · rw [if_pos hb] at h; simp at h
  · rw [if_neg hb] at h
    cases inp with
    | nil => simp [hdD] at hb
    | cons c q =>
      simp only [hd, hdD, Bool.or_eq_true, beq_iff_eq, Bool.not_eq_true', not_or, Bool.not_eq_false] at hb
      obtain ⟨hc0, hcd⟩ := hb
      have hc := isD_iff.1 hcd
      have e : dig most 0 (c :: q) = dig most (c.toNat - 48) q := by
        rw [dig, if_pos hcd, if_neg (by omega)]; congr 1; omega
      rw [e] at h
      rcases hq : dig most (c.toNat - 48) q with ⟨b, m, r'⟩
      rw [hq] at h
      cases b with
      | false => simp at h
      | true =>
        simp only [if_true, Prod.mk.injEq, Option.some.injEq] at h
        obtain ⟨rfl, rfl⟩ := h
        obtain ⟨ds, h1, h2, h3, h4, h5⟩ := dig_sound q (by omega) (by omega) hq
        refine ⟨m, rfl, h4, h3, ?_, h5⟩
        rw [h2, h1, dec_small (by omega), ofNat_isD hcd]; simp

theorem hd_iff {n : Nat} {inp : Bs} (h : hd n inp = true) : ∃ c r, inp = c :: r ∧ c.toNat = n := by
  cases inp with
  | nil => simp [hd] at h
  | cons c r => exact ⟨c, r, rfl, by simpa [hd] using h⟩
theorem hd_lit {n : Nat} {inp : Bs} (h : hd n inp = true) : inp = UInt8.ofNat n :: inp.drop 1 := by
  obtain ⟨c, r, rfl, hc⟩ := hd_iff h
  simp only [List.drop_succ_cons, List.drop_zero]
  rw [← hc, UInt8.ofNat_toNat]

theorem num_sound {most : Nat} {n : Int} {inp r : Bs} (hm : 9 ≤ most) (h : num most inp = (some n, r)) : inp = Lib.itoa n ++ r ∧ -(most : Int) - 1 ≤ n ∧ n ≤ most ∧ hdD r = false := by
  unfold num numC at h
  by_cases h0 : hd 48 inp = true
  · rw [h0] at h
    by_cases hb : hdD (inp.drop 1) = true
    · rw [hb] at h; simp at h
    · simp only [Bool.eq_false_iff.2 hb, Bool.and_false, if_true] at h
      simp only [Bool.false_eq_true, if_false, Prod.mk.injEq, Option.some.injEq] at h
      obtain ⟨rfl, rfl⟩ := h
      refine ⟨?_, by omega, by omega, by simpa using hb⟩
      have := hd_lit h0
      rw [show Lib.itoa 0 = [48] from by unfold Lib.itoa; rw [if_neg (by omega)]; exact dec_small (by omega)]
      exact this
  · simp only [Bool.eq_false_iff.2 h0, Bool.false_and] at h
    by_cases h4 : hd 45 inp = true
    · simp only [h4, if_true, Bool.false_eq_true, if_false] at h
      obtain ⟨u, rfl, hu, hum, hi, hr⟩ := numU_sound (by omega) h
      refine ⟨?_, by omega, by omega, hr⟩
      have e : Lib.itoa (-1 * (u : Int)) = 45 :: Lib.decDigits u := by unfold Lib.itoa; rw [if_pos (by omega)]; congr 2; omega
      rw [e, List.cons_append, ← hi]
      exact hd_lit h4
    · simp only [Bool.eq_false_iff.2 h4, Bool.false_eq_true, if_false] at h
      obtain ⟨u, rfl, hu, hum, hi, hr⟩ := numU_sound (by omega) h
      refine ⟨?_, by omega, by omega, hr⟩
      have e : Lib.itoa (1 * (u : Int)) = Lib.decDigits u := by unfold Lib.itoa; rw [if_neg (by omega)]; congr 1; omega
      rw [e]; exact hi

theorem dec_take (u k : Nat) (hk : k < (Lib.decDigits u).length) : (Lib.decDigits u).take k = [] ∨ (0 < u ∧ ∃ v, 0 < v ∧ v ≤ u ∧ (Lib.decDigits u).take k = Lib.decDigits v) := by
  induction u using Nat.strongRecOn generalizing k with
  | _ u ih =>
    by_cases h : u < 10
    · rw [dec_small h] at hk ⊢
      simp only [List.length_singleton] at hk
      left; rw [show k = 0 by omega]; rfl
    · rw [dec_big h] at hk ⊢
      simp only [List.length_append, List.length_singleton] at hk
      rw [List.take_append_of_le_length (by omega)]
      by_cases hl : k < (Lib.decDigits (u / 10)).length
      · rcases ih (u / 10) (by omega) k hl with h1 | ⟨_, v, hv0, hv, h1⟩
        · left; exact h1
        · right; exact ⟨by omega, v, hv0, by omega, h1⟩
      · right
        exact ⟨by omega, u / 10, by omega, by omega, List.take_of_length_le (by omega)⟩

theorem num_take {most : Nat} {n : Int} {k : Nat} (h0 : -(most : Int) - 1 ≤ n) (h1 : n ≤ most) (hk : k < (Lib.itoa n).length) : num most ((Lib.itoa n).take k) = (none, []) ∨ ∃ n', num most ((Lib.itoa n).take k) = (some n', []) := by
  by_cases hn : n < 0
  · have e : Lib.itoa n = 45 :: Lib.decDigits n.natAbs := by unfold Lib.itoa; rw [if_pos hn]
    rw [e] at hk ⊢
    cases k with
    | zero => left; rfl
    | succ k =>
      simp only [List.length_cons] at hk
      rw [List.take_succ_cons]
      rcases dec_take n.natAbs k (by omega) with h | ⟨_, v, hv0, hv, h⟩
      · left; rw [h]; rfl
      · right
        refine ⟨-(v : Int), ?_⟩
        have e' : Lib.itoa (-(v : Int)) = 45 :: Lib.decDigits v := by unfold Lib.itoa; rw [if_pos (by omega)]; congr 2; omega
        have := num_itoa (most := most) (n := -(v : Int)) (r := []) (by omega) (by omega) rfl
        rw [e', List.append_nil] at this
        rw [h]; exact this
  · have e : Lib.itoa n = Lib.decDigits n.toNat := by unfold Lib.itoa; rw [if_neg hn]
    rw [e] at hk ⊢
    rcases dec_take n.toNat k hk with h | ⟨_, v, hv0, hv, h⟩
    · left; rw [h]; rfl
    · right
      refine ⟨(v : Int), ?_⟩
      have e' : Lib.itoa (v : Int) = Lib.decDigits v := by unfold Lib.itoa; rw [if_neg (by omega)]; congr 1
      have := num_itoa (most := most) (n := (v : Int)) (r := []) (by omega) (by omega) rfl
      rw [e', List.append_nil] at this
      rw [h]; exact this

/-! ### Where behind a 0 nothing is looked at -/
theorem num_is_numC {most : Nat} {i : Bs} (h : (hd 48 i && hdD (i.drop 1)) = false) : num most i = numC most i := by unfold num; rw [h]; rfl
theorem numC_itoa {most : Nat} {n : Int} {r : Bs} (h0 : -(most : Int) - 1 ≤ n) (h1 : n ≤ most) (hr : hdD r = false) : numC most (Lib.itoa n ++ r) = (some n, r) := by
  have h := num_itoa h0 h1 hr
  cases hb : (hd 48 (Lib.itoa n ++ r) && hdD ((Lib.itoa n ++ r).drop 1)) with
  | false => rw [← num_is_numC hb]; exact h
  | true => unfold num at h; rw [hb] at h; simp at h
theorem numC_sound {most : Nat} {n : Int} {inp r : Bs} (hm : 9 ≤ most) (h : numC most inp = (some n, r)) : inp = Lib.itoa n ++ r ∧ -(most : Int) - 1 ≤ n ∧ n ≤ most := by
  cases hb : (hd 48 inp && hdD (inp.drop 1)) with
  | false => rw [← num_is_numC hb] at h; have := num_sound hm h; exact ⟨this.1, this.2.1, this.2.2.1⟩
  | true =>
    have h0 : hd 48 inp = true := by cases h1 : hd 48 inp; rw [h1] at hb; simp at hb; rfl
    unfold numC at h
    rw [if_pos h0] at h
    simp only [Prod.mk.injEq, Option.some.injEq] at h
    obtain ⟨rfl, rfl⟩ := h
    refine ⟨?_, by omega, by omega⟩
    rw [show Lib.itoa 0 = [48] from by unfold Lib.itoa; rw [if_neg (by omega)]; exact dec_small (by omega)]
    exact hd_lit h0
theorem numC_take {most : Nat} {n : Int} {k : Nat} (h0 : -(most : Int) - 1 ≤ n) (h1 : n ≤ most) (hk : k < (Lib.itoa n).length) : numC most ((Lib.itoa n).take k) = (none, []) ∨ ∃ n', numC most ((Lib.itoa n).take k) = (some n', []) := by
  have h := num_take h0 h1 hk
  cases hb : (hd 48 ((Lib.itoa n).take k) && hdD (((Lib.itoa n).take k).drop 1)) with
  | false => rw [num_is_numC hb] at h; exact h
  | true =>
    have hb' := hb
    unfold num at h
    rw [hb] at h
    simp only [if_true, Prod.mk.injEq, true_and, reduceCtorEq, false_and, exists_false, or_false] at h
    rw [h] at hb'
    simp [hdD] at hb'

/-! ### Strs -/
theorem strOf_nil : strOf [] = (none, []) := by rw [strOf.eq_def]
theorem strOf_cons (c : UInt8) (r : Bs) : strOf (c :: r) = if c.toNat < 32 ∨ 126 < c.toNat then (none, c :: r) else if c.toNat = 34 then (some [], r) else if c.toNat = 92 then
      (match r with
        | [] => (none, [])
        | d :: r' => if d.toNat = 34 ∨ d.toNat = 92 then ((strOf r').1.map (d :: ·), (strOf r').2) else (none, d :: r'))
    else ((strOf r).1.map (c :: ·), (strOf r).2) := (strOf.eq_def (c :: r)).trans rfl
theorem strOf_quote (r : Bs) : strOf (34 :: r) = (some [], r) := by rw [strOf_cons]; rfl
theorem strOf_back {d : UInt8} (h : d.toNat = 34 ∨ d.toNat = 92) (r : Bs) : strOf (92 :: d :: r) = ((strOf r).1.map (d :: ·), (strOf r).2) := by
  rw [strOf_cons]; simp [h]
theorem strOf_back_nil : strOf [92] = (none, []) := by rw [strOf_cons]; rfl
theorem strOf_plain {c : UInt8} (h0 : 32 ≤ c.toNat) (h1 : c.toNat ≤ 126) (h2 : ¬ (c.toNat = 34 ∨ c.toNat = 92)) (r : Bs) : strOf (c :: r) = ((strOf r).1.map (c :: ·), (strOf r).2) := by
  rw [strOf_cons, if_neg (by omega), if_neg (by omega), if_neg (by omega)]
theorem strOf_esc : ∀ (s r : Bs), (∀ c ∈ s, 32 ≤ c.toNat ∧ c.toNat ≤ 126) → strOf (esc s ++ (34 :: r)) = (some s, r)
  | [], r, _ => by rw [esc, List.nil_append, strOf_quote]
  | c :: q, r, h => by
    have hc := h c (by simp)
    have ih := strOf_esc q r (fun x hx => h x (by simp [hx]))
    rw [esc]
    by_cases he : c.toNat = 34 ∨ c.toNat = 92
    · rw [if_pos he, List.cons_append, List.cons_append, strOf_back he, ih]; rfl
    · rw [if_neg he, List.cons_append, strOf_plain hc.1 hc.2 he, ih]; rfl
theorem strOf_sound : ∀ (n : Nat) (inp : Bs) {s r : Bs}, inp.length ≤ n → strOf inp = (some s, r) → inp = esc s ++ (34 :: r) ∧ ∀ c ∈ s, 32 ≤ c.toNat ∧ c.toNat ≤ 126
  | n, [], s, r, _, h => by simp [strOf_nil] at h
  | 0, c :: q, s, r, hl, _ => by simp at hl
  | n + 1, c :: q, s, r, hl, h => by
    simp only [List.length_cons] at hl
    rw [strOf_cons] at h
    by_cases h1 : c.toNat < 32 ∨ 126 < c.toNat
    · rw [if_pos h1] at h; simp at h
    · rw [if_neg h1] at h
      by_cases h2 : c.toNat = 34
      · rw [if_pos h2] at h
        simp only [Prod.mk.injEq, Option.some.injEq] at h
        obtain ⟨rfl, rfl⟩ := h
        refine ⟨?_, by simp⟩
        have : c = 34 := by rw [← UInt8.ofNat_toNat (x := c), h2]; rfl
        rw [this]; rfl
      · rw [if_neg h2] at h
        by_cases h3 : c.toNat = 92
        · rw [if_pos h3] at h
          have hc : c = 92 := by rw [← UInt8.ofNat_toNat (x := c), h3]; rfl
          cases q with
          | nil => simp at h
          | cons d q' =>
            simp only at h
            by_cases h4 : d.toNat = 34 ∨ d.toNat = 92
            · rw [if_pos h4] at h
              rcases hq : strOf q' with ⟨o, r'⟩
              rw [hq] at h
              cases o with
              | none => simp at h
              | some s' =>
                simp only [Option.map_some, Prod.mk.injEq, Option.some.injEq] at h
                obtain ⟨rfl, rfl⟩ := h
                obtain ⟨e1, e2⟩ := strOf_sound n q' (by simp only [List.length_cons] at hl; omega) hq
                refine ⟨by rw [esc, if_pos h4, e1, hc]; simp, fun x hx => ?_⟩
                rcases List.mem_cons.1 hx with rfl | hx
                · omega
                · exact e2 x hx
            · rw [if_neg h4] at h; simp at h
        · rw [if_neg h3] at h
          rcases hq : strOf q with ⟨o, r'⟩
          rw [hq] at h
          cases o with
          | none => simp at h
          | some s' =>
            simp only [Option.map_some, Prod.mk.injEq, Option.some.injEq] at h
            obtain ⟨rfl, rfl⟩ := h
            obtain ⟨e1, e2⟩ := strOf_sound n q (by omega) hq
            refine ⟨by rw [esc, if_neg (by omega), e1]; simp, fun x hx => ?_⟩
            rcases List.mem_cons.1 hx with rfl | hx
            · omega
            · exact e2 x hx
theorem strOf_take : ∀ (s : Bs) (k : Nat), (∀ c ∈ s, 32 ≤ c.toNat ∧ c.toNat ≤ 126) → k ≤ (esc s).length → strOf ((esc s).take k) = (none, [])
  | [], k, _, _ => by simp [esc, strOf_nil]
  | c :: q, k, h, hk => by
    have hc := h c (by simp)
    have ih := fun j => strOf_take q j (fun x hx => h x (by simp [hx]))
    rw [esc] at hk ⊢
    by_cases he : c.toNat = 34 ∨ c.toNat = 92
    · rw [if_pos he] at hk ⊢
      match k with
      | 0 => exact strOf_nil
      | 1 => exact strOf_back_nil
      | k + 2 =>
        simp only [List.length_cons] at hk
        rw [List.take_succ_cons, List.take_succ_cons, strOf_back he, ih k (by omega)]; rfl
    · rw [if_neg he] at hk ⊢
      match k with
      | 0 => exact strOf_nil
      | k + 1 =>
        simp only [List.length_cons] at hk
        rw [List.take_succ_cons, strOf_plain hc.1 hc.2 he, ih k (by omega)]; rfl

/-! ### Names -/
theorem lcp_full : ∀ (inp x : Bs), lcp inp x = x.length → inp = x ++ inp.drop x.length
  | inp, [], _ => by simp
  | [], b :: q, h => by simp [lcp] at h
  | a :: r, b :: q, h => by
    rw [lcp] at h
    by_cases e : a = b
    · rw [if_pos e] at h
      simp only [List.length_cons, Nat.add_right_cancel_iff] at h
      subst e
      have := lcp_full r q h
      simp only [List.cons_append, List.length_cons, List.drop_succ_cons]
      rw [← this]
    · rw [if_neg e] at h; simp at h
theorem codeGo_sound (inp : Bs) : ∀ (xs : List Bs) (i far : Nat) {n : Int} {m : Nat}, codeGo inp i far xs = (some n, m) → ∃ (j : Nat) (x : Bs), xs[j]? = some x ∧ n = ((i + j : Nat) : Int) ∧ m = x.length ∧ inp = x ++ inp.drop m
  | [], i, far, n, m, h => by simp [codeGo] at h
  | x :: xs, i, far, n, m, h => by
    rw [codeGo] at h
    by_cases e : lcp inp x = x.length
    · rw [if_pos e] at h
      simp only [Prod.mk.injEq, Option.some.injEq] at h
      obtain ⟨rfl, rfl⟩ := h
      exact ⟨0, x, rfl, rfl, rfl, lcp_full inp x e⟩
    · rw [if_neg e] at h
      obtain ⟨j, y, h1, h2, h3, h4⟩ := codeGo_sound inp xs _ _ h
      exact ⟨j + 1, y, by simpa using h1, by rw [h2]; omega, h3, h4⟩
theorem codeOf_sound {inp : Bs} {n : Int} {r : Bs} (h : codeOf inp = (some n, r)) : inp = nameOf n ++ r ∧ 0 ≤ n ∧ n ≤ 14 := by
  unfold codeOf at h
  simp only [Prod.mk.injEq] at h
  obtain ⟨h1, h2⟩ := h
  rcases hq : codeGo inp 0 0 names with ⟨o, m⟩
  rw [hq] at h1 h2
  simp only at h1 h2
  subst h1
  obtain ⟨j, x, e1, e2, e3, e4⟩ := codeGo_sound inp names 0 0 hq
  have hj : j < names.length := by
    rcases Nat.lt_or_ge j names.length with h | h
    · exact h
    · rw [List.getElem?_eq_none h] at e1; cases e1
  have hl : names.length = 15 := rfl
  refine ⟨?_, by omega, by omega⟩
  rw [← h2]
  unfold nameOf
  rw [if_neg (by omega), show n.toNat = j by omega, e1]
  exact e4
theorem fifteen {P : Int → Prop} (h : ∀ i : Fin 15, P ((i : Nat) : Int)) {n : Int} (h0 : 0 ≤ n) (h1 : n ≤ 14) : P n := by
  have := h ⟨n.toNat, by omega⟩
  simp only at this
  rwa [show ((n.toNat : Nat) : Int) = n by omega] at this
theorem codeOf_name {n : Int} (h0 : 0 ≤ n) (h1 : n ≤ 14) (r : Bs) : codeOf (nameOf n ++ r) = (some n, r) := by
  have h : n = 0 ∨ n = 1 ∨ n = 2 ∨ n = 3 ∨ n = 4 ∨ n = 5 ∨ n = 6 ∨ n = 7 ∨ n = 8 ∨ n = 9 ∨ n = 10 ∨ n = 11 ∨ n = 12 ∨ n = 13 ∨ n = 14 := by omega
  rcases h with rfl | rfl | rfl | rfl | rfl | rfl | rfl | rfl | rfl | rfl | rfl | rfl | rfl | rfl | rfl
  all_goals simp [codeOf, nameOf, names, codeGo, lcp]
theorem codeOf_take {n : Int} (h0 : 0 ≤ n) (h1 : n ≤ 14) {k : Nat} (hk : k < (nameOf n).length) : codeOf ((nameOf n).take k) = (none, []) := by
  have h8 : ∀ i : Fin 15, (nameOf ((i : Nat) : Int)).length ≤ 9 := by decide
  have h9 : k < 9 := Nat.lt_of_lt_of_le hk (fifteen (P := fun n => (nameOf n).length ≤ 9) h8 h0 h1)
  have h : ∀ i : Fin 15, ∀ k : Fin 9, k.val < (nameOf ((i : Nat) : Int)).length → codeOf ((nameOf ((i : Nat) : Int)).take k.val) = (none, []) := by decide
  exact fifteen (P := fun n => ∀ k : Fin 9, k.val < (nameOf n).length → codeOf ((nameOf n).take k.val) = (none, [])) h h0 h1 ⟨k, h9⟩ hk

end Go.Proofs.YtlinclbodbbemaaDoor

namespace Go.Proofs.YtlinclbodbbemaaDoor
open Go.RowKit

mutual
/-- A tree whose values are as they have to be, however great and deep it is. -/
def okT : T → Prop
  | .mk k n s l => (k = 0 ∧ I64 n ∧ s = ByteArray.empty ∧ l = []) ∨ (k = 1 ∧ -2147483648 ≤ n ∧ n ≤ 2147483647 ∧ s = ByteArray.empty ∧ l = []) ∨
      (k = 2 ∧ n = 0 ∧ l = [] ∧ ∀ c ∈ s.data.toList, 32 ≤ c.toNat ∧ c.toNat ≤ 126) ∨ (k = 3 ∧ 0 ≤ n ∧ n ≤ 14 ∧ s = ByteArray.empty ∧ l = []) ∨ (k = 4 ∧ n = 0 ∧ s = ByteArray.empty ∧ okA l)
def okA : List T → Prop
  | [] => True
  | t :: r => okT t ∧ okA r
end
theorem okA_append : ∀ a b, okA (a ++ b) ↔ okA a ∧ okA b
  | [], b => by simp [okA]
  | x :: r, b => by simp [okA, okA_append r b, and_assoc]
theorem okA_mem : ∀ {l : List T}, okA l → ∀ t ∈ l, okT t
  | [], _, t, ht => by cases ht
  | x :: r, h, t, ht => by
    rw [okA] at h
    rcases List.mem_cons.1 ht with e | e
    · exact e ▸ h.1
    · exact okA_mem h.2 t e

theorem tx0 (n : Int) (s : ByteArray) (l : List T) : tx (.mk 0 n s l) = Lib.itoa n := by rw [tx, if_pos rfl]
theorem tx1 (n : Int) (s : ByteArray) (l : List T) : tx (.mk 1 n s l) = 35 :: Lib.itoa n := by rw [tx, if_neg (by omega), if_pos rfl]
theorem tx2 (n : Int) (s : ByteArray) (l : List T) : tx (.mk 2 n s l) = 34 :: (esc s.data.toList ++ [34]) := by rw [tx, if_neg (by omega), if_neg (by omega), if_pos rfl]
theorem tx3 (n : Int) (s : ByteArray) (l : List T) : tx (.mk 3 n s l) = nameOf n := by rw [tx, if_neg (by omega), if_neg (by omega), if_neg (by omega), if_pos rfl]
theorem tx4 (n : Int) (s : ByteArray) (l : List T) : tx (.mk 4 n s l) = 123 :: (txs l ++ [125]) := by rw [tx, if_neg (by omega), if_neg (by omega), if_neg (by omega), if_neg (by omega)]

/-! ### What is read is written so -/
def pre : Md → Bs
  | .val => []
  | .items l => 123 :: (txs l ++ if l.length = 0 then [] else [44, 32])
  | .tail l => 123 :: txs l
def okM : Md → Prop
  | .val => True
  | .items l => okA l
  | .tail l => okA l ∧ l.length ≠ 0

theorem one_sound {i : Bs} {t : T} {r : Bs} (h : one i = .ok t r) : i = tx t ++ r ∧ okT t := by
  unfold one at h
  by_cases h1 : hd 34 i = true
  · rw [if_pos h1] at h
    rcases hq : strOf (i.drop 1) with ⟨o, x⟩
    rw [hq] at h
    cases o with
    | none => simp [resS] at h
    | some s =>
      simp only [resS, Res.ok.injEq] at h
      obtain ⟨rfl, rfl⟩ := h
      obtain ⟨e1, e2⟩ := strOf_sound _ _ (Nat.le_refl _) hq
      refine ⟨?_, ?_⟩
      · rw [tx2, hd_lit h1, e1]; simp
      · rw [okT]; right; right; left; exact ⟨rfl, rfl, rfl, by simpa using e2⟩
  · rw [if_neg h1] at h
    by_cases h2 : hd 35 i = true
    · rw [if_pos h2] at h
      rcases hq : numC 2147483647 (i.drop 1) with ⟨o, x⟩
      rw [hq] at h
      cases o with
      | none => simp [res] at h
      | some n =>
        simp only [res, Res.ok.injEq] at h
        obtain ⟨rfl, rfl⟩ := h
        obtain ⟨e1, e2, e3⟩ := numC_sound (by omega) hq
        refine ⟨?_, ?_⟩
        · rw [tx1, hd_lit h2, e1]; simp
        · rw [okT]; right; left; exact ⟨rfl, by omega, by omega, rfl, rfl⟩
    · rw [if_neg h2] at h
      by_cases h3 : (hd 45 i || hdD i) = true
      · rw [if_pos h3] at h
        rcases hq : numC 9223372036854775807 i with ⟨o, x⟩
        rw [hq] at h
        cases o with
        | none => simp [res] at h
        | some n =>
          simp only [res, Res.ok.injEq] at h
          obtain ⟨rfl, rfl⟩ := h
          obtain ⟨e1, e2, e3⟩ := numC_sound (by omega) hq
          refine ⟨?_, ?_⟩
          · rw [tx0]; exact e1
          · rw [okT]; left; exact ⟨rfl, by unfold I64; omega, rfl, rfl⟩
      · rw [if_neg h3] at h
        rcases hq : codeOf i with ⟨o, x⟩
        rw [hq] at h
        cases o with
        | none => simp [res] at h
        | some n =>
          simp only [res, Res.ok.injEq] at h
          obtain ⟨rfl, rfl⟩ := h
          obtain ⟨e1, e2, e3⟩ := codeOf_sound hq
          refine ⟨?_, ?_⟩
          · rw [tx3]; exact e1
          · rw [okT]; right; right; right; left; exact ⟨rfl, e2, e3, rfl, rfl⟩

theorem Go.sound_ {m : Md} {i : Bs} {R : Res} (h : Go m i R) : okM m → ∀ t r, R = .ok t r → pre m ++ i = tx t ++ r ∧ okT t := by
  induction h with
  | one _ => intro _ t r e; exact one_sound e
  | none =>
    intro _ t r e
    injection e with e1 e2
    subst e1 e2
    exact ⟨by rw [tx4]; rfl, by rw [okT]; simp [okA]⟩
  | list _ _ ih =>
    intro _ t r e
    obtain ⟨h1, h2⟩ := ih (by simp [okM, okA]) t r e
    exact ⟨by rw [← h1]; simp [pre, txs], h2⟩
  | itemBad _ _ => intro _ t r e; cases e
  | item hv _ ih1 ih2 =>
    intro hm t r e
    obtain ⟨h1, h2⟩ := ih1 trivial _ _ rfl
    obtain ⟨h3, h4⟩ := ih2 (by simp only [okM] at hm ⊢; rw [okA_append]; exact ⟨⟨hm, by simp [okA, h2]⟩, by simp⟩) t r e
    refine ⟨?_, h4⟩
    rw [← h3]
    simp only [pre, List.nil_append] at h1 ⊢
    rw [h1, txs_snoc]
    split
    · rename_i hl; have := List.eq_nil_of_length_eq_zero hl; subst this; simp [txs]
    · simp
  | tailEnd =>
    intro hm t r e
    injection e with e1 e2
    subst e1 e2
    refine ⟨by rw [tx4]; simp [pre], ?_⟩
    rw [okT]; right; right; right; right; exact ⟨rfl, rfl, rfl, hm.1⟩
  | @tailOn l r R _ ih =>
    intro hm t r' e
    obtain ⟨h1, h2⟩ := ih hm.1 t r' e
    refine ⟨?_, h2⟩
    rw [← h1]
    have hne : l ≠ [] := by intro e; exact hm.2 (by simp [e])
    simp [pre, hne]
  | tailComma _ => intro _ t r e; cases e
  | tailBad _ _ => intro _ t r e; cases e

theorem Go.sound {i : Bs} {t : T} {r : Bs} (h : Go .val i (.ok t r)) : i = tx t ++ r ∧ okT t := h.sound_ trivial t r rfl

/-! ### What is written is read so -/
theorem hd_take {n k : Nat} {i : Bs} (h : hd n i = false) : hd n (i.take k) = false := by
  cases k with
  | zero => rfl
  | succ k => cases i with
    | nil => rfl
    | cons c r => exact h
theorem itoa_head (n : Int) (r : Bs) : (hd 45 (Lib.itoa n ++ r) || hdD (Lib.itoa n ++ r)) = true ∧ 0 < (Lib.itoa n).length := by
  unfold Lib.itoa
  by_cases hn : n < 0
  · rw [if_pos hn]; simp [hd]
  · rw [if_neg hn]
    by_cases hz : n = 0
    · subst hz; rw [show (0 : Int).toNat = 0 from rfl, dec_small (by omega)]; simp [hd, hdD, isD]
    · obtain ⟨h1, h2, h3⟩ := dec_head n.toNat (by omega) r
      refine ⟨by rw [h2]; simp, ?_⟩
      have := Lib.nDigits_pos n.toNat
      rw [Lib.decDigits_length]; omega
theorem num_head {i : Bs} (h : (hd 45 i || hdD i) = true) : hd 34 i = false ∧ hd 35 i = false ∧ hd 123 i = false ∧ hd 125 i = false := by
  cases i with
  | nil => simp [hd, hdD] at h
  | cons c r =>
    simp only [hd, hdD, Bool.or_eq_true, beq_iff_eq, isD_iff] at h
    refine ⟨?_, ?_, ?_, ?_⟩ <;> simp [hd] <;> omega
theorem name_head {n : Int} (h0 : 0 ≤ n) (h1 : n ≤ 14) : ∃ q, nameOf n = 69 :: q := by
  have h : n = 0 ∨ n = 1 ∨ n = 2 ∨ n = 3 ∨ n = 4 ∨ n = 5 ∨ n = 6 ∨ n = 7 ∨ n = 8 ∨ n = 9 ∨ n = 10 ∨ n = 11 ∨ n = 12 ∨ n = 13 ∨ n = 14 := by omega
  rcases h with rfl | rfl | rfl | rfl | rfl | rfl | rfl | rfl | rfl | rfl | rfl | rfl | rfl | rfl | rfl
  all_goals exact ⟨_, rfl⟩

/-- The first byte of a value. -/
theorem tx_head {t : T} (h : okT t) (r : Bs) : hd 125 (tx t ++ r) = false ∧ 0 < (tx t).length := by
  match t, h with
  | .mk k n s l, h =>
    rw [okT] at h
    rcases h with ⟨rfl, _⟩ | ⟨rfl, _⟩ | ⟨rfl, _⟩ | ⟨rfl, h0, h1, _⟩ | ⟨rfl, _⟩
    · rw [tx0]; have h := itoa_head n r; exact ⟨(num_head h.1).2.2.2, h.2⟩
    · rw [tx1]; simp [hd]
    · rw [tx2]; simp [hd]
    · rw [tx3]; obtain ⟨q, e⟩ := name_head h0 h1; rw [e]; simp [hd]
    · rw [tx4]; simp [hd]

/-- One that is no list: its text is read. -/
theorem one_tx {k n : Int} {s : ByteArray} {l : List T} {r : Bs} (h : okT (.mk k n s l)) (hk : k ≠ 4) (hr : k = 0 ∨ k = 1 → hdD r = false) : hd 123 (tx (.mk k n s l) ++ r) = false ∧ one (tx (.mk k n s l) ++ r) = .ok (.mk k n s l) r := by
  rw [okT] at h
  rcases h with ⟨rfl, h1, rfl, rfl⟩ | ⟨rfl, h0, h1, rfl, rfl⟩ | ⟨rfl, rfl, rfl, h1⟩ | ⟨rfl, h0, h1, rfl, rfl⟩ | ⟨rfl, _⟩
  · rw [tx0]
    have hh := (itoa_head n r).1
    obtain ⟨h2, h3, h4, _⟩ := num_head hh
    unfold I64 at h1
    refine ⟨h4, ?_⟩
    unfold one
    rw [h2, h3, hh, numC_itoa (by omega) (by omega) (hr (.inl rfl))]; rfl
  · rw [tx1]
    refine ⟨rfl, ?_⟩
    have e := numC_itoa (most := 2147483647) (n := n) (r := r) (by omega) (by omega) (hr (.inr rfl))
    unfold one
    simp only [List.cons_append, List.drop_succ_cons, List.drop_zero, e]
    rfl
  · rw [tx2]
    refine ⟨rfl, ?_⟩
    have e := strOf_esc s.data.toList r h1
    unfold one
    simp only [List.cons_append, List.drop_succ_cons, List.drop_zero, List.append_assoc, List.nil_append, e]
    simp [hd, resS]
  · rw [tx3]
    have e := codeOf_name h0 h1 r
    obtain ⟨q, hq⟩ := name_head h0 h1
    rw [hq] at e ⊢
    refine ⟨rfl, ?_⟩
    unfold one
    rw [e]; rfl
  · omega

theorem tails_ok {xs : List T} (hx : ∀ t ∈ xs, okT t ∧ ∀ r, (t.k = 0 ∨ t.k = 1 → hdD r = false) → Go .val (tx t ++ r) (.ok t r)) (r : Bs) (done : List T) :
    Go (.tail done) (txr xs ++ (125 :: r)) (.ok (.mk 4 0 ByteArray.empty (done ++ xs)) r) := by
  induction xs generalizing done with
  | nil => simpa [txr] using Go.tailEnd
  | cons x q ih =>
    rw [txr]
    simp only [List.cons_append, List.append_assoc]
    have h2 := ih (fun t ht => hx t (by simp [ht])) (done ++ [x])
    rw [List.append_assoc, List.singleton_append] at h2
    refine Go.tailOn (Go.item ((hx x (by simp)).2 _ (fun _ => ?_)) h2)
    cases q with
    | nil => rfl
    | cons y q => rfl

theorem Go.full (t : T) : okT t → ∀ r, (t.k = 0 ∨ t.k = 1 → hdD r = false) → Go .val (tx t ++ r) (.ok t r) := by
  refine T.ind_ (P := fun t => okT t → ∀ r, (t.k = 0 ∨ t.k = 1 → hdD r = false) → Go .val (tx t ++ r) (.ok t r)) (fun k n s l ih => ?_) t
  intro h r hr
  by_cases hk : k = 4
  · subst hk
    rw [okT] at h
    obtain ⟨rfl, rfl, hl⟩ : n = 0 ∧ s = ByteArray.empty ∧ okA l := by
      rcases h with h | h | h | h | h
      · omega
      · omega
      · omega
      · omega
      · exact h.2
    rw [tx4]
    have hm := okA_mem hl
    cases l with
    | nil => exact Go.none
    | cons x q =>
      rw [txs]
      simp only [List.cons_append, List.append_assoc, List.nil_append]
      have hx := hm x (by simp)
      refine Go.list (tx_head hx _).1 (Go.item (ih x (by simp) hx _ (fun _ => ?_)) ?_)
      · cases q with
        | nil => rfl
        | cons y q => rfl
      · exact tails_ok (fun t ht => ⟨hm t (by simp [ht]), ih t (by simp [ht]) (hm t (by simp [ht]))⟩) r [x]
  · have := one_tx (r := r) h hk (by simpa [T.k] using hr)
    rw [← this.2]
    exact Go.one this.1

/-! ### What is cut off -/
def Short (t : T) (R : Res) : Prop := R = .bad [] ∨ ((t.k = 0 ∨ t.k = 1) ∧ ∃ t', R = .ok t' [])

theorem one_cut {k n : Int} {s : ByteArray} {l : List T} {j : Nat} (h : okT (.mk k n s l)) (hk : k ≠ 4) (hj : j < (tx (.mk k n s l)).length) :
    hd 123 ((tx (.mk k n s l)).take j) = false ∧ Short (.mk k n s l) (one ((tx (.mk k n s l)).take j)) := by
  refine ⟨?_, ?_⟩
  · have hh := (one_tx (r := []) h hk (fun _ => rfl)).1
    rw [List.append_nil] at hh
    exact hd_take hh
  cases j with
  | zero => rw [List.take_zero]; exact .inl rfl
  | succ j =>
  rw [okT] at h
  rcases h with ⟨rfl, h1, rfl, rfl⟩ | ⟨rfl, h0, h1, rfl, rfl⟩ | ⟨rfl, rfl, rfl, h1⟩ | ⟨rfl, h0, h1, rfl, rfl⟩ | ⟨rfl, _⟩
  · rw [tx0] at hj ⊢
    have hh := (itoa_head n []).1
    rw [List.append_nil] at hh
    unfold I64 at h1
    have hh' : (hd 45 ((Lib.itoa n).take (j + 1)) || hdD ((Lib.itoa n).take (j + 1))) = true := by
      revert hh
      cases Lib.itoa n with
      | nil => exact id
      | cons c q => exact id
    obtain ⟨h2, h3, _⟩ := num_head hh'
    unfold one
    rw [h2, h3, hh']
    rcases numC_take (most := 9223372036854775807) (by omega) (by omega) hj with e | ⟨n', e⟩
    · rw [e]; exact .inl rfl
    · rw [e]; exact .inr ⟨.inl rfl, _, rfl⟩
  · rw [tx1] at hj ⊢
    rw [List.take_succ_cons]
    simp only [List.length_cons] at hj
    unfold one
    simp only [List.drop_succ_cons, List.drop_zero]
    rcases numC_take (most := 2147483647) (n := n) (by omega) (by omega) (show j < (Lib.itoa n).length by omega) with e | ⟨n', e⟩
    · rw [e]; exact .inl rfl
    · rw [e]; exact .inr ⟨.inr rfl, _, rfl⟩
  · rw [tx2] at hj ⊢
    rw [List.take_succ_cons]
    simp only [List.length_cons, List.length_append, List.length_nil] at hj
    unfold one
    simp only [List.drop_succ_cons, List.drop_zero]
    rw [List.take_append_of_le_length (by omega), strOf_take _ _ h1 (by omega)]
    exact .inl rfl
  · rw [tx3] at hj ⊢
    have e := codeOf_take h0 h1 hj
    obtain ⟨q, hq⟩ := name_head h0 h1
    rw [hq, List.take_succ_cons] at e ⊢
    unfold one
    rw [e]; exact .inl rfl
  · omega

theorem hdD_rest (xs : List T) (r : Bs) (j : Nat) : hdD ((txr xs ++ (125 :: r)).take j) = false := by
  cases j with
  | zero => rfl
  | succ j => cases xs with
    | nil => rfl
    | cons y q => rfl

theorem items_cut {x : T} {xs done : List T} {j : Nat} (hx : okT x) (cx : ∀ j, j < (tx x).length → ∃ R, Go .val ((tx x).take j) R ∧ Short x R)
    (hxs : ∀ done j, j ≤ (txr xs).length → Go (.tail done) ((txr xs ++ [125]).take j) (.bad [])) (hj : j ≤ (tx x).length + (txr xs).length) :
    Go (.items done) ((tx x ++ (txr xs ++ [125])).take j) (.bad []) := by
  by_cases h : j < (tx x).length
  · rw [List.take_append_of_le_length (by omega)]
    obtain ⟨R, h1, h2⟩ := cx j h
    rcases h2 with rfl | ⟨_, t', rfl⟩
    · exact Go.itemBad h1
    · exact Go.item h1 (Go.tailBad rfl rfl)
  · obtain ⟨i, rfl⟩ : ∃ i, j = (tx x).length + i := ⟨j - (tx x).length, by omega⟩
    rw [List.take_length_add_append]
    exact Go.item (Go.full x hx _ (fun _ => hdD_rest xs [] i)) (hxs _ i (by omega))

theorem tails_cut {xs : List T} (hx : ∀ t ∈ xs, okT t ∧ ∀ j, j < (tx t).length → ∃ R, Go .val ((tx t).take j) R ∧ Short t R) :
    ∀ done j, j ≤ (txr xs).length → Go (.tail done) ((txr xs ++ [125]).take j) (.bad []) := by
  induction xs with
  | nil =>
    intro done j hj
    simp only [txr, List.length_nil] at hj
    rw [show j = 0 by omega]
    exact Go.tailBad rfl rfl
  | cons x q ih =>
    intro done j hj
    have hq := ih (fun t ht => hx t (by simp [ht]))
    rw [txr] at hj ⊢
    simp only [List.length_cons, List.length_append] at hj
    simp only [List.cons_append, List.append_assoc]
    match j with
    | 0 => exact Go.tailBad rfl rfl
    | 1 => exact Go.tailComma rfl
    | j + 2 =>
      rw [List.take_succ_cons, List.take_succ_cons]
      exact Go.tailOn (items_cut (hx x (by simp)).1 (hx x (by simp)).2 hq (by omega))

theorem Go.cut (t : T) : okT t → ∀ j, j < (tx t).length → ∃ R, Go .val ((tx t).take j) R ∧ Short t R := by
  refine T.ind_ (P := fun t => okT t → ∀ j, j < (tx t).length → ∃ R, Go .val ((tx t).take j) R ∧ Short t R) (fun k n s l ih => ?_) t
  intro h j hj
  by_cases hk : k = 4
  · subst hk
    rw [okT] at h
    obtain ⟨rfl, rfl, hl⟩ : n = 0 ∧ s = ByteArray.empty ∧ okA l := by
      rcases h with h | h | h | h | h
      · omega
      · omega
      · omega
      · omega
      · exact h.2
    have hm := okA_mem hl
    rw [tx4] at hj ⊢
    simp only [List.length_cons, List.length_append, List.length_nil] at hj
    refine ⟨.bad [], ?_, .inl rfl⟩
    match j with
    | 0 => exact Go.one (i := []) rfl
    | j + 1 =>
      rw [List.take_succ_cons]
      cases l with
      | nil =>
        simp only [txs, List.length_nil] at hj
        rw [show j = 0 by omega]
        exact Go.list rfl (Go.itemBad (Go.one (i := []) rfl))
      | cons x q =>
        rw [txs] at hj ⊢
        simp only [List.length_append] at hj
        rw [List.append_assoc]
        have hx := hm x (by simp)
        exact Go.list (hd_take (tx_head hx _).1) (items_cut hx (ih x (by simp) hx) (tails_cut (fun t ht => ⟨hm t (by simp [ht]), ih t (by simp [ht]) (hm t (by simp [ht]))⟩)) (by omega))
  · obtain ⟨h1, h2⟩ := one_cut h hk hj
    exact ⟨_, Go.one h1, h2⟩

end Go.Proofs.YtlinclbodbbemaaDoor

namespace Go.Proofs.YtlinclbodbbemaaDoor
open Go.RowKit

/-- What digits say. -/
def vals (n : Nat) (l : Bs) : Nat := l.foldl (fun m c => 10 * m + (c.toNat - 48)) n
theorem vals_nil (n : Nat) : vals n [] = n := by unfold vals; rw [List.foldl_nil]
theorem vals_cons (n : Nat) (c : UInt8) (r : Bs) : vals n (c :: r) = vals (10 * n + (c.toNat - 48)) r := by unfold vals; rw [List.foldl_cons]
theorem vals_snoc (l : Bs) (n : Nat) (c : UInt8) : vals n (l ++ [c]) = 10 * vals n l + (c.toNat - 48) := by
  unfold vals; rw [List.foldl_append, List.foldl_cons, List.foldl_nil]
theorem vals_lt : ∀ (l : Bs) (n : Nat), (∀ c ∈ l, isD c = true) → vals n l < (n + 1) * 10 ^ l.length
  | [], n, _ => by simp [vals_nil]
  | c :: r, n, h => by
    have hc := isD_iff.1 (h c (by simp))
    have ih := vals_lt r (10 * n + (c.toNat - 48)) (fun d hd => h d (by simp [hd]))
    rw [vals_cons, List.length_cons, Nat.pow_succ]
    have h2 : (10 * n + (c.toNat - 48) + 1) * 10 ^ r.length ≤ (10 * (n + 1)) * 10 ^ r.length := Nat.mul_le_mul_right _ (by omega)
    have h3 : (10 * (n + 1)) * 10 ^ r.length = (n + 1) * (10 ^ r.length * 10) := by
      rw [Nat.mul_comm 10 (n + 1), Nat.mul_assoc, Nat.mul_comm 10]
    omega
theorem dec_vals : ∀ (l : Bs) (n : Nat), 0 < n → (∀ c ∈ l, isD c = true) → Lib.decDigits (vals n l) = Lib.decDigits n ++ l
  | [], n, _, _ => by simp [vals]
  | c :: r, n, hn, h => by
    have hcd := h c (by simp)
    have hc := isD_iff.1 hcd
    rw [vals_cons, dec_vals r _ (by omega) (fun d hd => h d (by simp [hd])), dec_big (u := 10 * n + (c.toNat - 48)) (by omega)]
    rw [show (10 * n + (c.toNat - 48)) / 10 = n by omega, show (10 * n + (c.toNat - 48)) % 10 = c.toNat - 48 by omega, ofNat_isD hcd]
    simp
theorem dec_facts10 (u : Nat) : (∀ c ∈ Lib.decDigits u, isD c = true) ∧ vals 0 (Lib.decDigits u) = u ∧ Lib.decDigits u ≠ [] := by
  induction u using Nat.strongRecOn with
  | ind u ih =>
    by_cases h : u < 10
    · rw [dec_small h]
      have := isD_ofNat h
      refine ⟨by simpa using this, ?_, by simp⟩
      rw [vals_cons, vals_nil, ofNat_toNat_lt (by omega)]; omega
    · obtain ⟨i1, i2, i3⟩ := ih (u / 10) (by omega)
      rw [dec_big h]
      refine ⟨?_, ?_, by simp⟩
      · intro c hc
        rcases List.mem_append.1 hc with hc | hc
        · exact i1 c hc
        · rw [List.mem_singleton] at hc; subst hc; exact isD_ofNat (d := u % 10) (by omega)
      · rw [vals_snoc, i2, ofNat_toNat_lt (by omega)]; omega
theorem dec_len19 : ∀ (k u : Nat), u < 10 ^ (k + 1) → (Lib.decDigits u).length ≤ k + 1
  | 0, u, h => by rw [dec_small (by simpa using h)]; simp
  | k + 1, u, h => by
    by_cases hu : u < 10
    · rw [dec_small hu]; simp
    · have := dec_len19 k (u / 10) (by rw [Nat.pow_succ] at h; omega)
      rw [dec_big hu, List.length_append]
      simp; omega

/-- The document's Number. -/
def badNum (neg : Bool) (d : Bs) : Bool := d.isEmpty || (decide (19 < d.length) || (hd 48 d && (decide (1 < d.length) || neg)))
def refNum (l : Bs) : Int × Bool :=
  let neg := hd 45 l
  let d := if neg then l.drop 1 else l
  if badNum neg d = true then (0, false)
  else if d.all isD = false then (0, false)
  else if neg then (if 9223372036854775808 < vals 0 d then (0, false) else (-(vals 0 d : Int), true))
  else if 9223372036854775807 < vals 0 d then (0, false) else ((vals 0 d : Int), true)

theorem good_dec {neg : Bool} {d : Bs} (h1 : badNum neg d = false) (h2 : d.all isD = true) : Lib.decDigits (vals 0 d) = d ∧ (neg = true → 0 < vals 0 d) := by
  cases d with
  | nil => simp [badNum] at h1
  | cons c r =>
    rw [List.all_eq_true] at h2
    have hcd := h2 c (by simp)
    have hc := isD_iff.1 hcd
    by_cases h0 : c.toNat = 48
    · have hr : r = [] ∧ neg = false := by
        simp [badNum, hd, h0] at h1
        exact h1.2
      obtain ⟨rfl, rfl⟩ := hr
      refine ⟨?_, fun h => by cases h⟩
      show Lib.decDigits (10 * 0 + (c.toNat - 48)) = [c]
      rw [show 10 * 0 + (c.toNat - 48) = c.toNat - 48 by omega, dec_small (by omega), ofNat_isD hcd]
    · have e : vals 0 (c :: r) = vals (c.toNat - 48) r := by rw [vals_cons]; congr 1; omega
      rw [e, dec_vals r _ (by omega) (fun x hx => h2 x (by simp [hx])), dec_small (by omega), ofNat_isD hcd]
      refine ⟨by simp, fun _ => ?_⟩
      rcases Nat.eq_zero_or_pos (vals (c.toNat - 48) r) with hz | hz
      · have h3 := dec_vals r (c.toNat - 48) (by omega) (fun x hx => h2 x (by simp [hx]))
        rw [hz, dec_small (by omega), dec_small (by omega)] at h3
        simp only [List.singleton_append, List.cons.injEq] at h3
        have h4 := congrArg UInt8.toNat h3.1
        rw [ofNat_toNat_lt (by omega), ofNat_toNat_lt (by omega)] at h4
        omega
      · exact hz
theorem good_of_dec (neg : Bool) (u : Nat) (hu : u < 10 ^ 19) (h0 : neg = true → 0 < u) : badNum neg (Lib.decDigits u) = false ∧ (Lib.decDigits u).all isD = true := by
  obtain ⟨f1, f2, f3⟩ := dec_facts10 u
  refine ⟨?_, List.all_eq_true.2 f1⟩
  have hl := dec_len19 18 u hu
  unfold badNum
  have e1 : (Lib.decDigits u).isEmpty = false := by
    cases h : Lib.decDigits u with
    | nil => exact absurd h f3
    | cons c r => rfl
  rw [e1, decide_eq_false (by omega)]
  rcases Nat.eq_zero_or_pos u with hz | hz
  · subst hz
    rw [dec_small (by omega)]
    cases neg with
    | true => exact absurd (h0 rfl) (by omega)
    | false => rfl
  · have := (dec_head u hz []).1
    rw [List.append_nil] at this
    rw [this]; rfl

theorem refNum_sound {l : Bs} {n : Int} (h : refNum l = (n, true)) : l = Lib.itoa n ∧ -9223372036854775808 ≤ n ∧ n ≤ 9223372036854775807 := by
  unfold refNum at h
  cases hneg : hd 45 l with
  | true =>
    rw [hneg] at h
    simp only [if_true] at h
    have hl := hd_lit hneg
    generalize l.drop 1 = d at *
    split at h
    · cases h
    · rename_i hb
      split at h
      · cases h
      · rename_i ha
        have hg := good_dec (neg := true) (d := d) (by simpa using hb) (by simpa using ha)
        split at h
        · cases h
        · rename_i hv
          injection h with h _
          subst h
          have hp := hg.2 rfl
          refine ⟨?_, by omega, by omega⟩
          rw [hl]
          unfold Lib.itoa
          rw [if_pos (by omega), Int.natAbs_neg, Int.natAbs_natCast, hg.1]; rfl
  | false =>
    rw [hneg] at h
    simp only [Bool.false_eq_true, if_false] at h
    split at h
    · cases h
    · rename_i hb
      split at h
      · cases h
      · rename_i ha
        have hg := good_dec (neg := false) (d := l) (by simpa using hb) (by simpa using ha)
        split at h
        · cases h
        · rename_i hv
          injection h with h _
          subst h
          refine ⟨?_, by omega, by omega⟩
          unfold Lib.itoa
          rw [if_neg (by omega), Int.toNat_natCast, hg.1]
theorem refNum_itoa {n : Int} (h0 : -9223372036854775808 ≤ n) (h1 : n ≤ 9223372036854775807) : refNum (Lib.itoa n) = (n, true) := by
  unfold Lib.itoa
  by_cases hn : n < 0
  · rw [if_pos hn]
    obtain ⟨g1, g2⟩ := good_of_dec true n.natAbs (by omega) (fun _ => by omega)
    have hv := (dec_facts10 n.natAbs).2.1
    unfold refNum
    simp only [hd, show ((45 : UInt8).toNat == 45) = true from rfl, if_true, List.drop_succ_cons, List.drop_zero, g1, g2, Bool.false_eq_true, if_false, hv]
    rw [if_neg (by simp), if_neg (by omega)]
    simp; omega
  · rw [if_neg hn]
    obtain ⟨g1, g2⟩ := good_of_dec false n.toNat (by omega) (fun h => by cases h)
    obtain ⟨f1, hv, f3⟩ := dec_facts10 n.toNat
    have hh : hd 45 (Lib.decDigits n.toNat) = false := by
      cases hdd : Lib.decDigits n.toNat with
      | nil => rfl
      | cons c r =>
        have := isD_iff.1 (f1 c (by rw [hdd]; simp))
        simp [hd]; omega
    unfold refNum
    simp only [hh, Bool.false_eq_true, if_false, g1, g2, hv]
    rw [if_neg (by simp), if_neg (by omega)]
    simp; omega
theorem refNum_false (l : Bs) : refNum l = (0, false) ∨ ∃ n, refNum l = (n, true) := by
  unfold refNum
  simp only
  repeat' split
  all_goals first | exact .inl rfl | exact .inr ⟨_, rfl⟩
/-- What it says is what the other reading says. -/
theorem refNum_eq (l : Bs) : (match numC 9223372036854775807 l with | (some n, []) => (n, true) | _ => ((0 : Int), false)) = refNum l := by
  rcases refNum_false l with h | ⟨n, h⟩
  · rw [h]
    split
    · rename_i n hc
      obtain ⟨e, h0, h1⟩ := numC_sound (by omega) hc
      rw [List.append_nil] at e
      rw [e, refNum_itoa (by omega) (by omega)] at h
      cases h
    · rfl
  · obtain ⟨e, h0, h1⟩ := refNum_sound h
    have hc := numC_itoa (most := 9223372036854775807) (n := n) (r := []) (by omega) (by omega) rfl
    rw [List.append_nil, ← e] at hc
    rw [h, hc]
end Go.Proofs.YtlinclbodbbemaaDoor

namespace Go.Proofs.YtlinclbodbbemaaDoor
open Go.RowKit

/-- The code that a name is of. -/
def codeAt (l : Bs) : Nat → List Bs → Option Nat
  | _, [] => none
  | i, m :: r => if m = l then some i else codeAt l (i + 1) r
def codeL (l : Bs) : Int × Bool := match codeAt l 0 names with
  | some i => ((i : Int), true)
  | none => (0, false)
theorem codeAt_step (l : Bs) (i : Nat) (h : i < 15) : codeAt l i (names.drop i) = if names.getD i [] = l then some i else codeAt l (i + 1) (names.drop (i + 1)) := by
  have h' : i < names.length := h
  rw [List.drop_eq_getElem_cons h', codeAt]
  have e : names.getD i [] = names[i] := by simp [List.getD, h']
  rw [e]
theorem codeAt_end (l : Bs) : codeAt l 15 (names.drop 15) = none := rfl
theorem codeL_name {n : Int} (h0 : 0 ≤ n) (h1 : n ≤ 14) : codeL (nameOf n) = (n, true) := by
  have hc : n = 0 ∨ n = 1 ∨ n = 2 ∨ n = 3 ∨ n = 4 ∨ n = 5 ∨ n = 6 ∨ n = 7 ∨ n = 8 ∨ n = 9 ∨ n = 10 ∨ n = 11 ∨ n = 12 ∨ n = 13 ∨ n = 14 := by omega
  clear h0 h1
  rcases hc with rfl | rfl | rfl | rfl | rfl | rfl | rfl | rfl | rfl | rfl | rfl | rfl | rfl | rfl | rfl
  all_goals decide +kernel
theorem nameOf_out {n : Int} (h : n < 0 ∨ 14 < n) : nameOf n = [] := by
  unfold nameOf
  split
  · rfl
  · rw [List.getElem?_eq_none (by show 15 ≤ n.toNat; omega)]; rfl
theorem codeL_out {n : Int} (h : n < 0 ∨ 14 < n) : codeL (nameOf n) = (0, false) := by
  rw [nameOf_out h]; decide +kernel
end Go.Proofs.YtlinclbodbbemaaDoor

namespace Go.Proofs.YtlinclbodbbemaaDoor
open Go.RowKit

def isS (c : UInt8) : Bool := 97 ≤ c.toNat && c.toNat ≤ 122
def isC (c : UInt8) : Bool := 65 ≤ c.toNat && c.toNat ≤ 90
/-- A letter, a digit, or _. -/
def isR (c : UInt8) : Bool := isS c || isC c || isD c || c.toNat == 95
/-- What goes on as letters, digits and _. -/
def runB : Bs → Bs
  | [] => []
  | c :: r => if isR c then c :: runB r else []
def areD (d : Bs) : Bool := d.all isD && (decide (d = [48]) || (decide (d ≠ []) && !hd 48 d))
def keysB : List Bs :=
  [[97, 110, 121], [98, 114, 101, 97, 107], [99, 111, 110, 116, 105, 110, 117, 101], [101, 108, 115, 101], [101, 108, 115, 101, 105, 102], [101, 110, 100, 102, 111, 114], [101, 110, 100, 102, 111, 114, 107],
   [101, 110, 100, 105, 102], [101, 110, 100, 116, 114, 121], [101, 110, 100, 119, 104, 105, 108, 101], [101, 120, 99, 101, 112, 116], [102, 105, 110, 97, 108, 108, 121], [102, 111, 114], [102, 111, 114, 107],
   [105, 102], [105, 110], [114, 101, 116, 117, 114, 110], [116, 114, 121], [119, 104, 105, 108, 101]]
def signsB : List Bs :=
  [[33], [33, 61], [36], [37], [38, 38], [39], [40], [41], [42], [43], [44], [45], [46], [46, 46], [47], [58], [59], [60], [60, 61], [61], [61, 61], [61, 62], [62], [62, 61], [63], [64], [91], [93], [96], [123], [124], [124, 124], [125]]
/-- Is d among these, from the first on? -/
def isIn (d : Bs) : List Bs → Bool
  | [] => false
  | x :: r => if d = x then true else isIn d r
def hasC : Bs → Bool
  | [] => false
  | c :: r => if isC c then true else hasC r
/-- What a run is that begins with no digit and no capital. -/
def kindL (d : Bs) : Int × Bool := if isIn d keysB then (2, true) else if hasC d then (0, false) else (1, decide (d.length ≤ 32))
/-- Does i begin with x? -/
def pfx : Bs → Bs → Bool
  | [], _ => true
  | _ :: _, [] => false
  | a :: x, b :: i => if a = b then pfx x i else false
/-- The last one of these that i begins with. -/
def signAt (i : Bs) : Bs → List Bs → Bs
  | b, [] => b
  | b, x :: r => signAt i (if pfx x i then x else b) r
def signL (i : Bs) : Bs := signAt i [] signsB
abbrev zT : T := .mk 0 0 ⟨#[]⟩ []

/-- A word: what it is, and what is left; or what is wrong (beyond its range?). -/
inductive WR where
  | ok (k : Int) (s : Bs) (v : T) (r : Bs)
  | bad (range : Bool)
/-- A number, or an Obj's: what is handed on is t, its digits d. -/
def numWord (most : Nat) (kind : Int) (minus : Bool) (t d r : Bs) : WR :=
  if !areD d || (minus && decide (d = [48])) then .bad false else
  match (numC most t).1 with
  | some n => .ok 3 [] (.mk kind n ⟨#[]⟩ []) r
  | none => .bad true
def objWord (i : Bs) : WR :=
  if hd 45 i then numWord 2147483647 1 true (45 :: runB (i.drop 1)) (runB (i.drop 1)) (i.drop (1 + (runB (i.drop 1)).length))
  else numWord 2147483647 1 false (runB i) (runB i) (i.drop (runB i).length)
def strWord (q : Option Bs × Bs) : WR := match q.1 with
  | some l => .ok 3 [] (.mk 2 0 ⟨l.toArray⟩ []) q.2
  | none => .bad false
def errWord (i : Bs) (q : Int × Bool) : WR := if q.2 then .ok 3 [] (.mk 3 q.1 ⟨#[]⟩ []) (i.drop (runB i).length) else .bad false
def nameWord (i : Bs) (q : Int × Bool) : WR := if q.2 then .ok q.1 (runB i) zT (i.drop (runB i).length) else .bad false
def signWord (i b : Bs) : WR := if b = [] then .bad false else .ok 4 b zT (i.drop b.length)
/-- The word that begins here. -/
def wordL (i : Bs) : WR :=
  if hd 34 i then strWord (strOf (i.drop 1))
  else if hd 35 i then objWord (i.drop 1)
  else if hdD i then numWord 9223372036854775807 0 false (runB i) (runB i) (i.drop (runB i).length)
  else if isC (match i with | [] => 0 | c :: _ => c) then errWord i (codeL (runB i))
  else if isS (match i with | [] => 0 | c :: _ => c) || hd 95 i then nameWord i (kindL (runB i))
  else signWord i (signL i)

/-- A word of a text, with its line. -/
structure Tok where
  k : Int
  n : Nat
  s : Bs
  v : T
/-- Where the next word begins, and on which line. -/
def skipL : Nat → Bs → Nat × Bs
  | n, [] => (n, [])
  | n, c :: r => if c.toNat = 10 then skipL (n + 1) r else if c.toNat = 32 then skipL n r else (n, c :: r)
/-- All words, or the line of the first fault. -/
inductive AR where
  | ok (l : List Tok)
  | bad (n : Nat) (range : Bool)
def AR.pre (a : List Tok) : AR → AR
  | .ok l => .ok (a ++ l)
  | .bad n b => .bad n b
inductive Lx : Nat → Bs → AR → Prop
  | done {n i m} : skipL n i = (m, []) → Lx n i (.ok [])
  | bad {n i m j b} : skipL n i = (m, j) → j ≠ [] → wordL j = .bad b → Lx n i (.bad m b)
  | cons {n i m j k s v r R} : skipL n i = (m, j) → j ≠ [] → wordL j = .ok k s v r → Lx m r R → Lx n i (R.pre [⟨k, m, s, v⟩])
theorem AR.pre_nil (R : AR) : R.pre [] = R := by cases R <;> rfl
theorem AR.pre_pre (a b : List Tok) (R : AR) : (R.pre b).pre a = R.pre (a ++ b) := by cases R <;> simp [AR.pre]
theorem Lx.det {n : Nat} {i : Bs} {R : AR} (h : Lx n i R) : ∀ {R'}, Lx n i R' → R = R' := by
  induction h with
  | done h1 =>
    intro R' h'
    cases h' with
    | done _ => rfl
    | bad h2 h3 _ => rw [h1] at h2; injection h2 with _ e; exact absurd e.symm h3
    | cons h2 h3 _ _ => rw [h1] at h2; injection h2 with _ e; exact absurd e.symm h3
  | bad h1 hn hw =>
    intro R' h'
    cases h' with
    | done h2 => rw [h1] at h2; injection h2 with _ e; exact absurd e hn
    | bad h2 _ hw2 =>
      rw [h1] at h2; injection h2 with e1 e2; subst e1 e2
      rw [hw] at hw2; injection hw2 with e; subst e; rfl
    | cons h2 _ hw2 _ =>
      rw [h1] at h2; injection h2 with e1 e2; subst e1 e2
      rw [hw] at hw2; cases hw2
  | cons h1 hn hw _ ih =>
    intro R' h'
    cases h' with
    | done h2 => rw [h1] at h2; injection h2 with _ e; exact absurd e hn
    | bad h2 _ hw2 =>
      rw [h1] at h2; injection h2 with e1 e2; subst e1 e2
      rw [hw] at hw2; cases hw2
    | cons h2 _ hw2 hr =>
      rw [h1] at h2; injection h2 with e1 e2; subst e1 e2
      rw [hw] at hw2; injection hw2 with e1 e2 e3 e4; subst e1 e2 e3 e4
      rw [ih hr]

theorem runB_le : ∀ i, (runB i).length ≤ i.length
  | [] => Nat.le_refl _
  | c :: r => by rw [runB]; split <;> simp; exact runB_le r
theorem runB_pre : ∀ i, runB i ++ i.drop (runB i).length = i
  | [] => rfl
  | c :: r => by rw [runB]; split <;> simp; exact runB_pre r
theorem runB_all : ∀ i, ∀ c ∈ runB i, isR c = true
  | [], c, h => by cases h
  | d :: r, c, h => by
    rw [runB] at h
    split at h
    · rename_i hd
      rcases List.mem_cons.1 h with rfl | h
      · exact hd
      · exact runB_all r c h
    · cases h
/-- Does no letter, digit or _ stand first? -/
def stop : Bs → Bool
  | [] => true
  | c :: _ => !isR c
theorem runB_app : ∀ (d r : Bs), (∀ c ∈ d, isR c = true) → stop r = true → runB (d ++ r) = d
  | [], [], _, _ => rfl
  | [], c :: r, _, h => by have : isR c = false := by simpa [stop] using h
                           rw [List.nil_append, runB, this]; rfl
  | c :: d, r, hd, h => by
    rw [List.cons_append, runB, hd c (by simp), if_pos rfl, runB_app d r (fun x hx => hd x (by simp [hx])) h]
theorem runB_runB (i : Bs) : runB (runB i) = runB i := by
  have := runB_app (runB i) [] (runB_all i) rfl
  rwa [List.append_nil] at this

theorem pfx_append : ∀ (x i : Bs), pfx x i = true → x ++ i.drop x.length = i
  | [], i, _ => rfl
  | _ :: _, [], h => by simp [pfx] at h
  | a :: x, b :: i, h => by
    rw [pfx] at h
    split at h
    · rename_i e; subst e; simp only [List.length_cons, List.drop_succ_cons, List.cons_append]; rw [pfx_append x i h]
    · cases h
theorem signAt_pfx (i : Bs) : ∀ (xs : List Bs) (b : Bs), pfx b i = true → pfx (signAt i b xs) i = true
  | [], b, h => h
  | x :: r, b, h => by rw [signAt]; refine signAt_pfx i r _ ?_; split <;> assumption
theorem signL_pfx (i : Bs) : pfx (signL i) i = true := signAt_pfx i signsB [] rfl
theorem signL_pre (i : Bs) : signL i ++ i.drop (signL i).length = i := pfx_append _ _ (signL_pfx i)

end Go.Proofs.YtlinclbodbbemaaDoor

namespace Go.Proofs.YtlinclbodbbemaaDoor
open Go.RowKit

set_option maxHeartbeats 400000 in
theorem sizeAlone_any (k n : Int) (s : ByteArray) (p : Value) (w : World) (hs : s.size ≤ 140737488355328) :
    Calls Tryd.prog 161 #[.agg #[.int .i64 k, .int .i64 n, .string s, p]] w fun e w' => e = .returned (.int .i64 (szAlone (.mk k n s []))) ∧ Below w.heap.size w w' := by
  go_enter Tryd.func161, Tryd.ntmps161
  go_wp2
  · have h : (k == 2) = true := by assumption
    go_ret
    refine ⟨ret_int ?_, by go_grown⟩
    simp only [szAlone]; rw [if_pos (by simpa using h)]
  · have h : (k == 2) = false := by assumption
    go_ret
    refine ⟨ret_int ?_, by go_grown⟩
    simp only [szAlone]; rw [if_neg (by simpa using h)]

end Go.Proofs.YtlinclbodbbemaaDoor

namespace Go.Proofs.YtlinclbodbbemaaDoor
open Go.RowKit

/-- Number: the rest, from 0 on. -/
def numB (n b : Int) : Int := n % b
set_option maxHeartbeats 400000 in
theorem number_any (n b : Int) (w : World) (hn : I64 n) (hb : 1 ≤ b) (hb2 : b ≤ 1000000) :
    Calls Tryd.prog 12 #[.int .i64 n, .int .i64 b] w fun e w' => e = .returned (.int .i64 (numB n b)) ∧ w' = w := by
  obtain ⟨hn1, hn2⟩ := hn
  have ht := tmod_bounds n b hb
  have he := Lib.hid (emod_of_tmod n b hb)
  go_enter Tryd.func12, Tryd.ntmps12
  go_wp2
  · have h : n.tmod b < 0 := by assumption
    go_ret
    refine ⟨ret_int ?_, rfl⟩
    unfold numB; rw [he.out, if_pos h]
  · have h : 0 ≤ n.tmod b := by assumption
    go_ret
    refine ⟨ret_int ?_, rfl⟩
    unfold numB; rw [he.out, if_neg (by omega)]

end Go.Proofs.YtlinclbodbbemaaDoor

namespace Go.Proofs
open Go.Shelf
def Tryd.laysM176_ren : Go.Shelf.Ren := ⟨fun | 176 => 136 | 249 => 164 | 288 => 173 | 283 => 175 | 284 => 176 | 285 => 177 | 286 => 178 | 129 => 127 | 317 => 179 | 318 => 180 | 319 => 181 | 320 => 182 | 337 => 183 | 338 => 184 | n => n, fun | 37 => 75 | 2 => 2 | 3 => 3 | 53 => 157 | 4 => 4 | 9 => 9 | 171 => 189 | 0 => 0 | 173 => 191 | 212 => 195 | 51 => 155 | 5 => 5 | 20 => 20 | 213 => 196 | 46 => 124 | 232 => 197 | 233 => 198 | n => n, fun | 17 => 20 | 18 => 21 | 19 => 22 | n => n⟩
theorem Tryd.laysM176 : Go.Proofs.LaysM.n176 Tryd.prog Tryd.laysM176_ren := {
  mixed := by kernel_rfl
  f129 := Tryd.func127.trans (congrArg some (by kernel_rfl))
  f176 := Tryd.func136.trans (congrArg some (by kernel_rfl))
  f249 := Tryd.func164.trans (congrArg some (by kernel_rfl))
  f283 := Tryd.func175.trans (congrArg some (by kernel_rfl))
  f284 := Tryd.func176.trans (congrArg some (by kernel_rfl))
  f285 := Tryd.func177.trans (congrArg some (by kernel_rfl))
  f286 := Tryd.func178.trans (congrArg some (by kernel_rfl))
  f288 := Tryd.func173.trans (congrArg some (by kernel_rfl))
  f317 := Tryd.func179.trans (congrArg some (by kernel_rfl))
  f318 := Tryd.func180.trans (congrArg some (by kernel_rfl))
  f319 := Tryd.func181.trans (congrArg some (by kernel_rfl))
  f320 := Tryd.func182.trans (congrArg some (by kernel_rfl))
  f337 := Tryd.func183.trans (congrArg some (by kernel_rfl))
  f338 := Tryd.func184.trans (congrArg some (by kernel_rfl))
  t0 := Tryd.underlying0
  a0 := Tryd.isAgg0
  z0 := Tryd.sizeOf0
  v0 := Tryd.zeroValue0
  t2 := Tryd.underlying2
  a2 := Tryd.isAgg2
  z2 := Tryd.sizeOf2
  v2 := Tryd.zeroValue2
  t3 := Tryd.underlying3
  a3 := Tryd.isAgg3
  z3 := Tryd.sizeOf3
  v3 := Tryd.zeroValue3
  t4 := Tryd.underlying4
  a4 := Tryd.isAgg4
  z4 := Tryd.sizeOf4
  v4 := Tryd.zeroValue4
  t5 := Tryd.underlying5
  a5 := Tryd.isAgg5
  z5 := Tryd.sizeOf5
  v5 := Tryd.zeroValue5
  t9 := Tryd.underlying9
  a9 := Tryd.isAgg9
  z9 := Tryd.sizeOf9
  v9 := Tryd.zeroValue9
  t20 := Tryd.underlying20
  a20 := Tryd.isAgg20
  z20 := Tryd.sizeOf20
  v20 := Tryd.zeroValue20
  t37 := Tryd.underlying75
  a37 := Tryd.isAgg75
  z37 := Tryd.sizeOf75
  v37 := Tryd.zeroValue75
  t46 := Tryd.underlying124
  a46 := Tryd.isAgg124
  z46 := Tryd.sizeOf124
  v46 := Tryd.zeroValue124
  t51 := Tryd.underlying155
  a51 := Tryd.isAgg155
  z51 := Tryd.sizeOf155
  v51 := Tryd.zeroValue155
  t53 := Tryd.underlying157
  a53 := Tryd.isAgg157
  z53 := Tryd.sizeOf157
  v53 := Tryd.zeroValue157
  t171 := Tryd.underlying189
  a171 := Tryd.isAgg189
  z171 := Tryd.sizeOf189
  v171 := Tryd.zeroValue189
  t173 := Tryd.underlying191
  a173 := Tryd.isAgg191
  z173 := Tryd.sizeOf191
  v173 := Tryd.zeroValue191
  t212 := Tryd.underlying195
  a212 := Tryd.isAgg195
  z212 := Tryd.sizeOf195
  v212 := Tryd.zeroValue195
  t213 := Tryd.underlying196
  a213 := Tryd.isAgg196
  z213 := Tryd.sizeOf196
  t232 := Tryd.underlying197
  a232 := Tryd.isAgg197
  z232 := Tryd.sizeOf197
  v232 := Tryd.zeroValue197
  t233 := Tryd.underlying198
  a233 := Tryd.isAgg198
  z233 := Tryd.sizeOf198
  v233 := Tryd.zeroValue198
  g17 := by kernel_rfl
  g18 := by kernel_rfl
  g19 := by kernel_rfl
  i0 := by kernel_rfl
  i2 := by kernel_rfl
  i3 := by kernel_rfl
  i4 := by kernel_rfl
  i5 := by kernel_rfl
  i9 := by kernel_rfl
  i20 := by kernel_rfl
  i37 := by kernel_rfl
  i46 := by kernel_rfl
  i51 := by kernel_rfl
  i53 := by kernel_rfl
  i171 := by kernel_rfl
  i173 := by kernel_rfl
  i212 := by kernel_rfl
  i232 := by kernel_rfl
  i233 := by kernel_rfl
  m17 := by kernel_rfl
  m18 := by kernel_rfl
  m19 := by kernel_rfl }
open Go.RowKit Go.Sort Go.Lib in
theorem Tryd.strconv_AppendInt_10 (B n : Nat) (i : Int) (h0 : -9223372036854775808 ≤ i) (h1 : i ≤ 9223372036854775807) (sv : Value) (xs : List Value) (w : World) (hown : w.ownsRow B 5 1 sv n xs) (hBw : B ≤ w.heap.size) (hlim : n + 21 ≤ 140737488355328) (htab : Lib.TabBelow Tryd.prog B w "internal/strconv.uint64pow10" .u64 Lib.pow10Tab) :
    Calls Tryd.prog 136 #[sv, .int .i64 i, .int .i64 10] w fun e w' => ∃ v', e = .returned v' ∧ w'.ownsRow B 5 1 v' (n + (Lib.itoa i).length) (xs ++ Lib.byteCells (Lib.itoa i)) ∧ Below B w w' ∧ Lib.OthersKept 5 none w w' := Any.strconv_AppendInt_10 Tryd.laysM176 B n i h0 h1 sv xs w hown hBw hlim htab
end Go.Proofs
