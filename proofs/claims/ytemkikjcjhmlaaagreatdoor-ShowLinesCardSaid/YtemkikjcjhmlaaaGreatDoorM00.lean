/- Plain words of this seat's proofs: trees of values, what memory holds them, and how this is kept while memory grows. No program is named. Contracts of package val, a function each. Contracts of small functions: of the library, and of the statements' helpers. The document's plain equality of values: SameValue, SameValues. Errors as plain data: contracts of inglenooksee, for no error and for api's errors. Copies in new memory: val.Clone, val.cloneAll, val.L. The chapter's example, as each statement asks it first. Texts of values as plain data: how a value is written, and how a text is read, byte by byte; what is written is read again. No program is named. The contracts of the library that these proofs lean on, laid at this program by the kit's own command, in plain words. -/
import Derived.Below
import Derived.WalkKit
import Derived.ProofKit
import Derived.Lib.Hide
import Derived.Test.YtemkikjcjhmlaaaGreatDoorRows
import Derived.Handy
import Derived.WalkSpells
import Derived.Lib.Bytealg
import Derived.Deep.QuietTactic
import Derived.Deep.RegionHeld3
import Derived.BigQuiet
import Derived.LaidEql
import Derived.Lib.ItoaNum
import Derived.Shelf.Strings.Builder1
import Derived.Shelf.Strconv.Itoa0
import Derived.Shelf.Strconv.Itoa1
import Derived.Shelf.LaysM
import Derived.Shelf.Strconv.Itoa2
import Derived.Shelf.Strconv.AppendUint10
import Derived.Shelf.Strconv.AppendInt10
import Derived.Shelf.Strconv.AppendIntPublic10
import Derived.Test.YtemkikjcjhmlaaaGreatDoorProg
namespace Go.Proofs.YtemkikjcjhmlaaaGreatDoor
open Go.RowKit

/-- A value as plain data: its kind, number, text and items. -/
inductive T where
  | mk (k n : Int) (s : ByteArray) (l : List T)

namespace T
def k : T → Int | mk k _ _ _ => k
def n : T → Int | mk _ n _ _ => n
def s : T → ByteArray | mk _ _ s _ => s
def l : T → List T | mk _ _ _ l => l
end T

def I64 (x : Int) : Prop := -9223372036854775808 ≤ x ∧ x ≤ 9223372036854775807

theorem spot_none {w : World} {a : Addr} {v : Value} (h : w.cell? a = some v) : a.spot = none := by
  unfold World.cell? at h
  cases hs : a.spot with
  | none => rfl
  | some x => rw [hs] at h; split at h <;> simp at h

mutual
/-- In w, the value v is the tree, and its items lie in blocks from lo on, below hi. -/
def Rep (w : World) (lo hi : Nat) : T → Value → Prop
  | .mk k n s l, v => ∃ (p : Option Addr) (cap : Nat), v = .agg #[.int .i64 k, .int .i64 n, .string s, .slice p l.length cap] ∧
      I64 k ∧ I64 n ∧ s.size ≤ 140737488355328 ∧ l.length ≤ cap ∧ l.length * 56 ≤ 140737488355328 ∧ RepAll w lo hi l p
def RepAll (w : World) (lo hi : Nat) : List T → Option Addr → Prop
  | [], _ => True
  | t :: r, p => ∃ (a : Addr) (c0 c1 c2 c3 : Value), p = some a ∧ lo ≤ a.block ∧ a.block < hi ∧ w.cell? a = some c0 ∧ w.cell? (a.add 1) = some c1 ∧ w.cell? (a.add 2) = some c2 ∧ w.cell? (a.add 3) = some c3 ∧
      Rep w lo hi t (.agg #[c0, c1, c2, c3]) ∧ RepAll w lo hi r (some (a.add 4))
end

theorem block_add (a : Addr) (n : Nat) : (a.add n).block = a.block := by unfold Addr.add; split <;> rfl
theorem add_add (a : Addr) (i j : Nat) : (a.add i).add j = a.add (i + j) := by
  unfold Addr.add
  by_cases hi : i = 0 <;> by_cases hj : j = 0 <;> simp [hi, hj, Nat.add_assoc]
theorem add_zero (a : Addr) : a.add 0 = a := rfl

mutual
theorem Rep.keep {w w' : World} {lo hi lo' hi' : Nat} (hlo : lo' ≤ lo) (hhi : hi ≤ hi') (hk : ∀ p : Addr, lo ≤ p.block → p.block < hi → w'.cell? p = w.cell? p) : (t : T) → (v : Value) → Rep w lo hi t v → Rep w' lo' hi' t v
  | .mk k n s l, v, h => by
    unfold Rep at h ⊢
    obtain ⟨p, cap, hv, h1, h2, h3, h4, h5, h6⟩ := h
    exact ⟨p, cap, hv, h1, h2, h3, h4, h5, RepAll.keep hlo hhi hk l p h6⟩
theorem RepAll.keep {w w' : World} {lo hi lo' hi' : Nat} (hlo : lo' ≤ lo) (hhi : hi ≤ hi') (hk : ∀ p : Addr, lo ≤ p.block → p.block < hi → w'.cell? p = w.cell? p) : (l : List T) → (p : Option Addr) → RepAll w lo hi l p → RepAll w' lo' hi' l p
  | [], p, _ => by unfold RepAll; trivial
  | t :: r, p, h => by
    unfold RepAll at h ⊢
    obtain ⟨a, c0, c1, c2, c3, hp, hl, hb, h0, h1, h2, h3, ht, hr⟩ := h
    refine ⟨a, c0, c1, c2, c3, hp, by omega, by omega, ?_, ?_, ?_, ?_, Rep.keep hlo hhi hk t _ ht, RepAll.keep hlo hhi hk r _ hr⟩
    · rw [hk a (by omega) (by omega)]; exact h0
    · rw [hk _ (by rw [block_add]; omega) (by rw [block_add]; omega)]; exact h1
    · rw [hk _ (by rw [block_add]; omega) (by rw [block_add]; omega)]; exact h2
    · rw [hk _ (by rw [block_add]; omega) (by rw [block_add]; omega)]; exact h3
end

theorem Rep.below {w w' : World} {lo hi B : Nat} {t : T} {v : Value} (h : Rep w lo hi t v) (hb : Below B w w') (hB : hi ≤ B) : Rep w' lo hi t v :=
  h.keep (Nat.le_refl _) (Nat.le_refl _) (fun p _ hp => hb.cell (by omega))
theorem RepAll.below {w w' : World} {lo hi B : Nat} {l : List T} {p : Option Addr} (h : RepAll w lo hi l p) (hb : Below B w w') (hB : hi ≤ B) : RepAll w' lo hi l p :=
  h.keep (Nat.le_refl _) (Nat.le_refl _) (fun p _ hp => hb.cell (by omega))

/-- Item i of a list in memory. -/
theorem RepAll.at {w : World} {lo hi : Nat} : {l : List T} → {p : Option Addr} → (h : RepAll w lo hi l p) → (i : Nat) → (hil : i < l.length) →
    ∃ (a : Addr) (c0 c1 c2 c3 : Value), p = some a ∧ lo ≤ a.block ∧ a.block < hi ∧ w.cell? (a.add (i * 4)) = some c0 ∧ w.cell? (a.add (i * 4 + 1)) = some c1 ∧ w.cell? (a.add (i * 4 + 2)) = some c2 ∧ w.cell? (a.add (i * 4 + 3)) = some c3 ∧
      Rep w lo hi (l[i]) (.agg #[c0, c1, c2, c3])
  | [], _, _, _, hil => absurd hil (by simp)
  | t :: r, p, h, 0, _ => by
    unfold RepAll at h
    obtain ⟨a, c0, c1, c2, c3, hp, hl, hb, h0, h1, h2, h3, ht, hr⟩ := h
    exact ⟨a, c0, c1, c2, c3, hp, hl, hb, h0, by simpa using h1, by simpa using h2, by simpa using h3, ht⟩
  | t :: r, p, h, i + 1, hil => by
    unfold RepAll at h
    obtain ⟨a, c0, c1, c2, c3, hp, hl, hb, h0, h1, h2, h3, ht, hr⟩ := h
    obtain ⟨a', d0, d1, d2, d3, hp', hl', hb', e0, e1, e2, e3, ht'⟩ := RepAll.at hr i (by simpa using hil)
    injection hp' with hp'
    subst hp'
    rw [add_add] at e0 e1 e2 e3
    refine ⟨a, d0, d1, d2, d3, hp, hl, hb, ?_, ?_, ?_, ?_, by simpa using ht'⟩
    · rw [← e0]; congr 1; congr 1; omega
    · rw [← e1]; congr 1; congr 1; omega
    · rw [← e2]; congr 1; congr 1; omega
    · rw [← e3]; congr 1; congr 1; omega

theorem RepAll.at' {w : World} {lo hi : Nat} {l : List T} {p : Option Addr} (h : RepAll w lo hi l p) (i : Nat) (hil : i < l.length) :
    ∃ (b off : Nat) (c0 c1 c2 c3 : Value), p = some ⟨b, off, none⟩ ∧ lo ≤ b ∧ b < hi ∧ w.cell? ⟨b, off + i * 4, none⟩ = some c0 ∧ w.cell? ⟨b, off + i * 4 + 1, none⟩ = some c1 ∧ w.cell? ⟨b, off + i * 4 + 2, none⟩ = some c2 ∧ w.cell? ⟨b, off + i * 4 + 3, none⟩ = some c3 ∧
      Rep w lo hi (l[i]) (.agg #[c0, c1, c2, c3]) := by
  obtain ⟨a, d0, d1, d2, d3, hp, _, _, e0, _, _, _, _⟩ := RepAll.at h 0 (by omega)
  rw [Nat.zero_mul, add_zero] at e0
  have hs := spot_none e0
  obtain ⟨a', c0, c1, c2, c3, hp', hl, hb, h0, h1, h2, h3, ht⟩ := RepAll.at h i hil
  rw [hp] at hp'
  injection hp' with hp'
  subst hp'
  obtain ⟨b, off, sp⟩ := a
  simp only at hs
  subst hs
  have hadd : ∀ n, Addr.add ⟨b, off, none⟩ n = ⟨b, off + n, none⟩ := by
    intro n; unfold Addr.add; split
    · rename_i h; subst h; rfl
    · rfl
  rw [hadd] at h0 h1 h2 h3
  exact ⟨b, off, c0, c1, c2, c3, hp, hl, hb, h0, h1, h2, h3, ht⟩

/-- Item i, its cells written out. -/
theorem RepAll.item {w : World} {lo hi : Nat} {l : List T} {p : Option Addr} (h : RepAll w lo hi l p) (i : Nat) (hil : i < l.length) :
    ∃ (b off : Nat) (k n : Int) (s : ByteArray) (ll : List T) (q : Option Addr) (c : Nat), p = some ⟨b, off, none⟩ ∧ lo ≤ b ∧ b < hi ∧ l[i] = .mk k n s ll ∧
      w.cell? ⟨b, off + i * 4, none⟩ = some (.int .i64 k) ∧ w.cell? ⟨b, off + i * 4 + 1, none⟩ = some (.int .i64 n) ∧ w.cell? ⟨b, off + i * 4 + 2, none⟩ = some (.string s) ∧ w.cell? ⟨b, off + i * 4 + 3, none⟩ = some (.slice q ll.length c) ∧
      Rep w lo hi (l[i]) (.agg #[.int .i64 k, .int .i64 n, .string s, .slice q ll.length c]) := by
  obtain ⟨b, off, c0, c1, c2, c3, hp, hl, hb, h0, h1, h2, h3, ht⟩ := h.at' i hil
  match hm : l[i], ht with
  | .mk k n s ll, ht =>
    have ht' := ht
    unfold Rep at ht'
    obtain ⟨q, c, hv, _⟩ := ht'
    simp only [Value.agg.injEq, Array.mk.injEq, List.cons.injEq, and_true] at hv
    obtain ⟨rfl, rfl, rfl, rfl⟩ := hv
    exact ⟨b, off, k, n, s, ll, q, c, hp, hl, hb, rfl, h0, h1, h2, h3, ht⟩

/-- The sizes of the chapter. -/
def szAlone : T → Int | .mk k _ s _ => if k = 2 then 1 + s.size else 1
mutual
def sz : T → Int | .mk k _ s l => (if k = 2 then 1 + (s.size : Int) else 1) + szAll l
def szAll : List T → Int | [] => 0 | t :: r => sz t + szAll r
end

theorem ret_bool {a b : Bool} (h : a = b) : Ending.returned (.bool a) = .returned (.bool b) := by rw [h]
theorem ret_int {k : IntKind} {a b : Int} (h : a = b) : Ending.returned (.int k a) = .returned (.int k b) := by rw [h]


theorem T.ind_ {P : T → Prop} (h : ∀ k n s l, (∀ t ∈ l, P t) → P (.mk k n s l)) (t : T) : P t :=
  T.rec (motive_1 := P) (motive_2 := fun l => ∀ t ∈ l, P t) (fun k n s l ih => h k n s l ih) (fun t ht => absurd ht (by simp))
    (fun x r hx hr t ht => by rcases List.mem_cons.1 ht with h | h; exact h ▸ hx; exact hr t h) t

theorem sz_pos : ∀ t, 1 ≤ sz t := by
  refine T.ind_ (fun k n s l ih => ?_)
  have hA : ∀ l : List T, (∀ t ∈ l, 1 ≤ sz t) → 0 ≤ szAll l := by
    intro l
    induction l with
    | nil => intro _; simp [szAll]
    | cons x r ih => intro h; have h1 := h x (by simp); have h2 := ih (fun t ht => h t (by simp [ht])); simp only [szAll]; omega
  have := hA l ih
  simp only [sz]
  split <;> omega
theorem szAll_nonneg : ∀ l, 0 ≤ szAll l
  | [] => by simp [szAll]
  | x :: r => by have := sz_pos x; have := szAll_nonneg r; simp only [szAll]; omega
theorem szAll_append : ∀ a b, szAll (a ++ b) = szAll a + szAll b
  | [], b => by simp [szAll]
  | x :: r, b => by simp only [List.cons_append, szAll, szAll_append r b]; omega
theorem szAll_split (l : List T) (i : Nat) (h : i < l.length) : szAll (l.take (i + 1)) = szAll (l.take i) + sz (l[i]) := by
  rw [List.take_succ_eq_append_getElem h, szAll_append]; simp [szAll]
theorem szAll_take_le (l : List T) (i : Nat) : szAll (l.take i) ≤ szAll l := by
  have h := szAll_append (l.take i) (l.drop i)
  rw [List.take_append_drop] at h
  have := szAll_nonneg (l.drop i); omega

theorem sz_eq (k n : Int) (s : ByteArray) (l : List T) : 1 ≤ szAlone (.mk k n s []) ∧ sz (.mk k n s l) = szAlone (.mk k n s []) + szAll l := by
  by_cases hk : k = 2 <;> simp [szAlone, sz, hk]; omega

theorem Rep.alloc {w : World} {lo hi : Nat} {t : T} {v : Value} (h : Rep w lo hi t v) (hB : hi ≤ w.heap.size) (o : Obj) : Rep (w.alloc o) lo hi t v :=
  h.keep (Nat.le_refl _) (Nat.le_refl _) (fun p _ hp => World.cell?_alloc_lt w o p (by omega))
theorem RepAll.alloc {w : World} {lo hi : Nat} {t : List T} {v : Option Addr} (h : RepAll w lo hi t v) (hB : hi ≤ w.heap.size) (o : Obj) : RepAll (w.alloc o) lo hi t v :=
  h.keep (Nat.le_refl _) (Nat.le_refl _) (fun p _ hp => World.cell?_alloc_lt w o p (by omega))
theorem Rep.setCell {w : World} {lo hi : Nat} {t : T} {v : Value} (h : Rep w lo hi t v) {p : Addr} (hB : p.block < lo ∨ hi ≤ p.block) (u : Value) : Rep (w.setCell p u) lo hi t v :=
  h.keep (Nat.le_refl _) (Nat.le_refl _) (fun q hl hp => World.cell?_setCell_other w p q u (fun e => by subst e; omega))
theorem RepAll.setCell {w : World} {lo hi : Nat} {t : List T} {v : Option Addr} (h : RepAll w lo hi t v) {p : Addr} (hB : p.block < lo ∨ hi ≤ p.block) (u : Value) : RepAll (w.setCell p u) lo hi t v :=
  h.keep (Nat.le_refl _) (Nat.le_refl _) (fun q hl hp => World.cell?_setCell_other w p q u (fun e => by subst e; omega))

theorem Rep.drew {w : World} {lo hi : Nat} {t : T} {v : Value} (h : Rep w lo hi t v) : Rep w.drew lo hi t v := Rep.keep (w := w) (w' := w.drew) (Nat.le_refl lo) (Nat.le_refl hi) (fun _ _ _ => rfl) t v h
theorem RepAll.drew {w : World} {lo hi : Nat} {t : List T} {v : Option Addr} (h : RepAll w lo hi t v) : RepAll w.drew lo hi t v := RepAll.keep (w := w) (w' := w.drew) (Nat.le_refl lo) (Nat.le_refl hi) (fun _ _ _ => rfl) t v h
theorem heap_drew {w : World} {g : Nat} {o : Obj} (h : w.heap[g]? = some o) : w.drew.heap[g]? = some o := h

theorem emod_of_tmod (n b : Int) (hb : 1 ≤ b) : n % b = if n.tmod b < 0 then n.tmod b + b else n.tmod b := by
  have h := @Int.tmod_eq_emod n b
  have h1 := Int.emod_nonneg n (b := b) (by omega)
  have h2 := Int.emod_lt_of_pos n (b := b) (by omega)
  have hab : (b.natAbs : Int) = b := by omega
  by_cases hd : 0 ≤ n ∨ b ∣ n
  · rw [if_pos hd] at h; rw [h]; rw [if_neg (by omega)]; omega
  · rw [if_neg hd] at h; rw [h]; rw [if_pos (by omega)]; omega
theorem tmod_bounds (n b : Int) (hb : 1 ≤ b) : -b ≤ n.tmod b ∧ n.tmod b < b := by
  have h := emod_of_tmod n b hb
  have h1 := Int.emod_nonneg n (b := b) (by omega)
  have h2 := Int.emod_lt_of_pos n (b := b) (by omega)
  split at h <;> omega

theorem rep_form {w : World} {lo hi : Nat} {t : T} {v : Value} (h : Rep w lo hi t v) : ∃ (k n : Int) (s : ByteArray) (p : Option Addr) (len cap : Nat), v = .agg #[.int .i64 k, .int .i64 n, .string s, .slice p len cap] := by
  match t, h with
  | .mk k n s l, h =>
    unfold Rep at h
    obtain ⟨p, cap, hv, _⟩ := h
    exact ⟨k, n, s, p, l.length, cap, hv⟩

theorem box4 (w : World) (c0 c1 c2 c3 : Value) (t : TypeId) : (w.alloc (.cells #[c0, c1, c2, c3] t)).cell? ⟨w.heap.size, 0, none⟩ = some c0 ∧ (w.alloc (.cells #[c0, c1, c2, c3] t)).cell? ⟨w.heap.size, 1, none⟩ = some c1 ∧
    (w.alloc (.cells #[c0, c1, c2, c3] t)).cell? ⟨w.heap.size, 2, none⟩ = some c2 ∧ (w.alloc (.cells #[c0, c1, c2, c3] t)).cell? ⟨w.heap.size, 3, none⟩ = some c3 := by
  have h : (w.alloc (.cells #[c0, c1, c2, c3] t)).heap[w.heap.size]? = some (.cells #[c0, c1, c2, c3] t) := heap_alloc_new w _
  exact ⟨(cell_of_row _ _ 0 _ _ _ h).trans rfl, (cell_of_row _ _ 1 _ _ _ h).trans rfl, (cell_of_row _ _ 2 _ _ _ h).trans rfl, (cell_of_row _ _ 3 _ _ _ h).trans rfl⟩

/-- A box of four cells, in whatever world it still stands. -/
theorem box4_in (w2 : World) (g : Nat) (c0 c1 c2 c3 : Value) (t : TypeId) (h : w2.heap[g]? = some (.cells #[c0, c1, c2, c3] t (0, 0))) : w2.cell? ⟨g, 0, none⟩ = some c0 ∧ w2.cell? ⟨g, 1, none⟩ = some c1 ∧
    w2.cell? ⟨g, 2, none⟩ = some c2 ∧ w2.cell? ⟨g, 3, none⟩ = some c3 ∧ ∀ o, w2.frozen? ⟨g, o, none⟩ = false :=
  ⟨(cell_of_row _ _ 0 _ _ _ h).trans rfl, (cell_of_row _ _ 1 _ _ _ h).trans rfl, (cell_of_row _ _ 2 _ _ _ h).trans rfl, (cell_of_row _ _ 3 _ _ _ h).trans rfl, fun o => by simp [World.frozen?, h]⟩
theorem heap_old {w w' : World} {g : Nat} {o : Obj} (h : w.heap[g]? = some o) (hb : Below w.heap.size w w') : w'.heap[g]? = some o := by
  refine (hb.block g ?_).trans h
  rcases Nat.lt_or_ge g w.heap.size with h1 | h1
  · exact h1
  · rw [Array.getElem?_eq_none h1] at h; cases h
theorem heap_alloc_ (w : World) (o o' : Obj) (g : Nat) (h : w.heap[g]? = some o) : (w.alloc o').heap[g]? = some o := heap_old h ((Below.refl _ _).alloc (Nat.le_refl _) _)

theorem below_bcell {W w1 : World} (hb : Below W.heap.size W w1) : (∀ b o, b < W.heap.size → w1.cell? ⟨b, o, none⟩ = W.cell? ⟨b, o, none⟩) ∧ (∀ b o, b < W.heap.size → w1.frozen? ⟨b, o, none⟩ = W.frozen? ⟨b, o, none⟩) :=
  ⟨fun b o h => hb.cell (p := ⟨b, o, none⟩) h, fun b o h => hb.frozen (p := ⟨b, o, none⟩) h⟩


def cmpI (a b : Int) : Int := if a < b then -1 else if b < a then 1 else 0

mutual
def dp : T → Int | .mk k _ _ l => (if k = 4 then dpAll l else 0) + 1
def dpAll : List T → Int | [] => 0 | t :: r => max (dp t) (dpAll r)
end
theorem dpAll_nonneg : ∀ l, 0 ≤ dpAll l
  | [] => by simp [dpAll]
  | x :: r => by have := dpAll_nonneg r; simp only [dpAll]; omega
theorem dp_pos : ∀ t, 1 ≤ dp t
  | .mk k n s l => by have := dpAll_nonneg l; simp only [dp]; split <;> omega
theorem dpAll_append : ∀ a b, dpAll (a ++ b) = max (dpAll a) (dpAll b)
  | [], b => by have := dpAll_nonneg b; simp [dpAll]; omega
  | x :: r, b => by simp only [List.cons_append, dpAll, dpAll_append r b]; omega
theorem dpAll_split (l : List T) (i : Nat) (h : i < l.length) : dpAll (l.take (i + 1)) = max (dpAll (l.take i)) (dp (l[i])) := by
  rw [List.take_succ_eq_append_getElem h, dpAll_append]; have := dp_pos l[i]; simp only [dpAll]; omega
theorem dpAll_take_le (l : List T) (i : Nat) : dpAll (l.take i) ≤ dpAll l := by
  have h := dpAll_append (l.take i) (l.drop i)
  rw [List.take_append_drop] at h; omega
mutual
theorem dp_le_sz : ∀ t, dp t ≤ sz t
  | .mk k n s l => by have h := dpAll_le_sz l; have := szAll_nonneg l; simp only [dp, sz]; split <;> split <;> omega
theorem dpAll_le_sz : ∀ l, dpAll l ≤ szAll l
  | [] => by simp [dpAll, szAll]
  | x :: r => by have h := dp_le_sz x; have h2 := dpAll_le_sz r; have := szAll_nonneg r; have := sz_pos x; simp only [dpAll, szAll]; omega
end
mutual
/-- The size that the document reckons: items count of a list alone. -/
def rsz : T → Int | .mk k _ s l => if k = 2 then 1 + (s.size : Int) else if k = 4 then 1 + rszAll l else 1
def rszAll : List T → Int | [] => 0 | t :: r => rsz t + rszAll r
end
theorem rszAll_append : ∀ a b, rszAll (a ++ b) = rszAll a + rszAll b
  | [], b => by simp [rszAll]
  | x :: r, b => by simp only [List.cons_append, rszAll, rszAll_append r b]; omega
theorem rszAll_split (l : List T) (i : Nat) (h : i < l.length) : rszAll (l.take (i + 1)) = rszAll (l.take i) + rsz (l[i]) := by
  rw [List.take_succ_eq_append_getElem h, rszAll_append]; simp [rszAll]
mutual
theorem rsz_le : ∀ t, rsz t ≤ sz t
  | .mk k n s l => by have h := rszAll_le l; have := szAll_nonneg l; simp only [rsz, sz]; split <;> (try split) <;> omega
theorem rszAll_le : ∀ l, rszAll l ≤ szAll l
  | [] => by simp [rszAll, szAll]
  | x :: r => by have h := rsz_le x; have h2 := rszAll_le r; simp only [rszAll, szAll]; omega
end
mutual
theorem rsz_pos : ∀ t, 1 ≤ rsz t
  | .mk k n s l => by have h := rszAll_nonneg l; simp only [rsz]; split <;> (try split) <;> omega
theorem rszAll_nonneg : ∀ l, 0 ≤ rszAll l
  | [] => by simp [rszAll]
  | x :: r => by have h := rsz_pos x; have h2 := rszAll_nonneg r; simp only [rszAll]; omega
end
theorem rszAll_take_le (l : List T) (i : Nat) : rszAll (l.take i) ≤ rszAll l := by
  have h := rszAll_append (l.take i) (l.drop i)
  rw [List.take_append_drop] at h
  have := rszAll_nonneg (l.drop i); omega

end Go.Proofs.YtemkikjcjhmlaaaGreatDoor

namespace Go.Proofs.YtemkikjcjhmlaaaGreatDoor
open Go.RowKit

set_option maxHeartbeats 400000 in
theorem sizeAlone_any (k n : Int) (s : ByteArray) (p : Value) (w : World) (hs : s.size ≤ 140737488355328) :
    Calls Tryz.prog 104 #[.agg #[.int .i64 k, .int .i64 n, .string s, p]] w fun e w' => e = .returned (.int .i64 (szAlone (.mk k n s []))) ∧ Below w.heap.size w w' := by
  go_enter Tryz.func104, Tryz.ntmps104
  go_wp2
  · have h : (k == 2) = true := by assumption
    go_ret
    refine ⟨ret_int ?_, by go_grown⟩
    simp only [szAlone]; rw [if_pos (by simpa using h)]
  · have h : (k == 2) = false := by assumption
    go_ret
    refine ⟨ret_int ?_, by go_grown⟩
    simp only [szAlone]; rw [if_neg (by simpa using h)]

end Go.Proofs.YtemkikjcjhmlaaaGreatDoor

namespace Go.Proofs.YtemkikjcjhmlaaaGreatDoor
open Go.RowKit

/-- Number: the rest, from 0 on. -/
def numB (n b : Int) : Int := n % b
end Go.Proofs.YtemkikjcjhmlaaaGreatDoor

namespace Go.Proofs.YtemkikjcjhmlaaaGreatDoor
open Go.RowKit

mutual
def eqV : T → T → Bool
  | .mk k n s l, .mk k' n' s' l' => eqAll l l' && k == k' && n == n' && s.toList == s'.toList
def eqAll : List T → List T → Bool
  | [], [] => true
  | t :: r, t' :: r' => eqV t t' && eqAll r r'
  | _, _ => false
end
theorem eqAll_drop (l l' : List T) (j : Nat) (h : j < l.length) (h' : j < l'.length) : eqAll (l.drop j) (l'.drop j) = (eqV l[j] l'[j] && eqAll (l.drop (j + 1)) (l'.drop (j + 1))) := by
  rw [List.drop_eq_getElem_cons h, List.drop_eq_getElem_cons h', eqAll]
theorem eqAll_len : ∀ (l l' : List T), l.length ≠ l'.length → eqAll l l' = false
  | [], [], h => absurd rfl h
  | [], _ :: _, _ => by simp [eqAll]
  | _ :: _, [], _ => by simp [eqAll]
  | t :: r, t' :: r', h => by rw [eqAll, eqAll_len r r' (by simpa using h)]; simp
theorem eqAll_self (l : List T) (h : ∀ t ∈ l, eqV t t = true) : eqAll l l = true := by
  induction l with
  | nil => simp [eqAll]
  | cons x r ih => rw [eqAll, h x (by simp), ih (fun t ht => h t (by simp [ht]))]; rfl
theorem eqV_self : ∀ t, eqV t t = true := T.ind_ (fun k n s l ih => by rw [eqV, eqAll_self l ih]; simp)

set_option maxHeartbeats 1000000 in
theorem sameValues_any (l : List T) (w : World) (lo hi : Nat) (p : Option Addr) (cap : Nat) (hall : RepAll w lo hi l p) (hhi : hi ≤ w.heap.size) (hlen : l.length ≤ 9000000000000000000)
    (l' : List T) (lo' hi' : Nat) (p' : Option Addr) (cap' : Nat) (hall' : RepAll w lo' hi' l' p') (hhi' : hi' ≤ w.heap.size)
    (ih : ∀ t ∈ l, ∀ (t' : T) (w : World) (lo hi lo' hi' : Nat) (v v' : Value), Rep w lo hi t v → hi ≤ w.heap.size → Rep w lo' hi' t' v' → hi' ≤ w.heap.size →
      Calls Tryz.prog 23 #[v, v'] w fun e w' => e = .returned (.bool (eqV t t')) ∧ Below w.heap.size w w') :
    Calls Tryz.prog 43 #[.slice p l.length cap, .slice p' l'.length cap'] w fun e w' => e = .returned (.bool (eqAll l l')) ∧ Below w.heap.size w w' := by
  have H := Lib.hid ih; clear ih
  have HALL := Lib.hid hall; clear hall
  have HALL' := Lib.hid hall'; clear hall'
  by_cases hll : l.length = l'.length
  · have hne : ((l.length : Int) != (l'.length : Int)) = false := by simp [hll]
    have HLL := Lib.hid hll; clear hll
    go_enter Tryz.func43, Tryz.ntmps43
    go_wp2
    go_loopw [5] (fun i wr => ∃ j : Nat, j ≤ l.length ∧ i = .int .i64 j ∧ Hid (eqAll l l' = eqAll (l.drop j) (l'.drop j)) ∧ Below w.heap.size w wr) (fun i _ => l.length - (intOf i).toNat)
    case atStart => exact ⟨0, Nat.zero_le _, rfl, rfl, Below.refl _ _⟩
    case round =>
      obtain ⟨j, hj, rfl, HO, hbr⟩ := hrel
      have hz := hbr.size
      by_cases hlt : j < l.length
      · have hlt' : j < l'.length := by have := HLL.out; omega
        obtain ⟨b, off, k1, n1, s1, l1, q1, cc1, rfl, _, hbhi, hli, h0, h1, h2, h3, hrep⟩ := (HALL.out.below hbr hhi).item j hlt
        obtain ⟨b', off', k1', n1', s1', l1', q1', cc1', rfl, _, hbhi', hli', h0', h1', h2', h3', hrep'⟩ := (HALL'.out.below hbr hhi').item j hlt'
        have hA0 := eqAll_drop l l' j hlt hlt'
        rw [hli, hli'] at hA0
        have hA := Lib.hid (HO.out.trans hA0); clear hA0
        have hlj : l[j] ∈ l := List.getElem_mem hlt
        rw [hli] at hlj hrep
        rw [hli'] at hrep'
        clear hli hli'
        have hbw : b < wr.heap.size := by omega
        have hbw' : b' < wr.heap.size := by omega
        go_wp2
        go_region_held3 (fun w' => w'.cell? ⟨b, off + j * 4, none⟩ = some (.int .i64 k1) ∧ w'.cell? ⟨b, off + j * 4 + 1, none⟩ = some (.int .i64 n1) ∧ w'.cell? ⟨b, off + j * 4 + 2, none⟩ = some (.string s1) ∧ w'.cell? ⟨b, off + j * 4 + 3, none⟩ = some (.slice q1 l1.length cc1) ∧ w'.cell? ⟨b', off' + j * 4, none⟩ = some (.int .i64 k1') ∧ w'.cell? ⟨b', off' + j * 4 + 1, none⟩ = some (.int .i64 n1') ∧ w'.cell? ⟨b', off' + j * 4 + 2, none⟩ = some (.string s1') ∧ w'.cell? ⟨b', off' + j * 4 + 3, none⟩ = some (.slice q1' l1'.length cc1')) (first | exact ⟨h0, h1, h2, h3, h0', h1', h2', h3'⟩ | exact ⟨(hb2.cell (p := ⟨b, _, none⟩) hbw).trans h0, (hb2.cell (p := ⟨b, _, none⟩) hbw).trans h1, (hb2.cell (p := ⟨b, _, none⟩) hbw).trans h2, (hb2.cell (p := ⟨b, _, none⟩) hbw).trans h3, (hb2.cell (p := ⟨b', _, none⟩) hbw').trans h0', (hb2.cell (p := ⟨b', _, none⟩) hbw').trans h1', (hb2.cell (p := ⟨b', _, none⟩) hbw').trans h2', (hb2.cell (p := ⟨b', _, none⟩) hbw').trans h3'⟩) (first | (go_at_call 23; refine (H.out _ hlj _ _ lo hi lo' hi' _ _ hrep.drew (by simp; omega) hrep'.drew (by simp; omega)).mono ?_; rintro e w2 ⟨rfl, hb2⟩; obtain ⟨hc2, hf2⟩ := below_bcell hb2))
        go_wp2
        · have h : (!eqV (T.mk k1 n1 s1 l1) (T.mk k1' n1' s1' l1')) = true := by assumption
          go_ret
          refine ⟨ret_bool ?_, hbr.drew.trans (hb2.mono (by simp; omega))⟩
          rw [hA.out, show eqV (T.mk k1 n1 s1 l1) (T.mk k1' n1' s1' l1') = false from by simpa using h]; rfl
        · have h : (!eqV (T.mk k1 n1 s1 l1) (T.mk k1' n1' s1' l1')) = false := by assumption
          go_roundw
          case rel =>
            refine ⟨j + 1, by omega, by go_num, ?_, hbr.drew.trans (hb2.mono (by simp; omega))⟩
            show _ = _
            rw [hA.out, show eqV (T.mk k1 n1 s1 l1) (T.mk k1' n1' s1' l1') = true from by simpa using h]; rfl
          case measure => simp [intOf]; omega
      · have hjl : j = l.length := by omega
        subst hjl
        go_wp2
        go_ret
        refine ⟨ret_bool ?_, hbr⟩
        rw [HO.out, List.drop_length, List.drop_of_length_le (by have := HLL.out; omega)]; simp [eqAll]
  · have hne : ((l.length : Int) != (l'.length : Int)) = true := by simp; omega
    have HE := Lib.hid (eqAll_len l l' hll)
    go_enter Tryz.func43, Tryz.ntmps43
    go_wp2
    go_ret
    exact ⟨ret_bool HE.out.symm, Below.refl _ _⟩

set_option maxHeartbeats 1000000 in
theorem sameValue_any : ∀ (t t' : T) (w : World) (lo hi lo' hi' : Nat) (v v' : Value), Rep w lo hi t v → hi ≤ w.heap.size → Rep w lo' hi' t' v' → hi' ≤ w.heap.size →
      Calls Tryz.prog 23 #[v, v'] w fun e w' => e = .returned (.bool (eqV t t')) ∧ Below w.heap.size w w' := by
  refine T.ind_ (fun k n s l ih t' w lo hi lo' hi' v v' hr hhi hr' hhi' => ?_)
  match t', hr' with
  | .mk k' n' s' l', hr' =>
    unfold Rep at hr hr'
    obtain ⟨p, cap, rfl, hk, hn, hs, hlc, hcap, hall⟩ := hr
    obtain ⟨p', cap', rfl, hk', hn', hs', hlc', hcap', hall'⟩ := hr'
    have H := Lib.hid ih; clear ih
    have HE : Hid (eqV (.mk k n s l) (.mk k' n' s' l') = (eqAll l l' && k == k' && n == n' && s.toList == s'.toList)) := by show _ = _; rw [eqV]
    have HALL := Lib.hid hall; clear hall
    have HALL' := Lib.hid hall'; clear hall'
    cases hE : eqAll l l' with
    | false =>
      go_enter Tryz.func23, Tryz.ntmps23
      go_wp2_with (go_at_call 43; refine (sameValues_any l _ lo hi p cap ((HALL.out.alloc (by omega) _).alloc (by simp; omega) _) (by simp; omega) (by omega) l' lo' hi' p' cap' ((HALL'.out.alloc (by omega) _).alloc (by simp; omega) _) (by simp; omega) H.out).mono ?_; rintro e w2 ⟨rfl, hb2⟩; obtain ⟨hc2, hf2⟩ := below_bcell hb2)
      all_goals
        go_ret
        refine ⟨ret_bool ?_, (((Below.refl _ _).alloc (Nat.le_refl _) _).alloc (by simp) _).trans (hb2.mono (by simp; omega))⟩
        rw [HE.out]
        simp [*]
    | true =>
      go_enter Tryz.func23, Tryz.ntmps23
      go_wp2_with (go_at_call 43; refine (sameValues_any l _ lo hi p cap ((HALL.out.alloc (by omega) _).alloc (by simp; omega) _) (by simp; omega) (by omega) l' lo' hi' p' cap' ((HALL'.out.alloc (by omega) _).alloc (by simp; omega) _) (by simp; omega) H.out).mono ?_; rintro e w2 ⟨rfl, hb2⟩; obtain ⟨hc2, hf2⟩ := below_bcell hb2)
      all_goals
        go_ret
        refine ⟨ret_bool ?_, (((Below.refl _ _).alloc (Nat.le_refl _) _).alloc (by simp) _).trans (hb2.mono (by simp; omega))⟩
        rw [HE.out]
        simp [*]

end Go.Proofs.YtemkikjcjhmlaaaGreatDoor

namespace Go.Proofs.YtemkikjcjhmlaaaGreatDoor
open Go.RowKit
set_option maxRecDepth 100000

/-- A fault with nothing around it. -/
def fv (c : Int) : Value := .agg #[.int .i64 c, .bool false, .int .i64 0, .int .i64 0, .int .i64 0, .string ByteArray.empty, .slice none 0 0]

set_option maxHeartbeats 400000 in
theorem bare_any (c : Int) (w : World) : Calls Tryz.prog 15 #[.int .i64 c] w fun e w' => e = .returned (fv c) ∧ Below w.heap.size w w' := by
  go_enter Tryz.func15, Tryz.ntmps15
  go_wp2
  go_returns
  exact ⟨rfl, by go_grown⟩

set_option maxHeartbeats 400000 in
theorem none_any (w : World) : Calls Tryz.prog 18 #[] w fun e w' => e = .returned (fv 0) ∧ Below w.heap.size w w' := by
  go_enter Tryz.func18, Tryz.ntmps18
  go_wp2
  go_returns
  exact ⟨rfl, by go_grown⟩

/-- A box of seven cells (a fault), in whatever world it still stands. -/
theorem box7_in (w2 : World) (g : Nat) (c0 c1 c2 c3 c4 c5 c6 : Value) (t : TypeId) (h : w2.heap[g]? = some (.cells #[c0, c1, c2, c3, c4, c5, c6] t (0, 0))) : w2.cell? ⟨g, 0, none⟩ = some c0 ∧ w2.cell? ⟨g, 1, none⟩ = some c1 ∧
    w2.cell? ⟨g, 2, none⟩ = some c2 ∧ w2.cell? ⟨g, 3, none⟩ = some c3 ∧ w2.cell? ⟨g, 4, none⟩ = some c4 ∧ w2.cell? ⟨g, 5, none⟩ = some c5 ∧ w2.cell? ⟨g, 6, none⟩ = some c6 ∧ ∀ o, w2.frozen? ⟨g, o, none⟩ = false :=
  ⟨(cell_of_row _ _ 0 _ _ _ h).trans rfl, (cell_of_row _ _ 1 _ _ _ h).trans rfl, (cell_of_row _ _ 2 _ _ _ h).trans rfl, (cell_of_row _ _ 3 _ _ _ h).trans rfl, (cell_of_row _ _ 4 _ _ _ h).trans rfl, (cell_of_row _ _ 5 _ _ _ h).trans rfl, (cell_of_row _ _ 6 _ _ _ h).trans rfl, fun o => by simp [World.frozen?, h]⟩
/-- An error of api's, as a value. -/
def ev (a : Addr) : Value := .iface 146 (.pointer (some a))
theorem Tryz.comp_E : (Tryz.prog.info? 146).map (·.comparable) = some true := by kernel_rfl
theorem Tryz.size_E : (Tryz.prog.info? 160).map (·.size) = some 1 := by kernel_rfl

end Go.Proofs.YtemkikjcjhmlaaaGreatDoor

namespace Go.Proofs.YtemkikjcjhmlaaaGreatDoor
open Go.RowKit

/-- A copy of the tree's list lies in memory that is new since w. -/
def NewList (w : World) (l : List T) (e : Ending) (w' : World) : Prop := ∃ (p : Option Addr) (cap : Nat), e = .returned (.slice p l.length cap) ∧ l.length ≤ cap ∧ l.length * 56 ≤ 140737488355328 ∧ RepAll w' w.heap.size w'.heap.size l p ∧ Below w.heap.size w w'
def NewVal (w : World) (t : T) (e : Ending) (w' : World) : Prop := ∃ v, e = .returned v ∧ Rep w' w.heap.size w'.heap.size t v ∧ Below w.heap.size w w'

/-- No cell of these blocks is frozen. -/
def NoFrz (w : World) (lo hi : Nat) : Prop := ∀ b o, lo ≤ b → b < hi → w.frozen? ⟨b, o, none⟩ = false
theorem NoFrz.keep {w w' : World} {lo hi lo' hi' : Nat} (h : NoFrz w lo hi) (hlo : lo ≤ lo') (hhi : hi' ≤ hi) (hk : ∀ p : Addr, lo' ≤ p.block → p.block < hi' → w'.frozen? p = w.frozen? p) : NoFrz w' lo' hi' :=
  fun b o h1 h2 => (hk ⟨b, o, none⟩ h1 h2).trans (h b o (by omega) (by omega))
theorem NoFrz.below {w w' : World} {lo hi B : Nat} (h : NoFrz w lo hi) (hb : Below B w w') (hB : hi ≤ B) : NoFrz w' lo hi := h.keep (Nat.le_refl _) (Nat.le_refl _) (fun p _ hp => hb.frozen (by omega))
theorem NoFrz.setCell {w : World} {lo hi : Nat} (h : NoFrz w lo hi) (p : Addr) (u : Value) : NoFrz (w.setCell p u) lo hi := fun b o h1 h2 => by
  rw [← h b o h1 h2]
  simp only [World.frozen?, World.setCell, Array.getElem?_modify]
  by_cases e : p.block = b
  · subst e; simp only [if_true]
    cases hh : w.heap[p.block]? with
    | none => rfl
    | some x => cases x <;> rfl
  · simp [e]
theorem NoFrz.nil (w : World) : NoFrz w w.heap.size w.heap.size := fun b o h1 h2 => absurd h1 (by omega)
theorem NoFrz.alloc {w : World} {lo : Nat} (h : NoFrz w lo w.heap.size) (c : Array Value) (t : TypeId) : NoFrz (w.alloc (.cells c t)) lo (w.alloc (.cells c t)).heap.size := fun b o h1 h2 => by
  rw [World.size_alloc] at h2
  by_cases e : b = w.heap.size
  · subst e
    have h := heap_alloc_new w (.cells c t)
    simp only [World.frozen?, h]; simp
  · exact (((Below.refl w.heap.size w).alloc (Nat.le_refl _) _).frozen (p := ⟨b, o, none⟩) (by show b < w.heap.size; omega)).trans (h b o h1 (by omega))
theorem NoFrz.call {w w2 : World} {lo : Nat} (h : NoFrz w lo w.heap.size) (hb : Below w.heap.size w w2) (h2 : NoFrz w2 w.heap.size w2.heap.size) : NoFrz w2 lo w2.heap.size := fun b o h3 h4 => by
  by_cases e : b < w.heap.size
  · exact (hb.frozen (p := ⟨b, o, none⟩) e).trans (h b o h3 e)
  · exact h2 b o (by omega) h4
def NewListF (w : World) (l : List T) (e : Ending) (w' : World) : Prop := NewList w l e w' ∧ NoFrz w' w.heap.size w'.heap.size ∧ ∀ p n c, e = .returned (.slice p n c) → c = n
def NewValF (w : World) (t : T) (e : Ending) (w' : World) : Prop := NewVal w t e w' ∧ NoFrz w' w.heap.size w'.heap.size ∧ ∀ x y z p n c, e = .returned (.agg #[x, y, z, .slice p n c]) → c = n

theorem Tryz.info_V : (Tryz.prog.info? 31).map (fun i => (i.zero, i.size, i.bytes)) = some (some (.agg #[.int .i64 0, .int .i64 0, .string ⟨#[]⟩, .slice none 0 0]), 4, 56) := by kernel_rfl

/-- The first j copies stand in the new block bo. -/
def Part (wr : World) (bo : Nat) (l : List T) (j : Nat) : Prop := ∃ cs : Array Value, wr.heap[bo]? = some (.cells cs 31 (0, 0)) ∧ cs.size = l.length * 4 ∧
  ∀ i (h : i < l.length), i < j → ∃ c0 c1 c2 c3, cs[i * 4]? = some c0 ∧ cs[i * 4 + 1]? = some c1 ∧ cs[i * 4 + 2]? = some c2 ∧ cs[i * 4 + 3]? = some c3 ∧ Rep wr (bo + 1) wr.heap.size l[i] (.agg #[c0, c1, c2, c3])

theorem heap_lt {w : World} {g : Nat} {o : Obj} (h : w.heap[g]? = some o) : g < w.heap.size := by
  rcases Nat.lt_or_ge g w.heap.size with h1 | h1
  · exact h1
  · rw [Array.getElem?_eq_none h1] at h; cases h
theorem Part.lt {wr : World} {bo : Nat} {l : List T} {j : Nat} (h : Part wr bo l j) : bo < wr.heap.size := by
  obtain ⟨cs, h1, _⟩ := h; exact heap_lt h1
theorem Part.start (w : World) (cs : Array Value) (l : List T) (h : cs.size = l.length * 4) : Part (w.alloc (.cells cs 31)) w.heap.size l 0 :=
  ⟨cs, heap_alloc_new w _, h, fun i _ hi => absurd hi (by omega)⟩
theorem Part.below {wr w2 : World} {bo : Nat} {l : List T} {j : Nat} (h : Part wr bo l j) (hb : Below wr.heap.size wr w2) : Part w2 bo l j := by
  have hlt := h.lt
  obtain ⟨cs, h1, h2, h3⟩ := h
  refine ⟨cs, (hb.block _ hlt).trans h1, h2, fun i hi hj => ?_⟩
  obtain ⟨c0, c1, c2, c3, e0, e1, e2, e3, hr⟩ := h3 i hi hj
  exact ⟨c0, c1, c2, c3, e0, e1, e2, e3, hr.keep (Nat.le_refl _) hb.size (fun p _ hp => hb.cell hp)⟩
theorem Part.room {wr : World} {bo : Nat} {l : List T} {j : Nat} (h : Part wr bo l j) (i : Nat) (hi : i < l.length) :
    (∃ u, wr.cell? ⟨bo, i * 4, none⟩ = some u) ∧ (∃ u, wr.cell? ⟨bo, i * 4 + 1, none⟩ = some u) ∧ (∃ u, wr.cell? ⟨bo, i * 4 + 2, none⟩ = some u) ∧ (∃ u, wr.cell? ⟨bo, i * 4 + 3, none⟩ = some u) ∧ ∀ o, wr.frozen? ⟨bo, o, none⟩ = false := by
  obtain ⟨cs, h1, h2, _⟩ := h
  have hc : ∀ o, wr.cell? ⟨bo, o, none⟩ = cs[o]? := fun o => cell_of_row _ _ o _ _ _ h1
  have hsm : ∀ o, o < l.length * 4 → ∃ u, wr.cell? ⟨bo, o, none⟩ = some u := fun o ho => ⟨cs[o]'(by omega), by rw [hc]; exact Array.getElem?_eq_getElem (by omega)⟩
  exact ⟨hsm _ (by omega), hsm _ (by omega), hsm _ (by omega), hsm _ (by omega), fun o => by simp [World.frozen?, h1]⟩
theorem Part.step {wr : World} {bo : Nat} {l : List T} {j : Nat} (h : Part wr bo l j) (hj : j < l.length) (c0 c1 c2 c3 : Value) (hr : Rep wr (bo + 1) wr.heap.size l[j] (.agg #[c0, c1, c2, c3])) :
    Part ((((wr.setCell ⟨bo, j * 4, none⟩ c0).setCell ⟨bo, j * 4 + 1, none⟩ c1).setCell ⟨bo, j * 4 + 2, none⟩ c2).setCell ⟨bo, j * 4 + 3, none⟩ c3) bo l (j + 1) := by
  obtain ⟨cs, h1, h2, h3⟩ := h
  have hset : ∀ (w : World) (c : Array Value) (o : Nat) (u : Value), w.heap[bo]? = some (.cells c 31 (0, 0)) → (w.setCell ⟨bo, o, none⟩ u).heap[bo]? = some (.cells (c.setIfInBounds o u) 31 (0, 0)) := by
    intro w c o u hw
    simp [World.setCell, Array.getElem?_modify, hw]
  have k0 := hset _ _ (j * 4) c0 h1
  have k1 := hset _ _ (j * 4 + 1) c1 k0
  have k2 := hset _ _ (j * 4 + 2) c2 k1
  have k3 := hset _ _ (j * 4 + 3) c3 k2
  have hkeep : ∀ (t : T) (v : Value), Rep wr (bo + 1) wr.heap.size t v → Rep ((((wr.setCell ⟨bo, j * 4, none⟩ c0).setCell ⟨bo, j * 4 + 1, none⟩ c1).setCell ⟨bo, j * 4 + 2, none⟩ c2).setCell ⟨bo, j * 4 + 3, none⟩ c3) (bo + 1) wr.heap.size t v := by
    intro t v h
    refine Rep.setCell (Rep.setCell (Rep.setCell (Rep.setCell h ?_ _) ?_ _) ?_ _) ?_ _ <;> (left; show bo < bo + 1; omega)
  refine ⟨_, k3, by simpa using h2, fun i hi hij => ?_⟩
  have hsz : ((((wr.setCell ⟨bo, j * 4, none⟩ c0).setCell ⟨bo, j * 4 + 1, none⟩ c1).setCell ⟨bo, j * 4 + 2, none⟩ c2).setCell ⟨bo, j * 4 + 3, none⟩ c3).heap.size = wr.heap.size := by simp
  rw [hsz]
  by_cases hij' : i = j
  · subst hij'
    refine ⟨c0, c1, c2, c3, ?_, ?_, ?_, ?_, hkeep _ _ hr⟩ <;> simp [Array.getElem?_setIfInBounds] <;> omega
  · obtain ⟨d0, d1, d2, d3, e0, e1, e2, e3, hr'⟩ := h3 i hi (by omega)
    refine ⟨d0, d1, d2, d3, ?_, ?_, ?_, ?_, hkeep _ _ hr'⟩
    · rw [Array.getElem?_setIfInBounds_ne (by omega), Array.getElem?_setIfInBounds_ne (by omega), Array.getElem?_setIfInBounds_ne (by omega), Array.getElem?_setIfInBounds_ne (by omega)]; exact e0
    · rw [Array.getElem?_setIfInBounds_ne (by omega), Array.getElem?_setIfInBounds_ne (by omega), Array.getElem?_setIfInBounds_ne (by omega), Array.getElem?_setIfInBounds_ne (by omega)]; exact e1
    · rw [Array.getElem?_setIfInBounds_ne (by omega), Array.getElem?_setIfInBounds_ne (by omega), Array.getElem?_setIfInBounds_ne (by omega), Array.getElem?_setIfInBounds_ne (by omega)]; exact e2
    · rw [Array.getElem?_setIfInBounds_ne (by omega), Array.getElem?_setIfInBounds_ne (by omega), Array.getElem?_setIfInBounds_ne (by omega), Array.getElem?_setIfInBounds_ne (by omega)]; exact e3
/-- A list in memory, out of its items. -/
theorem RepAll.of {w : World} {lo hi b : Nat} (hlo : lo ≤ b) (hhi : b < hi) : ∀ (l : List T) (off : Nat), (∀ i (h : i < l.length), ∃ c0 c1 c2 c3, w.cell? ⟨b, off + i * 4, none⟩ = some c0 ∧ w.cell? ⟨b, off + i * 4 + 1, none⟩ = some c1 ∧ w.cell? ⟨b, off + i * 4 + 2, none⟩ = some c2 ∧ w.cell? ⟨b, off + i * 4 + 3, none⟩ = some c3 ∧ Rep w lo hi l[i] (.agg #[c0, c1, c2, c3])) →
    RepAll w lo hi l (some ⟨b, off, none⟩)
  | [], _, _ => by unfold RepAll; trivial
  | t :: r, off, h => by
    unfold RepAll
    obtain ⟨c0, c1, c2, c3, e0, e1, e2, e3, hr⟩ := h 0 (by simp)
    have hadd : ∀ n, Addr.add ⟨b, off, none⟩ n = ⟨b, off + n, none⟩ := by
      intro n; unfold Addr.add; split
      · rename_i h; subst h; rfl
      · rfl
    refine ⟨⟨b, off, none⟩, c0, c1, c2, c3, rfl, hlo, hhi, by simpa using e0, by rw [hadd]; simpa using e1, by rw [hadd]; simpa using e2, by rw [hadd]; simpa using e3, hr, ?_⟩
    rw [hadd]
    refine RepAll.of hlo hhi r (off + 4) (fun i hi => ?_)
    obtain ⟨d0, d1, d2, d3, f0, f1, f2, f3, hr'⟩ := h (i + 1) (by simpa using hi)
    refine ⟨d0, d1, d2, d3, ?_, ?_, ?_, ?_, by simpa using hr'⟩
    · rw [← f0]; congr 2; omega
    · rw [← f1]; congr 2; omega
    · rw [← f2]; congr 2; omega
    · rw [← f3]; congr 2; omega
theorem Part.done {wr : World} {bo : Nat} {l : List T} (h : Part wr bo l l.length) : RepAll wr bo wr.heap.size l (some ⟨bo, 0, none⟩) := by
  have hlt := h.lt
  obtain ⟨cs, h1, h2, h3⟩ := h
  refine RepAll.of (Nat.le_refl _) hlt l 0 (fun i hi => ?_)
  obtain ⟨c0, c1, c2, c3, e0, e1, e2, e3, hr⟩ := h3 i hi hi
  have hc : ∀ o, wr.cell? ⟨bo, o, none⟩ = cs[o]? := fun o => cell_of_row _ _ o _ _ _ h1
  refine ⟨c0, c1, c2, c3, ?_, ?_, ?_, ?_, hr.keep (by omega) (Nat.le_refl _) (fun _ _ _ => rfl)⟩ <;> (rw [hc, Nat.zero_add]; assumption)

/-- The result's header is the old one, its list a copy. -/
theorem Rep.mk_ {w : World} {lo hi : Nat} {k n : Int} {s : ByteArray} {l : List T} {p : Option Addr} {cap : Nat} (hk : I64 k) (hn : I64 n) (hs : s.size ≤ 140737488355328) (h1 : l.length ≤ cap) (h2 : l.length * 56 ≤ 140737488355328) (h3 : RepAll w lo hi l p) :
    Rep w lo hi (.mk k n s l) (.agg #[.int .i64 k, .int .i64 n, .string s, .slice p l.length cap]) := by
  unfold Rep; exact ⟨p, cap, rfl, hk, hn, hs, h1, h2, h3⟩

/-- A List of copies. -/
def mkList (l : List T) : T := .mk 4 0 ByteArray.empty l
end Go.Proofs.YtemkikjcjhmlaaaGreatDoor

namespace Go.Proofs.YtemkikjcjhmlaaaGreatDoor
open Go.RowKit

def abBytes : ByteArray := ⟨#[97, 98]⟩
def exList : List T := [.mk 0 1 ByteArray.empty [], .mk 2 0 abBytes []]
theorem repAll_ex (w : World) : RepAll (w.alloc (.cells #[.int .i64 0, .int .i64 1, .string ByteArray.empty, .slice none 0 0, .int .i64 2, .int .i64 0, .string abBytes, .slice none 0 0] 31)) w.heap.size (w.heap.size + 1) exList (some ⟨w.heap.size, 0, none⟩) := by
  have h := heap_alloc_new w (.cells #[.int .i64 0, .int .i64 1, .string ByteArray.empty, .slice none 0 0, .int .i64 2, .int .i64 0, .string abBytes, .slice none 0 0] 31)
  refine RepAll.of (Nat.le_refl _) (by omega) exList 0 (fun i hi => ?_)
  have hc : ∀ o, (w.alloc (.cells #[.int .i64 0, .int .i64 1, .string ByteArray.empty, .slice none 0 0, .int .i64 2, .int .i64 0, .string abBytes, .slice none 0 0] 31)).cell? ⟨w.heap.size, o, none⟩ = _ := fun o => cell_of_row _ _ o _ _ _ h
  match i, hi with
  | 0, _ => exact ⟨_, _, _, _, (hc _).trans rfl, (hc _).trans rfl, (hc _).trans rfl, (hc _).trans rfl, Rep.mk_ (l := []) (by unfold I64; omega) (by unfold I64; omega) (by simp) (Nat.le_refl _) (by simp) (by unfold RepAll; trivial)⟩
  | 1, _ => exact ⟨_, _, _, _, (hc _).trans rfl, (hc _).trans rfl, (hc _).trans rfl, (hc _).trans rfl, Rep.mk_ (l := []) (by unfold I64; omega) (by unfold I64; omega) (by decide) (Nat.le_refl _) (by simp) (by unfold RepAll; trivial)⟩
  | i + 2, hi => exact absurd hi (by simp [exList])

end Go.Proofs.YtemkikjcjhmlaaaGreatDoor

namespace Go.Proofs.YtemkikjcjhmlaaaGreatDoor
open Go.RowKit

abbrev Bs := List UInt8

def isD (c : UInt8) : Bool := 48 ≤ c.toNat && c.toNat ≤ 57
/-- Does a digit stand first? -/
def hdD : Bs → Bool | [] => false | c :: _ => isD c
/-- Does this byte stand first? -/
def hd (n : Nat) : Bs → Bool | [] => false | c :: _ => c.toNat == n

/-- Digits, as far as they go and are not too much. -/
def dig (most n : Nat) : Bs → Bool × Nat × Bs
  | [] => (true, n, [])
  | c :: r => if isD c then (if (most - (c.toNat - 48)) / 10 < n then (false, n, c :: r) else dig most (n * 10 + (c.toNat - 48)) r) else (true, n, c :: r)

/-- Digits behind a sign. -/
def numU (most : Nat) (sg : Int) (inp : Bs) : Option Int × Bs :=
  if hd 48 inp || !hdD inp then (none, inp) else ((if (dig most 0 inp).1 then some (sg * ((dig most 0 inp).2.1 : Int)) else none), (dig most 0 inp).2.2)
/-- A number; behind a 0 nothing is looked at. -/
def numC (most : Nat) (inp : Bs) : Option Int × Bs :=
  if hd 48 inp then (some 0, inp.drop 1) else if hd 45 inp then numU (most + 1) (-1) (inp.drop 1) else numU most 1 inp
/-- A number; behind a 0 stands no digit. -/
def num (most : Nat) (inp : Bs) : Option Int × Bs :=
  if hd 48 inp && hdD (inp.drop 1) then (none, inp.drop 1) else numC most inp

/-- The signs of a Str, up to its last quote. -/
def strOf : Bs → Option Bs × Bs
  | [] => (none, [])
  | c :: r => if c.toNat < 32 ∨ 126 < c.toNat then (none, c :: r) else if c.toNat = 34 then (some [], r) else if c.toNat = 92 then
      (match r with
        | [] => (none, [])
        | d :: r' => if d.toNat = 34 ∨ d.toNat = 92 then ((strOf r').1.map (d :: ·), (strOf r').2) else (none, d :: r'))
    else ((strOf r).1.map (c :: ·), (strOf r).2)

def names : List Bs :=
  [[69, 95, 78, 79, 78, 69], [69, 95, 84, 89, 80, 69], [69, 95, 68, 73, 86], [69, 95, 80, 69, 82, 77], [69, 95, 80, 82, 79, 80, 78, 70], [69, 95, 86, 69, 82, 66, 78, 70],
   [69, 95, 86, 65, 82, 78, 70], [69, 95, 73, 78, 86, 73, 78, 68], [69, 95, 82, 69, 67, 77, 79, 86, 69], [69, 95, 77, 65, 88, 82, 69, 67], [69, 95, 82, 65, 78, 71, 69],
   [69, 95, 65, 82, 71, 83], [69, 95, 78, 65, 67, 67], [69, 95, 73, 78, 86, 65, 82, 71], [69, 95, 81, 85, 79, 84, 65]]

/-- With how many bytes both begin. -/
def lcp : Bs → Bs → Nat
  | a :: r, b :: q => if a = b then lcp r q + 1 else 0
  | _, _ => 0
def codeGo (inp : Bs) : Nat → Nat → List Bs → Option Int × Nat
  | _, far, [] => (none, far)
  | i, far, x :: xs => if lcp inp x = x.length then (some (i : Int), x.length) else codeGo inp (i + 1) (max far (lcp inp x)) xs
def codeOf (inp : Bs) : Option Int × Bs := ((codeGo inp 0 0 names).1, inp.drop (codeGo inp 0 0 names).2)

/-- What a reading comes to: a tree, and what stands behind; or what stands at the first byte that doesn't fit. -/
inductive Res where
  | ok (t : T) (r : Bs)
  | bad (r : Bs)

def res (k : Int) (q : Option Int × Bs) : Res := match q.1 with | some n => .ok (.mk k n ByteArray.empty []) q.2 | none => .bad q.2
def resS (q : Option Bs × Bs) : Res := match q.1 with | some s => .ok (.mk 2 0 ⟨s.toArray⟩ []) q.2 | none => .bad q.2
/-- One that is no list. -/
def one (inp : Bs) : Res :=
  if hd 34 inp then resS (strOf (inp.drop 1)) else if hd 35 inp then res 1 (numC 2147483647 (inp.drop 1)) else
    if hd 45 inp || hdD inp then res 0 (numC 9223372036854775807 inp) else res 3 (codeOf inp)

inductive Md where
  | val
  | items (l : List T)
  | tail (l : List T)

/-- The reading of a value; of what stands at an item's place; of what stands behind an item. -/
inductive Go : Md → Bs → Res → Prop
  | one {i} : hd 123 i = false → Go .val i (one i)
  | none {r} : Go .val (123 :: 125 :: r) (.ok (.mk 4 0 ByteArray.empty []) r)
  | list {r R} : hd 125 r = false → Go (.items []) r R → Go .val (123 :: r) R
  | itemBad {l r x} : Go .val r (.bad x) → Go (.items l) r (.bad x)
  | item {l r t r' R} : Go .val r (.ok t r') → Go (.tail (l ++ [t])) r' R → Go (.items l) r R
  | tailEnd {l r} : Go (.tail l) (125 :: r) (.ok (.mk 4 0 ByteArray.empty l) r)
  | tailOn {l r R} : Go (.items l) r R → Go (.tail l) (44 :: 32 :: r) R
  | tailComma {l r} : hd 32 r = false → Go (.tail l) (44 :: r) (.bad r)
  | tailBad {l r} : hd 125 r = false → hd 44 r = false → Go (.tail l) r (.bad r)

theorem Go.det {m : Md} {i : Bs} {R R' : Res} (h : Go m i R) (h' : Go m i R') : R = R' := by
  induction h generalizing R' with
  | one hh =>
    cases h' with
    | one _ => rfl
    | none => simp [hd] at hh
    | list _ _ => simp [hd] at hh
  | none =>
    cases h' with
    | one hh => simp [hd] at hh
    | none => rfl
    | list hh _ => simp [hd] at hh
  | list hh _ ih =>
    cases h' with
    | one hh' => simp [hd] at hh'
    | none => simp [hd] at hh
    | list _ h2 => exact ih h2
  | itemBad _ ih =>
    cases h' with
    | itemBad h2 => exact ih h2
    | item h2 _ => cases ih h2
  | item _ _ ih1 ih2 =>
    cases h' with
    | itemBad h2 => cases ih1 h2
    | item h2 h3 =>
      have e := ih1 h2
      injection e with e1 e2
      subst e1 e2
      exact ih2 h3
  | tailEnd =>
    cases h' with
    | tailEnd => rfl
    | tailBad hh _ => simp [hd] at hh
  | tailOn _ ih =>
    cases h' with
    | tailOn h2 => exact ih h2
    | tailComma hh => simp [hd] at hh
    | tailBad _ hh => simp [hd] at hh
  | tailComma hh =>
    cases h' with
    | tailOn h2 => simp [hd] at hh
    | tailComma hh => rfl
    | tailBad _ hh => simp [hd] at hh
  | tailBad hh hh' =>
    cases h' with
    | tailEnd => simp [hd] at hh
    | tailOn h2 => simp [hd] at hh'
    | tailComma h2 => simp [hd] at hh'
    | tailBad _ _ => rfl

/-! ### How a value is written -/
def nameOf (n : Int) : Bs := if n < 0 then [] else (names[n.toNat]?).getD []
def esc : Bs → Bs
  | [] => []
  | c :: r => if c.toNat = 34 ∨ c.toNat = 92 then 92 :: c :: esc r else c :: esc r
mutual
def tx : T → Bs
  | .mk k n s l => if k = 0 then Lib.itoa n else if k = 1 then 35 :: Lib.itoa n else if k = 2 then 34 :: (esc s.data.toList ++ [34]) else if k = 3 then nameOf n else 123 :: (txs l ++ [125])
def txs : List T → Bs
  | [] => []
  | t :: r => tx t ++ txr r
def txr : List T → Bs
  | [] => []
  | t :: r => 44 :: 32 :: (tx t ++ txr r)
end
theorem txr_append : ∀ a b, txr (a ++ b) = txr a ++ txr b
  | [], b => by simp [txr]
  | x :: r, b => by simp [txr, txr_append r b]
theorem txs_snoc (l : List T) (t : T) : txs (l ++ [t]) = if l.length = 0 then tx t else txs l ++ (44 :: 32 :: tx t) := by
  cases l with
  | nil => simp [txs, txr]
  | cons x r => simp [txs, txr_append, txr]

/-! ### Digits -/
theorem dec_small {u : Nat} (h : u < 10) : Lib.decDigits u = [UInt8.ofNat (48 + u)] := Lib.decDigits_one h
theorem dec_big {u : Nat} (h : ¬ u < 10) : Lib.decDigits u = Lib.decDigits (u / 10) ++ [UInt8.ofNat (48 + u % 10)] := by rw [Lib.decDigits, dif_neg h]
theorem ofNat_toNat_lt {n : Nat} (h : n < 256) : (UInt8.ofNat n).toNat = n := by simp [UInt8.toNat_ofNat']; omega
theorem isD_ofNat {d : Nat} (h : d < 10) : isD (UInt8.ofNat (48 + d)) = true := by
  unfold isD; rw [ofNat_toNat_lt (by omega)]; simp; omega
theorem isD_iff {c : UInt8} : isD c = true ↔ 48 ≤ c.toNat ∧ c.toNat ≤ 57 := by unfold isD; simp
theorem ofNat_isD {c : UInt8} (h : isD c = true) : UInt8.ofNat (48 + (c.toNat - 48)) = c := by
  have := isD_iff.1 h
  rw [show 48 + (c.toNat - 48) = c.toNat by omega]; exact UInt8.ofNat_toNat

theorem dig_sound {most : Nat} : ∀ (inp : Bs) {n m : Nat} {r : Bs}, 0 < n → n ≤ most → dig most n inp = (true, m, r) → ∃ ds, inp = ds ++ r ∧ Lib.decDigits m = Lib.decDigits n ++ ds ∧ m ≤ most ∧ 0 < m ∧ hdD r = false
  | [], n, m, r, hn, hm, h => by
    simp only [dig, Prod.mk.injEq, true_and] at h
    obtain ⟨rfl, rfl⟩ := h
    exact ⟨[], by simp, by simp, hm, hn, rfl⟩
  | c :: q, n, m, r, hn, hm, h => by
    rw [dig] at h
    by_cases hc : isD c = true
    · rw [if_pos hc] at h
      by_cases ho : (most - (c.toNat - 48)) / 10 < n
      · rw [if_pos ho] at h; simp at h
      · rw [if_neg ho] at h
        have hc' := isD_iff.1 hc
        obtain ⟨ds, h1, h2, h3, h4, h5⟩ := dig_sound q (by omega) (by omega) h
        refine ⟨c :: ds, by rw [h1]; rfl, ?_, h3, h4, h5⟩
        rw [h2, dec_big (by omega), show (n * 10 + (c.toNat - 48)) / 10 = n by omega, show (n * 10 + (c.toNat - 48)) % 10 = c.toNat - 48 by omega, ofNat_isD hc]
        simp
    · rw [if_neg hc] at h
      simp only [Prod.mk.injEq, true_and] at h
      obtain ⟨rfl, rfl⟩ := h
      exact ⟨[], by simp, by simp, hm, hn, by simp [hdD]; simpa using hc⟩

theorem dig_dec {most : Nat} (u : Nat) (r : Bs) (hu : u ≤ most) : dig most 0 (Lib.decDigits u ++ r) = dig most u r := by
  induction u using Nat.strongRecOn generalizing r with
  | _ u ih =>
    by_cases h : u < 10
    · rw [dec_small h, List.singleton_append, dig, if_pos (isD_ofNat h), ofNat_toNat_lt (by omega), if_neg (by omega)]
      congr 1; omega
    · rw [dec_big h, List.append_assoc, ih (u / 10) (by omega) _ (by omega), List.singleton_append, dig, if_pos (isD_ofNat (by omega)), ofNat_toNat_lt (by omega), if_neg (by omega)]
      congr 1; omega
theorem dig_stop {most u : Nat} {r : Bs} (h : hdD r = false) : dig most u r = (true, u, r) := by
  cases r with
  | nil => rfl
  | cons c q => rw [dig, if_neg (by simpa [hdD] using h)]
theorem dec_head (u : Nat) (hu : 0 < u) (r : Bs) : hd 48 (Lib.decDigits u ++ r) = false ∧ hdD (Lib.decDigits u ++ r) = true ∧ hd 45 (Lib.decDigits u ++ r) = false := by
  induction u using Nat.strongRecOn generalizing r with
  | _ u ih =>
    by_cases h : u < 10
    · rw [dec_small h]
      refine ⟨?_, ?_, ?_⟩
      · simp only [hd, List.cons_append, ofNat_toNat_lt (show 48 + u < 256 by omega)]; simp; omega
      · simpa [hdD] using isD_ofNat h
      · simp only [hd, List.cons_append, ofNat_toNat_lt (show 48 + u < 256 by omega)]; simp; omega
    · rw [dec_big h, List.append_assoc]
      exact ih (u / 10) (by omega) (by omega) _

theorem numU_dec {most u : Nat} (sg : Int) {r : Bs} (hu : 0 < u) (hm : u ≤ most) (hr : hdD r = false) : numU most sg (Lib.decDigits u ++ r) = (some (sg * (u : Int)), r) := by
  obtain ⟨h1, h2, _⟩ := dec_head u hu r
  unfold numU
  rw [h1, h2, dig_dec u r hm, dig_stop hr]
  simp

theorem num_itoa {most : Nat} {n : Int} {r : Bs} (h0 : -(most : Int) - 1 ≤ n) (h1 : n ≤ most) (hr : hdD r = false) : num most (Lib.itoa n ++ r) = (some n, r) := by
  by_cases hz : n = 0
  · subst hz
    rw [show Lib.itoa 0 = [48] from by unfold Lib.itoa; rw [if_neg (by omega)]; exact dec_small (by omega)]
    simp [num, numC, hd, hr]
  · by_cases hn : n < 0
    · have e : Lib.itoa n = 45 :: Lib.decDigits n.natAbs := by unfold Lib.itoa; rw [if_pos hn]
      have h := numU_dec (most := most + 1) (-1) (r := r) (show 0 < n.natAbs by omega) (by omega) hr
      rw [e]
      simp only [num, numC, hd, List.cons_append, List.drop_succ_cons, List.drop_zero]
      simp only [show ((45 : UInt8).toNat == 48) = false from rfl, show ((45 : UInt8).toNat == 45) = true from rfl, Bool.false_and, if_true, h]
      simp; omega
    · have e : Lib.itoa n = Lib.decDigits n.toNat := by unfold Lib.itoa; rw [if_neg hn]
      have h := numU_dec (most := most) 1 (r := r) (show 0 < n.toNat by omega) (by omega) hr
      obtain ⟨h1, h2, h3⟩ := dec_head n.toNat (by omega) r
      rw [e]
      simp only [num, numC, h1, h3, Bool.false_and, h]
      simp; omega

theorem numU_sound {most : Nat} {sg n : Int} {inp r : Bs} (hm : 9 ≤ most) (h : numU most sg inp = (some n, r)) : ∃ u : Nat, n = sg * u ∧ 0 < u ∧ u ≤ most ∧ inp = Lib.decDigits u ++ r ∧ hdD r = false := by
  unfold numU at h
  by_cases hb : (hd 48 inp || !hdD inp) = true
  · rw [if_pos hb] at h; simp at h
  · rw [if_neg hb] at h
    cases inp with
    | nil => simp [hdD] at hb
    | cons c q =>
      simp only [hd, hdD, Bool.or_eq_true, beq_iff_eq, Bool.not_eq_true', not_or, Bool.not_eq_false] at hb
      obtain ⟨hc0, hcd⟩ := hb
      have hc := isD_iff.1 hcd
      have e : dig most 0 (c :: q) = dig most (c.toNat - 48) q := by
        rw [dig, if_pos hcd, if_neg (by omega)]; congr 1; omega
      rw [e] at h
      rcases hq : dig most (c.toNat - 48) q with ⟨b, m, r'⟩
      rw [hq] at h
      cases b with
      | false => simp at h
      | true =>
        simp only [if_true, Prod.mk.injEq, Option.some.injEq] at h
        obtain ⟨rfl, rfl⟩ := h
        obtain ⟨ds, h1, h2, h3, h4, h5⟩ := dig_sound q (by omega) (by omega) hq
        refine ⟨m, rfl, h4, h3, ?_, h5⟩
        rw [h2, h1, dec_small (by omega), ofNat_isD hcd]; simp

theorem hd_iff {n : Nat} {inp : Bs} (h : hd n inp = true) : ∃ c r, inp = c :: r ∧ c.toNat = n := by
  cases inp with
  | nil => simp [hd] at h
  | cons c r => exact ⟨c, r, rfl, by simpa [hd] using h⟩
theorem hd_lit {n : Nat} {inp : Bs} (h : hd n inp = true) : inp = UInt8.ofNat n :: inp.drop 1 := by
  obtain ⟨c, r, rfl, hc⟩ := hd_iff h
  simp only [List.drop_succ_cons, List.drop_zero]
  rw [← hc, UInt8.ofNat_toNat]

theorem num_sound {most : Nat} {n : Int} {inp r : Bs} (hm : 9 ≤ most) (h : num most inp = (some n, r)) : inp = Lib.itoa n ++ r ∧ -(most : Int) - 1 ≤ n ∧ n ≤ most ∧ hdD r = false := by
  unfold num numC at h
  by_cases h0 : hd 48 inp = true
  · rw [h0] at h
    by_cases hb : hdD (inp.drop 1) = true
    · rw [hb] at h; simp at h
    · simp only [Bool.eq_false_iff.2 hb, Bool.and_false, if_true] at h
      simp only [Bool.false_eq_true, if_false, Prod.mk.injEq, Option.some.injEq] at h
      obtain ⟨rfl, rfl⟩ := h
      refine ⟨?_, by omega, by omega, by simpa using hb⟩
      have := hd_lit h0
      rw [show Lib.itoa 0 = [48] from by unfold Lib.itoa; rw [if_neg (by omega)]; exact dec_small (by omega)]
      exact this
  · simp only [Bool.eq_false_iff.2 h0, Bool.false_and] at h
    by_cases h4 : hd 45 inp = true
    · simp only [h4, if_true, Bool.false_eq_true, if_false] at h
      obtain ⟨u, rfl, hu, hum, hi, hr⟩ := numU_sound (by omega) h
      refine ⟨?_, by omega, by omega, hr⟩
      have e : Lib.itoa (-1 * (u : Int)) = 45 :: Lib.decDigits u := by unfold Lib.itoa; rw [if_pos (by omega)]; congr 2; omega
      rw [e, List.cons_append, ← hi]
      exact hd_lit h4
    · simp only [Bool.eq_false_iff.2 h4, Bool.false_eq_true, if_false] at h
      obtain ⟨u, rfl, hu, hum, hi, hr⟩ := numU_sound (by omega) h
      refine ⟨?_, by omega, by omega, hr⟩
      have e : Lib.itoa (1 * (u : Int)) = Lib.decDigits u := by unfold Lib.itoa; rw [if_neg (by omega)]; congr 1; omega
      rw [e]; exact hi

theorem dec_take (u k : Nat) (hk : k < (Lib.decDigits u).length) : (Lib.decDigits u).take k = [] ∨ (0 < u ∧ ∃ v, 0 < v ∧ v ≤ u ∧ (Lib.decDigits u).take k = Lib.decDigits v) := by
  induction u using Nat.strongRecOn generalizing k with
  | _ u ih =>
    by_cases h : u < 10
    · rw [dec_small h] at hk ⊢
      simp only [List.length_singleton] at hk
      left; rw [show k = 0 by omega]; rfl
    · rw [dec_big h] at hk ⊢
      simp only [List.length_append, List.length_singleton] at hk
      rw [List.take_append_of_le_length (by omega)]
      by_cases hl : k < (Lib.decDigits (u / 10)).length
      · rcases ih (u / 10) (by omega) k hl with h1 | ⟨_, v, hv0, hv, h1⟩
        · left; exact h1
        · right; exact ⟨by omega, v, hv0, by omega, h1⟩
      · right
        exact ⟨by omega, u / 10, by omega, by omega, List.take_of_length_le (by omega)⟩

theorem num_take {most : Nat} {n : Int} {k : Nat} (h0 : -(most : Int) - 1 ≤ n) (h1 : n ≤ most) (hk : k < (Lib.itoa n).length) : num most ((Lib.itoa n).take k) = (none, []) ∨ ∃ n', num most ((Lib.itoa n).take k) = (some n', []) := by
  by_cases hn : n < 0
  · have e : Lib.itoa n = 45 :: Lib.decDigits n.natAbs := by unfold Lib.itoa; rw [if_pos hn]
    rw [e] at hk ⊢
    cases k with
    | zero => left; rfl
    | succ k =>
      simp only [List.length_cons] at hk
      rw [List.take_succ_cons]
      rcases dec_take n.natAbs k (by omega) with h | ⟨_, v, hv0, hv, h⟩
      · left; rw [h]; rfl
      · right
        refine ⟨-(v : Int), ?_⟩
        have e' : Lib.itoa (-(v : Int)) = 45 :: Lib.decDigits v := by unfold Lib.itoa; rw [if_pos (by omega)]; congr 2; omega
        have := num_itoa (most := most) (n := -(v : Int)) (r := []) (by omega) (by omega) rfl
        rw [e', List.append_nil] at this
        rw [h]; exact this
  · have e : Lib.itoa n = Lib.decDigits n.toNat := by unfold Lib.itoa; rw [if_neg hn]
    rw [e] at hk ⊢
    rcases dec_take n.toNat k hk with h | ⟨_, v, hv0, hv, h⟩
    · left; rw [h]; rfl
    · right
      refine ⟨(v : Int), ?_⟩
      have e' : Lib.itoa (v : Int) = Lib.decDigits v := by unfold Lib.itoa; rw [if_neg (by omega)]; congr 1
      have := num_itoa (most := most) (n := (v : Int)) (r := []) (by omega) (by omega) rfl
      rw [e', List.append_nil] at this
      rw [h]; exact this

/-! ### Where behind a 0 nothing is looked at -/
theorem num_is_numC {most : Nat} {i : Bs} (h : (hd 48 i && hdD (i.drop 1)) = false) : num most i = numC most i := by unfold num; rw [h]; rfl
theorem numC_itoa {most : Nat} {n : Int} {r : Bs} (h0 : -(most : Int) - 1 ≤ n) (h1 : n ≤ most) (hr : hdD r = false) : numC most (Lib.itoa n ++ r) = (some n, r) := by
  have h := num_itoa h0 h1 hr
  cases hb : (hd 48 (Lib.itoa n ++ r) && hdD ((Lib.itoa n ++ r).drop 1)) with
  | false => rw [← num_is_numC hb]; exact h
  | true => unfold num at h; rw [hb] at h; simp at h
theorem numC_sound {most : Nat} {n : Int} {inp r : Bs} (hm : 9 ≤ most) (h : numC most inp = (some n, r)) : inp = Lib.itoa n ++ r ∧ -(most : Int) - 1 ≤ n ∧ n ≤ most := by
  cases hb : (hd 48 inp && hdD (inp.drop 1)) with
  | false => rw [← num_is_numC hb] at h; have := num_sound hm h; exact ⟨this.1, this.2.1, this.2.2.1⟩
  | true =>
    have h0 : hd 48 inp = true := by cases h1 : hd 48 inp; rw [h1] at hb; simp at hb; rfl
    unfold numC at h
    rw [if_pos h0] at h
    simp only [Prod.mk.injEq, Option.some.injEq] at h
    obtain ⟨rfl, rfl⟩ := h
    refine ⟨?_, by omega, by omega⟩
    rw [show Lib.itoa 0 = [48] from by unfold Lib.itoa; rw [if_neg (by omega)]; exact dec_small (by omega)]
    exact hd_lit h0
theorem numC_take {most : Nat} {n : Int} {k : Nat} (h0 : -(most : Int) - 1 ≤ n) (h1 : n ≤ most) (hk : k < (Lib.itoa n).length) : numC most ((Lib.itoa n).take k) = (none, []) ∨ ∃ n', numC most ((Lib.itoa n).take k) = (some n', []) := by
  have h := num_take h0 h1 hk
  cases hb : (hd 48 ((Lib.itoa n).take k) && hdD (((Lib.itoa n).take k).drop 1)) with
  | false => rw [num_is_numC hb] at h; exact h
  | true =>
    have hb' := hb
    unfold num at h
    rw [hb] at h
    simp only [if_true, Prod.mk.injEq, true_and, reduceCtorEq, false_and, exists_false, or_false] at h
    rw [h] at hb'
    simp [hdD] at hb'

/-! ### Strs -/
theorem strOf_nil : strOf [] = (none, []) := by rw [strOf.eq_def]
theorem strOf_cons (c : UInt8) (r : Bs) : strOf (c :: r) = if c.toNat < 32 ∨ 126 < c.toNat then (none, c :: r) else if c.toNat = 34 then (some [], r) else if c.toNat = 92 then
      (match r with
        | [] => (none, [])
        | d :: r' => if d.toNat = 34 ∨ d.toNat = 92 then ((strOf r').1.map (d :: ·), (strOf r').2) else (none, d :: r'))
    else ((strOf r).1.map (c :: ·), (strOf r).2) := (strOf.eq_def (c :: r)).trans rfl
theorem strOf_quote (r : Bs) : strOf (34 :: r) = (some [], r) := by rw [strOf_cons]; rfl
theorem strOf_back {d : UInt8} (h : d.toNat = 34 ∨ d.toNat = 92) (r : Bs) : strOf (92 :: d :: r) = ((strOf r).1.map (d :: ·), (strOf r).2) := by
  rw [strOf_cons]; simp [h]
theorem strOf_back_nil : strOf [92] = (none, []) := by rw [strOf_cons]; rfl
theorem strOf_plain {c : UInt8} (h0 : 32 ≤ c.toNat) (h1 : c.toNat ≤ 126) (h2 : ¬ (c.toNat = 34 ∨ c.toNat = 92)) (r : Bs) : strOf (c :: r) = ((strOf r).1.map (c :: ·), (strOf r).2) := by
  rw [strOf_cons, if_neg (by omega), if_neg (by omega), if_neg (by omega)]
theorem strOf_esc : ∀ (s r : Bs), (∀ c ∈ s, 32 ≤ c.toNat ∧ c.toNat ≤ 126) → strOf (esc s ++ (34 :: r)) = (some s, r)
  | [], r, _ => by rw [esc, List.nil_append, strOf_quote]
  | c :: q, r, h => by
    have hc := h c (by simp)
    have ih := strOf_esc q r (fun x hx => h x (by simp [hx]))
    rw [esc]
    by_cases he : c.toNat = 34 ∨ c.toNat = 92
    · rw [if_pos he, List.cons_append, List.cons_append, strOf_back he, ih]; rfl
    · rw [if_neg he, List.cons_append, strOf_plain hc.1 hc.2 he, ih]; rfl
theorem strOf_sound : ∀ (n : Nat) (inp : Bs) {s r : Bs}, inp.length ≤ n → strOf inp = (some s, r) → inp = esc s ++ (34 :: r) ∧ ∀ c ∈ s, 32 ≤ c.toNat ∧ c.toNat ≤ 126
  | n, [], s, r, _, h => by simp [strOf_nil] at h
  | 0, c :: q, s, r, hl, _ => by simp at hl
  | n + 1, c :: q, s, r, hl, h => by
    simp only [List.length_cons] at hl
    rw [strOf_cons] at h
    by_cases h1 : c.toNat < 32 ∨ 126 < c.toNat
    · rw [if_pos h1] at h; simp at h
    · rw [if_neg h1] at h
      by_cases h2 : c.toNat = 34
      · rw [if_pos h2] at h
        simp only [Prod.mk.injEq, Option.some.injEq] at h
        obtain ⟨rfl, rfl⟩ := h
        refine ⟨?_, by simp⟩
        have : c = 34 := by rw [← UInt8.ofNat_toNat (x := c), h2]; rfl
        rw [this]; rfl
      · rw [if_neg h2] at h
        by_cases h3 : c.toNat = 92
        · rw [if_pos h3] at h
          have hc : c = 92 := by rw [← UInt8.ofNat_toNat (x := c), h3]; rfl
          cases q with
          | nil => simp at h
          | cons d q' =>
            simp only at h
            by_cases h4 : d.toNat = 34 ∨ d.toNat = 92
            · rw [if_pos h4] at h
              rcases hq : strOf q' with ⟨o, r'⟩
              rw [hq] at h
              cases o with
              | none => simp at h
              | some s' =>
                simp only [Option.map_some, Prod.mk.injEq, Option.some.injEq] at h
                obtain ⟨rfl, rfl⟩ := h
                obtain ⟨e1, e2⟩ := strOf_sound n q' (by simp only [List.length_cons] at hl; omega) hq
                refine ⟨by rw [esc, if_pos h4, e1, hc]; simp, fun x hx => ?_⟩
                rcases List.mem_cons.1 hx with rfl | hx
                · omega
                · exact e2 x hx
            · rw [if_neg h4] at h; simp at h
        · rw [if_neg h3] at h
          rcases hq : strOf q with ⟨o, r'⟩
          rw [hq] at h
          cases o with
          | none => simp at h
          | some s' =>
            simp only [Option.map_some, Prod.mk.injEq, Option.some.injEq] at h
            obtain ⟨rfl, rfl⟩ := h
            obtain ⟨e1, e2⟩ := strOf_sound n q (by omega) hq
            refine ⟨by rw [esc, if_neg (by omega), e1]; simp, fun x hx => ?_⟩
            rcases List.mem_cons.1 hx with rfl | hx
            · omega
            · exact e2 x hx
theorem strOf_take : ∀ (s : Bs) (k : Nat), (∀ c ∈ s, 32 ≤ c.toNat ∧ c.toNat ≤ 126) → k ≤ (esc s).length → strOf ((esc s).take k) = (none, [])
  | [], k, _, _ => by simp [esc, strOf_nil]
  | c :: q, k, h, hk => by
    have hc := h c (by simp)
    have ih := fun j => strOf_take q j (fun x hx => h x (by simp [hx]))
    rw [esc] at hk ⊢
    by_cases he : c.toNat = 34 ∨ c.toNat = 92
    · rw [if_pos he] at hk ⊢
      match k with
      | 0 => exact strOf_nil
      | 1 => exact strOf_back_nil
      | k + 2 =>
        simp only [List.length_cons] at hk
        rw [List.take_succ_cons, List.take_succ_cons, strOf_back he, ih k (by omega)]; rfl
    · rw [if_neg he] at hk ⊢
      match k with
      | 0 => exact strOf_nil
      | k + 1 =>
        simp only [List.length_cons] at hk
        rw [List.take_succ_cons, strOf_plain hc.1 hc.2 he, ih k (by omega)]; rfl

/-! ### Names -/
theorem lcp_full : ∀ (inp x : Bs), lcp inp x = x.length → inp = x ++ inp.drop x.length
  | inp, [], _ => by simp
  | [], b :: q, h => by simp [lcp] at h
  | a :: r, b :: q, h => by
    rw [lcp] at h
    by_cases e : a = b
    · rw [if_pos e] at h
      simp only [List.length_cons, Nat.add_right_cancel_iff] at h
      subst e
      have := lcp_full r q h
      simp only [List.cons_append, List.length_cons, List.drop_succ_cons]
      rw [← this]
    · rw [if_neg e] at h; simp at h
theorem codeGo_sound (inp : Bs) : ∀ (xs : List Bs) (i far : Nat) {n : Int} {m : Nat}, codeGo inp i far xs = (some n, m) → ∃ (j : Nat) (x : Bs), xs[j]? = some x ∧ n = ((i + j : Nat) : Int) ∧ m = x.length ∧ inp = x ++ inp.drop m
  | [], i, far, n, m, h => by simp [codeGo] at h
  | x :: xs, i, far, n, m, h => by
    rw [codeGo] at h
    by_cases e : lcp inp x = x.length
    · rw [if_pos e] at h
      simp only [Prod.mk.injEq, Option.some.injEq] at h
      obtain ⟨rfl, rfl⟩ := h
      exact ⟨0, x, rfl, rfl, rfl, lcp_full inp x e⟩
    · rw [if_neg e] at h
      obtain ⟨j, y, h1, h2, h3, h4⟩ := codeGo_sound inp xs _ _ h
      exact ⟨j + 1, y, by simpa using h1, by rw [h2]; omega, h3, h4⟩
theorem codeOf_sound {inp : Bs} {n : Int} {r : Bs} (h : codeOf inp = (some n, r)) : inp = nameOf n ++ r ∧ 0 ≤ n ∧ n ≤ 14 := by
  unfold codeOf at h
  simp only [Prod.mk.injEq] at h
  obtain ⟨h1, h2⟩ := h
  rcases hq : codeGo inp 0 0 names with ⟨o, m⟩
  rw [hq] at h1 h2
  simp only at h1 h2
  subst h1
  obtain ⟨j, x, e1, e2, e3, e4⟩ := codeGo_sound inp names 0 0 hq
  have hj : j < names.length := by
    rcases Nat.lt_or_ge j names.length with h | h
    · exact h
    · rw [List.getElem?_eq_none h] at e1; cases e1
  have hl : names.length = 15 := rfl
  refine ⟨?_, by omega, by omega⟩
  rw [← h2]
  unfold nameOf
  rw [if_neg (by omega), show n.toNat = j by omega, e1]
  exact e4
theorem fifteen {P : Int → Prop} (h : ∀ i : Fin 15, P ((i : Nat) : Int)) {n : Int} (h0 : 0 ≤ n) (h1 : n ≤ 14) : P n := by
  have := h ⟨n.toNat, by omega⟩
  simp only at this
  rwa [show ((n.toNat : Nat) : Int) = n by omega] at this
theorem codeOf_name {n : Int} (h0 : 0 ≤ n) (h1 : n ≤ 14) (r : Bs) : codeOf (nameOf n ++ r) = (some n, r) := by
  have h : n = 0 ∨ n = 1 ∨ n = 2 ∨ n = 3 ∨ n = 4 ∨ n = 5 ∨ n = 6 ∨ n = 7 ∨ n = 8 ∨ n = 9 ∨ n = 10 ∨ n = 11 ∨ n = 12 ∨ n = 13 ∨ n = 14 := by omega
  rcases h with rfl | rfl | rfl | rfl | rfl | rfl | rfl | rfl | rfl | rfl | rfl | rfl | rfl | rfl | rfl
  all_goals simp [codeOf, nameOf, names, codeGo, lcp]
theorem codeOf_take {n : Int} (h0 : 0 ≤ n) (h1 : n ≤ 14) {k : Nat} (hk : k < (nameOf n).length) : codeOf ((nameOf n).take k) = (none, []) := by
  have h8 : ∀ i : Fin 15, (nameOf ((i : Nat) : Int)).length ≤ 9 := by decide
  have h9 : k < 9 := Nat.lt_of_lt_of_le hk (fifteen (P := fun n => (nameOf n).length ≤ 9) h8 h0 h1)
  have h : ∀ i : Fin 15, ∀ k : Fin 9, k.val < (nameOf ((i : Nat) : Int)).length → codeOf ((nameOf ((i : Nat) : Int)).take k.val) = (none, []) := by decide
  exact fifteen (P := fun n => ∀ k : Fin 9, k.val < (nameOf n).length → codeOf ((nameOf n).take k.val) = (none, [])) h h0 h1 ⟨k, h9⟩ hk

end Go.Proofs.YtemkikjcjhmlaaaGreatDoor

namespace Go.Proofs
open Go.Shelf
def Tryz.laysM176_ren : Go.Shelf.Ren := ⟨fun | 176 => 98 | 249 => 108 | 288 => 110 | 283 => 111 | 284 => 112 | 285 => 113 | 286 => 114 | 129 => 116 | 317 => 115 | 318 => 117 | 319 => 118 | 320 => 119 | 337 => 120 | 338 => 121 | n => n, fun | 37 => 41 | 2 => 2 | 3 => 3 | 53 => 120 | 4 => 4 | 9 => 9 | 171 => 133 | 0 => 0 | 173 => 136 | 212 => 140 | 51 => 117 | 5 => 5 | 20 => 20 | 213 => 141 | 46 => 108 | 232 => 144 | 233 => 145 | n => n, fun | 17 => 8 | 18 => 9 | 19 => 10 | n => n⟩
theorem Tryz.laysM176 : Go.Proofs.LaysM.n176 Tryz.prog Tryz.laysM176_ren := {
  mixed := by kernel_rfl
  f129 := Tryz.func116.trans (congrArg some (by kernel_rfl))
  f176 := Tryz.func98.trans (congrArg some (by kernel_rfl))
  f249 := Tryz.func108.trans (congrArg some (by kernel_rfl))
  f283 := Tryz.func111.trans (congrArg some (by kernel_rfl))
  f284 := Tryz.func112.trans (congrArg some (by kernel_rfl))
  f285 := Tryz.func113.trans (congrArg some (by kernel_rfl))
  f286 := Tryz.func114.trans (congrArg some (by kernel_rfl))
  f288 := Tryz.func110.trans (congrArg some (by kernel_rfl))
  f317 := Tryz.func115.trans (congrArg some (by kernel_rfl))
  f318 := Tryz.func117.trans (congrArg some (by kernel_rfl))
  f319 := Tryz.func118.trans (congrArg some (by kernel_rfl))
  f320 := Tryz.func119.trans (congrArg some (by kernel_rfl))
  f337 := Tryz.func120.trans (congrArg some (by kernel_rfl))
  f338 := Tryz.func121.trans (congrArg some (by kernel_rfl))
  t0 := Tryz.underlying0
  a0 := Tryz.isAgg0
  z0 := Tryz.sizeOf0
  v0 := Tryz.zeroValue0
  t2 := Tryz.underlying2
  a2 := Tryz.isAgg2
  z2 := Tryz.sizeOf2
  v2 := Tryz.zeroValue2
  t3 := Tryz.underlying3
  a3 := Tryz.isAgg3
  z3 := Tryz.sizeOf3
  v3 := Tryz.zeroValue3
  t4 := Tryz.underlying4
  a4 := Tryz.isAgg4
  z4 := Tryz.sizeOf4
  v4 := Tryz.zeroValue4
  t5 := Tryz.underlying5
  a5 := Tryz.isAgg5
  z5 := Tryz.sizeOf5
  v5 := Tryz.zeroValue5
  t9 := Tryz.underlying9
  a9 := Tryz.isAgg9
  z9 := Tryz.sizeOf9
  v9 := Tryz.zeroValue9
  t20 := Tryz.underlying20
  a20 := Tryz.isAgg20
  z20 := Tryz.sizeOf20
  v20 := Tryz.zeroValue20
  t37 := Tryz.underlying41
  a37 := Tryz.isAgg41
  z37 := Tryz.sizeOf41
  v37 := Tryz.zeroValue41
  t46 := Tryz.underlying108
  a46 := Tryz.isAgg108
  z46 := Tryz.sizeOf108
  v46 := Tryz.zeroValue108
  t51 := Tryz.underlying117
  a51 := Tryz.isAgg117
  z51 := Tryz.sizeOf117
  v51 := Tryz.zeroValue117
  t53 := Tryz.underlying120
  a53 := Tryz.isAgg120
  z53 := Tryz.sizeOf120
  v53 := Tryz.zeroValue120
  t171 := Tryz.underlying133
  a171 := Tryz.isAgg133
  z171 := Tryz.sizeOf133
  v171 := Tryz.zeroValue133
  t173 := Tryz.underlying136
  a173 := Tryz.isAgg136
  z173 := Tryz.sizeOf136
  v173 := Tryz.zeroValue136
  t212 := Tryz.underlying140
  a212 := Tryz.isAgg140
  z212 := Tryz.sizeOf140
  v212 := Tryz.zeroValue140
  t213 := Tryz.underlying141
  a213 := Tryz.isAgg141
  z213 := Tryz.sizeOf141
  t232 := Tryz.underlying144
  a232 := Tryz.isAgg144
  z232 := Tryz.sizeOf144
  v232 := Tryz.zeroValue144
  t233 := Tryz.underlying145
  a233 := Tryz.isAgg145
  z233 := Tryz.sizeOf145
  v233 := Tryz.zeroValue145
  g17 := by kernel_rfl
  g18 := by kernel_rfl
  g19 := by kernel_rfl
  i0 := by kernel_rfl
  i2 := by kernel_rfl
  i3 := by kernel_rfl
  i4 := by kernel_rfl
  i5 := by kernel_rfl
  i9 := by kernel_rfl
  i20 := by kernel_rfl
  i37 := by kernel_rfl
  i46 := by kernel_rfl
  i51 := by kernel_rfl
  i53 := by kernel_rfl
  i171 := by kernel_rfl
  i173 := by kernel_rfl
  i212 := by kernel_rfl
  i232 := by kernel_rfl
  i233 := by kernel_rfl
  m17 := by kernel_rfl
  m18 := by kernel_rfl
  m19 := by kernel_rfl }
open Go.RowKit Go.Sort Go.Lib in
theorem Tryz.strconv_AppendInt_10 (B n : Nat) (i : Int) (h0 : -9223372036854775808 ≤ i) (h1 : i ≤ 9223372036854775807) (sv : Value) (xs : List Value) (w : World) (hown : w.ownsRow B 5 1 sv n xs) (hBw : B ≤ w.heap.size) (hlim : n + 21 ≤ 140737488355328) (htab : Lib.TabBelow Tryz.prog B w "internal/strconv.uint64pow10" .u64 Lib.pow10Tab) :
    Calls Tryz.prog 98 #[sv, .int .i64 i, .int .i64 10] w fun e w' => ∃ v', e = .returned v' ∧ w'.ownsRow B 5 1 v' (n + (Lib.itoa i).length) (xs ++ Lib.byteCells (Lib.itoa i)) ∧ Below B w w' ∧ Lib.OthersKept 5 none w w' := Any.strconv_AppendInt_10 Tryz.laysM176 B n i h0 h1 sv xs w hown hBw hlim htab
end Go.Proofs
