/- Trees of nodes: plain data, and what memory holds them. No program is named. -/
import Derived.Test.YtminmadaeaiihaaDoorBase
namespace Go.Proofs.YtminmadaeaiihaaDoor
open Go.RowKit

/-- A node as plain data. -/
inductive Nd where
  | mk (o n : Int) (s : ByteArray) (v : T) (l : List Nd)

namespace Nd
def o : Nd → Int | mk o _ _ _ _ => o
def n : Nd → Int | mk _ n _ _ _ => n
def s : Nd → ByteArray | mk _ _ s _ _ => s
def v : Nd → T | mk _ _ _ v _ => v
def l : Nd → List Nd | mk _ _ _ _ l => l
end Nd

theorem Nd.ind_ {P : Nd → Prop} (h : ∀ o n s v l, (∀ t ∈ l, P t) → P (.mk o n s v l)) (t : Nd) : P t :=
  Nd.rec (motive_1 := P) (motive_2 := fun l => ∀ t ∈ l, P t) (fun o n s v l ih => h o n s v l ih) (fun t ht => absurd ht (by simp))
    (fun x r hx hr t ht => by rcases List.mem_cons.1 ht with h | h; exact h ▸ hx; exact hr t h) t

mutual
/-- In w, the value x is the node, and what it has lies in blocks from lo on, below hi. -/
def NRep (w : World) (lo hi : Nat) : Nd → Value → Prop
  | .mk o n s v l, x => ∃ (k m : Int) (z : ByteArray) (q : Option Addr) (ql qc : Nat) (p : Option Addr) (cap : Nat), x = .agg #[.int .i64 o, .int .i64 n, .string s, .int .i64 k, .int .i64 m, .string z, .slice q ql qc, .slice p l.length cap] ∧
      I64 o ∧ I64 n ∧ s.size ≤ 140737488355328 ∧ Rep w lo hi v (.agg #[.int .i64 k, .int .i64 m, .string z, .slice q ql qc]) ∧ l.length ≤ cap ∧ l.length * 112 ≤ 140737488355328 ∧ NAll w lo hi l p
def NAll (w : World) (lo hi : Nat) : List Nd → Option Addr → Prop
  | [], _ => True
  | t :: r, p => ∃ (a : Addr) (c0 c1 c2 c3 c4 c5 c6 c7 : Value), p = some a ∧ lo ≤ a.block ∧ a.block < hi ∧ w.cell? a = some c0 ∧ w.cell? (a.add 1) = some c1 ∧ w.cell? (a.add 2) = some c2 ∧ w.cell? (a.add 3) = some c3 ∧
      w.cell? (a.add 4) = some c4 ∧ w.cell? (a.add 5) = some c5 ∧ w.cell? (a.add 6) = some c6 ∧ w.cell? (a.add 7) = some c7 ∧
      NRep w lo hi t (.agg #[c0, c1, c2, c3, c4, c5, c6, c7]) ∧ NAll w lo hi r (some (a.add 8))
end

mutual
theorem NRep.keep {w w' : World} {lo hi lo' hi' : Nat} (hlo : lo' ≤ lo) (hhi : hi ≤ hi') (hk : ∀ p : Addr, lo ≤ p.block → p.block < hi → w'.cell? p = w.cell? p) : (t : Nd) → (x : Value) → NRep w lo hi t x → NRep w' lo' hi' t x
  | .mk o n s v l, x, h => by
    unfold NRep at h ⊢
    obtain ⟨k, m, z, q, ql, qc, p, cap, hx, h1, h2, h3, h4, h5, h6, h7⟩ := h
    exact ⟨k, m, z, q, ql, qc, p, cap, hx, h1, h2, h3, h4.keep hlo hhi hk, h5, h6, NAll.keep hlo hhi hk l p h7⟩
theorem NAll.keep {w w' : World} {lo hi lo' hi' : Nat} (hlo : lo' ≤ lo) (hhi : hi ≤ hi') (hk : ∀ p : Addr, lo ≤ p.block → p.block < hi → w'.cell? p = w.cell? p) : (l : List Nd) → (p : Option Addr) → NAll w lo hi l p → NAll w' lo' hi' l p
  | [], p, _ => by unfold NAll; trivial
  | t :: r, p, h => by
    unfold NAll at h ⊢
    obtain ⟨a, c0, c1, c2, c3, c4, c5, c6, c7, hp, hl, hb, h0, h1, h2, h3, h4, h5, h6, h7, ht, hr⟩ := h
    refine ⟨a, c0, c1, c2, c3, c4, c5, c6, c7, hp, by omega, by omega, ?_, ?_, ?_, ?_, ?_, ?_, ?_, ?_, NRep.keep hlo hhi hk t _ ht, NAll.keep hlo hhi hk r _ hr⟩
    · rw [hk a (by omega) (by omega)]; exact h0
    all_goals (rw [hk _ (by rw [block_add]; omega) (by rw [block_add]; omega)]; assumption)
end

theorem NRep.below {w w' : World} {lo hi B : Nat} {t : Nd} {v : Value} (h : NRep w lo hi t v) (hb : Below B w w') (hB : hi ≤ B) : NRep w' lo hi t v :=
  h.keep (Nat.le_refl _) (Nat.le_refl _) (fun p _ hp => hb.cell (by omega))
theorem NAll.below {w w' : World} {lo hi B : Nat} {l : List Nd} {p : Option Addr} (h : NAll w lo hi l p) (hb : Below B w w') (hB : hi ≤ B) : NAll w' lo hi l p :=
  h.keep (Nat.le_refl _) (Nat.le_refl _) (fun p _ hp => hb.cell (by omega))
theorem NRep.alloc {w : World} {lo hi : Nat} {t : Nd} {v : Value} (h : NRep w lo hi t v) (hB : hi ≤ w.heap.size) (o : Obj) : NRep (w.alloc o) lo hi t v :=
  h.keep (Nat.le_refl _) (Nat.le_refl _) (fun p _ hp => World.cell?_alloc_lt w o p (by omega))
theorem NAll.alloc {w : World} {lo hi : Nat} {t : List Nd} {v : Option Addr} (h : NAll w lo hi t v) (hB : hi ≤ w.heap.size) (o : Obj) : NAll (w.alloc o) lo hi t v :=
  h.keep (Nat.le_refl _) (Nat.le_refl _) (fun p _ hp => World.cell?_alloc_lt w o p (by omega))
theorem NRep.setCell {w : World} {lo hi : Nat} {t : Nd} {v : Value} (h : NRep w lo hi t v) {p : Addr} (hB : p.block < lo ∨ hi ≤ p.block) (u : Value) : NRep (w.setCell p u) lo hi t v :=
  h.keep (Nat.le_refl _) (Nat.le_refl _) (fun q hl hp => World.cell?_setCell_other w p q u (fun e => by subst e; omega))
theorem NAll.setCell {w : World} {lo hi : Nat} {t : List Nd} {v : Option Addr} (h : NAll w lo hi t v) {p : Addr} (hB : p.block < lo ∨ hi ≤ p.block) (u : Value) : NAll (w.setCell p u) lo hi t v :=
  h.keep (Nat.le_refl _) (Nat.le_refl _) (fun q hl hp => World.cell?_setCell_other w p q u (fun e => by subst e; omega))
theorem NRep.wide {w : World} {lo hi lo' hi' : Nat} {t : Nd} {v : Value} (h : NRep w lo hi t v) (h1 : lo' ≤ lo) (h2 : hi ≤ hi') : NRep w lo' hi' t v := h.keep h1 h2 (fun _ _ _ => rfl)
theorem NAll.wide {w : World} {lo hi lo' hi' : Nat} {t : List Nd} {v : Option Addr} (h : NAll w lo hi t v) (h1 : lo' ≤ lo) (h2 : hi ≤ hi') : NAll w lo' hi' t v := h.keep h1 h2 (fun _ _ _ => rfl)
theorem NAll.nil (w : World) (lo hi : Nat) (p : Option Addr) : NAll w lo hi [] p := by unfold NAll; trivial

/-- Item i of a row of nodes in memory. -/
theorem NAll.at {w : World} {lo hi : Nat} : {l : List Nd} → {p : Option Addr} → (h : NAll w lo hi l p) → (i : Nat) → (hil : i < l.length) →
    ∃ (a : Addr) (c0 c1 c2 c3 c4 c5 c6 c7 : Value), p = some a ∧ lo ≤ a.block ∧ a.block < hi ∧ w.cell? (a.add (i * 8)) = some c0 ∧ w.cell? (a.add (i * 8 + 1)) = some c1 ∧ w.cell? (a.add (i * 8 + 2)) = some c2 ∧ w.cell? (a.add (i * 8 + 3)) = some c3 ∧
      w.cell? (a.add (i * 8 + 4)) = some c4 ∧ w.cell? (a.add (i * 8 + 5)) = some c5 ∧ w.cell? (a.add (i * 8 + 6)) = some c6 ∧ w.cell? (a.add (i * 8 + 7)) = some c7 ∧
      NRep w lo hi (l[i]) (.agg #[c0, c1, c2, c3, c4, c5, c6, c7])
  | [], _, _, _, hil => absurd hil (by simp)
  | t :: r, p, h, 0, _ => by
    unfold NAll at h
    obtain ⟨a, c0, c1, c2, c3, c4, c5, c6, c7, hp, hl, hb, h0, h1, h2, h3, h4, h5, h6, h7, ht, hr⟩ := h
    exact ⟨a, c0, c1, c2, c3, c4, c5, c6, c7, hp, hl, hb, h0, by simpa using h1, by simpa using h2, by simpa using h3, by simpa using h4, by simpa using h5, by simpa using h6, by simpa using h7, ht⟩
  | t :: r, p, h, i + 1, hil => by
    unfold NAll at h
    obtain ⟨a, c0, c1, c2, c3, c4, c5, c6, c7, hp, hl, hb, h0, h1, h2, h3, h4, h5, h6, h7, ht, hr⟩ := h
    obtain ⟨a', d0, d1, d2, d3, d4, d5, d6, d7, hp', hl', hb', e0, e1, e2, e3, e4, e5, e6, e7, ht'⟩ := NAll.at hr i (by simpa using hil)
    injection hp' with hp'
    subst hp'
    rw [add_add] at e0 e1 e2 e3 e4 e5 e6 e7
    refine ⟨a, d0, d1, d2, d3, d4, d5, d6, d7, hp, hl, hb, ?_, ?_, ?_, ?_, ?_, ?_, ?_, ?_, by simpa using ht'⟩
    · rw [← e0]; congr 1; congr 1; omega
    · rw [← e1]; congr 1; congr 1; omega
    · rw [← e2]; congr 1; congr 1; omega
    · rw [← e3]; congr 1; congr 1; omega
    · rw [← e4]; congr 1; congr 1; omega
    · rw [← e5]; congr 1; congr 1; omega
    · rw [← e6]; congr 1; congr 1; omega
    · rw [← e7]; congr 1; congr 1; omega

/-- Item i, its cells written out. -/
theorem NAll.item {w : World} {lo hi : Nat} {l : List Nd} {p : Option Addr} (h : NAll w lo hi l p) (i : Nat) (hil : i < l.length) :
    ∃ (b off : Nat) (o n : Int) (s : ByteArray) (v : T) (ll : List Nd) (k m : Int) (z : ByteArray) (q : Option Addr) (ql qc : Nat) (r : Option Addr) (c : Nat), p = some ⟨b, off, none⟩ ∧ lo ≤ b ∧ b < hi ∧ l[i] = .mk o n s v ll ∧
      w.cell? ⟨b, off + i * 8, none⟩ = some (.int .i64 o) ∧ w.cell? ⟨b, off + i * 8 + 1, none⟩ = some (.int .i64 n) ∧ w.cell? ⟨b, off + i * 8 + 2, none⟩ = some (.string s) ∧
      w.cell? ⟨b, off + i * 8 + 3, none⟩ = some (.int .i64 k) ∧ w.cell? ⟨b, off + i * 8 + 4, none⟩ = some (.int .i64 m) ∧ w.cell? ⟨b, off + i * 8 + 5, none⟩ = some (.string z) ∧ w.cell? ⟨b, off + i * 8 + 6, none⟩ = some (.slice q ql qc) ∧ w.cell? ⟨b, off + i * 8 + 7, none⟩ = some (.slice r ll.length c) ∧
      NRep w lo hi (l[i]) (.agg #[.int .i64 o, .int .i64 n, .string s, .int .i64 k, .int .i64 m, .string z, .slice q ql qc, .slice r ll.length c]) := by
  obtain ⟨a, d0, d1, d2, d3, d4, d5, d6, d7, hp, _, _, e0, _⟩ := NAll.at h 0 (by omega)
  rw [Nat.zero_mul, add_zero] at e0
  have hs := spot_none e0
  obtain ⟨a', c0, c1, c2, c3, c4, c5, c6, c7, hp', hl, hb, h0, h1, h2, h3, h4, h5, h6, h7, ht⟩ := NAll.at h i hil
  rw [hp] at hp'
  injection hp' with hp'
  subst hp'
  obtain ⟨b, off, sp⟩ := a
  simp only at hs
  subst hs
  have hadd : ∀ n, Addr.add ⟨b, off, none⟩ n = ⟨b, off + n, none⟩ := by
    intro n; unfold Addr.add; split
    · rename_i h; subst h; rfl
    · rfl
  rw [hadd] at h0 h1 h2 h3 h4 h5 h6 h7
  match hm : l[i], ht with
  | .mk o n s v ll, ht =>
    have ht' := ht
    unfold NRep at ht'
    obtain ⟨k, m, z, q, ql, qc, r, c, hx, _⟩ := ht'
    simp only [Value.agg.injEq, Array.mk.injEq, List.cons.injEq, and_true] at hx
    obtain ⟨rfl, rfl, rfl, rfl, rfl, rfl, rfl, rfl⟩ := hx
    exact ⟨b, off, o, n, s, v, ll, k, m, z, q, ql, qc, r, c, hp, hl, hb, rfl, h0, h1, h2, h3, h4, h5, h6, h7, ht⟩

/-- What a node of memory says of its own. -/
theorem NRep.open {w : World} {lo hi : Nat} {o n : Int} {s : ByteArray} {v : T} {l : List Nd} {x : Value} (h : NRep w lo hi (.mk o n s v l) x) :
    ∃ (k m : Int) (z : ByteArray) (q : Option Addr) (ql qc : Nat) (p : Option Addr) (cap : Nat), x = .agg #[.int .i64 o, .int .i64 n, .string s, .int .i64 k, .int .i64 m, .string z, .slice q ql qc, .slice p l.length cap] ∧
      I64 o ∧ I64 n ∧ s.size ≤ 140737488355328 ∧ Rep w lo hi v (.agg #[.int .i64 k, .int .i64 m, .string z, .slice q ql qc]) ∧ l.length ≤ cap ∧ l.length * 112 ≤ 140737488355328 ∧ NAll w lo hi l p := by
  unfold NRep at h; exact h

theorem NRep.parts {w : World} {lo hi : Nat} {o n k m : Int} {s z : ByteArray} {v : T} {ll : List Nd} {q r : Option Addr} {ql qc len c : Nat}
    (h : NRep w lo hi (.mk o n s v ll) (.agg #[.int .i64 o, .int .i64 n, .string s, .int .i64 k, .int .i64 m, .string z, .slice q ql qc, .slice r len c])) :
    I64 o ∧ I64 n ∧ s.size ≤ 140737488355328 ∧ Rep w lo hi v (.agg #[.int .i64 k, .int .i64 m, .string z, .slice q ql qc]) ∧ ll.length ≤ c ∧ ll.length * 112 ≤ 140737488355328 ∧ NAll w lo hi ll r := by
  obtain ⟨k', m', z', q', ql', qc', p', cap', hx, h1, h2, h3, h4, h5, h6, h7⟩ := h.open
  simp only [Value.agg.injEq, Array.mk.injEq, List.cons.injEq, and_true, true_and] at hx
  obtain ⟨a1, a2, a3, a4, a5⟩ := hx
  injection a1 with _ a1; subst a1
  injection a2 with _ a2; subst a2
  injection a3 with a3; subst a3
  injection a4 with b1 b2 b3; subst b1; subst b2; subst b3
  injection a5 with b1 b2 b3; subst b1; subst b2; subst b3
  exact ⟨h1, h2, h3, h4, h5, h6, h7⟩

mutual
/-- How many nodes. -/
def cnt : Nd → Nat | .mk _ _ _ _ l => 1 + cntAll l
def cntAll : List Nd → Nat | [] => 0 | t :: r => cnt t + cntAll r
end
theorem cntAll_app : ∀ a b, cntAll (a ++ b) = cntAll a + cntAll b
  | [], b => by simp [cntAll]
  | x :: r, b => by simp only [List.cons_append, cntAll, cntAll_app r b]; omega
theorem cntAll_split (l : List Nd) (i : Nat) (h : i < l.length) : cntAll (l.take (i + 1)) = cntAll (l.take i) + cnt l[i] := by
  rw [List.take_succ_eq_append_getElem h, cntAll_app]; simp [cntAll]
theorem cnt_pos : ∀ t, 1 ≤ cnt t
  | .mk _ _ _ _ l => by simp only [cnt]; omega
theorem len_cnt : ∀ l, l.length ≤ cntAll l
  | [] => by simp [cntAll]
  | x :: r => by have := len_cnt r; have := cnt_pos x; simp only [List.length_cons, cntAll]; omega
theorem cntAll_mem {l : List Nd} {t : Nd} (h : t ∈ l) : cnt t ≤ cntAll l := by
  induction l with
  | nil => cases h
  | cons x r ih =>
    simp only [cntAll]
    rcases List.mem_cons.1 h with rfl | h
    · omega
    · have := ih h; omega
theorem cntAll_take_le (l : List Nd) (i : Nat) : cntAll (l.take i) ≤ cntAll l := by
  have h := cntAll_app (l.take i) (l.drop i)
  rw [List.take_append_drop] at h; omega

mutual
/-- How deep. -/
def dpN : Nd → Nat | .mk _ _ _ _ l => 1 + dpNAll l
def dpNAll : List Nd → Nat | [] => 0 | t :: r => max (dpN t) (dpNAll r)
end
theorem dpNAll_app : ∀ a b, dpNAll (a ++ b) = max (dpNAll a) (dpNAll b)
  | [], b => by simp [dpNAll]
  | x :: r, b => by simp only [List.cons_append, dpNAll, dpNAll_app r b]; omega
theorem dpNAll_split (l : List Nd) (i : Nat) (h : i < l.length) : dpNAll (l.take (i + 1)) = max (dpNAll (l.take i)) (dpN l[i]) := by
  rw [List.take_succ_eq_append_getElem h, dpNAll_app]; simp [dpNAll]
mutual
theorem dpN_le : ∀ t, dpN t ≤ cnt t
  | .mk _ _ _ _ l => by have := dpNAll_le l; simp only [dpN, cnt]; omega
theorem dpNAll_le : ∀ l, dpNAll l ≤ cntAll l
  | [] => by simp [dpNAll, cntAll]
  | x :: r => by have := dpN_le x; have := dpNAll_le r; simp only [dpNAll, cntAll]; omega
end

mutual
/-- All nodes, each ahead of what it has. -/
def flatN : Nd → List Nd | t@(.mk _ _ _ _ l) => t :: flatL l
def flatL : List Nd → List Nd | [] => [] | t :: r => flatN t ++ flatL r
end
mutual
theorem flatN_len : ∀ t, (flatN t).length = cnt t
  | .mk _ _ _ _ l => by simp only [flatN, List.length_cons, cnt, flatL_len l]; omega
theorem flatL_len : ∀ l, (flatL l).length = cntAll l
  | [] => rfl
  | t :: r => by simp only [flatL, List.length_append, cntAll, flatN_len t, flatL_len r]
end
theorem flatL_app : ∀ a b, flatL (a ++ b) = flatL a ++ flatL b
  | [], b => rfl
  | x :: r, b => by rw [List.cons_append, flatL, flatL, flatL_app r b, List.append_assoc]

end Go.Proofs.YtminmadaeaiihaaDoor
