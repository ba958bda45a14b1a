/- A list's cells in a row, and slices.Grow and slices.Concat at lists of values. -/
import Derived.Test.YtjipchloebbldaaClone
import Derived.Deep.AppendLies
import Derived.Lib.AppendZerosOnto
import Derived.Lib.SlFresh
import Derived.Deep.Upon
namespace Go.Proofs.Ytjipchloebbldaa
open Go.RowKit
set_option maxRecDepth 100000

/-- The cells of a list's items, one behind the other. -/
def Cs (w : World) (lo hi : Nat) : List T → List Value → Prop
  | [], cs => cs = []
  | t :: r, cs => ∃ c0 c1 c2 c3 q, cs = c0 :: c1 :: c2 :: c3 :: q ∧ Rep w lo hi t (.agg #[c0, c1, c2, c3]) ∧ Cs w lo hi r q
theorem Cs.keep {w w' : World} {lo hi lo' hi' : Nat} (hlo : lo' ≤ lo) (hhi : hi ≤ hi') (hk : ∀ p : Addr, lo ≤ p.block → p.block < hi → w'.cell? p = w.cell? p) : ∀ {l : List T} {cs : List Value}, Cs w lo hi l cs → Cs w' lo' hi' l cs
  | [], _, h => h
  | _ :: _, _, ⟨c0, c1, c2, c3, q, e, ht, hr⟩ => ⟨c0, c1, c2, c3, q, e, Rep.keep hlo hhi hk _ _ ht, Cs.keep hlo hhi hk hr⟩
theorem Cs.below {w w' : World} {lo hi B : Nat} {l : List T} {cs : List Value} (h : Cs w lo hi l cs) (hb : Below B w w') (hB : hi ≤ B) : Cs w' lo hi l cs :=
  h.keep (Nat.le_refl _) (Nat.le_refl _) (fun p _ hp => hb.cell (by omega))
theorem Cs.app {w : World} {lo hi : Nat} : ∀ {a b : List T} {ca cb : List Value}, Cs w lo hi a ca → Cs w lo hi b cb → Cs w lo hi (a ++ b) (ca ++ cb)
  | [], _, _, _, h, k => by cases h; exact k
  | _ :: _, _, _, _, ⟨c0, c1, c2, c3, q, e, ht, hr⟩, k => ⟨c0, c1, c2, c3, _, by rw [e]; rfl, ht, Cs.app hr k⟩
theorem Cs.len {w : World} {lo hi : Nat} : ∀ {l : List T} {cs : List Value}, Cs w lo hi l cs → cs.length = l.length * 4
  | [], _, h => by cases h; rfl
  | _ :: _, _, ⟨_, _, _, _, _, e, _, hr⟩ => by have := Cs.len hr; rw [e]; simp only [List.length_cons]; omega
theorem Cs.one {w : World} {lo hi : Nat} : ∀ {l : List T} {cs : List Value}, Cs w lo hi l cs → ∀ u ∈ cs, u.oneCell' = true
  | [], _, h => by cases h; simp
  | _ :: _, _, ⟨c0, c1, c2, c3, q, e, ht, hr⟩ => by
    obtain ⟨k, n, s, p, len, cap, hv⟩ := rep_form ht
    simp only [Value.agg.injEq, Array.mk.injEq, List.cons.injEq, and_true] at hv
    obtain ⟨rfl, rfl, rfl, rfl⟩ := hv
    intro u hu
    rw [e] at hu
    simp only [List.mem_cons] at hu
    rcases hu with rfl | rfl | rfl | rfl | hu
    · rfl
    · rfl
    · rfl
    · rfl
    · exact Cs.one hr u hu
theorem Cs.at_ {w : World} {lo hi : Nat} : ∀ {l : List T} {cs : List Value}, Cs w lo hi l cs → ∀ i (hi' : i < l.length), ∃ c0 c1 c2 c3, cs[i * 4]? = some c0 ∧ cs[i * 4 + 1]? = some c1 ∧ cs[i * 4 + 2]? = some c2 ∧ cs[i * 4 + 3]? = some c3 ∧ Rep w lo hi l[i] (.agg #[c0, c1, c2, c3])
  | _ :: _, _, ⟨c0, c1, c2, c3, q, e, hx, _⟩, 0, _ => ⟨c0, c1, c2, c3, by rw [e]; rfl, by rw [e]; rfl, by rw [e]; rfl, by rw [e]; rfl, hx⟩
  | _ :: _, _, ⟨c0, c1, c2, c3, q, e, _, hr⟩, i + 1, hi' => by
    obtain ⟨d0, d1, d2, d3, e0, e1, e2, e3, ht⟩ := Cs.at_ hr i (by simpa using hi')
    refine ⟨d0, d1, d2, d3, ?_, ?_, ?_, ?_, ht⟩
    · rw [e, ← e0, show (i + 1) * 4 = i * 4 + 4 by omega]; rfl
    · rw [e, ← e1, show (i + 1) * 4 + 1 = i * 4 + 1 + 4 by omega]; rfl
    · rw [e, ← e2, show (i + 1) * 4 + 2 = i * 4 + 2 + 4 by omega]; rfl
    · rw [e, ← e3, show (i + 1) * 4 + 3 = i * 4 + 3 + 4 by omega]; rfl
/-- A list in memory has its cells. -/
theorem RepAll.cs {w : World} {lo hi : Nat} : ∀ {l : List T} {p : Option Addr}, RepAll w lo hi l p → ∃ cs, Cs w lo hi l cs ∧ ∀ a, p = some a → ∀ j u, cs[j]? = some u → w.cell? (a.add j) = some u
  | [], _, _ => ⟨[], rfl, fun _ _ j u h => by simp at h⟩
  | t :: r, p, h => by
    unfold RepAll at h
    obtain ⟨a, c0, c1, c2, c3, hp, hl, hb, h0, h1, h2, h3, ht, hr⟩ := h
    obtain ⟨q, hq, hc⟩ := RepAll.cs hr
    refine ⟨c0 :: c1 :: c2 :: c3 :: q, ⟨c0, c1, c2, c3, q, rfl, ht, hq⟩, fun a' ha' j u hj => ?_⟩
    rw [hp] at ha'; injection ha' with ha'; subst ha'
    match j, hj with
    | 0, hj => simp only [List.getElem?_cons_zero] at hj; rw [← hj, add_zero]; exact h0
    | 1, hj => simp only [List.getElem?_cons_succ, List.getElem?_cons_zero] at hj; rw [← hj]; exact h1
    | 2, hj => simp only [List.getElem?_cons_succ, List.getElem?_cons_zero] at hj; rw [← hj]; exact h2
    | 3, hj => simp only [List.getElem?_cons_succ, List.getElem?_cons_zero] at hj; rw [← hj]; exact h3
    | j + 4, hj =>
      have := hc _ rfl j u (by simpa using hj)
      rw [add_add] at this
      rw [← this]; congr 1; congr 1; omega
/-- A row of values, read as a list's items. -/
theorem all_of_row {w : World} {lo hi B : Nat} {lv : Value} {l : List T} {cs : List Value} (h : w.ownsRow B 24 4 lv l.length cs) (hi' : Cs w lo hi l cs) (hlo : lo ≤ B) (hhi : w.heap.size ≤ hi) :
    ∃ p cap, lv = .slice p l.length cap ∧ l.length ≤ cap ∧ RepAll w lo hi l p := by
  have hh := h
  rcases h.2 with ⟨rfl, h0⟩ | ⟨g, cap, cur, rfl, hb, hg, hnc, _⟩
  · have hl : l = [] := List.eq_nil_of_length_eq_zero h0
    subst hl
    exact ⟨none, 0, rfl, Nat.le_refl _, by unfold RepAll; trivial⟩
  · have hlt := heap_lt hg
    refine ⟨some ⟨g, 0, none⟩, cap, rfl, hnc, RepAll.of (by omega) (by omega) l 0 (fun i hil => ?_)⟩
    obtain ⟨c0, c1, c2, c3, e0, e1, e2, e3, ht⟩ := hi'.at_ i hil
    have hc := fun j (hj : j < l.length * 4) => World.ownsRow.cellAt hh j hj
    rw [Nat.zero_add]
    exact ⟨c0, c1, c2, c3, (hc _ (by omega)).trans e0, (hc _ (by omega)).trans e1, (hc _ (by omega)).trans e2, (hc _ (by omega)).trans e3, ht⟩
theorem owns_form {w : World} {B : Nat} {e : TypeId} {size n : Nat} {v : Value} {xs : List Value} (h : w.ownsRow B e size v n xs) : ∃ p cap, v = .slice p n cap ∧ n ≤ cap := by
  rcases h.2 with ⟨rfl, rfl⟩ | ⟨g, cap, cur, rfl, _, _, hnc, _⟩
  · exact ⟨none, 0, rfl, Nat.le_refl _⟩
  · exact ⟨_, cap, rfl, hnc⟩
theorem below_grown {B : Nat} {W0 w w' : World} {v : Value} (h : Below B W0 w) (hg : w.grownBy w' v.ownBlock) (hv : ∀ k, v.ownBlock = some k → B ≤ k) (hB : B ≤ w.heap.size) : Below B W0 w' :=
  h.trans ⟨hg.os, hg.tape, hg.output, hg.size, fun k hk => hg.block k (by omega) (fun e => by have := hv k e.symm; omega)⟩

set_option maxHeartbeats 1000000 in
theorem grow_any (n : Nat) (w : World) (hn : n ≤ 1000000) :
    Calls Try.prog 63 #[.slice none 0 0, .int .i64 n] w fun e w' => ∃ p cap, e = .returned (.slice p 0 cap) ∧ w'.ownsRow w.heap.size 24 4 (.slice p 0 cap) 0 [] ∧ Below w.heap.size w w' := by
  obtain ⟨i0, hi0, hz0, hz1, hz2⟩ := info_parts Try.info_V
  rcases Nat.eq_zero_or_pos n with rfl | hpos
  · go_enter Try.func63, Try.ntmps63
    go_wp2
    go_ret
    exact ⟨none, 0, rfl, World.ownsRow_nil _ _ _ _, Below.refl _ _⟩
  · have hr : ∀ ty, (Builtin.append_ #[22, 3] ty #[.slice none 0 0, .int .i64 (n : Int)]).run Try.prog w = .ok (.slice (some ⟨w.heap.size, 0, none⟩) n (grownCap w n 0 24)) (w.drew.alloc (.cells (Builtin.zeroCells (Value.cells (.agg #[.int .i64 0, .int .i64 0, .string ⟨#[]⟩, .slice none 0 0])) n ++ Builtin.zeroCells (Value.cells (.agg #[.int .i64 0, .int .i64 0, .string ⟨#[]⟩, .slice none 0 0])) (grownCap w n 0 24 - n)) 24)) := fun ty =>
      Lib.run_append_nil_zeros w 22 3 ty 24 i0 _ .i64 .i64 Try.underlying22 Try.underlying3 hi0 hz0 n hpos (by rw [hz1]; decide) (by omega) (by rw [hz2]; omega)
    have hG1 := grownCap_ge w n 0 24
    have hG2 := grownCap_le_maxLen w n 0 24 (by unfold maxLen; omega)
    obtain ⟨G, hG⟩ : ∃ G, G = grownCap w n 0 24 := ⟨_, rfl⟩
    rw [← hG] at hr hG1 hG2
    clear hG
    have HO := Lib.hid (World.ownsRow_made (base := w.heap.size) (e := 24) (size := 4) w.drew (Builtin.zeroCells (Value.cells (.agg #[.int .i64 0, .int .i64 0, .string ⟨#[]⟩, .slice none 0 0])) n ++ Builtin.zeroCells (Value.cells (.agg #[.int .i64 0, .int .i64 0, .string ⟨#[]⟩, .slice none 0 0])) (G - n)) G (Nat.le_refl _) hG2 (by rw [Array.size_append, size_zeroCells, size_zeroCells]; show n * 4 + (G - n) * 4 = G * 4; omega))
    have HM := Lib.hid hG2; clear hG2
    have hG63 : G ≤ 9223372036854775807 := by have := HM.out; unfold maxLen at this; omega
    go_enter Try.func63, Try.ntmps63
    go_wp2_with (at_builtin; refine Lib.wpList_append_run _ rfl _ _ _ _ rfl _ _ rfl rfl _ _ (hr _) ?_)
    go_ret
    exact ⟨_, _, rfl, HO.out, (Below.refl _ _).drew.alloc (Nat.le_refl _) _⟩
end Go.Proofs.Ytjipchloebbldaa
