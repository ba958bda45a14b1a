/- What the listed variables give the walks: each of api's errors is a pointer of its own. -/
import Derived.Test.YtelnakmlfpjeoaaDoorSee
import Derived.LaidLaws
import Derived.LaidMore
namespace Go.Proofs.YtelnakmlfpjeoaaDoor
open Go.RowKit
set_option maxRecDepth 100000

theorem starE : "*" ++ "errors.errorString" = "*errors.errorString" := by decide
theorem Tryd.rowE (u : TypeId) (h : Tryd.prog.typeName? 3 u = some "*errors.errorString") : u = 194 :=
  typeName_ptr_named (nm := "errors.errorString") (by rw [starE]; kernel_rfl) (by kernel_rfl) (by decide) u (by rw [starE]; exact h)
theorem Tryd.cellsEE : Tryd.prog.cellsOf 208 = 1 := by kernel_rfl
theorem Tryd.cellsSS : Tryd.prog.cellsOf 9 = 1 := by kernel_rfl

def sentRows : List (String × List UInt8 × Nat) := [
  ("inglenook/api.ErrEnd", [105, 116, 32, 101, 110, 100, 115, 32, 116, 111, 111, 32, 101, 97, 114, 108, 121], 5),
  ("inglenook/api.ErrSum", [116, 104, 101, 32, 115, 117, 109, 32, 105, 115, 32, 97, 110, 111, 116, 104, 101, 114, 32, 111, 110, 101], 6),
  ("inglenook/api.ErrShape", [110, 111, 116, 32, 97, 115, 32, 105, 116, 32, 104, 97, 115, 32, 116, 111, 32, 98, 101], 3),
  ("inglenook/api.ErrMany", [116, 111, 111, 32, 109, 97, 110, 121], 0),
  ("inglenook/api.ErrRange", [97, 32, 110, 117, 109, 98, 101, 114, 32, 111, 117, 116, 32, 111, 102, 32, 105, 116, 115, 32, 114, 97, 110, 103, 101], 7),
  ("inglenook/api.ErrName", [110, 111, 32, 110, 97, 109, 101, 32, 116, 104, 97, 116, 32, 109, 97, 121, 32, 98, 101], 4),
  ("inglenook/api.ErrNone", [116, 104, 101, 114, 101, 32, 105, 115, 32, 110, 111, 110, 101], 8),
  ("inglenook/api.ErrThere", [116, 104, 101, 114, 101, 32, 105, 115, 32, 111, 110, 101], 9),
  ("inglenook/api.ErrFull", [116, 104, 101, 114, 101, 32, 105, 115, 32, 110, 111, 32, 114, 111, 111, 109], 10),
  ("inglenook/api.ErrCrash", [116, 104, 101, 32, 112, 111, 119, 101, 114, 32, 105, 115, 32, 103, 111, 110, 101], 11),
  ("inglenook/api.ErrSyntax", [110, 111, 32, 112, 114, 111, 103, 114, 97, 109], 12),
  ("inglenook/api.ErrDeep", [116, 111, 111, 32, 100, 101, 101, 112], 1),
  ("inglenook/api.ErrTicks", [116, 111, 111, 32, 109, 97, 110, 121, 32, 116, 105, 99, 107, 115], 13),
  ("inglenook/api.ErrWaits", [105, 116, 32, 119, 97, 105, 116, 115], 14),
  ("inglenook/api.ErrClosed", [105, 116, 32, 105, 115, 32, 99, 108, 111, 115, 101, 100], 15),
  ("inglenook/api.ErrWord", [110, 111, 32, 115, 117, 99, 104, 32, 119, 111, 114, 100], 16),
  ("inglenook/api.ErrNumber", [110, 111, 32, 115, 117, 99, 104, 32, 110, 117, 109, 98, 101, 114], 17)]
def datumOf (x : String × List UInt8 × Nat) : String × DataW Unit := (x.1, .iface "*errors.errorString" (.ptr (.agg [.lit (.string x.2.1)])))
def pl (a : Addr) : MemPlace := .cell a.block a.off
def flat : List (String × List UInt8 × Nat) → List Addr → List MemPlace
  | x :: L, a :: r => .cell x.2.2 0 :: pl a :: flat L r
  | _, _ => []

theorem laid_list (W : World) : ∀ (L : List (String × List UInt8 × Nat)) (ps : List MemPlace), (∀ x ∈ L, Tryd.prog.globalNamed x.1 = some x.2.2 ∧ (Tryd.prog.globals[x.2.2]?).map (·.type) = some 33) → DataW.LaidVars Tryd.prog W (L.map datumOf) ps →
    (∀ b off, MemPlace.cell b off ∈ ps → (∃ c t, W.heap[b]? = some (.cells c t (0, 0))) ∧ ∀ u v, W.cell? ⟨b, off, none⟩ = some (.iface u v) → Value.okWide Tryd.prog W .any 0 u v) →
    ∃ qs : List Addr, qs.length = L.length ∧ ps = flat L qs ∧ (∀ a ∈ qs, a.spot = none) ∧ ∀ (i : Nat) (x : String × List UInt8 × Nat) (a : Addr), L[i]? = some x → qs[i]? = some a → W.cell? ⟨x.2.2, 0, none⟩ = some (ev a)
  | [], ps, _, h, _ => by
    have h : ps = [] := h
    subst h
    exact ⟨[], rfl, rfl, by simp, by simp⟩
  | x :: L, ps, hg, h, hrows => by
    obtain ⟨g0, t0, cs0, f0, p0, q0, hg0, ht0, hv0, hd0, hq, e0⟩ := h
    obtain ⟨e1, e2⟩ := hg x (by simp)
    obtain rfl := Option.some.inj (e1.symm.trans hg0)
    obtain rfl := Option.some.inj (e2.symm.trans ht0)
    obtain ⟨l0⟩ := cs0
    have ok0 : ∀ u v, l0 = [.iface u v] → Value.okWide Tryd.prog W .any 0 u v := fun u v e => by
      subst e
      exact (hrows x.2.2 0 (by rw [e0]; simp [MemPlace.row])).2 u v (by simpa using World.var?_cell hg0 hv0 0)
    obtain ⟨a0, s0, rfl, hc0, _, _, rfl⟩ := errorString_of_trod Tryd.underlying33 Tryd.rowE Tryd.underlying194 Tryd.underlying208 rfl rfl Tryd.underlying9 Tryd.cellsEE Tryd.cellsSS hd0 ok0
    have hsp := spot_none hc0
    obtain ⟨qs, hl, hps, hspots, hcells⟩ := laid_list W L q0 (fun y hy => hg y (by simp [hy])) hq (fun b off hm => hrows b off (by rw [e0]; simp [hm]))
    refine ⟨a0 :: qs, by simp [hl], ?_, ?_, ?_⟩
    · rw [e0, hps]; simp [MemPlace.row, flat, pl]
    · intro a ha
      rcases List.mem_cons.1 ha with rfl | ha
      · exact hsp
      · exact hspots a ha
    · intro i y a hy ha
      cases i with
      | zero =>
        simp at hy ha
        subst hy ha
        simpa [ev] using World.var?_cell hg0 hv0 0
      | succ i => exact hcells i y a (by simpa using hy) (by simpa using ha)

theorem nodup_inj {α : Type} (l : List α) (h : l.Nodup) (i j : Nat) (hi : i < l.length) (hj : j < l.length) (e : l[i] = l[j]) : i = j := by
  have hp := List.pairwise_iff_getElem.1 h
  rcases Nat.lt_trichotomy i j with h1 | h1 | h1
  · exact absurd e (hp i j hi hj h1)
  · exact h1
  · exact absurd e.symm (hp j i hj hi h1)
theorem flat_sub : ∀ (L : List (String × List UInt8 × Nat)) (qs : List Addr), qs.length = L.length → (qs.map pl).Sublist (flat L qs)
  | [], [], _ => by simp [flat]
  | x :: L, a :: qs, h => by
    simp only [List.map_cons, flat]
    exact List.Sublist.cons _ (List.Sublist.cons_cons _ (flat_sub L qs (by simpa using h)))
  | [], _ :: _, h => by simp at h
  | _ :: _, [], h => by simp at h

theorem sents_of_laid {W : World} (h : laidMet Tryd.prog (sentRows.map datumOf) W) : ∃ ad, Sents W ad := by
  obtain ⟨ps, hL, hnd, hrows⟩ := h
  obtain ⟨qs, hl, hps, hsp, hc⟩ := laid_list W sentRows ps (by
    intro x hx
    simp only [sentRows, List.mem_cons, List.not_mem_nil, or_false] at hx
    rcases hx with rfl | rfl | rfl | rfl | rfl | rfl | rfl | rfl | rfl | rfl | rfl | rfl | rfl | rfl | rfl | rfl | rfl <;> exact ⟨by kernel_rfl, by kernel_rfl⟩) hL hrows
  have hl17 : qs.length = 17 := hl
  have hsub := flat_sub sentRows qs hl
  rw [← hps] at hsub
  have hnd2 := hsub.nodup hnd
  refine ⟨fun i => qs.getD i ⟨0, 0, none⟩, ?_, ?_, ?_⟩
  · intro i hi
    have ha : qs[i]? = some (qs[i]'(by omega)) := List.getElem?_eq_getElem (by omega)
    have hgd : qs.getD i ⟨0, 0, none⟩ = qs[i]'(by omega) := by simp [List.getD, ha]
    simp only [hgd]
    have hx : sentRows[i]? = some (sentRows[i]'hi) := List.getElem?_eq_getElem hi
    have hgi : (sentRows[i]'hi).2.2 = gOf i := by
      have hcs : i = 0 ∨ i = 1 ∨ i = 2 ∨ i = 3 ∨ i = 4 ∨ i = 5 ∨ i = 6 ∨ i = 7 ∨ i = 8 ∨ i = 9 ∨ i = 10 ∨ i = 11 ∨ i = 12 ∨ i = 13 ∨ i = 14 ∨ i = 15 ∨ i = 16 := by omega
      rcases hcs with rfl | rfl | rfl | rfl | rfl | rfl | rfl | rfl | rfl | rfl | rfl | rfl | rfl | rfl | rfl | rfl | rfl <;> rfl
    rw [← hgi]
    exact hc i _ _ hx ha
  · intro i hi
    have ha : qs[i]? = some (qs[i]'(by omega)) := List.getElem?_eq_getElem (by omega)
    have hgd : qs.getD i ⟨0, 0, none⟩ = qs[i]'(by omega) := by simp [List.getD, ha]
    simp only [hgd]
    refine (hrows _ (qs[i]'(by omega)).off ?_).1
    exact hsub.subset (List.mem_map.2 ⟨_, List.getElem_mem (by omega), rfl⟩)
  · intro i j hi hj he
    have hi' : i < qs.length := by omega
    have hj' : j < qs.length := by omega
    have hgi : qs.getD i ⟨0, 0, none⟩ = qs[i] := by simp [List.getD, List.getElem?_eq_getElem hi']
    have hgj : qs.getD j ⟨0, 0, none⟩ = qs[j] := by simp [List.getD, List.getElem?_eq_getElem hj']
    simp only [hgi, hgj] at he
    have h1 : (qs.map pl)[i]'(by simpa using hi') = (qs.map pl)[j]'(by simpa using hj') := by simp [he]
    exact nodup_inj _ hnd2 i j _ _ h1

end Go.Proofs.YtelnakmlfpjeoaaDoor
