/- What the listed variables give the walks: each of api's errors is a pointer of its own. -/
import Derived.Test.YtminmadaeaiihaaDoorSee
import Derived.LaidLaws
import Derived.LaidMore
namespace Go.Proofs.YtminmadaeaiihaaDoor
open Go.RowKit
set_option maxRecDepth 100000

theorem starE : "*" ++ "errors.errorString" = "*errors.errorString" := by decide
theorem Tryd.rowE (u : TypeId) (h : Tryd.prog.typeName? 3 u = some "*errors.errorString") : u = 179 :=
  typeName_ptr_named (nm := "errors.errorString") (by rw [starE]; kernel_rfl) (by kernel_rfl) (by decide) u (by rw [starE]; exact h)
theorem Tryd.cellsEE : Tryd.prog.cellsOf 193 = 1 := by kernel_rfl
theorem Tryd.cellsSS : Tryd.prog.cellsOf 9 = 1 := by kernel_rfl

def datumOf (x : String × List UInt8 × Nat) : String × DataW Unit := (x.1, .iface "*errors.errorString" (.ptr (.agg [.lit (.string x.2.1)])))
def pl (a : Addr) : MemPlace := .cell a.block a.off
def flat : List (String × List UInt8 × Nat) → List Addr → List MemPlace
  | x :: L, a :: r => .cell x.2.2 0 :: pl a :: flat L r
  | _, _ => []

theorem laid_list (W : World) : ∀ (L : List (String × List UInt8 × Nat)) (ps : List MemPlace), (∀ x ∈ L, Tryd.prog.globalNamed x.1 = some x.2.2 ∧ (Tryd.prog.globals[x.2.2]?).map (·.type) = some 46) → DataW.LaidVars Tryd.prog W (L.map datumOf) ps →
    (∀ b off, MemPlace.cell b off ∈ ps → (∃ c t, W.heap[b]? = some (.cells c t (0, 0))) ∧ ∀ u v, W.cell? ⟨b, off, none⟩ = some (.iface u v) → Value.okWide Tryd.prog W .any 0 u v) →
    ∃ qs : List Addr, qs.length = L.length ∧ ps = flat L qs ∧ (∀ a ∈ qs, a.spot = none) ∧ ∀ (i : Nat) (x : String × List UInt8 × Nat) (a : Addr), L[i]? = some x → qs[i]? = some a → W.cell? ⟨x.2.2, 0, none⟩ = some (ev a)
  | [], ps, _, h, _ => by
    have h : ps = [] := h
    subst h
    exact ⟨[], rfl, rfl, by simp, by simp⟩
  | x :: L, ps, hg, h, hrows => by
    obtain ⟨g0, t0, cs0, f0, p0, q0, hg0, ht0, hv0, hd0, hq, e0⟩ := h
    obtain ⟨e1, e2⟩ := hg x (by simp)
    obtain rfl := Option.some.inj (e1.symm.trans hg0)
    obtain rfl := Option.some.inj (e2.symm.trans ht0)
    obtain ⟨l0⟩ := cs0
    have ok0 : ∀ u v, l0 = [.iface u v] → Value.okWide Tryd.prog W .any 0 u v := fun u v e => by
      subst e
      exact (hrows x.2.2 0 (by rw [e0]; simp [MemPlace.row])).2 u v (by simpa using World.var?_cell hg0 hv0 0)
    obtain ⟨a0, s0, rfl, hc0, _, _, rfl⟩ := errorString_of_trod Tryd.underlying46 Tryd.rowE Tryd.underlying179 Tryd.underlying193 rfl rfl Tryd.underlying9 Tryd.cellsEE Tryd.cellsSS hd0 ok0
    have hsp := spot_none hc0
    obtain ⟨qs, hl, hps, hspots, hcells⟩ := laid_list W L q0 (fun y hy => hg y (by simp [hy])) hq (fun b off hm => hrows b off (by rw [e0]; simp [hm]))
    refine ⟨a0 :: qs, by simp [hl], ?_, ?_, ?_⟩
    · rw [e0, hps]; simp [MemPlace.row, flat, pl]
    · intro a ha
      rcases List.mem_cons.1 ha with rfl | ha
      · exact hsp
      · exact hspots a ha
    · intro i y a hy ha
      cases i with
      | zero =>
        simp at hy ha
        subst hy ha
        simpa [ev] using World.var?_cell hg0 hv0 0
      | succ i => exact hcells i y a (by simpa using hy) (by simpa using ha)

theorem nodup_inj {α : Type} (l : List α) (h : l.Nodup) (i j : Nat) (hi : i < l.length) (hj : j < l.length) (e : l[i] = l[j]) : i = j := by
  have hp := List.pairwise_iff_getElem.1 h
  rcases Nat.lt_trichotomy i j with h1 | h1 | h1
  · exact absurd e (hp i j hi hj h1)
  · exact h1
  · exact absurd e.symm (hp j i hj hi h1)
theorem flat_sub : ∀ (L : List (String × List UInt8 × Nat)) (qs : List Addr), qs.length = L.length → (qs.map pl).Sublist (flat L qs)
  | [], [], _ => by simp [flat]
  | x :: L, a :: qs, h => by
    simp only [List.map_cons, flat]
    exact List.Sublist.cons _ (List.Sublist.cons_cons _ (flat_sub L qs (by simpa using h)))
  | [], _ :: _, h => by simp at h
  | _ :: _, [], h => by simp at h

end Go.Proofs.YtminmadaeaiihaaDoor
