/- What the listed variables give the statements on programs as text. -/
import Derived.Test.YtminmadaeaiihaaDoorSee
import Derived.LaidLaws
import Derived.LaidMore
import Derived.Lib.LaidTab
import Derived.Test.YtminmadaeaiihaaDoorSn
import Derived.Test.YtminmadaeaiihaaDoorValid
import Derived.Test.YtminmadaeaiihaaDoorRows
import Derived.KernelRfl
import Derived.Test.YtminmadaeaiihaaDoorKF
namespace Go.Proofs.YtminmadaeaiihaaDoor
open Go.RowKit
set_option maxRecDepth 100000

theorem starE : "*" ++ "errors.errorString" = "*errors.errorString" := by decide
theorem Tryd.rowE (u : TypeId) (h : Tryd.prog.typeName? 3 u = some "*errors.errorString") : u = 179 :=
  typeName_ptr_named (nm := "errors.errorString") (by rw [starE]; kernel_rfl) (by kernel_rfl) (by decide) u (by rw [starE]; exact h)
theorem Tryd.cellsEE : Tryd.prog.cellsOf 193 = 1 := by kernel_rfl
theorem Tryd.cellsSS : Tryd.prog.cellsOf 9 = 1 := by kernel_rfl

def datumOf (x : String × List UInt8 × Nat) : String × DataW Unit := (x.1, .iface "*errors.errorString" (.ptr (.agg [.lit (.string x.2.1)])))
def pl (a : Addr) : MemPlace := .cell a.block a.off
def flat : List (String × List UInt8 × Nat) → List Addr → List MemPlace
  | x :: L, a :: r => .cell x.2.2 0 :: pl a :: flat L r
  | _, _ => []

theorem laid_list (W : World) : ∀ (L : List (String × List UInt8 × Nat)) (ps : List MemPlace), (∀ x ∈ L, Tryd.prog.globalNamed x.1 = some x.2.2 ∧ (Tryd.prog.globals[x.2.2]?).map (·.type) = some 46) → DataW.LaidVars Tryd.prog W (L.map datumOf) ps →
    (∀ b off, MemPlace.cell b off ∈ ps → (∃ c t, W.heap[b]? = some (.cells c t (0, 0))) ∧ ∀ u v, W.cell? ⟨b, off, none⟩ = some (.iface u v) → Value.okWide Tryd.prog W .any 0 u v) →
    ∃ qs : List Addr, qs.length = L.length ∧ ps = flat L qs ∧ (∀ a ∈ qs, a.spot = none) ∧ ∀ (i : Nat) (x : String × List UInt8 × Nat) (a : Addr), L[i]? = some x → qs[i]? = some a → W.cell? ⟨x.2.2, 0, none⟩ = some (ev a)
  | [], ps, _, h, _ => by
    have h : ps = [] := h
    subst h
    exact ⟨[], rfl, rfl, by simp, by simp⟩
  | x :: L, ps, hg, h, hrows => by
    obtain ⟨g0, t0, cs0, f0, p0, q0, hg0, ht0, hv0, hd0, hq, e0⟩ := h
    obtain ⟨e1, e2⟩ := hg x (by simp)
    obtain rfl := Option.some.inj (e1.symm.trans hg0)
    obtain rfl := Option.some.inj (e2.symm.trans ht0)
    obtain ⟨l0⟩ := cs0
    have ok0 : ∀ u v, l0 = [.iface u v] → Value.okWide Tryd.prog W .any 0 u v := fun u v e => by
      subst e
      exact (hrows x.2.2 0 (by rw [e0]; simp [MemPlace.row])).2 u v (by simpa using World.var?_cell hg0 hv0 0)
    obtain ⟨a0, s0, rfl, hc0, _, _, rfl⟩ := errorString_of_trod Tryd.underlying46 Tryd.rowE Tryd.underlying179 Tryd.underlying193 rfl rfl Tryd.underlying9 Tryd.cellsEE Tryd.cellsSS hd0 ok0
    have hsp := spot_none hc0
    obtain ⟨qs, hl, hps, hspots, hcells⟩ := laid_list W L q0 (fun y hy => hg y (by simp [hy])) hq (fun b off hm => hrows b off (by rw [e0]; simp [hm]))
    refine ⟨a0 :: qs, by simp [hl], ?_, ?_, ?_⟩
    · rw [e0, hps]; simp [MemPlace.row, flat, pl]
    · intro a ha
      rcases List.mem_cons.1 ha with rfl | ha
      · exact hsp
      · exact hspots a ha
    · intro i y a hy ha
      cases i with
      | zero =>
        simp at hy ha
        subst hy ha
        simpa [ev] using World.var?_cell hg0 hv0 0
      | succ i => exact hcells i y a (by simpa using hy) (by simpa using ha)

theorem nodup_inj {α : Type} (l : List α) (h : l.Nodup) (i j : Nat) (hi : i < l.length) (hj : j < l.length) (e : l[i] = l[j]) : i = j := by
  have hp := List.pairwise_iff_getElem.1 h
  rcases Nat.lt_trichotomy i j with h1 | h1 | h1
  · exact absurd e (hp i j hi hj h1)
  · exact h1
  · exact absurd e.symm (hp j i hj hi h1)
theorem flat_sub : ∀ (L : List (String × List UInt8 × Nat)) (qs : List Addr), qs.length = L.length → (qs.map pl).Sublist (flat L qs)
  | [], [], _ => by simp [flat]
  | x :: L, a :: qs, h => by
    simp only [List.map_cons, flat]
    exact List.Sublist.cons _ (List.Sublist.cons_cons _ (flat_sub L qs (by simpa using h)))
  | [], _ :: _, h => by simp at h
  | _ :: _, [], h => by simp at h

/-- One of the listed variables. -/
theorem laid_get (W : World) : ∀ (L : List (String × DataW Unit)) (ps : List MemPlace), DataW.LaidVars Tryd.prog W L ps → ∀ x ∈ L,
    ∃ g t cs fuel p, Tryd.prog.globalNamed x.1 = some g ∧ (Tryd.prog.globals[g]?).map (·.type) = some t ∧ W.var? Tryd.prog x.1 = some cs ∧ DataW.trod (fun _ => ()) Tryd.prog W 0 (fun _ => true) false fuel t cs.toList = some (x.2, p) ∧ ∀ m ∈ MemPlace.row ⟨g, 0, none⟩ cs.size, m ∈ ps
  | [], _, _, x, hx => by cases hx
  | y :: L, ps, h, x, hx => by
    obtain ⟨g, t, cs, fuel, p, q, hg, ht, hv, hd, hq, e⟩ := h
    rcases List.mem_cons.1 hx with rfl | hx
    · exact ⟨g, t, cs, fuel, p, hg, ht, hv, hd, fun m hm => by rw [e]; simp [hm]⟩
    · obtain ⟨g', t', cs', fuel', p', h1, h2, h3, h4, h5⟩ := laid_get W L q hq x hx
      exact ⟨g', t', cs', fuel', p', h1, h2, h3, h4, fun m hm => by rw [e]; simp [h5 m hm]⟩

/-- An array of texts that reads as these holds them. -/
theorem cells_of_strs {H : Type} {enc : TypeId × Value → H} {P : Program} {w : World} {base : Nat} {sp : Nat → Bool} {held : Bool} {fuel : Nat} {t e : TypeId} {n : Nat} {cs : List Value} {zs : List (List UInt8)} {p : List MemPlace}
    (ht : P.underlying t = some (.array n e)) (he : P.underlying e = some .string) (hce : P.cellsOf e = 1) (hct : P.cellsOf t = n)
    (h : DataW.trod enc P w base sp held fuel t cs = some (.agg (zs.map fun z => .lit (.string z)), p)) : cs = zs.map fun z => Value.string ⟨z.toArray⟩ := by
  cases fuel with
  | zero => simp [DataW.trod] at h
  | succ fuel =>
    simp only [DataW.trod, ht, hce, hct, Nat.mul_one] at h
    split at h
    · rename_i hl
      obtain ⟨xs, hm, hx⟩ := Option.map_eq_some_iff.1 h
      have hxs : xs.map (·.1) = zs.map fun z => (DataW.lit (.string z) : DataW H) := by
        have := congrArg Prod.fst hx
        simpa using this
      have hxl : xs.length = n := by simpa using Lib.mapM_length hm
      have hzl : zs.length = n := by
        have := congrArg List.length hxs
        simp at this
        omega
      apply List.ext_getElem?
      intro i
      by_cases hi : i < n
      · obtain ⟨b, hb, hf⟩ := Lib.mapM_at hm i i (by simp [hi])
        obtain ⟨s, hc, rfl, _⟩ := DataW.trod_string he hf
        have h1 : cs[i]? = some (.string s) := by
          have := congrArg (·[0]?) hc
          simpa [List.getElem?_take, List.getElem?_drop] using this
        have h2 : (xs.map (·.1))[i]? = some (DataW.lit (.string s.data.toList) : DataW H) := by simp [hb]
        rw [hxs] at h2
        simp only [List.getElem?_map, Option.map_eq_some_iff, DataW.lit.injEq, Lit.string.injEq] at h2
        obtain ⟨z', hz', rfl⟩ := h2
        simp [h1, hz']
      · rw [List.getElem?_eq_none (by omega), List.getElem?_eq_none (by simp; omega)]
    · cases h

theorem err_of_laid {W : World} {L : List (String × DataW Unit)} (h : laidMet Tryd.prog L W) {nm : String} {text : List UInt8} {g : Nat} (hm : (nm, DataW.iface "*errors.errorString" (.ptr (.agg [.lit (.string text)]))) ∈ L)
    (hg : Tryd.prog.globalNamed nm = some g) (ht : (Tryd.prog.globals[g]?).map (·.type) = some 46) : ∃ a : Addr, W.cell? ⟨g, 0, none⟩ = some (.iface 179 (.pointer (some a))) := by
  obtain ⟨ps, hL, _, hrows⟩ := h
  obtain ⟨g', t, cs, fuel, p, h1, h2, h3, h4, h5⟩ := laid_get W L ps hL _ hm
  obtain rfl := Option.some.inj (hg.symm.trans h1)
  obtain rfl := Option.some.inj (ht.symm.trans h2)
  obtain ⟨l0⟩ := cs
  have ok0 : ∀ u v, l0 = [.iface u v] → Value.okWide Tryd.prog W .any 0 u v := fun u v e => by
    subst e
    exact (hrows g 0 (h5 _ (by simp [MemPlace.row]))).2 u v (by simpa using World.var?_cell hg h3 0)
  obtain ⟨a0, s0, rfl, hc0, _, _, rfl⟩ := errorString_of_trod Tryd.underlying46 Tryd.rowE Tryd.underlying179 Tryd.underlying193 rfl rfl Tryd.underlying9 Tryd.cellsEE Tryd.cellsSS h4 ok0
  exact ⟨a0, by simpa using World.var?_cell hg h3 0⟩

theorem tab_of_laid {W : World} {L : List (String × DataW Unit)} (h : laidMet Tryd.prog L W) {nm : String} {k : IntKind} {zs : List Int} {g t e n : Nat} (hm : (nm, Lib.tabData k zs) ∈ L)
    (hg : Tryd.prog.globalNamed nm = some g) (hty : (Tryd.prog.globals[g]?).map (·.type) = some t) (ht : Tryd.prog.underlying t = some (.array n e)) (he : Tryd.prog.underlying e = some (.int k)) (hce : Tryd.prog.cellsOf e = 1) (hct : Tryd.prog.cellsOf t = n) :
    Lib.TabIs Tryd.prog W nm k zs := by
  obtain ⟨ps, hL, _, hrows⟩ := h
  obtain ⟨g', t', cs, fuel, p, h1, h2, h3, h4, h5⟩ := laid_get W L ps hL _ hm
  obtain rfl := Option.some.inj (hg.symm.trans h1)
  obtain rfl := Option.some.inj (hty.symm.trans h2)
  unfold Lib.TabIs
  rw [h3, ← Lib.cells_of_tab ht he hce hct h4]

theorem names_of_laid {W : World} {L : List (String × DataW Unit)} (h : laidMet Tryd.prog L W) (hm : ("inglenook/lit.names", DataW.agg (names.map fun z => .lit (.string z))) ∈ L) : Names W := by
  obtain ⟨ps, hL, _, hrows⟩ := h
  obtain ⟨g', t', cs, fuel, p, h1, h2, h3, h4, h5⟩ := laid_get W L ps hL _ hm
  have hg : Tryd.prog.globalNamed "inglenook/lit.names" = some 6 := by kernel_rfl
  obtain rfl := Option.some.inj (hg.symm.trans h1)
  have hty : (Tryd.prog.globals[6]?).map (·.type) = some 158 := by kernel_rfl
  obtain rfl := Option.some.inj (hty.symm.trans h2)
  have hcs := cells_of_strs Tryd.underlying158 Tryd.underlying9 Tryd.cellsSS (by kernel_rfl) h4
  refine ⟨fun i hi => ?_⟩
  have hc := World.var?_cell hg h3 i
  rw [hc, ← Array.getElem?_toList, hcs, List.getElem?_map]
  have hi' : i < names.length := hi
  rw [List.getElem?_eq_getElem hi']
  have e : names.getD i [] = names[i] := by simp [List.getD, hi']
  simp only [Option.map_some, nameS, e]

end Go.Proofs.YtminmadaeaiihaaDoor
namespace Go.Proofs.YtminmadaeaiihaaDoor
open Go.RowKit
set_option maxRecDepth 100000

def sent5 : List (String × List UInt8 × Nat) := [
  ("inglenook/api.ErrShape", [110, 111, 116, 32, 97, 115, 32, 105, 116, 32, 104, 97, 115, 32, 116, 111, 32, 98, 101], 3),
  ("inglenook/api.ErrMany", [116, 111, 111, 32, 109, 97, 110, 121], 1),
  ("inglenook/api.ErrRange", [97, 32, 110, 117, 109, 98, 101, 114, 32, 111, 117, 116, 32, 111, 102, 32, 105, 116, 115, 32, 114, 97, 110, 103, 101], 5),
  ("inglenook/api.ErrName", [110, 111, 32, 110, 97, 109, 101, 32, 116, 104, 97, 116, 32, 109, 97, 121, 32, 98, 101], 4),
  ("inglenook/api.ErrDeep", [116, 111, 111, 32, 100, 101, 101, 112], 2)]
theorem sn_of_laid {W : World} (h : laidMet Tryd.prog (sent5.map datumOf) W) : ∃ ad, Sn W ad := by
  obtain ⟨ps, hL, _, hrows⟩ := h
  obtain ⟨qs, hl, _, _, hc⟩ := laid_list W sent5 ps (by
    intro x hx
    simp only [sent5, List.mem_cons, List.not_mem_nil, or_false] at hx
    rcases hx with rfl | rfl | rfl | rfl | rfl <;> exact ⟨by kernel_rfl, by kernel_rfl⟩) hL hrows
  match qs, hl with
  | [q0, q1, q2, q3, q4], _ =>
    exact ⟨fun i => match i with | 2 => q0 | 3 => q1 | 4 => q2 | 5 => q3 | _ => q4, hc 0 _ q0 rfl rfl, hc 1 _ q1 rfl rfl, hc 2 _ q2 rfl rfl, hc 3 _ q3 rfl rfl, hc 4 _ q4 rfl rfl⟩
end Go.Proofs.YtminmadaeaiihaaDoor
namespace Go.Proofs.YtminmadaeaiihaaDoor.Sh
open Go.RowKit
set_option maxRecDepth 100000

theorem row_of_var {W : World} {nm : String} {g : Nat} {cs : Array Value} (hg : Tryd.prog.globalNamed nm = some g) (hv : W.var? Tryd.prog nm = some cs) : ∃ t fr, W.heap[g]? = some (.cells cs t fr) := by
  unfold World.var? at hv
  rw [hg] at hv
  simp only [Option.bind_some] at hv
  split at hv
  · rename_i cs' t fr h
    injection hv with hv
    subst hv
    exact ⟨t, fr, h⟩
  · cases hv
theorem strs_of_laid {W : World} {L : List (String × DataW Unit)} (h : laidMet Tryd.prog L W) {nm : String} {zs : List (List UInt8)} {g t e n : Nat} (hm : (nm, DataW.agg (zs.map fun z => .lit (.string z))) ∈ L)
    (hg : Tryd.prog.globalNamed nm = some g) (hty : (Tryd.prog.globals[g]?).map (·.type) = some t) (ht : Tryd.prog.underlying t = some (.array n e)) (he : Tryd.prog.underlying e = some .string) (hce : Tryd.prog.cellsOf e = 1) (hct : Tryd.prog.cellsOf t = n) :
    ∃ t fr, W.heap[g]? = some (.cells ⟨zs.map fun z => Value.string ⟨z.toArray⟩⟩ t fr) := by
  obtain ⟨ps, hL, _, hrows⟩ := h
  obtain ⟨g', t', cs, fuel, p, h1, h2, h3, h4, h5⟩ := laid_get W L ps hL _ hm
  obtain rfl := Option.some.inj (hg.symm.trans h1)
  obtain rfl := Option.some.inj (hty.symm.trans h2)
  have hcs := cells_of_strs ht he hce hct h4
  obtain ⟨t2, fr, h6⟩ := row_of_var hg h3
  refine ⟨t2, fr, ?_⟩
  rw [h6, ← hcs]
theorem laidVars_tail (W : World) : ∀ (A M : List (String × DataW Unit)) (ps : List MemPlace), DataW.LaidVars Tryd.prog W (A ++ M) ps → ∃ pa pm, ps = pa ++ pm ∧ DataW.LaidVars Tryd.prog W M pm
  | [], M, ps, h => ⟨[], ps, rfl, h⟩
  | x :: A, M, ps, h => by
    obtain ⟨g, t, cs, fuel, p, q, _, _, _, _, hq, e⟩ := h
    obtain ⟨pa, pm, e2, hm⟩ := laidVars_tail W A M q hq
    exact ⟨MemPlace.row ⟨g, 0, none⟩ cs.size ++ p ++ pa, pm, by rw [e, e2]; simp, hm⟩
theorem laidVars_head (W : World) : ∀ (M B : List (String × DataW Unit)) (ps : List MemPlace), DataW.LaidVars Tryd.prog W (M ++ B) ps → ∃ pm pb, ps = pm ++ pb ∧ DataW.LaidVars Tryd.prog W M pm
  | [], B, ps, h => ⟨[], ps, rfl, rfl⟩
  | x :: M, B, ps, h => by
    obtain ⟨g, t, cs, fuel, p, q, h1, h2, h3, h4, hq, e⟩ := h
    obtain ⟨pm, pb, e2, hm⟩ := laidVars_head W M B q hq
    exact ⟨MemPlace.row ⟨g, 0, none⟩ cs.size ++ p ++ pm, pb, by rw [e, e2]; simp, ⟨g, t, cs, fuel, p, pm, h1, h2, h3, h4, hm, rfl⟩⟩
theorem laidMet_mid {W : World} (A M B : List (String × DataW Unit)) (h : laidMet Tryd.prog (A ++ (M ++ B)) W) : laidMet Tryd.prog M W := by
  obtain ⟨ps, hL, hnd, hrows⟩ := h
  obtain ⟨pa, pm, rfl, h1⟩ := laidVars_tail W A (M ++ B) ps hL
  obtain ⟨pm, pb, rfl, h2⟩ := laidVars_head W M B pm h1
  rw [List.nodup_append] at hnd
  have hn2 := hnd.2.1
  rw [List.nodup_append] at hn2
  exact ⟨pm, h2, hn2.1, fun b off hm => hrows b off (by simp [hm])⟩


def sgB : List (List UInt8) := [[], [], [], [], [], [43], [45], [42], [47], [37], [61, 61], [33, 61], [60], [60, 61], [62], [62, 61], [105, 110], [38, 38], [124, 124]]
theorem glob_of_laid {W : World} {L : List (String × DataW Unit)} (A B : List (String × DataW Unit)) (hL : L = A ++ (sent5.map datumOf ++ B)) (h : laidMet Tryd.prog L W) (h1 : ("inglenook/lit.names", Rows.laid_inglenook_lit_names) ∈ L) (h2 : ("internal/strconv.uint64pow10", Rows.laid_internal_strconv_uint64pow10) ∈ L) (h3 : ("inglenook/show.signs", Rows.laid_inglenook_show_signs) ∈ L) :
    ∃ ad : Nat → Addr, Ptrs (ev (ad 11)) (ev (ad 3)) (ev (ad 4)) (ev (ad 2)) ∧ Glob ad (ev (ad 11)) (ev (ad 3)) (ev (ad 4)) (ev (ad 2)) W := by
  obtain ⟨ad, hS⟩ := sn_of_laid (laidMet_mid A (sent5.map datumOf) B (hL ▸ h))
  have ht : Lib.TabIs Tryd.prog W "internal/strconv.uint64pow10" .u64 Lib.pow10Tab := tab_of_laid (g := 7) (t := 175) (e := 116) (n := 20) h h2 (by kernel_rfl) (by kernel_rfl) Tryd.underlying175 Tryd.underlying116 (by kernel_rfl) (by kernel_rfl)
  obtain ⟨ty, fr, hsg⟩ := strs_of_laid (zs := sgB) (g := 0) (t := 94) (e := 9) (n := 19) h h3 (by kernel_rfl) (by kernel_rfl) Tryd.underlying94 Tryd.underlying9 Tryd.cellsSS (by kernel_rfl)
  refine ⟨ad, ptrs_of ad, ⟨⟨⟨hS.deep, hS.many, hS.range, hS.shape⟩, names_of_laid h h1, ht⟩, hS, fun i hi1 hi2 => ?_⟩⟩
  have hc := cell_of_row W _ i _ _ _ hsg
  refine hc.trans ?_
  have : ∀ j : Nat, j ≤ 13 → (⟨sgB.map fun z => Value.string ⟨z.toArray⟩⟩ : Array Value)[j + 5]? = some (.string ⟨(sgT ((j + 5 : Nat) : Int)).toArray⟩) := by
    intro j hj
    match j, hj with
    | 0, _ | 1, _ | 2, _ | 3, _ | 4, _ | 5, _ | 6, _ | 7, _ | 8, _ | 9, _ | 10, _ | 11, _ | 12, _ | 13, _ => rfl
  have h9 := this (i - 5) (by omega)
  rwa [show i - 5 + 5 = i by omega] at h9
end Go.Proofs.YtminmadaeaiihaaDoor.Sh
