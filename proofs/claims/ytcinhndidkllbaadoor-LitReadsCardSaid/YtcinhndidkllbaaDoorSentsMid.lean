/- All of api's errors among the listed variables, whatever is listed ahead and behind. -/
import Derived.Test.YtcinhndidkllbaaDoorEnv
namespace Go.Proofs.YtcinhndidkllbaaDoor
open Go.RowKit
set_option maxRecDepth 100000

theorem laidVars_tail (W : World) : ∀ (A M : List (String × DataW Unit)) (ps : List MemPlace), DataW.LaidVars Tryd.prog W (A ++ M) ps → ∃ pa pm, ps = pa ++ pm ∧ DataW.LaidVars Tryd.prog W M pm
  | [], M, ps, h => ⟨[], ps, rfl, h⟩
  | x :: A, M, ps, h => by
    obtain ⟨g, t, cs, fuel, p, q, _, _, _, _, hq, e⟩ := h
    obtain ⟨pa, pm, e2, hm⟩ := laidVars_tail W A M q hq
    exact ⟨MemPlace.row ⟨g, 0, none⟩ cs.size ++ p ++ pa, pm, by rw [e, e2]; simp, hm⟩
theorem laidVars_head (W : World) : ∀ (M B : List (String × DataW Unit)) (ps : List MemPlace), DataW.LaidVars Tryd.prog W (M ++ B) ps → ∃ pm pb, ps = pm ++ pb ∧ DataW.LaidVars Tryd.prog W M pm
  | [], B, ps, h => ⟨[], ps, rfl, rfl⟩
  | x :: M, B, ps, h => by
    obtain ⟨g, t, cs, fuel, p, q, h1, h2, h3, h4, hq, e⟩ := h
    obtain ⟨pm, pb, e2, hm⟩ := laidVars_head W M B q hq
    exact ⟨MemPlace.row ⟨g, 0, none⟩ cs.size ++ p ++ pm, pb, by rw [e, e2]; simp, ⟨g, t, cs, fuel, p, pm, h1, h2, h3, h4, hm, rfl⟩⟩
theorem laidMet_mid {W : World} (A M B : List (String × DataW Unit)) (h : laidMet Tryd.prog (A ++ (M ++ B)) W) : laidMet Tryd.prog M W := by
  obtain ⟨ps, hL, hnd, hrows⟩ := h
  obtain ⟨pa, pm, rfl, h1⟩ := laidVars_tail W A (M ++ B) ps hL
  obtain ⟨pm, pb, rfl, h2⟩ := laidVars_head W M B pm h1
  rw [List.nodup_append] at hnd
  have hn2 := hnd.2.1
  rw [List.nodup_append] at hn2
  exact ⟨pm, h2, hn2.1, fun b off hm => hrows b off (by simp [hm])⟩

end Go.Proofs.YtcinhndidkllbaaDoor
