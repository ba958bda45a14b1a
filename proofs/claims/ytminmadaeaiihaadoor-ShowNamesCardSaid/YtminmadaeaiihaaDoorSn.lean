/- The five errors that val.Valid and tree.Valid answer, where they stand. -/
import Derived.Test.YtminmadaeaiihaaDoorValid
namespace Go.Proofs.YtminmadaeaiihaaDoor
open Go.RowKit

structure Sn (w : World) (ad : Nat → Addr) : Prop where
  shape : w.cell? ⟨3, 0, none⟩ = some (ev (ad 2))
  many : w.cell? ⟨1, 0, none⟩ = some (ev (ad 3))
  range : w.cell? ⟨5, 0, none⟩ = some (ev (ad 4))
  name : w.cell? ⟨4, 0, none⟩ = some (ev (ad 5))
  deep : w.cell? ⟨2, 0, none⟩ = some (ev (ad 11))
theorem Sn.below {w w' : World} {ad : Nat → Addr} (h : Sn w ad) (hb : Below w.heap.size w w') : Sn w' ad :=
  ⟨(hb.cell (World.block_lt_of_cell? w _ h.shape)).trans h.shape, (hb.cell (World.block_lt_of_cell? w _ h.many)).trans h.many, (hb.cell (World.block_lt_of_cell? w _ h.range)).trans h.range, (hb.cell (World.block_lt_of_cell? w _ h.name)).trans h.name, (hb.cell (World.block_lt_of_cell? w _ h.deep)).trans h.deep⟩
theorem valid5_any (ad : Nat → Addr) (t : T) (w : World) (lo hi : Nat) (v : Value) (hr : Rep w lo hi t v) (hhi : hi ≤ w.heap.size) (hS : Sn w ad) :
    Calls Tryd.prog 100 #[v] w fun e w' => e = .returned (errVal ad (vIdx t)) ∧ Below w.heap.size w w' := by
  have hcd := odd_codes t 1 0
  have e : errVal ad (vIdx t) = vRes (ev (ad 11)) (ev (ad 3)) (ev (ad 4)) (ev (ad 2)) t := by
    unfold vRes vIdx oddCode
    by_cases h0 : (odd t 1 0).1 = 0
    · rw [if_pos h0, if_pos h0]; rfl
    · rw [if_neg h0, if_neg h0]
      unfold errOf
      rcases hcd with h | h | h | h | h
      · exact absurd h h0
      all_goals rw [h]; rfl
  rw [e]
  exact validE_any _ _ _ _ (ptrs_of ad) t w lo hi v hr hhi ⟨hS.deep, hS.many, hS.range, hS.shape⟩

end Go.Proofs.YtminmadaeaiihaaDoor
