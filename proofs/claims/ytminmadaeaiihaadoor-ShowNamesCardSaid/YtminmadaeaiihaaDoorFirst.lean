/- The chapter's example, as each statement asks it first. -/
import Derived.Test.YtminmadaeaiihaaDoorClone
namespace Go.Proofs.YtminmadaeaiihaaDoor
open Go.RowKit

def abBytes : ByteArray := ⟨#[97, 98]⟩
def exList : List T := [.mk 0 1 ByteArray.empty [], .mk 2 0 abBytes []]
theorem repAll_ex (w : World) : RepAll (w.alloc (.cells #[.int .i64 0, .int .i64 1, .string ByteArray.empty, .slice none 0 0, .int .i64 2, .int .i64 0, .string abBytes, .slice none 0 0] 38)) w.heap.size (w.heap.size + 1) exList (some ⟨w.heap.size, 0, none⟩) := by
  have h := heap_alloc_new w (.cells #[.int .i64 0, .int .i64 1, .string ByteArray.empty, .slice none 0 0, .int .i64 2, .int .i64 0, .string abBytes, .slice none 0 0] 38)
  refine RepAll.of (Nat.le_refl _) (by omega) exList 0 (fun i hi => ?_)
  have hc : ∀ o, (w.alloc (.cells #[.int .i64 0, .int .i64 1, .string ByteArray.empty, .slice none 0 0, .int .i64 2, .int .i64 0, .string abBytes, .slice none 0 0] 38)).cell? ⟨w.heap.size, o, none⟩ = _ := fun o => cell_of_row _ _ o _ _ _ h
  match i, hi with
  | 0, _ => exact ⟨_, _, _, _, (hc _).trans rfl, (hc _).trans rfl, (hc _).trans rfl, (hc _).trans rfl, Rep.mk_ (l := []) (by unfold I64; omega) (by unfold I64; omega) (by simp) (Nat.le_refl _) (by simp) (by unfold RepAll; trivial)⟩
  | 1, _ => exact ⟨_, _, _, _, (hc _).trans rfl, (hc _).trans rfl, (hc _).trans rfl, (hc _).trans rfl, Rep.mk_ (l := []) (by unfold I64; omega) (by unfold I64; omega) (by decide) (Nat.le_refl _) (by simp) (by unfold RepAll; trivial)⟩
  | i + 2, hi => exact absurd hi (by simp [exList])

end Go.Proofs.YtminmadaeaiihaaDoor
