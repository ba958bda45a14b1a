/- The chapter's example, as each statement asks it first. -/
import Derived.Test.YtcinhndidkllbaaDoorClone
namespace Go.Proofs.YtcinhndidkllbaaDoor
open Go.RowKit

def abBytes : ByteArray := ⟨#[97, 98]⟩
def exList : List T := [.mk 0 1 ByteArray.empty [], .mk 2 0 abBytes []]
theorem repAll_ex (w : World) : RepAll (w.alloc (.cells #[.int .i64 0, .int .i64 1, .string ByteArray.empty, .slice none 0 0, .int .i64 2, .int .i64 0, .string abBytes, .slice none 0 0] 26)) w.heap.size (w.heap.size + 1) exList (some ⟨w.heap.size, 0, none⟩) := by
  have h := heap_alloc_new w (.cells #[.int .i64 0, .int .i64 1, .string ByteArray.empty, .slice none 0 0, .int .i64 2, .int .i64 0, .string abBytes, .slice none 0 0] 26)
  refine RepAll.of (Nat.le_refl _) (by omega) exList 0 (fun i hi => ?_)
  have hc : ∀ o, (w.alloc (.cells #[.int .i64 0, .int .i64 1, .string ByteArray.empty, .slice none 0 0, .int .i64 2, .int .i64 0, .string abBytes, .slice none 0 0] 26)).cell? ⟨w.heap.size, o, none⟩ = _ := fun o => cell_of_row _ _ o _ _ _ h
  match i, hi with
  | 0, _ => exact ⟨_, _, _, _, (hc _).trans rfl, (hc _).trans rfl, (hc _).trans rfl, (hc _).trans rfl, Rep.mk_ (l := []) (by unfold I64; omega) (by unfold I64; omega) (by simp) (Nat.le_refl _) (by simp) (by unfold RepAll; trivial)⟩
  | 1, _ => exact ⟨_, _, _, _, (hc _).trans rfl, (hc _).trans rfl, (hc _).trans rfl, (hc _).trans rfl, Rep.mk_ (l := []) (by unfold I64; omega) (by unfold I64; omega) (by decide) (Nat.le_refl _) (by simp) (by unfold RepAll; trivial)⟩
  | i + 2, hi => exact absurd hi (by simp [exList])

set_option maxHeartbeats 1000000 in
theorem first_any (w : World) : Calls Tryd.prog 8 #[] w fun e w' => e = .returned (.bool true) ∧ Below w.heap.size w w' := by
  have hsz : sz (mkList exList) = 5 := by simp [mkList, exList, sz, szAll, abBytes]; rfl
  have HS := Lib.hid hsz; clear hsz
  go_enter Tryd.func8, Tryd.ntmps8
  go_wp2_with (first
    | (go_at_call 12; refine (vI_any _ _).mono ?_; rintro e w1 ⟨rfl, hb1⟩)
    | (go_at_call 14; refine (vS_any _ _).mono ?_; rintro e w2 ⟨rfl, hb2⟩)
    | (go_at_call 10; refine (vL_any exList _ w2.heap.size (w2.heap.size + 1) _ 2 (repAll_ex w2) (Nat.le_refl _) (by simp [exList]) (by simp)).mono ?_; rintro e w3 ⟨⟨v, rfl, hv, hb3⟩, _⟩)
    | (go_at_call 37; refine (size_any (mkList exList) _ _ _ _ hv (Nat.le_refl _) (by rw [HS.out]; omega)).mono ?_; rintro e w4 ⟨rfl, hb4⟩; rw [HS.out]))
  go_ret
  refine ⟨rfl, ?_⟩
  have e1 := hb1.size
  have e2 := hb2.size
  have e3 := hb3.size
  rw [World.size_alloc] at e3
  exact ((hb1.trans (hb2.mono e1)).alloc (by omega) _).trans ((hb3.mono (by simp; omega)).trans (hb4.mono (by omega)))

end Go.Proofs.YtcinhndidkllbaaDoor
