/- The chapter's example. -/
import Derived.Test.YtjipchloebbldaaFull
namespace Go.Proofs.Ytjipchloebbldaa
open Go.RowKit
set_option maxRecDepth 100000

def tI (n : Int) : T := .mk 0 n ByteArray.empty []
theorem rep_I {w : World} {lo hi : Nat} {n : Int} (hn : I64 n) : Rep w lo hi (tI n) (.agg #[.int .i64 0, .int .i64 n, .string ByteArray.empty, .slice none 0 0]) :=
  Rep.mk_ (l := []) (p := none) (cap := 0) (by unfold I64; omega) hn (by simp) (Nat.le_refl _) (by simp) (by unfold RepAll; trivial)
theorem ex_ans : insS vfit [tI 1, tI 3] (tI 2) 2 = ([tI 1, tI 2, tI 3], 0) := by
  have h : insAt [tI 1, tI 3].length 2 = 1 := by unfold insAt; simp
  unfold insS; rw [h]
  have : ([tI 1, tI 3].take 1 ++ [tI 2] ++ [tI 1, tI 3].drop 1) = [tI 1, tI 2, tI 3] := rfl
  rw [this]
  have hv : vfit [tI 1, tI 2, tI 3] = 0 := by
    unfold vfit
    have h1 : vdpAll [tI 1, tI 2, tI 3] = 1 := by simp [tI, vdpAll, vdp]; omega
    have h2 : szAll [tI 1, tI 2, tI 3] = 3 := by simp [tI, szAll, sz]
    rw [h1, h2]; rfl
  rw [hv]; rfl
theorem tI_sz (n : Int) : sz (tI n) = 1 := by simp [tI, sz, szAll]

theorem two_in {w : World} {g : Nat} (h : w.heap[g]? = some (.cells #[.int .i64 0, .int .i64 1, .string ByteArray.empty, .slice none 0 0, .int .i64 0, .int .i64 3, .string ByteArray.empty, .slice none 0 0] 24 (0, 0))) : RepAll w g w.heap.size [tI 1, tI 3] (some ⟨g, 0, none⟩) := by
  have hc : ∀ o, w.cell? ⟨g, o, none⟩ = (#[.int .i64 0, .int .i64 1, .string ByteArray.empty, .slice none 0 0, .int .i64 0, .int .i64 3, .string ByteArray.empty, .slice none 0 0] : Array Value)[o]? := fun o => cell_of_row _ _ o _ _ _ h
  refine RepAll.of (Nat.le_refl _) (heap_lt h) _ 0 (fun i hi => ?_)
  match i, hi with
  | 0, _ => exact ⟨_, _, _, _, (hc _).trans rfl, (hc _).trans rfl, (hc _).trans rfl, (hc _).trans rfl, rep_I (by unfold I64; omega)⟩
  | 1, _ => exact ⟨_, _, _, _, (hc _).trans rfl, (hc _).trans rfl, (hc _).trans rfl, (hc _).trans rfl, rep_I (by unfold I64; omega)⟩

set_option maxHeartbeats 2000000 in
theorem first4_any (w : World) :
    Calls Try.prog 8 #[] w fun e w' => e = .returned (.bool true) ∧ Below w.heap.size w w' := by
  have HX := Lib.hid ex_ans
  go_enter Try.func8, Try.ntmps8
  go_wp2_with (first
    | (go_at_call_of 39 (Value.int .i64 1); (with_reducible refine (vI_any _ _).mono ?_); rintro e w1 ⟨rfl, hb1⟩)
    | (go_at_call_of 39 (Value.int .i64 3); (with_reducible refine (vI_any _ _).mono ?_); rintro e w2 ⟨rfl, hb2⟩; have HB2 := Lib.hid (hb1.trans (hb2.mono hb1.size)); clear hb1 hb2)
    | (go_at_call_of 39 (Value.int .i64 2); (with_reducible refine (vI_any _ _).mono ?_); rintro e w3 ⟨rfl, hb3⟩; rw [World.size_alloc] at hb3; have HG := Lib.hid (heap_old (heap_alloc_new w2 (.cells #[.int .i64 0, .int .i64 1, .string ByteArray.empty, .slice none 0 0, .int .i64 0, .int .i64 3, .string ByteArray.empty, .slice none 0 0] 24)) (by rw [World.size_alloc]; exact hb3)); have HB3 := Lib.hid (HB2.out.trans (((Below.refl w2.heap.size w2).alloc (Nat.le_refl _) _).trans (hb3.mono (by omega)) |>.mono HB2.out.size)); have hz3 := hb3.size; rw [World.size_alloc] at hz3; clear hb3)
    | (go_at_call 18; go_loud (have HA := Lib.hid (two_in HG.out); have HINS := Lib.hid (insert_any [tI 1, tI 3] (some ⟨w2.heap.size, 0, none⟩) 2 2 (tI 2) _ w3 w2.heap.size HA.out (Nat.le_refl _) (by unfold I64; omega) (rep_I (by unfold I64; omega)) (by simp [szAll, tI_sz]) (by omega)); rw [HX.out, show [tI 1, tI 3].length = 2 from rfl] at HINS; (with_reducible refine HINS.out.mono ?_); rintro e w4 ⟨p4, cap4, rfl, h41, h42, hb4⟩; have HB4 := Lib.hid (HB3.out.trans (hb4.mono HB3.out.size)); obtain ⟨b, off, c0, c1, c2, c3, rfl, _, hbhi, e0, e1, e2, e3, hrep⟩ := h42.at' 1 (by simp); unfold tI at hrep; simp only [List.getElem_cons_succ, List.getElem_cons_zero] at hrep; unfold Rep at hrep; obtain ⟨_, _, hv, _⟩ := hrep; simp only [Value.agg.injEq, Array.mk.injEq, List.cons.injEq, and_true] at hv; obtain ⟨rfl, rfl, rfl, rfl⟩ := hv; clear h42 hb4)))
  go_ret
  exact ⟨rfl, HB4.out⟩
end Go.Proofs.Ytjipchloebbldaa
