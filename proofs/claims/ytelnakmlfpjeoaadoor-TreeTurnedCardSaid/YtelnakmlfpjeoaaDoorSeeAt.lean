/- Errors with a place as plain data. -/
import Derived.Test.YtelnakmlfpjeoaaDoorSee2
import Derived.Deep.DeepCutAuto
namespace Go.Proofs.YtelnakmlfpjeoaaDoor
open Go.RowKit
set_option maxRecDepth 100000

/-- A fault with a place. -/
def fp (c p : Int) : Value := .agg #[.int .i64 c, .bool true, .int .i64 p, .int .i64 0, .int .i64 0, .string ByteArray.empty, .slice none 0 0]
set_option maxHeartbeats 400000 in
theorem placed_any (c p : Int) (hc : c ≠ 0) (w : World) : Calls Tryd.prog 69 #[.int .i64 c, .int .i64 p] w fun e w' => e = .returned (fp c p) ∧ Below w.heap.size w w' := by
  have hb : (c == 0) = false := by simpa using hc
  go_enter Tryd.func69, Tryd.ntmps69
  go_wp2
  go_returns
  exact ⟨rfl, by go_grown⟩

theorem assert_at_yes (W : World) (a : Addr) : (Instr.typeAssert (.iface 88 (.pointer (some a))) 33 88 true).run Tryd.prog W = .ok (.tuple #[.pointer (some a), .bool true]) W := by kernel_rfl

set_option maxHeartbeats 600000 in
theorem faultAt_any (ad : Nat → Addr) (k : Nat) (hk : k < 17) (b : Nat) (p : Int) (w : World) (hS : Sents w ad) (hb : w.heap[b]? = some (.cells #[.int .i64 p, ev (ad k)] 91 (0, 0))) :
    Calls Tryd.prog 40 #[.iface 88 (.pointer (some ⟨b, 0, none⟩))] w fun e w' => e = .returned (fp (101 + k) p) ∧ Below w.heap.size w w' := by
  have hbl : b < w.heap.size := by
    rcases Nat.lt_or_ge b w.heap.size with h1 | h1
    · exact h1
    · rw [Array.getElem?_eq_none h1] at hb; cases hb
  have HS := Lib.hid (hS.below (w' := w.alloc (.cells #[.int .i64 0, .bool false, .int .i64 0, .int .i64 0, .int .i64 0, .string ⟨#[]⟩, .slice none 0 0] 36)) ((Below.refl _ _).alloc (Nat.le_refl _) _))
  clear hS
  have sE := fun W h => Lib.hid (inner_any ad k hk W h)
  have hAs := fun W => assert_at_yes W ⟨b, 0, none⟩
  have c0 : w.cell? ⟨b, 0, none⟩ = some (.int .i64 p) := (cell_of_row _ _ 0 _ _ _ hb).trans rfl
  have c1 : w.cell? ⟨b, 1, none⟩ = some (ev (ad k)) := (cell_of_row _ _ 1 _ _ _ hb).trans rfl
  unfold ev at sE c1
  clear hb
  go_enter Tryd.func40, Tryd.ntmps40
  go_wp2_with fail
  refine (sE _ HS.out).out.mono ?_
  unfold fv
  rintro e w3 ⟨rfl, hb4⟩
  have hbc : w3.cell? ⟨b, 0, none⟩ = some (.int .i64 p) := (hb4.cell (p := ⟨b, 0, none⟩) (by simp; omega)).trans ((World.cell?_alloc_lt w _ ⟨b, 0, none⟩ hbl).trans c0)
  have hz4 := hb4.size
  simp at hz4
  have hbl3 : b < w3.heap.size := by omega
  have hwl3 : w.heap.size < w3.heap.size := by omega
  have HX := Lib.hid (heap_old (heap_alloc_new w _) hb4)
  have HB4 := Lib.hid (((Below.refl w.heap.size w).alloc (Nat.le_refl _) (.cells #[.int .i64 0, .bool false, .int .i64 0, .int .i64 0, .int .i64 0, .string ⟨#[]⟩, .slice none 0 0] 36)).trans (hb4.mono (by simp)))
  clear hb4 c0 c1
  go_upto_region 11 with fail
  have H7 := heap_alloc_new w3 (.cells #[.int .i64 (101 + k), .bool true, .int .i64 p, .int .i64 0, .int .i64 0, .string ByteArray.empty, .slice none 0 0] 36)
  have HX4 := heap_alloc_ _ _ (.cells #[.int .i64 (101 + k), .bool true, .int .i64 p, .int .i64 0, .int .i64 0, .string ByteArray.empty, .slice none 0 0] 36) _ HX.out
  have HB5 := Lib.hid (HB4.out.alloc (by omega) (.cells #[.int .i64 (101 + k), .bool true, .int .i64 p, .int .i64 0, .int .i64 0, .string ByteArray.empty, .slice none 0 0] 36))
  generalize (w3.alloc (.cells #[.int .i64 (101 + k), .bool true, .int .i64 p, .int .i64 0, .int .i64 0, .string ByteArray.empty, .slice none 0 0] 36)) = W4 at *
  have hne : w3.heap.size ≠ w.heap.size := by omega
  obtain ⟨y0, y1, y2, y3, y4, y5, y6, _⟩ := box7_in W4 w3.heap.size _ _ _ _ _ _ _ _ H7
  obtain ⟨hx0, hx1, hx2, hx3, hx4, hx5, hx6, hxf⟩ := box7_in W4 w.heap.size _ _ _ _ _ _ _ _ HX4
  have hxf0 := hxf 0; have hxf1 := hxf 1; have hxf2 := hxf 2; have hxf3 := hxf 3; have hxf4 := hxf 4; have hxf5 := hxf 5; have hxf6 := hxf 6
  clear hxf H7 HX4 HX HB4 hbc hz4 hbl3 hwl3 hbl hAs sE
  generalize w3.heap.size = g3 at *
  clear w3
  go_wp2_with fail
  refine bodyPost_ret (v := fp (101 + k) p) (by unfold fp; simp [results, Tryd.results40, go_sem, hx0, hx1, hx2, hx3, hx4, hx5, hx6]) rfl ?_
  exact ⟨rfl, below_set7 HB5.out (Nat.le_refl _) _ _ _ _ _ _ _⟩

set_option maxHeartbeats 400000 in
theorem sameFault_p (c p : Int) (w : World) : Calls Tryd.prog 39 #[fp c p, fp c p] w fun e w' => e = .returned (.bool true) ∧ Below w.heap.size w w' := by
  have h0 : ∀ W : World, Hid (Rep W 0 0 (.mk 0 0 ByteArray.empty []) (.agg #[.int .i64 0, .int .i64 0, .string ByteArray.empty, .slice none 0 0])) := fun W => by
    show Rep _ _ _ _ _
    unfold Rep
    exact ⟨none, 0, rfl, by unfold I64; omega, by unfold I64; omega, by simp, Nat.le_refl _, by simp, by unfold RepAll; trivial⟩
  have hE := Lib.hid (eqV_self (.mk 0 0 ByteArray.empty []))
  unfold fp
  go_enter Tryd.func39, Tryd.ntmps39
  go_wp2_with (go_at_call 52; refine (sameValue_any _ _ _ 0 0 0 0 _ _ (h0 _).out (Nat.zero_le _) (h0 _).out (Nat.zero_le _)).mono ?_; rintro e w2 ⟨rfl, hb2⟩; rw [hE.out]; obtain ⟨hc2, hf2⟩ := below_bcell hb2)
  go_ret
  exact ⟨rfl, (((Below.refl _ _).alloc (Nat.le_refl _) _).alloc (by simp) _).trans (hb2.mono (by simp; omega))⟩

set_option maxHeartbeats 1000000 in
theorem seeSame_at (ad : Nat → Addr) (k : Nat) (hk : k < 17) (b : Nat) (p : Int) (w : World) (hS : Sents w ad) (hb : w.heap[b]? = some (.cells #[.int .i64 p, ev (ad k)] 91 (0, 0))) :
    Calls Tryd.prog 11 #[.iface 88 (.pointer (some ⟨b, 0, none⟩)), fp (101 + k) p] w fun e w' => e = .returned (.bool true) ∧ Below w.heap.size w w' := by
  have HS : ∀ W', Below w.heap.size w W' → Hid (Sents W' ad) := fun W' hb => hS.below hb
  have HBB := Lib.hid hb
  clear hS hb
  have sF := fun W => Lib.hid (sameFault_p (101 + k) p W)
  have sE := fun W h1 h2 => Lib.hid (faultAt_any ad k hk b p W h1 h2)
  unfold fp at sE sF ⊢
  go_enter Tryd.func11, Tryd.ntmps11
  go_wp2
  have hB := heap_alloc_new w (.cells #[.int .i64 (101 + k), .bool true, .int .i64 p, .int .i64 0, .int .i64 0, .string ByteArray.empty, .slice none 0 0] 36)
  obtain ⟨hx0, hx1, hx2, hx3, hx4, hx5, hx6, _⟩ := box7_in _ w.heap.size _ _ _ _ _ _ _ _ hB
  have HB := Lib.hid hB; clear hB
  go_region_held3 (fun w' => w'.cell? ⟨w.heap.size, 0, none⟩ = some (.int .i64 (101 + k)) ∧ w'.cell? ⟨w.heap.size, 1, none⟩ = some (.bool true) ∧ w'.cell? ⟨w.heap.size, 2, none⟩ = some (.int .i64 p) ∧ w'.cell? ⟨w.heap.size, 3, none⟩ = some (.int .i64 0) ∧ w'.cell? ⟨w.heap.size, 4, none⟩ = some (.int .i64 0) ∧ w'.cell? ⟨w.heap.size, 5, none⟩ = some (.string ByteArray.empty) ∧ w'.cell? ⟨w.heap.size, 6, none⟩ = some (.slice none 0 0)) (first | exact ⟨hx0, hx1, hx2, hx3, hx4, hx5, hx6⟩ | exact ⟨hy0, hy1, hy2, hy3, hy4, hy5, hy6⟩ | exact ⟨hz0, hz1, hz2, hz3, hz4, hz5, hz6⟩ | (go_show; fail)) (first
    | (go_at_call 40; refine (sE _ (HS _ ((Below.refl _ _).alloc (Nat.le_refl _) _).drew).out (heap_alloc_ _ _ _ _ HBB.out)).out.mono ?_; rintro e w2 ⟨rfl, hb2⟩; obtain ⟨hy0, hy1, hy2, hy3, hy4, hy5, hy6, _⟩ := box7_in w2 w.heap.size _ _ _ _ _ _ _ _ (heap_old (heap_drew HB.out) hb2); have HB2 := Lib.hid (heap_old (heap_drew HB.out) hb2); have HW2 := Lib.hid (((Below.refl w.heap.size w).alloc (Nat.le_refl _) _).drew.trans (hb2.mono (by simp))))
    | (go_at_call 39; refine (sF _).out.mono ?_; rintro e w3 ⟨rfl, hb3⟩; obtain ⟨hz0, hz1, hz2, hz3, hz4, hz5, hz6, _⟩ := box7_in w3 w.heap.size _ _ _ _ _ _ _ _ (heap_old HB2.out hb3))
    | (go_show; fail))
  go_wp2
  go_ret
  exact ⟨rfl, HW2.out.trans (hb3.mono HW2.out.size)⟩

end Go.Proofs.YtelnakmlfpjeoaaDoor
