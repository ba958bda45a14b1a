/- The reader's lists: laying a value that stands behind all lists; ending a list. -/
import Derived.Test.YtlinclbodbbemaaDoorY18
namespace Go.Proofs.YtlinclbodbbemaaDoor
open Go.RowKit
set_option maxRecDepth 100000

theorem RdIs.setC {w : World} {g : Nat} {s : ByteArray} {x : Rd} (h : RdIs w g s x) (a0 a1 a2 a3 : Value) :
    RdIs ((((w.setCell ⟨g, 5, none⟩ a0).setCell ⟨g, 6, none⟩ a1).setCell ⟨g, 7, none⟩ a2).setCell ⟨g, 8, none⟩ a3) g s { x with c0 := a0, c1 := a1, c2 := a2, c3 := a3 } := by
  unfold RdIs at h ⊢; simp [World.setCell, Array.getElem?_modify, h]
/-- Behind all lists: the value is the whole. -/
def TopPost (s : ByteArray) (x : Rd) (g : Nat) (w : World) (k n : Int) (u : ByteArray) (p : Option Addr) (len cap : Nat) (e : Ending) (w' : World) : Prop :=
  e = .returned (.tuple #[]) ∧ RdIs w' g s { x with c0 := .int .i64 k, c1 := .int .i64 n, c2 := .string u, c3 := .slice p len cap } ∧ But g w w'
set_option maxHeartbeats 1000000 in
theorem add_top (s : ByteArray) (x : Rd) (g : Nat) (w : World) (hx : RdIs w g s x) (lp : Option Addr) (lc : Nat) (hov : x.ov = .slice lp 0 lc) (k n : Int) (u : ByteArray) (p : Option Addr) (len cap : Nat) :
    Calls Tryd.prog 160 #[.pointer (some ⟨g, 0, none⟩), .agg #[.int .i64 k, .int .i64 n, .string u, .slice p len cap]] w (TopPost s x g w k n u p len cap) := by
  obtain ⟨h0, h1, h2, h3, h4, h5, h6, h7, h8, hf, hlt⟩ := hx.open
  rw [hov] at h2
  have HX := Lib.hid hx; clear hx hov
  go_enter Tryd.func160, Tryd.ntmps160
  go_wp2_with fail
  go_returns
  exact ⟨rfl, (HX.out.setC _ _ _ _).alloc _, (((((But.refl g w).setCell _ _).setCell _ _).setCell _ _).setCell _ _).alloc _⟩

set_option maxHeartbeats 1000000 in
theorem end_skip (s : ByteArray) (x : Rd) (g : Nat) (w : World) (hx : RdIs w g s x) (sk : Nat) (hsk : x.sk = sk + 1) (hm : sk ≤ 4611686018427387904) :
    Calls Tryd.prog 133 #[.pointer (some ⟨g, 0, none⟩)] w fun e w' => e = .returned (.tuple #[]) ∧ RdIs w' g s { x with sk := sk } ∧ But g w w' := by
  obtain ⟨h0, h1, h2, h3, h4, h5, h6, h7, h8, hf, hlt⟩ := hx.open
  rw [hsk] at h3
  have HX := Lib.hid hx; clear hx hsk
  go_enter Tryd.func133, Tryd.ntmps133
  go_wp2
  go_returns
  exact ⟨rfl, HX.out.setSk sk (by simp), (But.refl g w).setCell _ _⟩

set_option maxHeartbeats 2000000 in
theorem end_pop (s : ByteArray) (x : Rd) (g : Nat) (w : World) (hx : RdIs w g s x) (hsk : x.sk = 0) (bo n capo : Nat) (hov : x.ov = .slice (some ⟨bo, 0, none⟩) (n + 1) capo) (hnm : n + 1 ≤ 4611686018427387904) (hnc : n + 1 ≤ capo)
    (lv : Value) (hlv : ∃ lp L lc, lv = .slice lp L lc) (hc0 : w.cell? ⟨bo, n * 4, none⟩ = some (.int .i64 4)) (hc1 : w.cell? ⟨bo, n * 4 + 1, none⟩ = some (.int .i64 0)) (hc2 : w.cell? ⟨bo, n * 4 + 2, none⟩ = some (.string ⟨#[]⟩)) (hc3 : w.cell? ⟨bo, n * 4 + 3, none⟩ = some lv)
    (post : World → Ending → World → Prop)
    (hadd : ∀ W, RdIs W g s { x with ov := .slice (some ⟨bo, 0, none⟩) n capo } → But g w W → Calls Tryd.prog 160 #[.pointer (some ⟨g, 0, none⟩), .agg #[.int .i64 4, .int .i64 0, .string ⟨#[]⟩, lv]] W fun e w' => e = .returned (.tuple #[]) ∧ post W e w') :
    Calls Tryd.prog 133 #[.pointer (some ⟨g, 0, none⟩)] w fun e w' => e = .returned (.tuple #[]) ∧ ∃ W, But g w W ∧ RdIs W g s { x with ov := .slice (some ⟨bo, 0, none⟩) n capo } ∧ post W e w' := by
  obtain ⟨lp, L, lc, rfl⟩ := hlv
  obtain ⟨h0, h1, h2, h3, h4, h5, h6, h7, h8, hf, hlt⟩ := hx.open
  rw [hov] at h2
  rw [hsk] at h3
  have HX := Lib.hid hx; clear hx hov hsk
  have HA := Lib.hid hadd; clear hadd
  go_enter Tryd.func133, Tryd.ntmps133
  go_wp2_with (go_at_call 160; refine (HA.out _ ((HX.out.setOv _).alloc _) (((But.refl g w).setCell 2 _).alloc _)).mono ?_; rintro e w2 ⟨rfl, hp2⟩)
  go_returns
  exact ⟨rfl, _, ((But.refl g w).setCell 2 _).alloc _, (HX.out.setOv _).alloc _, hp2⟩

end Go.Proofs.YtlinclbodbbemaaDoor
