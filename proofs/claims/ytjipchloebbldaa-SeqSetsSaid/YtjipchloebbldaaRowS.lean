/- A copy's row: the items of a cloned list lie behind the row. -/
import Derived.Test.YtjipchloebbldaaChk
namespace Go.Proofs.Ytjipchloebbldaa
open Go.RowKit
set_option maxRecDepth 100000

attribute [local go_sem] Try.field_L
/-- A list of one's own: its row, and the items' lists behind it. -/
def RowAt (w : World) (lo : Nat) (l : List T) (p : Option Addr) : Prop := (l = [] ∧ p = none) ∨ ∃ bo, lo ≤ bo ∧ p = some ⟨bo, 0, none⟩ ∧ Part w bo l l.length
def NewRow (w : World) (l : List T) (e : Ending) (w' : World) : Prop := ∃ p, e = .returned (.slice p l.length l.length) ∧ RowAt w' w.heap.size l p ∧ Below w.heap.size w w'
theorem Part.setCell {w : World} {bo : Nat} {l : List T} {j : Nat} (h : Part w bo l j) (a : Addr) (ha : a.block < bo) (u : Value) : Part (w.setCell a u) bo l j := by
  obtain ⟨cs, h1, h2, h3⟩ := h
  refine ⟨cs, ?_, h2, fun i hi hj => ?_⟩
  · rw [World.setCell]; simp only [Array.getElem?_modify]; rw [if_neg (by omega)]; exact h1
  · obtain ⟨c0, c1, c2, c3, e0, e1, e2, e3, hr⟩ := h3 i hi hj
    rw [World.size_setCell]
    exact ⟨c0, c1, c2, c3, e0, e1, e2, e3, hr.setCell (Or.inl (by omega)) u⟩
theorem RowAt.setCell {w : World} {lo : Nat} {l : List T} {p : Option Addr} (h : RowAt w lo l p) (a : Addr) (ha : a.block < lo) (u : Value) : RowAt (w.setCell a u) lo l p := by
  rcases h with h | ⟨bo, h1, h2, h3⟩
  · exact Or.inl h
  · exact Or.inr ⟨bo, h1, h2, h3.setCell a (by omega) u⟩
theorem RowAt.mono {w : World} {lo lo' : Nat} {l : List T} {p : Option Addr} (h : RowAt w lo l p) (hlo : lo' ≤ lo) : RowAt w lo' l p := by
  rcases h with h | ⟨bo, h1, h2, h3⟩
  · exact Or.inl h
  · exact Or.inr ⟨bo, by omega, h2, h3⟩

set_option maxHeartbeats 1000000 in
theorem cloneAll_row (l : List T)
    (w : World) (lo hi : Nat) (p : Option Addr) (cap : Nat) (hall : RepAll w lo hi l p) (_hlc : l.length ≤ cap) (hcap : l.length * 56 ≤ 140737488355328) (hhi : hi ≤ w.heap.size) :
    Calls Try.prog 59 #[.slice p l.length cap] w (NewRow w l) := by
  have H := Lib.hid (fun (t : T) (_ : t ∈ l) => clone_any t)
  cases hl : l with
  | nil =>
    simp only [List.length_nil]
    go_enter Try.func59, Try.ntmps59
    go_wp2
    go_ret
    exact ⟨none, rfl, Or.inl ⟨rfl, rfl⟩, Below.refl _ _⟩
  | cons x xs =>
    have hpos : 0 < l.length := by rw [hl]; simp
    rw [← hl]
    clear hl
    obtain ⟨i0, hi0, hz0, hz1, hz2⟩ := info_parts Try.info_V
    have hmk : ∀ W : World, (Instr.makeSlice 22 (.int .i64 (l.length : Int)) (.int .i64 (l.length : Int))).run Try.prog W = .ok (.slice (some ⟨W.heap.size, 0, none⟩) l.length l.length) (W.alloc (.cells (madeCells #[.int .i64 0, .int .i64 0, .string ⟨#[]⟩, .slice none 0 0] (l.length * 4)) 24)) := by
      intro W
      have h := run_make (P := Try.prog) W 22 24 i0 _ Try.underlying22 hi0 hz0 .i64 .i64 l.length l.length (by omega) (by omega) (by rw [hz2]; omega) (by omega)
      rw [hz1] at h
      simpa [Value.cells] using h
    have hl0 : ((l.length : Int) == 0) = false := beq_eq_false_iff_ne.2 (by omega)
    go_enter Try.func59, Try.ntmps59
    go_wp2
    have hP := Lib.hid (Part.start w (madeCells #[.int .i64 0, .int .i64 0, .string ⟨#[]⟩, .slice none 0 0] (l.length * 4)) l (size_madeCells _ _))
    have hNF := Lib.hid ((NoFrz.nil w).alloc (madeCells #[.int .i64 0, .int .i64 0, .string ⟨#[]⟩, .slice none 0 0] (l.length * 4)) 24)
    have hW : Below w.heap.size w (w.alloc (.cells (madeCells #[.int .i64 0, .int .i64 0, .string ⟨#[]⟩, .slice none 0 0] (l.length * 4)) 24)) := (Below.refl _ _).alloc (Nat.le_refl _) _
    go_loopw [14] (fun i wr => ∃ j : Nat, j ≤ l.length ∧ i = .int .i64 j ∧ Hid (Part wr w.heap.size l j) ∧ Hid (NoFrz wr w.heap.size wr.heap.size) ∧ Below w.heap.size w wr) (fun i _ => l.length - (intOf i).toNat)
    case atStart => exact ⟨0, Nat.zero_le _, rfl, hP, hNF, hW⟩
    case round =>
      obtain ⟨j, hj, rfl, HP, HNF, hbr⟩ := hrel
      have hz := hbr.size
      have hzl := HP.out.lt
      by_cases hlt : j < l.length
      · obtain ⟨b, off, k1, n1, s1, l1, q1, cc1, rfl, _, hbhi, hli, h0, h1, h2, h3, hrep⟩ := (hall.below hbr hhi).item j hlt
        have hlj : l[j] ∈ l := List.getElem_mem hlt
        rw [hli] at hrep hlj
        have HLI := Lib.hid hli; clear hli
        go_wp2_with (go_at_call 44; refine (H.out _ hlj _ lo hi _ (hrep.alloc (by omega) _) (by simp; omega)).mono ?_; rintro e w2 ⟨⟨v, rfl, hv, hb2⟩, hnf2, _⟩; have HNF2 := Lib.hid ((HNF.out.alloc _ _).call hb2 hnf2); clear hnf2; obtain ⟨k2, n2, s2, q2, len2, cap2, rfl⟩ := rep_form hv; have HV := Lib.hid hv; clear hv; have hbz := hb2.size; rw [World.size_alloc] at hbz; have hb3 := ((Below.refl _ _).alloc (Nat.le_refl _) _).trans (hb2.mono (by simp)); have HP2 := Lib.hid (HP.out.below hb3); obtain ⟨⟨u0, hu0⟩, ⟨u1, hu1⟩, ⟨u2, hu2⟩, ⟨u3, hu3⟩, hfz⟩ := HP2.out.room j hlt; have hf0 := hfz (j * 4); have hf1 := hfz (j * 4 + 1); have hf2 := hfz (j * 4 + 2); have hf3 := hfz (j * 4 + 3); clear hfz)
        go_roundw
        case rel =>
          have hv := HV.out
          have hli := HLI.out
          refine ⟨j + 1, by omega, by go_num, HP2.out.step hlt _ _ _ _ (by rw [hli]; exact hv.keep (by simp; omega) (Nat.le_refl _) (fun _ _ _ => rfl)), ?_, ?_⟩
          · show NoFrz _ _ _
            rw [World.size_setCell, World.size_setCell, World.size_setCell, World.size_setCell]
            exact (((HNF2.out.setCell _ _).setCell _ _).setCell _ _).setCell _ _
          exact ((((hbr.trans (hb3.mono hz)).setCell (Nat.le_refl _) _).setCell (Nat.le_refl _) _).setCell (Nat.le_refl _) _).setCell (Nat.le_refl _) _
        case measure => simp [intOf]; omega
      · have hjl : j = l.length := by omega
        subst hjl
        go_wp2
        go_ret
        exact ⟨_, rfl, Or.inr ⟨_, Nat.le_refl _, rfl, HP.out⟩, hbr⟩


set_option maxHeartbeats 1000000 in
theorem vL_row (l : List T) (w : World) (lo hi : Nat) (p : Option Addr) (cap : Nat) (hall : RepAll w lo hi l p) (hlc : l.length ≤ cap) (hcap : l.length * 56 ≤ 140737488355328) (hhi : hi ≤ w.heap.size) :
    Calls Try.prog 40 #[.slice p l.length cap] w fun e w' => ∃ (v : Value) (p : Option Addr), e = .returned v ∧ v = .agg #[.int .i64 4, .int .i64 0, .string ByteArray.empty, .slice p l.length l.length] ∧ RowAt w' w.heap.size l p ∧ Below w.heap.size w w' := by
  go_enter Try.func40, Try.ntmps40
  go_wp2_with (go_at_call 59; refine (cloneAll_row l _ lo hi p cap (hall.alloc hhi _) hlc hcap (by simp; omega)).mono ?_; rintro e w2 ⟨p2, rfl, hrow2, hb2⟩; have HR := Lib.hid hrow2; clear hrow2; obtain ⟨hx0, hx1, hx2, hx3, hxf⟩ := box4_in w2 w.heap.size _ _ _ _ _ (heap_old (heap_alloc_new w _) hb2); have hxf0 := hxf 0; have hxf1 := hxf 1; have hxf2 := hxf 2; have hxf3 := hxf 3; clear hxf)
  refine bodyPost_ret (v := .agg #[.int .i64 4, .int .i64 0, .string ByteArray.empty, .slice p2 l.length l.length]) (by simp [results, Try.results40, go_sem, hx0, hx1, hx2, hx3]; rfl) rfl ?_
  have hbw : Below w.heap.size w w2 := ((Below.refl _ _).alloc (Nat.le_refl _) _).trans (hb2.mono (by simp))
  refine ⟨_, p2, rfl, rfl, ?_, (((hbw.setCell (Nat.le_refl _) _).setCell (Nat.le_refl _) _).setCell (Nat.le_refl _) _).setCell (Nat.le_refl _) _⟩
  have hr := HR.out
  rw [World.size_alloc] at hr
  exact RowAt.mono ((((hr.setCell _ (by simp) _).setCell _ (by simp) _).setCell _ (by simp) _).setCell _ (by simp) _) (by omega)
theorem sclone_row (l : List T) (w : World) (lo hi : Nat) (p : Option Addr) (cap : Nat) (hall : RepAll w lo hi l p) (hlc : l.length ≤ cap) (hcap : l.length * 56 ≤ 140737488355328) (hhi : hi ≤ w.heap.size) :
    Calls Try.prog 49 #[.slice p l.length cap] w (NewRow w l) := by
  have HL := Lib.hid (vL_row l w lo hi p cap hall hlc hcap hhi)
  go_enter Try.func49, Try.ntmps49
  go_wp2_with (go_at_call 40; refine HL.out.mono ?_; rintro e w2 ⟨v, p2, rfl, rfl, hrow2, hb2⟩; have HR := Lib.hid hrow2; clear hrow2)
  go_ret
  exact ⟨p2, rfl, HR.out, hb2⟩

end Go.Proofs.Ytjipchloebbldaa
