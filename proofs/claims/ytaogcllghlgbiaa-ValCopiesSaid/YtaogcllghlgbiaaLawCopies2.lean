/- The walk of the statement on copies, its main way. -/
import Derived.Test.YtaogcllghlgbiaaLawCopies
import Derived.Deep.RegionHeld3
import Derived.Deep.RegionLawGrows
import Derived.Lib.SmallJoins
import Derived.Deep.AppendLies
import Derived.Deep.DeepCutAuto
namespace Go.Proofs.Ytaogcllghlgbiaa
open Go.RowKit

theorem rep_list {w : World} {lo hi : Nat} {l : List T} {v : Value} (h : Rep w lo hi (mkList l) v) : ∃ (p : Option Addr) (cap : Nat), v = .agg #[.int .i64 4, .int .i64 0, .string ByteArray.empty, .slice p l.length cap] ∧ l.length ≤ cap ∧ cap * 56 ≤ 140737488355328 ∧ RepAll w lo hi l p := by
  unfold mkList Rep at h
  obtain ⟨p, cap, hv, _, _, _, h1, h2, h3⟩ := h
  exact ⟨p, cap, hv, h1, h2, h3⟩

theorem cell_set4 (w : World) (b o1 o2 o3 o4 g x : Nat) (c0 c1 c2 c3 : Value) (h : g ≠ b) : ((((w.setCell ⟨b, o1, none⟩ c0).setCell ⟨b, o2, none⟩ c1).setCell ⟨b, o3, none⟩ c2).setCell ⟨b, o4, none⟩ c3).cell? ⟨g, x, none⟩ = w.cell? ⟨g, x, none⟩ := by
  rw [World.cell?_setCell_other _ _ _ _ (fun e => by cases e; exact h rfl), World.cell?_setCell_other _ _ _ _ (fun e => by cases e; exact h rfl), World.cell?_setCell_other _ _ _ _ (fun e => by cases e; exact h rfl), World.cell?_setCell_other _ _ _ _ (fun e => by cases e; exact h rfl)]
theorem heap_set4 (w : World) (b o1 o2 o3 o4 g : Nat) (c0 c1 c2 c3 : Value) (h : g ≠ b) : ((((w.setCell ⟨b, o1, none⟩ c0).setCell ⟨b, o2, none⟩ c1).setCell ⟨b, o3, none⟩ c2).setCell ⟨b, o4, none⟩ c3).heap[g]? = w.heap[g]? := by
  rw [Below.heap_setCell _ _ _ _ h, Below.heap_setCell _ _ _ _ h, Below.heap_setCell _ _ _ _ h, Below.heap_setCell _ _ _ _ h]
/-- Cells stand here, whatever they hold. -/
def Row (w : World) (b off m : Nat) : Prop := ∀ o, o < m → ∃ u, w.cell? ⟨b, off + o, none⟩ = some u
theorem RepAll.row {w : World} {lo hi : Nat} {l : List T} {b off : Nat} (h : RepAll w lo hi l (some ⟨b, off, none⟩)) : Row w b off (l.length * 4) := by
  intro o ho
  obtain ⟨b', off', c0, c1, c2, c3, hp, _, _, h0, h1, h2, h3, _⟩ := h.at' (o / 4) (by omega)
  cases hp
  have hc : o % 4 = 0 ∨ o % 4 = 1 ∨ o % 4 = 2 ∨ o % 4 = 3 := by omega
  rcases hc with hc | hc | hc | hc
  · exact ⟨_, by rw [← h0]; congr 2; omega⟩
  · exact ⟨_, by rw [← h1]; congr 2; omega⟩
  · exact ⟨_, by rw [← h2]; congr 2; omega⟩
  · exact ⟨_, by rw [← h3]; congr 2; omega⟩
theorem Row.below {w w' : World} {b off m B : Nat} (h : Row w b off m) (hb : Below B w w') (hB : b < B) : Row w' b off m := fun o ho => by
  obtain ⟨u, hu⟩ := h o ho; exact ⟨u, (hb.cell (p := ⟨b, off + o, none⟩) hB).trans hu⟩
theorem Row.setCell {w : World} {b off m : Nat} (h : Row w b off m) (p : Addr) (v : Value) : Row (w.setCell p v) b off m := fun o ho => by
  obtain ⟨u, hu⟩ := h o ho
  obtain ⟨v', hv'⟩ := cell?_setCell_some (w := w) (p := p) (x := v) (q := ⟨b, off + o, none⟩) (v := u) hu
  exact ⟨v', hv'⟩
theorem Row.olds {w : World} {b off m : Nat} (h : Row w b off m) : ∃ olds : List Value, olds.length = m ∧ ∀ j u, olds[j]? = some u → w.cell? (Addr.add ⟨b, off, none⟩ j) = some u := by
  refine ⟨(List.range m).map (fun o => (w.cell? ⟨b, off + o, none⟩).getD undef), by simp, fun j u hu => ?_⟩
  have hadd : Addr.add ⟨b, off, none⟩ j = ⟨b, off + j, none⟩ := by
    unfold Addr.add; split
    · rename_i h; subst h; rfl
    · rfl
  rw [hadd]
  rw [List.getElem?_map] at hu
  by_cases hj : j < m
  · obtain ⟨v, hv⟩ := h j hj
    rw [List.getElem?_range hj] at hu
    simp [hv] at hu
    rw [hv, hu]
  · rw [List.getElem?_eq_none (by simp; omega)] at hu; simp at hu

theorem compareBytes_self : ∀ l : List UInt8, Lib.compareBytes l l = 0
  | [] => by simp [Lib.compareBytes]
  | a :: l => by unfold Lib.compareBytes; rw [if_neg (by simp), if_neg (by simp)]; exact compareBytes_self l
theorem ord_self : ∀ t, ord t t = 0 := by
  refine T.ind_ (fun k n s l ih => ?_)
  have hall : ∀ l : List T, (∀ t ∈ l, ord t t = 0) → ordAll l l = 0 := by
    intro l
    induction l with
    | nil => intro _; simp [ordAll]
    | cons x r ihr => intro h; rw [ordAll, if_neg (by rw [h x (by simp)]; simp)]; exact ihr (fun t ht => h t (by simp [ht]))
  rw [ord, if_neg (by simp)]
  split
  · exact compareBytes_self _
  · split
    · exact hall l ih
    · simp [cmpI]
theorem sameB_self (t : T) : sameB t t = true := by unfold sameB; rw [ord_self]; rfl
/-- What is known behind the first copy's end: the list and its plain copy are there still. -/
def AfterC (w : World) (g4 g5 g6 g7 : Nat) (l : List T) (p5 : Option Addr) (ky ny : Int) (sy : ByteArray) (py : Option Addr) (leny capy : Nat) (wx : World) : Prop :=
  Below w.heap.size w wx ∧ g7 < wx.heap.size ∧ wx.heap[g5]? = some (.cells #[.int .i64 4, .int .i64 0, .string ByteArray.empty, .slice p5 l.length l.length] 27 (0, 0)) ∧
  wx.heap[g7]? = some (.cells #[.int .i64 ky, .int .i64 ny, .string sy, .slice py leny capy] 27 (0, 0)) ∧ RepAll wx g4 g5 l p5 ∧ Rep wx (g6 + 1) g7 (mkList l) (.agg #[.int .i64 ky, .int .i64 ny, .string sy, .slice py leny capy])

set_option maxHeartbeats 4000000 in
theorem copies_main (l : List T) (at_ : Int) (w : World) (lo hi : Nat) (p : Option Addr) (cap : Nat) (hall : RepAll w lo hi l p) (hlc : l.length ≤ cap) (hcap : cap * 56 ≤ 140737488355328) (hhi : hi ≤ w.heap.size) (h : fewRight l 20 = true) (hpos : 0 < l.length) (hfit : fits (mkList l) = 0) (hat : I64 at_) :
    Calls Try.prog 3 #[.slice p l.length cap, .int .i64 at_] w fun e w' => e = .returned (.bool true) ∧ Below w.heap.size w w' := by
  obtain ⟨hsz, hl20⟩ := sz_mkList l h
  have H := Lib.hid h; clear h
  have HALL := Lib.hid hall; clear hall
  have hF : (fits (mkList l) != 0) = false := by simpa using hfit
  clear hfit
  have hl0 : ((l.length : Int) == 0) = false := beq_eq_false_iff_ne.2 (by omega)
  have HAT := Lib.hid hat; clear hat
  obtain ⟨j, hj0, hjl⟩ : ∃ j : Nat, Hid (numB at_ l.length = (j : Int)) ∧ j < l.length := by
    have h1 := Int.emod_nonneg at_ (b := (l.length : Int)) (by omega)
    have h2 := Int.emod_lt_of_pos at_ (b := (l.length : Int)) (by omega)
    refine ⟨(at_ % (l.length : Int)).toNat, ?_, by omega⟩
    show _ = _
    unfold numB; omega
  go_enter Try.func3, Try.ntmps3
  go_wp2_with (first
    | (go_at_call 4; refine (first_any _).mono ?_; rintro e w1 ⟨rfl, hb1⟩)
    | (go_at_call 5; refine (wvalues_any l _ lo hi p cap 20 (HALL.out.below hb1 hhi) (by have := hb1.size; omega) (by omega)).mono ?_; rintro e w2 ⟨rfl, hb2⟩; rw [H.out]; have hb12 := hb1.trans (hb2.mono hb1.size); have hz2 := hb12.size; clear hb1 hb2)
    | (go_at_call 7; refine (rL_any l _ lo hi p cap (HALL.out.below hb12 hhi) hlc hcap (by omega)).mono ?_; rintro e w3 ⟨v3, rfl, hv3, hb3⟩; have HV3 := Lib.hid hv3; clear hv3)
    | (go_at_call 6; refine (fits_any (mkList l) _ _ _ _ HV3.out (Nat.le_refl _) hsz).mono ?_; rintro e w4 ⟨rfl, hb4⟩; have hb14 := (hb12.trans (hb3.mono hz2)).trans (hb4.mono (by have := hb3.size; omega)); have hz4 := hb14.size; clear HV3 hb3 hb4 hb12 hz2)
    | (go_at_call 8; refine (vL_any l _ lo hi p cap (HALL.out.below hb14 hhi) hlc hcap (by omega)).mono ?_; rintro e w5 ⟨⟨v5, rfl, hv5, hb5⟩, hn5, hc5⟩; obtain ⟨p5, cap5, rfl, hlc5, hcap5, ha5⟩ := rep_list hv5; have hce5 : cap5 = l.length := hc5 _ _ _ _ _ _ rfl; subst hce5; clear hc5; have HA5 := Lib.hid ha5; have HV5 := Lib.hid hv5; have HN5 := Lib.hid hn5; clear ha5 hv5 hn5; have hz5 := hb5.size)
    | (go_at_call 9; refine (clone_any (mkList l) _ _ _ _ (HV5.out.alloc (Nat.le_refl _) _) (by simp)).mono ?_; rintro e w6 ⟨⟨v6, rfl, hv6, hb6⟩, hn6, hc6⟩; obtain ⟨p6, cap6, rfl, hlc6, hcap6, ha6⟩ := rep_list hv6; have hce6 : cap6 = l.length := hc6 _ _ _ _ _ _ rfl; subst hce6; clear hc6; have HA6 := Lib.hid ha6; have HV6 := Lib.hid hv6; have HN6 := Lib.hid hn6; clear ha6 hv6 hn6; have hz6 := hb6.size; rw [World.size_alloc] at hz6; have hw56 : w5.heap.size < w6.heap.size := (by omega); obtain ⟨hx0, hx1, hx2, hx3, hxf⟩ := box4_in w6 w5.heap.size _ _ _ _ _ (heap_old (heap_alloc_new w5 _) hb6); clear hxf)
    | (go_at_call 10; go_loud (refine (value_any (mkList l) _ w4.heap.size w5.heap.size _ (((HV5.out.alloc (Nat.le_refl _) _).below hb6 (by simp)).alloc (by omega) _) (by simp; omega)).mono ?_; rintro e w7 ⟨v7, rfl, hv7, hb7⟩; have HV7 := Lib.hid hv7; clear hv7; have hz7 := hb7.size; rw [World.size_alloc] at hz7; obtain ⟨ky, ny, sy, py, leny, capy, rfl⟩ := rep_form HV7.out; have hw67 : w6.heap.size < w7.heap.size := (by omega); have hw57 : w5.heap.size < w7.heap.size := (by omega); obtain ⟨hy0, hy1, hy2, hy3, hyf⟩ := box4_in w7 w6.heap.size _ _ _ _ _ (heap_old (heap_alloc_new w6 _) hb7)))
    | (go_at_call 11; refine (number_any _ _ _ HAT.out (by omega) (by omega)).mono ?_; rintro e w8 ⟨rfl, rfl⟩; rw [hj0.out]))
  have hB6 : (w7.alloc (.cells #[.int .i64 ky, .int .i64 ny, .string sy, .slice py leny capy] 27)).heap[w5.heap.size]? = some (.cells #[.int .i64 4, .int .i64 0, .string ByteArray.empty, .slice p5 l.length l.length] 27 (0, 0)) :=
    heap_alloc_ _ _ _ _ (heap_old (heap_alloc_ _ _ _ _ (heap_old (heap_alloc_new w5 _) hb6)) hb7)
  have hB7 : (w7.alloc (.cells #[.int .i64 ky, .int .i64 ny, .string sy, .slice py leny capy] 27)).heap[w6.heap.size]? = some (.cells #[.int .i64 4, .int .i64 0, .string ByteArray.empty, .slice p6 l.length l.length] 27 (0, 0)) :=
    heap_alloc_ _ _ _ _ (heap_old (heap_alloc_new w6 _) hb7)
  have hB8 := heap_alloc_new w7 (.cells #[.int .i64 ky, .int .i64 ny, .string sy, .slice py leny capy] 27)
  have hb57 : Below w5.heap.size w5 (w7.alloc (.cells #[.int .i64 ky, .int .i64 ny, .string sy, .slice py leny capy] 27)) := ((((Below.refl _ _).alloc (Nat.le_refl _) _).trans (hb6.mono (by simp))).alloc (by omega) _ |>.trans (hb7.mono (by simp; omega))).alloc (by omega) _
  have hb67 : Below w6.heap.size w6 (w7.alloc (.cells #[.int .i64 ky, .int .i64 ny, .string sy, .slice py leny capy] 27)) := ((Below.refl _ _).alloc (Nat.le_refl _) _ |>.trans (hb7.mono (by simp))).alloc (by omega) _
  have hb77 : Below w7.heap.size w7 (w7.alloc (.cells #[.int .i64 ky, .int .i64 ny, .string sy, .slice py leny capy] 27)) := (Below.refl _ _).alloc (Nat.le_refl _) _
  have HV := Lib.hid (HA5.out.below hb57 (Nat.le_refl _))
  have HC := Lib.hid (HA6.out.below hb67 (Nat.le_refl _))
  have HNF := Lib.hid (HN6.out.below hb67 (Nat.le_refl _))
  have HWAS := Lib.hid (HV7.out.below hb77 (Nat.le_refl _))
  rw [World.size_alloc] at HC HNF HWAS
  have HBL : Below w.heap.size w (w7.alloc (.cells #[.int .i64 ky, .int .i64 ny, .string sy, .slice py leny capy] 27)) := hb14.trans ((hb5.mono hz4).trans (hb57.mono (by omega)))
  have hWs : (w7.alloc (.cells #[.int .i64 ky, .int .i64 ny, .string sy, .slice py leny capy] 27)).heap.size = w7.heap.size + 1 := by simp
  clear hb57 hb67 hb77 HA5 HA6 HN5 HN6 HV5 HV6 HV7 hb14 hb5 hb6 hb7 hx0 hx1 hx2 hx3 hy0 hy1 hy2 hy3 hyf H HALL hF HAT hj0
  generalize w7.alloc (.cells #[.int .i64 ky, .int .i64 ny, .string sy, .slice py leny capy] 27) = W at *
  generalize w4.heap.size = g4 at *
  generalize w5.heap.size = g5 at *
  generalize w6.heap.size = g6 at *
  generalize w7.heap.size = g7 at *
  clear w4 w5 w6 w7
  obtain ⟨bc, oc, kc, nc, sc, lc, qc, cc, rfl, hlo6, hhi6, hli6, h0, h1, h2, h3, _⟩ := HC.out.item j hjl
  have HROW := Lib.hid HC.out.row
  clear hli6
  obtain ⟨_, _, _, hx3, _⟩ := box4_in W g6 _ _ _ _ _ hB7
  have HB5 := Lib.hid hB6; have HB6 := Lib.hid hB7; have HB7 := Lib.hid hB8
  clear hB6 hB7 hB8
  have hbcW : bc < W.heap.size := by omega
  have hg6W : g6 < W.heap.size := by omega
  have hf0 := HNF.out bc (oc + j * 4) hlo6 hhi6
  have hf1 := HNF.out bc (oc + j * 4 + 1) hlo6 hhi6
  have hf2 := HNF.out bc (oc + j * 4 + 2) hlo6 hhi6
  have hf3 := HNF.out bc (oc + j * 4 + 3) hlo6 hhi6
  go_region_held3 (fun w' => w'.cell? ⟨g6, 3, none⟩ = some (.slice (some ⟨bc, oc, none⟩) l.length l.length)) (first | exact hx3 | exact (hb8.cell (p := ⟨g6, 3, none⟩) hg6W).trans hx3 | exact (cell_set4 _ _ _ _ _ _ _ _ _ _ _ _ (by omega)).trans ((hb8.cell (p := ⟨g6, 3, none⟩) hg6W).trans hx3)) (first | (go_at_call 12; refine (vS_any _ _).mono ?_; rintro e w8 ⟨rfl, hb8⟩; have h0 := (hb8.cell (p := ⟨bc, oc + j * 4, none⟩) hbcW).trans h0; have h1 := (hb8.cell (p := ⟨bc, oc + j * 4 + 1, none⟩) hbcW).trans h1; have h2 := (hb8.cell (p := ⟨bc, oc + j * 4 + 2, none⟩) hbcW).trans h2; have h3 := (hb8.cell (p := ⟨bc, oc + j * 4 + 3, none⟩) hbcW).trans h3; have hf0 := (hb8.frozen (p := ⟨bc, oc + j * 4, none⟩) hbcW).trans hf0; have hf1 := (hb8.frozen (p := ⟨bc, oc + j * 4 + 1, none⟩) hbcW).trans hf1; have hf2 := (hb8.frozen (p := ⟨bc, oc + j * 4 + 2, none⟩) hbcW).trans hf2; have hf3 := (hb8.frozen (p := ⟨bc, oc + j * 4 + 3, none⟩) hbcW).trans hf3))
  have hbW8 : Below W.heap.size W w8 := (Below.refl _ _).drew.trans hb8
  have hzX : W.heap.size ≤ ((((w8.setCell ⟨bc, oc + j * 4, none⟩ (.int .i64 2)).setCell ⟨bc, oc + j * 4 + 1, none⟩ (.int .i64 0)).setCell ⟨bc, oc + j * 4 + 2, none⟩ (.string ⟨#[111, 116, 104, 101, 114]⟩)).setCell ⟨bc, oc + j * 4 + 3, none⟩ (.slice none 0 0)).heap.size := by simp only [World.size_setCell]; exact hbW8.size
  have hwbc : w.heap.size ≤ bc := by omega
  have HBL2 : Below w.heap.size w ((((w8.setCell ⟨bc, oc + j * 4, none⟩ (.int .i64 2)).setCell ⟨bc, oc + j * 4 + 1, none⟩ (.int .i64 0)).setCell ⟨bc, oc + j * 4 + 2, none⟩ (.string ⟨#[111, 116, 104, 101, 114]⟩)).setCell ⟨bc, oc + j * 4 + 3, none⟩ (.slice none 0 0)) := ((((HBL.trans (hbW8.mono HBL.size)).setCell hwbc _).setCell hwbc _).setCell hwbc _).setCell hwbc _
  have HB5' : Hid (((((w8.setCell ⟨bc, oc + j * 4, none⟩ (.int .i64 2)).setCell ⟨bc, oc + j * 4 + 1, none⟩ (.int .i64 0)).setCell ⟨bc, oc + j * 4 + 2, none⟩ (.string ⟨#[111, 116, 104, 101, 114]⟩)).setCell ⟨bc, oc + j * 4 + 3, none⟩ (.slice none 0 0)).heap[g5]? = _) := (heap_set4 _ _ _ _ _ _ _ _ _ _ _ (by omega)).trans ((hbW8.block _ (by omega)).trans HB5.out)
  have HB6' : Hid (((((w8.setCell ⟨bc, oc + j * 4, none⟩ (.int .i64 2)).setCell ⟨bc, oc + j * 4 + 1, none⟩ (.int .i64 0)).setCell ⟨bc, oc + j * 4 + 2, none⟩ (.string ⟨#[111, 116, 104, 101, 114]⟩)).setCell ⟨bc, oc + j * 4 + 3, none⟩ (.slice none 0 0)).heap[g6]? = _) := (heap_set4 _ _ _ _ _ _ _ _ _ _ _ (by omega)).trans ((hbW8.block _ (by omega)).trans HB6.out)
  have HB7' : Hid (((((w8.setCell ⟨bc, oc + j * 4, none⟩ (.int .i64 2)).setCell ⟨bc, oc + j * 4 + 1, none⟩ (.int .i64 0)).setCell ⟨bc, oc + j * 4 + 2, none⟩ (.string ⟨#[111, 116, 104, 101, 114]⟩)).setCell ⟨bc, oc + j * 4 + 3, none⟩ (.slice none 0 0)).heap[g7]? = _) := (heap_set4 _ _ _ _ _ _ _ _ _ _ _ (by omega)).trans ((hbW8.block _ (by omega)).trans HB7.out)
  have HV' : Hid (RepAll ((((w8.setCell ⟨bc, oc + j * 4, none⟩ (.int .i64 2)).setCell ⟨bc, oc + j * 4 + 1, none⟩ (.int .i64 0)).setCell ⟨bc, oc + j * 4 + 2, none⟩ (.string ⟨#[111, 116, 104, 101, 114]⟩)).setCell ⟨bc, oc + j * 4 + 3, none⟩ (.slice none 0 0)) g4 g5 l p5) := ((((HV.out.below hbW8 (by omega)).setCell (Or.inr (by show g5 ≤ bc; omega)) _).setCell (Or.inr (by show g5 ≤ bc; omega)) _).setCell (Or.inr (by show g5 ≤ bc; omega)) _).setCell (Or.inr (by show g5 ≤ bc; omega)) _
  have HWAS' : Hid (Rep ((((w8.setCell ⟨bc, oc + j * 4, none⟩ (.int .i64 2)).setCell ⟨bc, oc + j * 4 + 1, none⟩ (.int .i64 0)).setCell ⟨bc, oc + j * 4 + 2, none⟩ (.string ⟨#[111, 116, 104, 101, 114]⟩)).setCell ⟨bc, oc + j * 4 + 3, none⟩ (.slice none 0 0)) (g6 + 1) g7 (mkList l) _) := ((((HWAS.out.below hbW8 (by omega)).setCell (Or.inl (by show bc < g6 + 1; omega)) _).setCell (Or.inl (by show bc < g6 + 1; omega)) _).setCell (Or.inl (by show bc < g6 + 1; omega)) _).setCell (Or.inl (by show bc < g6 + 1; omega)) _
  have HROW' : Hid (Row ((((w8.setCell ⟨bc, oc + j * 4, none⟩ (.int .i64 2)).setCell ⟨bc, oc + j * 4 + 1, none⟩ (.int .i64 0)).setCell ⟨bc, oc + j * 4 + 2, none⟩ (.string ⟨#[111, 116, 104, 101, 114]⟩)).setCell ⟨bc, oc + j * 4 + 3, none⟩ (.slice none 0 0)) bc oc (l.length * 4)) := ((((HROW.out.below hbW8 hbcW).setCell _ _).setCell _ _).setCell _ _).setCell _ _
  clear HB5 HB6 HB7 HV HWAS HROW HC HNF hbW8 hx3 hb8 h0 h1 h2 h3 hf0 hf1 hf2 hf3 HBL
  generalize ((((w8.setCell ⟨bc, oc + j * 4, none⟩ (.int .i64 2)).setCell ⟨bc, oc + j * 4 + 1, none⟩ (.int .i64 0)).setCell ⟨bc, oc + j * 4 + 2, none⟩ (.string ⟨#[111, 116, 104, 101, 114]⟩)).setCell ⟨bc, oc + j * 4 + 3, none⟩ (.slice none 0 0)) = X at *
  clear w8
  have hbcX : bc < X.heap.size := by omega
  have hg6X : g6 < X.heap.size := by omega
  clear hbcW hg6W
  obtain ⟨_, _, _, hx3, hxf⟩ := box4_in X g6 _ _ _ _ _ HB6'.out
  have hxf3 := hxf 3
  clear hxf
  go_wp2
  obtain ⟨i0, hi0, hz0, hz1, hz2⟩ := info_parts Try.info_V
  go_cut [] (fun wx => AfterC w g4 g5 g6 g7 l p5 ky ny sy py leny capy wx)
  case first =>
    go_region_law (first
      | (go_simp; go_at_call 13; refine (vI_any _ _).mono ?_; rintro e w9 ⟨rfl, hb9⟩; have hx9 := (hb9.cell (p := ⟨g6, 3, none⟩) hg6X).trans hx3; have hxf9 := (hb9.frozen (p := ⟨g6, 3, none⟩) hg6X).trans hxf3; have hz9 : X.heap.size ≤ w9.heap.size := hb9.size; have hg69 : g6 < w9.heap.size := (Nat.lt_of_lt_of_le hg6X hz9); have hbc9 : bc < w9.heap.size := (Nat.lt_of_lt_of_le hbcX hz9); have HR9 := Lib.hid (HROW'.out.below ((Below.refl _ _).drew.trans hb9) hbcX))
      | (refine step_append_grows rfl _ _ 22 rfl 27 i0 _ 4 56 Try.underlying22 hi0 hz0 hz1 hz2 rfl (by decide) (some ⟨bc, oc, none⟩) l.length l.length (HR9.out.below ((Below.refl _ _).alloc (Nat.le_refl _) (.cells #[.int .i64 0, .int .i64 1, .string ByteArray.empty, .slice none 0 0] 27)) hbc9).olds.choose (by rfl) (by intro h; cases h) (HR9.out.below ((Below.refl _ _).alloc (Nat.le_refl _) (.cells #[.int .i64 0, .int .i64 1, .string ByteArray.empty, .slice none 0 0] 27)) hbc9).olds.choose_spec.1 (by intro b hb; cases hb; exact (HR9.out.below ((Below.refl _ _).alloc (Nat.le_refl _) (.cells #[.int .i64 0, .int .i64 1, .string ByteArray.empty, .slice none 0 0] 27)) hbc9).olds.choose_spec.2) ⟨w9.heap.size, 0, none⟩ 1 1 [.int .i64 0, .int .i64 1, .string ByteArray.empty, .slice none 0 0] (by rfl) (by rfl) (World.news_of_block (cs := #[.int .i64 0, .int .i64 1, .string ByteArray.empty, .slice none 0 0]) (t := 27) (fr := (0, 0)) (heap_alloc_new w9 _)) (by simp [Value.oneCell']) (by omega) (by unfold maxLen; omega) (by omega) ?_; intro v' w10 hown hgrow; obtain ⟨gn, capn, rfl⟩ := Joins.ownsRow_form hown (by omega); have hb10 := (Below.refl (w9.alloc (.cells #[.int .i64 0, .int .i64 1, .string ByteArray.empty, .slice none 0 0] 27)).heap.size _).grown hgrow (Nat.le_refl _) (fun k h => by cases h); have hb10' := Lib.hid (((Below.refl _ _).drew.trans hb9).trans (((Below.refl _ _).alloc hz9 _).trans (hb10.mono (by simp; omega))) : Below X.heap.size X w10); have hx10 := (hb10.cell (p := ⟨g6, 3, none⟩) (by simp; omega)).trans ((World.cell?_alloc_lt w9 _ _ hg69).trans hx9); have hxf10 := (hb10.frozen (p := ⟨g6, 3, none⟩) (by simp; omega)).trans ((((Below.refl w9.heap.size w9).alloc (Nat.le_refl _) (.cells #[.int .i64 0, .int .i64 1, .string ByteArray.empty, .slice none 0 0] 27)).frozen (p := ⟨g6, 3, none⟩) hg69).trans hxf9); clear hb10 hown hgrow))
    all_goals
      go_wp2_with fail
      go_meet
      have hbX := hb10'.out
      have e1 : w.heap.size ≤ X.heap.size := HBL2.size
      have e2 : w.heap.size ≤ g6 := by omega
      have e3 : X.heap.size ≤ w10.heap.size := hbX.size
      have e4 : g5 ≠ g6 := by omega
      have e5 : g7 ≠ g6 := by omega
      have e7 : g7 < X.heap.size := by omega
      have e6 : g5 < X.heap.size := by omega
      refine ⟨(HBL2.trans (hbX.mono e1)).setCell e2 _, ?_, (Below.heap_setCell _ _ _ _ e4).trans ((hbX.block g5 e6).trans HB5'.out), (Below.heap_setCell _ _ _ _ e5).trans ((hbX.block g7 e7).trans HB7'.out), (HV'.out.below hbX (Nat.le_of_lt e6)).setCell (Or.inr (by show g5 ≤ g6; omega)) _, (HWAS'.out.below hbX (Nat.le_of_lt e7)).setCell (Or.inl (by show g6 < g6 + 1; omega)) _⟩
      rw [World.size_setCell]; omega
  case rest =>
    obtain ⟨Y, hYe⟩ : ∃ Y, Y = wc := ⟨_, rfl⟩
    subst hYe
    obtain ⟨hY1, hY2, hY5, hY7, hYV, hYW⟩ := hcut
    clear HB5' HB6' HB7' HV' HWAS' HROW' HBL2 hx3 hxf3 hi0 hz0 hz1 hz2 hbcX hg6X hzX
    obtain ⟨hbx0, hbx1, hbx2, hbx3, _⟩ := box4_in Y g5 _ _ _ _ _ hY5
    obtain ⟨hcx0, hcx1, hcx2, hcx3, _⟩ := box4_in Y g7 _ _ _ _ _ hY7
    have HRV : Hid (Rep Y g4 g5 (mkList l) (.agg #[.int .i64 4, .int .i64 0, .string ByteArray.empty, .slice p5 l.length l.length])) := Rep.mk_ (by unfold I64; omega) (by unfold I64; omega) (by simp) hlc5 hcap5 hYV
    have HRW := Lib.hid hYW
    have HY1 := Lib.hid hY1
    clear hYV hYW hY1 hY5 hY7
    have hg5Y : g5 < Y.heap.size := by omega
    go_upto_if 63 with (first
      | (go_at_call 9; refine (clone_any (mkList l) _ g4 g5 _ HRV.out (by omega)).mono ?_; rintro e w12 ⟨⟨v12, rfl, hv12, hb12⟩, hn12, _⟩; obtain ⟨p12, cap12, rfl, hlc12, hcap12, ha12⟩ := rep_list hv12; obtain ⟨bd, od, kd, nd, sd, ld, qd, cd, rfl, hlod, hhid, hlid, hd0, hd1, hd2, hd3, hrd⟩ := ha12.item j hjl; have hz12 := hb12.size; have HB12 := Lib.hid hb12; have HN12 := Lib.hid hn12; rw [hlid] at hrd; have HRD := Lib.hid hrd; clear hv12 hb12 hn12 ha12 hrd hlid))
    have hbdl : bd < w12.heap.size := hhid
    go_cut [] (fun wx => Hid (Below Y.heap.size Y wx))
    case first =>
      by_cases hld : 0 < ld.length
      · have hr := HRD.out
        unfold Rep at hr
        obtain ⟨q', c', hv, _, _, _, _, _, halld⟩ := hr
        have hq : qd = q' := by
          simp only [Value.agg.injEq, Array.mk.injEq, List.cons.injEq, Value.slice.injEq] at hv
          exact hv.2.2.2.1.1
        subst hq
        obtain ⟨be, oe, ke, ne, se, le, qe, ce, rfl, hloe, hhie, _, he0, he1, he2, he3, _⟩ := halld.item 0 hld
        rw [Nat.zero_mul, Nat.add_zero] at he0 he1 he2 he3
        have hf0 := HN12.out be oe hloe hhie
        have hf1 := HN12.out be (oe + 1) hloe hhie
        have hf2 := HN12.out be (oe + 2) hloe hhie
        have hf3 := HN12.out be (oe + 3) hloe hhie
        clear hv
        go_wp2_with fail
        go_region_law (go_simp; go_at_call 12; refine (vS_any _ _).mono ?_; rintro e w14 ⟨rfl, hb14⟩; have hz14 : w12.heap.size + 1 ≤ w14.heap.size := (by have h := hb14.size; simp at h; omega); have hb14' : Below (w12.heap.size + 1) (w12.alloc (.cells #[.int .i64 4, .int .i64 0, .string ByteArray.empty, .slice (some ⟨bd, od, none⟩) l.length cap12] 27)) w14 := ((Below.refl _ _).drew.trans (hb14.mono (by simp))); obtain ⟨_, _, _, hp3, _⟩ := box4_in w14 w12.heap.size _ _ _ _ _ ((hb14'.block w12.heap.size (Nat.lt_succ_self _)).trans (heap_alloc_new w12 _)); have hd14 : Below w12.heap.size w12 w14 := (((Below.refl _ _).alloc (Nat.le_refl _) _).trans (hb14'.mono (Nat.le_succ _))); have hHD := Lib.hid hd14; have hd3 := (hd14.cell (p := ⟨bd, od + j * 4 + 3, none⟩) hbdl).trans hd3; have he0 := (hd14.cell (p := ⟨be, oe, none⟩) hhie).trans he0; have he1 := (hd14.cell (p := ⟨be, oe + 1, none⟩) hhie).trans he1; have he2 := (hd14.cell (p := ⟨be, oe + 2, none⟩) hhie).trans he2; have he3 := (hd14.cell (p := ⟨be, oe + 3, none⟩) hhie).trans he3; have hf0 := (hd14.frozen (p := ⟨be, oe, none⟩) hhie).trans hf0; have hf1 := (hd14.frozen (p := ⟨be, oe + 1, none⟩) hhie).trans hf1; have hf2 := (hd14.frozen (p := ⟨be, oe + 2, none⟩) hhie).trans hf2; have hf3 := (hd14.frozen (p := ⟨be, oe + 3, none⟩) hhie).trans hf3; clear hb14 hb14' hd14)
        all_goals
          go_wp2_with fail
          go_meet
          have hq := HB12.out.trans (hHD.out.mono hz12)
          exact (((hq.setCell hloe _).setCell hloe _).setCell hloe _).setCell hloe _
      · go_wp2_with fail
        go_meet
        exact HB12.out.alloc hz12 _
    case rest =>
      obtain ⟨Z, hZe⟩ : ∃ Z, Z = wc := ⟨_, rfl⟩
      subst hZe
      have hz := hcut.out.size
      have hg7Y : g7 < Y.heap.size := by omega
      have hbx0 := (hcut.out.cell (p := ⟨g5, 0, none⟩) hg5Y).trans hbx0
      have hbx1 := (hcut.out.cell (p := ⟨g5, 1, none⟩) hg5Y).trans hbx1
      have hbx2 := (hcut.out.cell (p := ⟨g5, 2, none⟩) hg5Y).trans hbx2
      have hbx3 := (hcut.out.cell (p := ⟨g5, 3, none⟩) hg5Y).trans hbx3
      have hcx0 := (hcut.out.cell (p := ⟨g7, 0, none⟩) hg7Y).trans hcx0
      have hcx1 := (hcut.out.cell (p := ⟨g7, 1, none⟩) hg7Y).trans hcx1
      have hcx2 := (hcut.out.cell (p := ⟨g7, 2, none⟩) hg7Y).trans hcx2
      have hcx3 := (hcut.out.cell (p := ⟨g7, 3, none⟩) hg7Y).trans hcx3
      have hg5Z : g5 < Z.heap.size := by omega
      have hg7Z : g7 < Z.heap.size := by omega
      go_wp2_with (first
        | (go_at_call 14; refine (same_any (mkList l) (mkList l) _ g4 g5 (g6 + 1) g7 _ _ (HRV.out.below hcut.out (by omega)) (by omega) (HRW.out.below hcut.out (by omega)) (by omega)).mono ?_; rintro e w15 ⟨rfl, hb15⟩; rw [sameB_self]; obtain ⟨hc15, _⟩ := below_bcell hb15; have hz15 := hb15.size)
        | (go_at_call 15; refine (sameValue_any (mkList l) (mkList l) _ g4 g5 (g6 + 1) g7 _ _ ((HRV.out.below hcut.out (by omega)).below hb15 (by omega)) (by omega) ((HRW.out.below hcut.out (by omega)).below hb15 (by omega)) (by omega)).mono ?_; rintro e w16 ⟨rfl, hb16⟩; rw [eqV_self]))
      go_ret
      exact ⟨rfl, ((HY1.out.trans (hcut.out.mono HY1.out.size)).trans (hb15.mono (by omega))).trans (hb16.mono (by omega))⟩

end Go.Proofs.Ytaogcllghlgbiaa
