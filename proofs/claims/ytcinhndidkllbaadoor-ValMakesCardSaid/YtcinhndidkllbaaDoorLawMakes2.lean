/- The walk of the statement on what is made of each kind, its main way. -/
import Derived.Test.YtcinhndidkllbaaDoorLawMakes
import Derived.KernelRfl
import Derived.Test.YtcinhndidkllbaaDoorLex
import Derived.BigQuiet
import Derived.Deep.QuietTactic
namespace Go.Proofs.YtcinhndidkllbaaDoor
open Go.RowKit
set_option maxRecDepth 100000

/-- Behind the lists that are made: the last one stands in the variable's block. -/
structure AfterM (w : World) (g12 : Nat) (l : List T) (wx : World) : Prop where
  ex : ∃ p5 gA gB, wx.heap[g12]? = some (.cells #[.int .i64 4, .int .i64 0, .string ByteArray.empty, .slice p5 l.length l.length] 26 (0, 0)) ∧ RepAll wx gA gB l p5 ∧ gB ≤ wx.heap.size
  bel : Below w.heap.size w wx
  lt : g12 < wx.heap.size

theorem fld0 (a b c d : Value) (w : World) : (Instr.field 26 (.agg #[a, b, c, d]) 0).run Tryd.prog w = .ok a w := by kernel_rfl
theorem fld1 (a b c d : Value) (w : World) : (Instr.field 26 (.agg #[a, b, c, d]) 1).run Tryd.prog w = .ok b w := by kernel_rfl
theorem fld2 (a b c d : Value) (w : World) : (Instr.field 26 (.agg #[a, b, c, d]) 2).run Tryd.prog w = .ok c w := by kernel_rfl
attribute [local go_sem] fld0 fld1 fld2
theorem heap_set_boxM (w : World) (g : Nat) (c0 c1 c2 c3 d0 d1 d2 d3 : Value) (t : TypeId) (h : w.heap[g]? = some (.cells #[d0, d1, d2, d3] t (0, 0))) :
    ((((w.setCell ⟨g, 0, none⟩ c0).setCell ⟨g, 1, none⟩ c1).setCell ⟨g, 2, none⟩ c2).setCell ⟨g, 3, none⟩ c3).heap[g]? = some (.cells #[c0, c1, c2, c3] t (0, 0)) := by
  simp [World.setCell, Array.getElem?_modify, h]
theorem vres_fine {eD eM eR eS : Value} {k n : Int} {s : ByteArray} (hz : zz k s 0 ≤ 4096) (hr : badRange k n = false) (hs : badShape k n s 0 = false) : vRes eD eM eR eS (.mk k n s []) = .nilIface := by
  have h : (odd (.mk k n s []) 1 0).1 = 0 := by rw [odd_fine (by omega) hz hr (by simpa using hs), oddAll]
  unfold vRes; rw [if_pos h]
theorem vres_range {eD eM eR eS : Value} {k n : Int} {s : ByteArray} (hz : zz k s 0 ≤ 4096) (hr : badRange k n = true) : vRes eD eM eR eS (.mk k n s []) = errOf eD eM eR eS 105 := by
  have h : (odd (.mk k n s []) 1 0).1 = 105 := by rw [odd_105 (by omega) hz hr]
  unfold vRes; rw [if_neg (by rw [h]; omega), h]
theorem vres_shape {eD eM eR eS : Value} {k n : Int} {s : ByteArray} (hz : zz k s 0 ≤ 4096) (hr : badRange k n = false) (hs : badShape k n s 0 = true) : vRes eD eM eR eS (.mk k n s []) = errOf eD eM eR eS 103 := by
  have h : (odd (.mk k n s []) 1 0).1 = 103 := by rw [odd_103 (by omega) hz hr (by simpa using hs)]
  unfold vRes; rw [if_neg (by rw [h]; omega), h]
theorem rep_bare (k n : Int) (s : ByteArray) (hk : I64 k) (hn : I64 n) (hs : s.size ≤ 140737488355328) (W : World) : Hid (Rep W 0 0 (.mk k n s []) (.agg #[.int .i64 k, .int .i64 n, .string s, .slice none 0 0])) :=
  Rep.mk_ (l := []) hk hn hs (Nat.le_refl _) (by simp) (by unfold RepAll; trivial)

/-- The tables of the statement's last region: on what each operation waits, what it writes, at what it looks. -/
def tabA : List (List Nat) := [[], [0], [1], [2, 1, 1], [3, 1], [1], [4, 5, 1], [1, 6], [7, 3], [8], [9, 8, 8], [10, 8], [11, 8], [8, 12], [13, 10], [14], [15, 14, 14], [16, 14], [14], [17, 18, 14], [14, 19], [20, 16], [21], [22, 21, 21], [23, 21], [24, 21], [21, 25], [26, 23], [27], [28, 27, 27], [29, 27], [27], [30, 31, 27], [27, 32], [33, 29], [34], [35, 34, 34], [36, 34], [37, 34], [34, 38], [39, 36], [40], [41, 40, 40], [42, 40], [40], [43, 44, 40], [40, 45], [46, 42], [47], [48, 47, 47], [49, 47], [50, 47], [47, 51], [52, 49], [53], [54, 53], [55, 53], [53, 56], [57, 53], [58], [59, 58, 58], [60, 60, 58], [61, 58], [58, 62], [63, 61], [64], [65, 64, 64], [66, 66, 64], [67, 64], [64], [69, 64], [70, 67, 64], [71], [72, 71], [71, 73, 64], [68, 74, 64], [64, 75], [76, 71], [77], [78, 77, 77], [79, 79, 77], [80, 77], [77], [82, 77], [83, 80, 77], [84], [85, 84], [84, 86, 77], [81, 87, 77], [77, 88], [89, 84], [90], [91, 90, 90], [92, 92, 90], [93, 90], [90], [95, 93, 90], [94, 96, 90], [90, 97], [98, 96, 0, 1, 2, 3, 4, 5, 6, 7, 8, 9, 10, 11, 12, 13, 14, 15, 16, 17, 18, 19, 20, 21, 22, 23, 24, 25, 26, 27, 28, 29, 30, 31, 32, 33, 34, 35, 36, 37, 38, 39, 40, 41, 42, 43, 44, 45, 46, 47, 48, 49, 50, 51, 52, 53, 54, 55, 56, 57, 58, 59, 60, 61, 62, 63, 64, 65, 66, 67, 68, 69, 70, 71, 72, 73, 74, 75, 76, 77, 78, 79, 80, 81, 82, 83, 84, 85, 86, 87, 88, 89, 90, 91, 92, 93, 94, 95, 96, 97, 98]]
def tabD : List Nat := [78, 79, 80, 81, 82, 83, 84, 85, 86, 87, 88, 89, 90, 91, 92, 93, 94, 95, 96, 97, 98, 99, 100, 101, 102, 103, 104, 105, 106, 107, 108, 109, 110, 111, 112, 113, 114, 115, 116, 117, 118, 119, 120, 121, 122, 123, 124, 125, 126, 127, 128, 129, 130, 131, 132, 133, 134, 135, 136, 137, 138, 139, 140, 141, 142, 143, 144, 145, 146, 147, 148, 149, 150, 151, 152, 153, 154, 155, 156, 157, 158, 159, 160, 161, 162, 163, 164, 165, 166, 167, 168, 169, 170, 171, 172, 173, 174, 175, 176, 11]
def tabL : List (List Nat) := [[13], [77], [0, 78], [79, 78], [80, 78], [0, 78], [81, 82, 78], [78, 83], [84], [0, 85], [86, 85], [87, 85], [88, 85], [85, 89], [90], [1, 91], [92, 91], [93, 91], [1, 91], [94, 95, 91], [91, 96], [97], [1, 98], [99, 98], [100, 98], [101, 98], [98, 102], [103], [2, 104], [105, 104], [106, 104], [2, 104], [107, 108, 104], [104, 109], [110], [2, 111], [112, 111], [113, 111], [114, 111], [111, 115], [116], [3, 117], [118, 117], [119, 117], [3, 117], [120, 121, 117], [117, 122], [123], [3, 124], [125, 124], [126, 124], [127, 124], [124, 128], [129], [12, 130], [131, 130], [132, 130], [130, 133], [134], [0, 135], [136, 135], [137, 135], [138, 135], [135, 139], [140], [3, 141], [142, 141], [143, 141], [144, 141], [3, 141], [146, 141], [147, 141], [3, 148], [149, 148], [148, 150, 141], [145, 151, 141], [141, 152], [153], [1, 154], [155, 154], [156, 154], [157, 154], [1, 154], [159, 154], [160, 154], [1, 161], [162, 161], [161, 163, 154], [158, 164, 154], [154, 165], [166], [2, 167], [168, 167], [169, 167], [170, 167], [2, 167], [172, 167], [171, 173, 167], [167, 174], [175]]
theorem tab_ok : chkFrom 0 tabA tabD tabL = true := by kernel_rfl
/-- A region walked once, in the order of its text, its worlds all of one class. -/
theorem wp_region_class {P : Program} {C : World → Prop} {id : Nat} {Q : Exit → Act → World → Prop} {a : Act} {w : World} {l : List Oper} (hm : P.follows .mixedOrders = true) (hB : Region.lexB .any l.toArray = true) (hC : C w.drew)
    (h : wpQuiet P l.toArray C (fun a' => ∀ w', C w' → Q .normal a' w') l a) : (Code.region id l.toArray true).wp P Q a w :=
  wp_region_quiet hm hB hC (by simpa using h)
theorem calls_toC {P : Program} {fn : FuncId} {args : Array Value} {w : World} {v : Value} {R : World → Prop} (h : Calls P fn args w fun e w' => e = .returned v ∧ Below w.heap.size w w') (hb : ∀ W, Below w.heap.size w W → R W) : Calls P fn args w fun e W => e = .returned v ∧ R W := h.mono fun _ W h => ⟨h.1, hb W h.2⟩
theorem calls_val {P : Program} {fn : FuncId} {args : Array Value} {w : World} {v v' : Value} {R : World → Prop} (h : Calls P fn args w fun e w' => e = .returned v ∧ R w') (hv : v = v') : Calls P fn args w fun e W => e = .returned v' ∧ R W := hv ▸ h
/-- The worlds behind w in which the box of block g still says its kind. -/
def InC (w : World) (g : Nat) (W : World) : Prop := Below w.heap.size w W ∧ W.cell? ⟨g, 0, none⟩ = some (.int .i64 4) ∧ g < W.heap.size
theorem InC.on {w : World} {g : Nat} {W W' : World} (h : InC w g W) (hb : Below W.heap.size W W') : InC w g W' :=
  ⟨h.1.trans (hb.mono h.1.size), (hb.cell (p := ⟨g, 0, none⟩) h.2.2).trans h.2.1, Nat.lt_of_lt_of_le h.2.2 hb.size⟩

set_option maxHeartbeats 4000000 in
theorem makes_main (n o code : Int) (s : ByteArray) (l : List T) (w : World) (lo hi : Nat) (p : Option Addr) (cap : Nat) (hall : RepAll w lo hi l p) (hlc : l.length ≤ cap) (hcap : l.length * 56 ≤ 140737488355328) (hhi : hi ≤ w.heap.size) (h : fewRight l 20 = true) (hs : s.size ≤ 200)
    (hn : I64 n) (ho : I64 o) (hcd : I64 code) (eD eM eR eS : Value) (hP : Ptrs eD eM eR eS) (he : Errs w eD eM eR eS) :
    Calls Tryd.prog 3 #[.int .i64 n, .int .i64 o, .string s, .int .i64 code, .slice p l.length cap] w fun e w' => e = .returned (.bool true) ∧ Below w.heap.size w w' := by
  have hl20 : l.length ≤ 20 := by
    unfold fewRight at h
    simp only [Bool.and_eq_true, decide_eq_true_eq] at h
    omega
  have H := Lib.hid h; clear h
  have HALL := Lib.hid hall; clear hall
  have HE := Lib.hid he; clear he
  have HN := Lib.hid (And.intro hn (And.intro ho hcd)); clear hn ho hcd
  go_enter Tryd.func3, Tryd.ntmps3
  go_upto_if 35 with (first
    | (go_at_call 8; refine (first_any _).mono ?_; rintro e w1 ⟨rfl, hb1⟩)
    | (go_at_call 9; refine (wvalues_any l _ lo hi p cap 20 (HALL.out.below hb1 hhi) (by have := hb1.size; omega) (by omega)).mono ?_; rintro e w2 ⟨rfl, hb2⟩; rw [H.out]; have hb12 := hb1.trans (hb2.mono hb1.size); have hz2 := hb12.size; clear hb1 hb2)
    | (go_at_call 10; refine (vL_any l _ lo hi p cap (HALL.out.below hb12 hhi) hlc hcap (by omega)).mono ?_; rintro e w5 ⟨⟨v5, rfl, hv5, hb5⟩, hn5, hc5⟩; obtain ⟨p5, cap5, rfl, hlc5, hcap5, ha5⟩ := rep_list hv5; have hce5 : cap5 = l.length := hc5 _ _ _ _ _ _ rfl; subst hce5; clear hc5; have HA5 := Lib.hid ha5; have HN5 := Lib.hid hn5; clear ha5 hv5 hn5; have hz5 := hb5.size))
  have HB5 := Lib.hid (heap_alloc_new w5 (.cells #[.int .i64 4, .int .i64 0, .string ByteArray.empty, .slice p5 l.length l.length] 26))
  have hbelW : Below w.heap.size w (w5.alloc (.cells #[.int .i64 4, .int .i64 0, .string ByteArray.empty, .slice p5 l.length l.length] 26)) := (hb12.trans (hb5.mono hz2)).alloc (by omega) _
  have HBW := Lib.hid hbelW; clear hbelW hb12 hb5
  have HAW := Lib.hid (HA5.out.alloc (Nat.le_refl _) (.cells #[.int .i64 4, .int .i64 0, .string ByteArray.empty, .slice p5 l.length l.length] 26))
  have HNW := Lib.hid (HN5.out.below ((Below.refl w5.heap.size w5).alloc (Nat.le_refl _) (.cells #[.int .i64 4, .int .i64 0, .string ByteArray.empty, .slice p5 l.length l.length] 26)) (Nat.le_refl _))
  have hWs : (w5.alloc (.cells #[.int .i64 4, .int .i64 0, .string ByteArray.empty, .slice p5 l.length l.length] 26)).heap.size = w5.heap.size + 1 := by simp
  clear HA5 HN5
  generalize w5.alloc (.cells #[.int .i64 4, .int .i64 0, .string ByteArray.empty, .slice p5 l.length l.length] 26) = W at *
  generalize w5.heap.size = g12 at *
  generalize w2.heap.size = g2 at *
  clear w5 w2
  go_cut [] (fun wx => AfterM w g12 l wx)
  case first =>
    by_cases hpos : 0 < l.length
    · obtain ⟨b6, o6, k1, n1, s1, ll, q1, cc, rfl, hlo6, hhi6, hli, a0, a1, a2, a3, ra⟩ := HAW.out.item 0 hpos
      obtain ⟨b, off, k2, n2, s2, ll2, q2, cc2, rfl, hlo1, hhi1, hli2, c0, c1, c2, c3, rc⟩ := (HALL.out.below HBW.out hhi).item 0 hpos
      rw [hli] at hli2 ra
      rw [hli] at rc
      injection hli2 with e1 e2 e3 e4
      subst e1 e2 e3 e4
      clear hli
      simp only [Nat.zero_mul, Nat.add_zero] at a0 a1 a2 a3 c0 c1 c2 c3
      have HRA2 := Lib.hid ra
      have HRC2 := Lib.hid rc
      clear ra rc
      have hSB := Lib.hid (sameB_self (.mk k1 n1 s1 ll))
      obtain ⟨x0, x1, x2, x3, xf⟩ := box4_in W g12 _ _ _ _ _ HB5.out
      have hb6l : b6 < W.heap.size := by omega
      have hbl : b < W.heap.size := by omega
      have hg12 : g12 < W.heap.size := by omega
      have hposI : (0 : Int) < (l.length : Int) := by omega
      clear xf
      go_wp2_with fail
      go_region_held3 (fun w' => w'.cell? ⟨g12, 3, none⟩ = some (.slice (some ⟨b6, o6, none⟩) l.length l.length) ∧ w'.cell? ⟨b6, o6, none⟩ = some (.int .i64 k1) ∧ w'.cell? ⟨b6, o6 + 1, none⟩ = some (.int .i64 n1) ∧ w'.cell? ⟨b6, o6 + 2, none⟩ = some (.string s1) ∧ w'.cell? ⟨b6, o6 + 3, none⟩ = some (.slice q1 ll.length cc) ∧ w'.cell? ⟨b, off, none⟩ = some (.int .i64 k1) ∧ w'.cell? ⟨b, off + 1, none⟩ = some (.int .i64 n1) ∧ w'.cell? ⟨b, off + 2, none⟩ = some (.string s1) ∧ w'.cell? ⟨b, off + 3, none⟩ = some (.slice q2 ll.length cc2)) (first
          | exact ⟨x3, a0, a1, a2, a3, c0, c1, c2, c3⟩
          | exact ⟨(hb8.cell (p := ⟨g12, 3, none⟩) hg12).trans x3, (hb8.cell (p := ⟨b6, o6, none⟩) hb6l).trans a0, (hb8.cell (p := ⟨b6, o6 + 1, none⟩) hb6l).trans a1, (hb8.cell (p := ⟨b6, o6 + 2, none⟩) hb6l).trans a2, (hb8.cell (p := ⟨b6, o6 + 3, none⟩) hb6l).trans a3, (hb8.cell (p := ⟨b, off, none⟩) hbl).trans c0, (hb8.cell (p := ⟨b, off + 1, none⟩) hbl).trans c1, (hb8.cell (p := ⟨b, off + 2, none⟩) hbl).trans c2, (hb8.cell (p := ⟨b, off + 3, none⟩) hbl).trans c3⟩) (first
          | (go_at_call 11; refine (same_any (.mk k1 n1 s1 ll) (.mk k1 n1 s1 ll) _ g2 g12 lo hi _ _ HRA2.out.drew (by show g12 ≤ W.heap.size; omega) HRC2.out.drew (by show hi ≤ W.heap.size; have := HBW.out.size; omega)).mono ?_; rintro e w8 ⟨rfl, hb8⟩; rw [hSB.out]))
      have hw8 := Lib.hid ((Below.refl W.heap.size W).drew.trans hb8)
      go_wp2_with fail
      have HB8 := Lib.hid (heap_old HB5.out hw8.out)
      have HN8 := Lib.hid (HNW.out.below hw8.out (by omega))
      have HA8 := Lib.hid (HAW.out.below hw8.out (by omega))
      have HL8 := Lib.hid (HBW.out.trans (hw8.out.mono HBW.out.size))
      have hf0 := HN8.out b6 o6 hlo6 hhi6
      have hf1 := HN8.out b6 (o6 + 1) hlo6 hhi6
      have hf2 := HN8.out b6 (o6 + 2) hlo6 hhi6
      have hf3 := HN8.out b6 (o6 + 3) hlo6 hhi6
      obtain ⟨_, _, _, x3', xf⟩ := box4_in w8 g12 _ _ _ _ _ HB8.out
      clear xf
      have a0' := (hw8.out.cell (p := ⟨b6, o6, none⟩) hb6l).trans a0
      have a1' := (hw8.out.cell (p := ⟨b6, o6 + 1, none⟩) hb6l).trans a1
      have a2' := (hw8.out.cell (p := ⟨b6, o6 + 2, none⟩) hb6l).trans a2
      have a3' := (hw8.out.cell (p := ⟨b6, o6 + 3, none⟩) hb6l).trans a3
      have hzw8 := hw8.out.size
      have hb6w : b6 < w8.heap.size := by omega
      have hg12w : g12 < w8.heap.size := by omega
      have hne : g12 ≠ b6 := by omega
      have hwb6 : w.heap.size ≤ b6 := by omega
      clear a0 a1 a2 a3 c0 c1 c2 c3 x0 x1 x2 x3 hb8 HRA2 HRC2 hSB HNW HBW HB5 HAW HN8 HA8
      go_region_held3 (fun w' => w'.cell? ⟨g12, 3, none⟩ = some (.slice (some ⟨b6, o6, none⟩) l.length l.length)) (first | exact x3' | exact (hb9.cell (p := ⟨g12, 3, none⟩) hg12w).trans x3' | exact (cell_set4 _ _ _ _ _ _ _ _ _ _ _ _ hne).trans ((hb9.cell (p := ⟨g12, 3, none⟩) hg12w).trans x3')) (first
        | (go_at_call 12; refine (vI_any _ _).mono ?_; rintro e w9 ⟨rfl, hb9⟩; have h0 := (hb9.cell (p := ⟨b6, o6, none⟩) hb6w).trans a0'; have h1 := (hb9.cell (p := ⟨b6, o6 + 1, none⟩) hb6w).trans a1'; have h2 := (hb9.cell (p := ⟨b6, o6 + 2, none⟩) hb6w).trans a2'; have h3 := (hb9.cell (p := ⟨b6, o6 + 3, none⟩) hb6w).trans a3'; have hf0 := (hb9.frozen (p := ⟨b6, o6, none⟩) hb6w).trans hf0; have hf1 := (hb9.frozen (p := ⟨b6, o6 + 1, none⟩) hb6w).trans hf1; have hf2 := (hb9.frozen (p := ⟨b6, o6 + 2, none⟩) hb6w).trans hf2; have hf3 := (hb9.frozen (p := ⟨b6, o6 + 3, none⟩) hb6w).trans hf3))
      have hb9 : Below w8.heap.size w8 w9 := (Below.refl w8.heap.size w8).drew.trans hb9
      have HL9 := Lib.hid (HL8.out.trans (hb9.mono HL8.out.size))
      have HBX : Hid (((((w9.setCell ⟨b6, o6, none⟩ (.int .i64 0)).setCell ⟨b6, o6 + 1, none⟩ (.int .i64 77)).setCell ⟨b6, o6 + 2, none⟩ (.string ByteArray.empty)).setCell ⟨b6, o6 + 3, none⟩ (.slice none 0 0)).heap[g12]? = some (.cells #[.int .i64 4, .int .i64 0, .string ByteArray.empty, .slice (some ⟨b6, o6, none⟩) l.length l.length] 26 (0, 0))) := (heap_set4 _ _ _ _ _ _ _ _ _ _ _ hne).trans (heap_old HB8.out hb9)
      have HLX : Hid (Below w.heap.size w ((((w9.setCell ⟨b6, o6, none⟩ (.int .i64 0)).setCell ⟨b6, o6 + 1, none⟩ (.int .i64 77)).setCell ⟨b6, o6 + 2, none⟩ (.string ByteArray.empty)).setCell ⟨b6, o6 + 3, none⟩ (.slice none 0 0))) := ((((HL9.out.setCell hwb6 _).setCell hwb6 _).setCell hwb6 _).setCell hwb6 _)
      have hgX : g12 < ((((w9.setCell ⟨b6, o6, none⟩ (.int .i64 0)).setCell ⟨b6, o6 + 1, none⟩ (.int .i64 77)).setCell ⟨b6, o6 + 2, none⟩ (.string ByteArray.empty)).setCell ⟨b6, o6 + 3, none⟩ (.slice none 0 0)).heap.size := (Array.getElem?_eq_some_iff.1 HBX.out).1
      clear hb9 h0 h1 h2 h3 hf0 hf1 hf2 hf3 a0' a1' a2' a3' x3' HB8 HL8 HL9
      generalize ((((w9.setCell ⟨b6, o6, none⟩ (.int .i64 0)).setCell ⟨b6, o6 + 1, none⟩ (.int .i64 77)).setCell ⟨b6, o6 + 2, none⟩ (.string ByteArray.empty)).setCell ⟨b6, o6 + 3, none⟩ (.slice none 0 0)) = X at *
      obtain ⟨y0, y1, y2, y3, yf⟩ := box4_in X g12 _ _ _ _ _ HBX.out
      clear yf
      go_wp2_with (go_at_call 10; refine (vL_any l _ lo hi _ cap (HALL.out.below HLX.out hhi) hlc hcap (by have := HLX.out.size; omega)).mono ?_; rintro e w10 ⟨⟨v10, rfl, hv10, hb10⟩, hn10, hc10⟩; obtain ⟨p10, cap10, rfl, hlc10, hcap10, ha10⟩ := rep_list hv10; have hce10 : cap10 = l.length := hc10 _ _ _ _ _ _ rfl; subst hce10; clear hc10 hv10 hn10; have HA10 := Lib.hid ha10; clear ha10; have HB10 := Lib.hid (heap_old HBX.out hb10); obtain ⟨z0, z1, z2, z3, zf⟩ := box4_in w10 g12 _ _ _ _ _ HB10.out; have zf0 := zf 0; have zf1 := zf 1; have zf2 := zf 2; have zf3 := zf 3; clear zf)
      go_meet
      have hwg : w.heap.size ≤ g12 := by omega
      have hb10s := hb10.size
      have hA : RepAll ((((w10.setCell ⟨g12, 0, none⟩ (.int .i64 4)).setCell ⟨g12, 1, none⟩ (.int .i64 0)).setCell ⟨g12, 2, none⟩ (.string ByteArray.empty)).setCell ⟨g12, 3, none⟩ (.slice p10 l.length l.length)) X.heap.size w10.heap.size l p10 :=
        (((HA10.out.setCell (Or.inl hgX) _).setCell (Or.inl hgX) _).setCell (Or.inl hgX) _).setCell (Or.inl hgX) _
      have hL : Below w.heap.size w ((((w10.setCell ⟨g12, 0, none⟩ (.int .i64 4)).setCell ⟨g12, 1, none⟩ (.int .i64 0)).setCell ⟨g12, 2, none⟩ (.string ByteArray.empty)).setCell ⟨g12, 3, none⟩ (.slice p10 l.length l.length)) :=
        ((((HLX.out.trans (hb10.mono HLX.out.size)).setCell hwg _).setCell hwg _).setCell hwg _).setCell hwg _
      exact ⟨⟨p10, X.heap.size, w10.heap.size, heap_set_boxM _ _ _ _ _ _ _ _ _ _ _ HB10.out, hA, by simp only [World.size_setCell]; omega⟩, hL, by simp only [World.size_setCell]; omega⟩
    · have hl0 : l = [] := List.eq_nil_of_length_eq_zero (by omega)
      go_wp2_with fail
      go_meet
      exact ⟨⟨p5, g2, g12, HB5.out, HAW.out, by omega⟩, HBW.out, by omega⟩
  case rest =>
    obtain ⟨⟨p6, gA, gB, hbx, hra, hgB⟩, hbw, hlt⟩ := hcut
    clear HB5 HAW HNW HBW
    have HBX := Lib.hid hbx
    have HRA := Lib.hid hra
    have HB := Lib.hid hbw
    clear hbx hra hbw
    obtain ⟨x0, x1, x2, x3, _⟩ := box4_in wc g12 _ _ _ _ _ HBX.out
    go_wp2
    go_loopw [13, 14] (fun sm i wr => ∃ j : Nat, j ≤ l.length ∧ sm = .bool true ∧ i = .int .i64 j ∧ Hid (wr.heap[g12]? = some (.cells #[.int .i64 4, .int .i64 0, .string ByteArray.empty, .slice p6 l.length l.length] 26 (0, 0))) ∧ Hid (RepAll wr gA gB l p6) ∧ gB ≤ wr.heap.size ∧ Hid (Below w.heap.size w wr) ∧ g12 < wr.heap.size) (fun _ i _ => l.length - (intOf i).toNat)
    case atStart => exact ⟨0, Nat.zero_le _, by simp, rfl, HBX, HRA, hgB, HB, hlt⟩
    case round =>
      obtain ⟨j, hj, rfl, rfl, HX2, HR2, hgB2, HB2, hlt2⟩ := hrel
      clear x0 x1 x2 x3 HBX HRA HB
      obtain ⟨x0, x1, x2, x3, _⟩ := box4_in wr g12 _ _ _ _ _ HX2.out
      by_cases hjl : j < l.length
      · obtain ⟨b6, o6, k1, n1, s1, ll, q1, cc, rfl, hlo6, hhi6, hli, a0, a1, a2, a3, ra⟩ := HR2.out.item j hjl
        obtain ⟨b, off, k2, n2, s2, ll2, q2, cc2, rfl, hlo1, hhi1, hli2, c0, c1, c2, c3, rc⟩ := (HALL.out.below HB2.out hhi).item j hjl
        rw [hli] at hli2 ra
        rw [hli] at rc
        injection hli2 with e1 e2 e3 e4
        subst e1 e2 e3 e4
        clear hli
        have HRA2 := Lib.hid ra
        have HRC2 := Lib.hid rc
        clear ra rc
        have hSB := Lib.hid (sameB_self (.mk k1 n1 s1 ll))
        have hzz := HB2.out.size
        have hb6l : b6 < wr.heap.size := by omega
        have hbl : b < wr.heap.size := by omega
        go_wp2
        go_region_held3 (fun w' => w'.cell? ⟨g12, 3, none⟩ = some (.slice (some ⟨b6, o6, none⟩) l.length l.length) ∧ w'.cell? ⟨b6, o6 + j * 4, none⟩ = some (.int .i64 k1) ∧ w'.cell? ⟨b6, o6 + j * 4 + 1, none⟩ = some (.int .i64 n1) ∧ w'.cell? ⟨b6, o6 + j * 4 + 2, none⟩ = some (.string s1) ∧ w'.cell? ⟨b6, o6 + j * 4 + 3, none⟩ = some (.slice q1 ll.length cc) ∧ w'.cell? ⟨b, off + j * 4, none⟩ = some (.int .i64 k1) ∧ w'.cell? ⟨b, off + j * 4 + 1, none⟩ = some (.int .i64 n1) ∧ w'.cell? ⟨b, off + j * 4 + 2, none⟩ = some (.string s1) ∧ w'.cell? ⟨b, off + j * 4 + 3, none⟩ = some (.slice q2 ll.length cc2)) (first
          | exact ⟨x3, a0, a1, a2, a3, c0, c1, c2, c3⟩
          | exact ⟨(hb8.cell (p := ⟨g12, 3, none⟩) hlt2).trans x3, (hb8.cell (p := ⟨b6, o6 + j * 4, none⟩) hb6l).trans a0, (hb8.cell (p := ⟨b6, o6 + j * 4 + 1, none⟩) hb6l).trans a1, (hb8.cell (p := ⟨b6, o6 + j * 4 + 2, none⟩) hb6l).trans a2, (hb8.cell (p := ⟨b6, o6 + j * 4 + 3, none⟩) hb6l).trans a3, (hb8.cell (p := ⟨b, off + j * 4, none⟩) hbl).trans c0, (hb8.cell (p := ⟨b, off + j * 4 + 1, none⟩) hbl).trans c1, (hb8.cell (p := ⟨b, off + j * 4 + 2, none⟩) hbl).trans c2, (hb8.cell (p := ⟨b, off + j * 4 + 3, none⟩) hbl).trans c3⟩) (first
          | (go_at_call 11; refine (same_any (.mk k1 n1 s1 ll) (.mk k1 n1 s1 ll) _ gA gB lo hi _ _ HRA2.out.drew hgB2 HRC2.out.drew (by show hi ≤ wr.heap.size; omega)).mono ?_; rintro e w8 ⟨rfl, hb8⟩; rw [hSB.out]))
        go_wp2
        have hw8 : Below wr.heap.size wr w8 := (Below.refl _ _).drew.trans hb8
        go_roundw
        case rel => exact ⟨j + 1, by omega, rfl, by go_num, (hw8.block g12 hlt2).trans HX2.out, HR2.out.below hw8 hgB2, by have := hw8.size; omega, HB2.out.trans (hw8.mono hzz), by have := hw8.size; omega⟩
        case measure => simp [intOf]; omega
      · have hje : j = l.length := by omega
        subst hje
        have hin : InC w g12 wr := ⟨HB2.out, x0, hlt2⟩
        obtain ⟨Ix, f, hne, hfx, hcl⟩ : ∃ (Ix : Type) (f : Ix → World), Nonempty Ix ∧ (∀ x, InC w g12 (f x)) ∧ (∀ W, InC w g12 W → ∃ x, W = f x) := ⟨{W : World // InC w g12 W}, Subtype.val, ⟨⟨wr, hin⟩⟩, fun x => x.2, fun W h => ⟨⟨W, h⟩, rfl⟩⟩
        have hc0 : ∀ x, (f x).cell? ⟨g12, 0, none⟩ = some (.int .i64 4) := fun x => (hfx x).2.1
        have HIN := Lib.hid hin; clear hin
        have HFX := Lib.hid hfx; clear hfx
        have HCL := Lib.hid hcl; clear hcl
        have HOn : ∀ x W, Below (f x).heap.size (f x) W → ∃ y, W = f y := fun x W hb => HCL.out W ((HFX.out x).on hb)
        have RI := rep_bare 0 n ByteArray.empty (by unfold I64; omega) HN.out.1 (by simp)
        have RO := rep_bare 1 o ByteArray.empty (by unfold I64; omega) HN.out.2.1 (by simp)
        have RS := rep_bare 2 0 s (by unfold I64; omega) (by unfold I64; omega) (by omega)
        have RE := rep_bare 3 code ByteArray.empty (by unfold I64; omega) HN.out.2.2 (by simp)
        have hzs : zz 2 s 0 ≤ 4096 := by unfold zz; rw [if_pos rfl]; omega
        have hz1 : ∀ k, k ≠ 2 → zz k ByteArray.empty 0 ≤ 4096 := fun k hk => by unfold zz; rw [if_neg hk]; omega
        have hpe : printed ByteArray.empty = true := rfl
        obtain ⟨aR, haR⟩ := hP 105
        obtain ⟨aS, haS⟩ := hP 103
        have HVI := Lib.hid (vres_fine (eD := eD) (eM := eM) (eR := eR) (eS := eS) (k := 0) (n := n) (s := ByteArray.empty) (hz1 0 (by omega)) (by simp [badRange]) (by simp [badShape, hpe]))
        obtain ⟨VE, c1, c2, hVE, hc1, hc2, hcE⟩ : ∃ VE, ∃ c1 c2 : Bool, Hid (vRes eD eM eR eS (.mk 3 code ByteArray.empty []) = VE) ∧ decide (0 ≤ code) = c1 ∧ decide (code ≤ 14) = c2 ∧ Hid ((VE = .nilIface ∧ c1 = true ∧ c2 = true) ∨ (VE = .iface 129 (.pointer (some aR)) ∧ c1 = false) ∨ (VE = .iface 129 (.pointer (some aR)) ∧ c1 = true ∧ c2 = false)) := by
          by_cases h1 : 0 ≤ code ∧ code ≤ 14
          · exact ⟨_, _, _, vres_fine (hz1 3 (by omega)) (by simp [badRange]; omega) (by simp [badShape, hpe]), rfl, rfl, .inl ⟨rfl, by simp; omega, by simp; omega⟩⟩
          · have hv := (vres_range (eD := eD) (eM := eM) (eR := eR) (eS := eS) (k := 3) (n := code) (s := ByteArray.empty) (hz1 3 (by omega)) (by simp [badRange]; omega)).trans haR
            by_cases h2 : code < 0
            · exact ⟨_, _, _, hv, rfl, rfl, .inr (.inl ⟨rfl, by simp; omega⟩)⟩
            · exact ⟨_, _, _, hv, rfl, rfl, .inr (.inr ⟨rfl, by simp; omega, by simp; omega⟩)⟩
        obtain ⟨VO, d1, d2, hVO, hd1, hd2, hcO⟩ : ∃ VO, ∃ d1 d2 : Bool, Hid (vRes eD eM eR eS (.mk 1 o ByteArray.empty []) = VO) ∧ decide (-2147483648 ≤ o) = d1 ∧ decide (o ≤ 2147483647) = d2 ∧ Hid ((VO = .nilIface ∧ d1 = true ∧ d2 = true) ∨ (VO = .iface 129 (.pointer (some aR)) ∧ d1 = false) ∨ (VO = .iface 129 (.pointer (some aR)) ∧ d1 = true ∧ d2 = false)) := by
          by_cases h1 : -2147483648 ≤ o ∧ o ≤ 2147483647
          · exact ⟨_, _, _, vres_fine (hz1 1 (by omega)) (by simp [badRange]; omega) (by simp [badShape, hpe]), rfl, rfl, .inl ⟨rfl, by simp; omega, by simp; omega⟩⟩
          · have hv := (vres_range (eD := eD) (eM := eM) (eR := eR) (eS := eS) (k := 1) (n := o) (s := ByteArray.empty) (hz1 1 (by omega)) (by simp [badRange]; omega)).trans haR
            by_cases h2 : o < -2147483648
            · exact ⟨_, _, _, hv, rfl, rfl, .inr (.inl ⟨rfl, by simp; omega⟩)⟩
            · exact ⟨_, _, _, hv, rfl, rfl, .inr (.inr ⟨rfl, by simp; omega, by simp; omega⟩)⟩
        obtain ⟨VS, bS, hVS, HPR, hcS⟩ : ∃ VS, ∃ bS : Bool, Hid (vRes eD eM eR eS (.mk 2 0 s []) = VS) ∧ Hid (printed s = bS) ∧ Hid ((VS = .nilIface ∧ bS = true) ∨ (VS = .iface 129 (.pointer (some aS)) ∧ bS = false)) := by
          by_cases hp : printed s = true
          · exact ⟨_, true, vres_fine hzs (by simp [badRange]) (by simp [badShape, hp]), hp, .inl ⟨rfl, rfl⟩⟩
          · exact ⟨_, false, (vres_shape hzs (by simp [badRange]) (by simp [badShape, hp])).trans haS, Bool.eq_false_iff.2 hp, .inr ⟨rfl, rfl⟩⟩
        have CI := Lib.hid (fun x => calls_toC (vI_any n (f x)) (HOn x))
        have CO := Lib.hid (fun x => calls_toC (vO_any o (f x)) (HOn x))
        have CS := Lib.hid (fun x => calls_toC (vS_any s (f x)) (HOn x))
        have CE := Lib.hid (fun x => calls_toC (vE_any code (f x)) (HOn x))
        have VVI := Lib.hid (fun x => calls_val (calls_toC (validE_any eD eM eR eS hP _ (f x) 0 0 _ (RI (f x)).out (Nat.zero_le _) (HE.out.below (HFX.out x).1 HE.out.size)) (HOn x)) HVI.out)
        have VVE := Lib.hid (fun x => calls_val (calls_toC (validE_any eD eM eR eS hP _ (f x) 0 0 _ (RE (f x)).out (Nat.zero_le _) (HE.out.below (HFX.out x).1 HE.out.size)) (HOn x)) hVE.out)
        have VVO := Lib.hid (fun x => calls_val (calls_toC (validE_any eD eM eR eS hP _ (f x) 0 0 _ (RO (f x)).out (Nat.zero_le _) (HE.out.below (HFX.out x).1 HE.out.size)) (HOn x)) hVO.out)
        have VVS := Lib.hid (fun x => calls_val (calls_toC (validE_any eD eM eR eS hP _ (f x) 0 0 _ (RS (f x)).out (Nat.zero_le _) (HE.out.below (HFX.out x).1 HE.out.size)) (HOn x)) hVS.out)
        have CPR : Hid (∀ x, Calls Tryd.prog 17 #[.string s] (f x) fun e W => e = .returned (.bool bS) ∧ ∃ y, W = f y) := fun x => (printed_any s (f x) (by omega)).mono (fun e W h => ⟨h.1.trans (by rw [HPR.out]), x, by rw [h.2]⟩)
        clear HOn RI RO RS RE hzs hz1 hpe haR haS HVI hVE hVO hVS HPR HX2 HR2 HB2 HALL HE H HN hP
        go_upto_region 17 with fail
        simp only [List.append]
        refine wp_region_class (C := fun W => ∃ x : Ix, W = f x) (by kernel_rfl) (lexB_fast (A := tabA) (D := tabD) (L := tabL) (by kernel_rfl) (by kernel_rfl) (by kernel_rfl) (by kernel_rfl) tab_ok) (HCL.out _ ⟨HIN.out.1.drew, HIN.out.2.1, HIN.out.2.2⟩) ?_
        iterate 65 (go_big_quiet_step (first | with_reducible exact CI.out _ | with_reducible exact CO.out _ | with_reducible exact CS.out _ | with_reducible exact CE.out _ | with_reducible exact VVI.out _))
        obtain ⟨rfl, rfl, rfl⟩ | ⟨rfl, rfl⟩ | ⟨rfl, rfl, rfl⟩ := hcE.out
        all_goals clear hcE
        all_goals iterate 13 (go_big_quiet_step (first | with_reducible exact CE.out _ | with_reducible exact VVE.out _))
        all_goals obtain ⟨rfl, rfl, rfl⟩ | ⟨rfl, rfl⟩ | ⟨rfl, rfl, rfl⟩ := hcO.out
        all_goals clear hcO
        all_goals iterate 13 (go_big_quiet_step (first | with_reducible exact CO.out _ | with_reducible exact VVO.out _))
        all_goals obtain ⟨rfl, rfl⟩ | ⟨rfl, rfl⟩ := hcS.out
        all_goals clear hcS
        all_goals iterate 9 (go_big_quiet_step (first | with_reducible exact CS.out _ | with_reducible exact VVS.out _ | with_reducible exact CPR.out _))
        all_goals refine wpQuiet_nil ?_
        all_goals intro W' hw'
        all_goals obtain ⟨y, rfl⟩ := hw'
        all_goals go_wp2
        all_goals go_ret
        all_goals exact ⟨rfl, (HFX.out y).1⟩

end Go.Proofs.YtcinhndidkllbaaDoor
