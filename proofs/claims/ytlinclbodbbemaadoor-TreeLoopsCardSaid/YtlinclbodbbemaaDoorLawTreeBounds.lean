/- The walk of the statement on bounds. -/
import Derived.Test.YtlinclbodbbemaaDoorTm
import Derived.Test.YtlinclbodbbemaaDoorLexNb
import Derived.Test.YtlinclbodbbemaaDoorSeeIs
namespace Go.Proofs.YtlinclbodbbemaaDoor
open Go.RowKit
set_option maxRecDepth 100000

/-- So many Nots around a Lit. -/
def notN : Nat → Nd
  | 0 => .mk 1 0 ⟨#[]⟩ zV []
  | i + 1 => .mk 4 0 ⟨#[]⟩ zV [notN i]
theorem notN_cnt : ∀ i, cnt (notN i) = i + 1
  | 0 => rfl
  | i + 1 => by rw [notN, cnt, cntAll, cntAll, notN_cnt i]; omega
theorem notN_dp : ∀ i, dpN (notN i) = i + 1
  | 0 => rfl
  | i + 1 => by rw [notN, dpN, dpNAll, dpNAll, notN_dp i]; omega
theorem shape_lit0 : shapeBad 1 3 false ⟨#[]⟩ zV 0 = false := by kernel_rfl
theorem shape_not0 : shapeBad 4 3 false ⟨#[]⟩ zV 1 = false := by kernel_rfl
theorem notN_ck : ∀ i, ckN (notN i) 3 false = none
  | 0 => by
    rw [notN, ckN, List.length_nil, shape_lit0, if_neg (by simp), if_neg (by decide), ckL]
  | i + 1 => by
    rw [notN, ckN, show ([notN i] : List Nd).length = 1 from rfl, shape_not0, if_neg (by simp), if_neg (by decide), ckL]
    have h : placeInN 4 3 ((0 : Nat) : Int) (((1 : Nat) : Int) - 1) = 3 := by decide
    have h2 : loopIn 4 false = false := by decide
    rw [h, h2, notN_ck i, ckL]
theorem notN_vld (i : Nat) : vldF [notN i] 3 = if 40 < i + 1 then (if 4096 < i + 1 then .bare 3 else .bare 11) else .ok := by
  unfold vldF
  have h1 : cntAll [notN i] = i + 1 := by rw [cntAll, cntAll, notN_cnt]
  have h2 : dpNAll [notN i] = i + 1 := by rw [dpNAll, dpNAll, notN_dp]; omega
  rw [h1, h2]
  by_cases h3 : 4096 < i + 1
  · rw [if_pos h3, if_pos (by omega), if_pos h3]
  · rw [if_neg h3, if_neg h3]
    by_cases h4 : 40 < i + 1
    · rw [if_pos h4, if_pos h4]
    · rw [if_neg h4, if_neg h4, firstF, notN_ck, firstF]
def retN : Nd := .mk 47 0 ⟨#[]⟩ zV []
theorem shape_ret : shapeBad 47 0 false ⟨#[]⟩ zV 0 = false := by kernel_rfl
theorem retN_ck : ckN retN 0 false = none := by
  rw [retN, ckN, List.length_nil, shape_ret, if_neg (by simp), if_neg (by decide), ckL]
theorem rets_cnt : ∀ i, cntAll (List.replicate i retN) = i
  | 0 => rfl
  | i + 1 => by rw [List.replicate_succ, cntAll, rets_cnt i, show cnt retN = 1 from rfl]; omega
theorem rets_dp : ∀ i, dpNAll (List.replicate i retN) ≤ 1
  | 0 => by simp [dpNAll]
  | i + 1 => by rw [List.replicate_succ, dpNAll, show dpN retN = 1 from rfl]; have := rets_dp i; omega
theorem rets_first : ∀ i, firstF (List.replicate i retN) 0 = .ok
  | 0 => rfl
  | i + 1 => by rw [List.replicate_succ, firstF, retN_ck]; exact rets_first i
theorem rets_vld (i : Nat) : vldF (List.replicate i retN) 0 = if 4096 < i then .bare 3 else .ok := by
  unfold vldF
  rw [rets_cnt]
  by_cases h : 4096 < i
  · rw [if_pos h, if_pos h]
  · rw [if_neg h, if_neg h, if_neg (by have := rets_dp i; omega), rets_first]

theorem one_row' {w : World} {lo hi : Nat} {t : Nd} {c0 c1 c2 c3 c4 c5 c6 c7 : Value} (h : NRep w lo hi t (.agg #[c0, c1, c2, c3, c4, c5, c6, c7])) (g : Nat) (ty : TypeId) (hg : hi ≤ g) (hgl : lo ≤ g)
    (hb : w.heap[g]? = some (.cells #[c0, c1, c2, c3, c4, c5, c6, c7] ty (0, 0))) : NAll w lo (g + 1) [t] (some ⟨g, 0, none⟩) := by
  obtain ⟨x0, x1, x2, x3, x4, x5, x6, x7, _⟩ := box8_in _ _ _ _ _ _ _ _ _ _ _ hb
  have hadd : ∀ j, (⟨g, 0, none⟩ : Addr).add j = ⟨g, j, none⟩ := fun j => by unfold Addr.add; split <;> simp_all
  unfold NAll
  refine ⟨⟨g, 0, none⟩, _, _, _, _, _, _, _, _, rfl, hgl, Nat.lt_succ_self _, x0, ?_, ?_, ?_, ?_, ?_, ?_, ?_, h.wide (Nat.le_refl _) (by omega), NAll.nil _ _ _ _⟩
  all_goals (rw [hadd]; assumption)
/-- A box with a node, whose parts lie behind it. -/
structure NBx (w wr : World) (g : Nat) (t : Nd) (o : Int) (p : Option Addr) (len cap : Nat) : Prop where
  bel : Below w.heap.size w wr
  box : wr.heap[g]? = some (.cells #[.int .i64 o, .int .i64 0, .string ⟨#[]⟩, .int .i64 0, .int .i64 0, .string ⟨#[]⟩, .slice none 0 0, .slice p len cap] 39 (0, 0))
  rep : NRep wr (g + 1) wr.heap.size t (.agg #[.int .i64 o, .int .i64 0, .string ⟨#[]⟩, .int .i64 0, .int .i64 0, .string ⟨#[]⟩, .slice none 0 0, .slice p len cap])
theorem NBx.step {w wr w' : World} {g : Nat} {t : Nd} {o : Int} {p : Option Addr} {len cap : Nat} (h : NBx w wr g t o p len cap) (hb : Below wr.heap.size wr w') : NBx w w' g t o p len cap :=
  ⟨h.bel.trans (hb.mono h.bel.size), heap_old h.box hb, h.rep.keep (Nat.le_refl _) hb.size (fun _ _ ha => hb.cell ha)⟩
/-- The node of the box within another one. -/
theorem NBx.wrap {w wr : World} {g : Nat} {t : Nd} {o : Int} {p : Option Addr} {len cap : Nat} (h : NBx w wr g t o p len cap) (hg : w.heap.size ≤ g) (o' : Int) (ho : I64 o') :
    NBx w ((set8 wr g 0 (.int .i64 o') (.int .i64 0) (.string ⟨#[]⟩) (.int .i64 0) (.int .i64 0) (.string ⟨#[]⟩) (.slice none 0 0) (.slice (some ⟨wr.heap.size, 0, none⟩) 1 1)).alloc (.cells #[.int .i64 o, .int .i64 0, .string ⟨#[]⟩, .int .i64 0, .int .i64 0, .string ⟨#[]⟩, .slice none 0 0, .slice p len cap] 39)) g (.mk o' 0 ⟨#[]⟩ zV [t]) o' (some ⟨wr.heap.size, 0, none⟩) 1 1 := by
  have hgw := heap_lt h.box
  have hbel := below_set8 (o := 0) h.bel hg (.int .i64 o') (.int .i64 0) (.string ⟨#[]⟩) (.int .i64 0) (.int .i64 0) (.string ⟨#[]⟩) (.slice none 0 0) (.slice (some ⟨wr.heap.size, 0, none⟩) 1 1)
  have hbox := heap_set8_box h.box (.int .i64 o') (.int .i64 0) (.string ⟨#[]⟩) (.int .i64 0) (.int .i64 0) (.string ⟨#[]⟩) (.slice none 0 0) (.slice (some ⟨wr.heap.size, 0, none⟩) 1 1)
  have hrep := h.rep.keep8 (g := g) (o := 0) (Or.inl (Nat.lt_succ_self g)) (.int .i64 o') (.int .i64 0) (.string ⟨#[]⟩) (.int .i64 0) (.int .i64 0) (.string ⟨#[]⟩) (.slice none 0 0) (.slice (some ⟨wr.heap.size, 0, none⟩) 1 1)
  have hz := size_set8 wr g 0 (.int .i64 o') (.int .i64 0) (.string ⟨#[]⟩) (.int .i64 0) (.int .i64 0) (.string ⟨#[]⟩) (.slice none 0 0) (.slice (some ⟨wr.heap.size, 0, none⟩) 1 1)
  generalize (set8 wr g 0 (.int .i64 o') (.int .i64 0) (.string ⟨#[]⟩) (.int .i64 0) (.int .i64 0) (.string ⟨#[]⟩) (.slice none 0 0) (.slice (some ⟨wr.heap.size, 0, none⟩) 1 1)) = W1 at *
  have hnew := heap_alloc_new W1 (.cells #[.int .i64 o, .int .i64 0, .string ⟨#[]⟩, .int .i64 0, .int .i64 0, .string ⟨#[]⟩, .slice none 0 0, .slice p len cap] 39)
  rw [hz] at hnew
  have hrep2 := hrep.alloc (by omega) (.cells #[.int .i64 o, .int .i64 0, .string ⟨#[]⟩, .int .i64 0, .int .i64 0, .string ⟨#[]⟩, .slice none 0 0, .slice p len cap] 39)
  have hone := one_row' hrep2 wr.heap.size _ (Nat.le_refl _) (by omega) hnew
  have hm : NRep (W1.alloc (.cells #[.int .i64 o, .int .i64 0, .string ⟨#[]⟩, .int .i64 0, .int .i64 0, .string ⟨#[]⟩, .slice none 0 0, .slice p len cap] 39)) (g + 1) (wr.heap.size + 1) (.mk o' 0 ⟨#[]⟩ zV [t]) (.agg #[.int .i64 o', .int .i64 0, .string ⟨#[]⟩, .int .i64 0, .int .i64 0, .string ⟨#[]⟩, .slice none 0 0, .slice (some ⟨wr.heap.size, 0, none⟩) 1 1]) :=
    NRep.mk_ (l := [t]) ho (by unfold I64; omega) (Nat.le_refl 1) (by simp) hone
  exact ⟨hbel.alloc (by rw [hz]; exact h.bel.size) _, heap_alloc_ _ _ _ _ hbox, by rw [World.size_alloc, hz]; exact hm⟩

set_option maxHeartbeats 2000000 in
theorem bounds_deep (ad : Nat → Addr) (x : Int) (hx : I64 x) (w : World) (hS : Sents w ad) :
    Calls Tryd.prog 8 #[.int .i64 x, .bool true] w fun e w' => e = .returned (.bool true) ∧ Below w.heap.size w w' := by
  have HS := Lib.hid (fun W (hb : Below w.heap.size w W) => hS.below hb)
  have HF1 := Lib.hid (first7_any ad w hS)
  clear hS
  obtain ⟨L, hL⟩ : ∃ L : Nat, x % 60 = (L : Int) := ⟨(x % 60).toNat, by omega⟩
  have hL2 : L < 60 := by omega
  have HNM := Lib.hid (fun w => number6_any x 60 w hx (by omega) (by omega))
  rw [hL] at HNM
  clear hx hL
  go_enter Tryd.func8, Tryd.ntmps8
  go_wp2_with (first
    | (go_at_call 15; refine HF1.out.mono ?_; rintro e w1 ⟨rfl, hb1⟩; have HB1 := Lib.hid hb1; clear hb1)
    | (go_at_call 12; refine (HNM.out _).mono ?_; rintro e w2 ⟨rfl, rfl⟩))
  have hx0 := heap_alloc_new w1 (.cells #[.int .i64 1, .int .i64 0, .string ⟨#[]⟩, .int .i64 0, .int .i64 0, .string ⟨#[]⟩, .slice none 0 0, .slice none 0 0] 39)
  have HN0 : Hid (NBx w (w1.alloc (.cells #[.int .i64 1, .int .i64 0, .string ⟨#[]⟩, .int .i64 0, .int .i64 0, .string ⟨#[]⟩, .slice none 0 0, .slice none 0 0] 39)) w1.heap.size (notN 0) 1 none 0 0) :=
    Lib.hid ⟨HB1.out.alloc HB1.out.size _, hx0, by
      have := NRep.mk_ (w := w1.alloc (.cells #[.int .i64 1, .int .i64 0, .string ⟨#[]⟩, .int .i64 0, .int .i64 0, .string ⟨#[]⟩, .slice none 0 0, .slice none 0 0] 39)) (lo := w1.heap.size + 1) (hi := (w1.alloc (.cells #[.int .i64 1, .int .i64 0, .string ⟨#[]⟩, .int .i64 0, .int .i64 0, .string ⟨#[]⟩, .slice none 0 0, .slice none 0 0] 39)).heap.size) (o := 1) (n := 0) (l := []) (p := none) (cap := 0) (by unfold I64; omega) (by unfold I64; omega) (Nat.le_refl _) (by simp) (NAll.nil _ _ _ _)
      exact this⟩
  have hg1 := HB1.out.size
  clear hx0
  generalize w1.alloc (.cells #[.int .i64 1, .int .i64 0, .string ⟨#[]⟩, .int .i64 0, .int .i64 0, .string ⟨#[]⟩, .slice none 0 0, .slice none 0 0] 39) = W0 at *
  generalize w1.heap.size = g at *
  go_loopw [7] (fun i wr => ∃ (j : Nat) (o : Int) (p : Option Addr) (len cap : Nat), j ≤ L ∧ i = .int .i64 ((j : Int) + 1) ∧ Hid (NBx w wr g (notN j) o p len cap)) (fun i _ => L + 1 - (intOf i).toNat)
  case atStart => exact ⟨0, 1, none, 0, 0, Nat.zero_le _, rfl, HN0⟩
  case round =>
    obtain ⟨j, o, p, len, cap, hj, rfl, HN⟩ := hrel
    obtain ⟨x0, x1, x2, x3, x4, x5, x6, x7, xf⟩ := box8_in _ _ _ _ _ _ _ _ _ _ _ HN.out.box
    have hgw := heap_lt HN.out.box
    by_cases hjL : j < L
    · have hjI : (j : Int) + 1 < (L : Int) + 1 := by omega
      have xf0 := xf 0
      have xf1 := xf 1
      have xf2 := xf 2
      have xf3 := xf 3
      have xf4 := xf 4
      have xf5 := xf 5
      have xf6 := xf 6
      have xf7 := xf 7
      have HNX := Lib.hid (HN.out.wrap hg1 4 (by unfold I64; omega))
      clear xf
      go_wp2
      go_roundw
      case rel =>
        exact ⟨j + 1, 4, _, 1, 1, by omega, by go_num, HNX⟩
      case measure => simp [intOf]; omega
    · have hjI : ¬ (j : Int) + 1 < (L : Int) + 1 := by omega
      have hje : j = L := by omega
      subst hje
      have HC := Lib.hid (texpr_any ad (notN j) _ wr (g + 1) wr.heap.size HN.out.rep (by omega) (Nat.le_refl _) (HS.out _ HN.out.bel))
      have HV := Lib.hid (notN_vld j)
      by_cases h40 : 40 < j + 1
      · have hv : vldF [notN j] 3 = .bare 11 := by rw [HV.out, if_pos h40, if_neg (by omega)]
        rw [hv] at HC
        have h40i : (40 : Int) < (j : Int) + 1 := by omega
        have HI := Lib.hid (fun (W : World) (h : Sents W ad) => (show Calls Tryd.prog 38 #[ev (ad 11), .int .i64 112] W fun e w' => e = .returned (.bool true) ∧ Below W.heap.size W w' from is_any ad (some 11) (fun k h => by cases h; omega) 112 W h))
        clear hv h40 xf
        go_wp2_with (first
          | (go_at_call 21; refine HC.out.mono ?_; rintro e w3 ⟨hb3, rfl⟩; have HB3 := Lib.hid (HN.out.bel.trans (hb3.mono HN.out.bel.size)); clear hb3)
          | (go_at_call 38; refine (HI.out _ (HS.out _ HB3.out)).mono ?_; rintro e w4 ⟨rfl, hb4⟩; have HB4 := Lib.hid (HB3.out.trans (hb4.mono HB3.out.size)); clear hb4))
        go_ret
        exact ⟨rfl, HB4.out⟩
      · have hv : vldF [notN j] 3 = .ok := by rw [HV.out, if_neg h40]
        rw [hv] at HC
        have h40i : ¬ (40 : Int) < (j : Int) + 1 := by omega
        have HDp := Lib.hid (fun (W : World) (gg : Nat) (ty : TypeId) (hr : NRep W (g + 1) wr.heap.size (notN j) (.agg #[.int .i64 o, .int .i64 0, .string ⟨#[]⟩, .int .i64 0, .int .i64 0, .string ⟨#[]⟩, .slice none 0 0, .slice p len cap])) (h1 : wr.heap.size ≤ gg) (hx : W.heap[gg]? = some (.cells #[.int .i64 o, .int .i64 0, .string ⟨#[]⟩, .int .i64 0, .int .i64 0, .string ⟨#[]⟩, .slice none 0 0, .slice p len cap] ty (0, 0))) =>
          (show Calls Tryd.prog 27 #[.slice (some ⟨gg, 0, none⟩) 1 1] W fun e w' => e = .returned (.int .i64 ((j : Int) + 1)) ∧ Below W.heap.size W w' from by
            have h2 : dpNAll [notN j] = j + 1 := by rw [dpNAll, dpNAll, notN_dp]; omega
            have h3 : cntAll [notN j] = j + 1 := by rw [cntAll, cntAll, notN_cnt]
            have := deep_any [notN j] W (g + 1) (gg + 1) (some ⟨gg, 0, none⟩) 1 (one_row' hr gg ty h1 (by omega) hx) (heap_lt hx) (by simp) (by simp) (by rw [h3]; omega)
            rw [h2] at this
            have e : ((j + 1 : Nat) : Int) = (j : Int) + 1 := by omega
            rw [e] at this
            exact this))
        clear hv h40 xf
        go_wp2_with (first
          | (go_at_call 21; refine HC.out.mono ?_; rintro e w3 ⟨hb3, rfl⟩; have HB3 := Lib.hid (HN.out.bel.trans (hb3.mono HN.out.bel.size)); have HN3 := Lib.hid (HN.out.step hb3); obtain ⟨y0, y1, y2, y3, y4, y5, y6, y7, _⟩ := box8_in _ _ _ _ _ _ _ _ _ _ _ HN3.out.box; have HZ := Lib.hid hb3.size; have hgw3 := heap_lt HN3.out.box; have HR3 := Lib.hid (HN.out.rep.below hb3 (Nat.le_refl _)); clear hb3)
          | (go_at_call 27; refine (HDp.out _ w3.heap.size _ (HR3.out.alloc HZ.out _) HZ.out (heap_alloc_new w3 _)).mono ?_; rintro e w4 ⟨rfl, hb4⟩; have HB4 := Lib.hid ((HB3.out.alloc HB3.out.size _).trans (hb4.mono (by have := HB3.out.size; simp; omega))); clear hb4))
        go_ret
        exact ⟨rfl, HB4.out⟩
theorem Tryd.info_Nd : (Tryd.prog.info? 39).map (fun i => (i.zero, i.size, i.bytes)) = some (some (.agg #[.int .i64 0, .int .i64 0, .string ⟨#[]⟩, .int .i64 0, .int .i64 0, .string ⟨#[]⟩, .slice none 0 0, .slice none 0 0]), 8, 112) := by kernel_rfl
theorem mknodes (n : Nat) (h : n ≤ 1000000) (z : Int) (hz : z = (n : Int)) (W : World) : (Instr.makeSlice 37 (.int .i64 z) (.int .i64 z)).run Tryd.prog W = .ok (.slice (some ⟨W.heap.size, 0, none⟩) n n) (W.alloc (.cells (madeCells #[.int .i64 0, .int .i64 0, .string ⟨#[]⟩, .int .i64 0, .int .i64 0, .string ⟨#[]⟩, .slice none 0 0, .slice none 0 0] (n * 8)) 39)) := by
  subst hz
  obtain ⟨i0, hi0, hz0, hz1, hz2⟩ := info_parts Tryd.info_Nd
  have h := run_make (P := Tryd.prog) W 37 39 i0 _ Tryd.underlying37 hi0 hz0 .i64 .i64 (n : Int) (n : Int) (by omega) (by omega) (by rw [hz2]; omega) (by omega)
  rw [hz1] at h
  simpa [Value.cells] using h

set_option maxHeartbeats 2000000 in
theorem bounds_wide (ad : Nat → Addr) (x : Int) (hx : I64 x) (w : World) (hS : Sents w ad) :
    Calls Tryd.prog 8 #[.int .i64 x, .bool false] w fun e w' => e = .returned (.bool true) ∧ Below w.heap.size w w' := by
  have HS := Lib.hid (fun W (hb : Below w.heap.size w W) => hS.below hb)
  have HF1 := Lib.hid (first7_any ad w hS)
  clear hS
  obtain ⟨L, hL⟩ : ∃ L : Nat, x % 6000 = (L : Int) := ⟨(x % 6000).toNat, by omega⟩
  have hL2 : L < 6000 := by omega
  have HNM := Lib.hid (fun w => number6_any x 6000 w hx (by omega) (by omega))
  rw [hL] at HNM
  clear hx hL
  have hmk := mknodes L (by omega) (L : Int) rfl
  go_enter Tryd.func8, Tryd.ntmps8
  go_wp2_with (first
    | (go_at_call 15; refine HF1.out.mono ?_; rintro e w1 ⟨rfl, hb1⟩; have HB1 := Lib.hid hb1; clear hb1)
    | (go_at_call 12; refine (HNM.out _).mono ?_; rintro e w2 ⟨rfl, rfl⟩))
  have HP0 := Lib.hid (NPart.start w1 (madeCells #[.int .i64 0, .int .i64 0, .string ⟨#[]⟩, .int .i64 0, .int .i64 0, .string ⟨#[]⟩, .slice none 0 0, .slice none 0 0] (L * 8)) (List.replicate L retN) (by rw [size_madeCells, List.length_replicate]))
  have HB0 := Lib.hid (HB1.out.alloc HB1.out.size (.cells (madeCells #[.int .i64 0, .int .i64 0, .string ⟨#[]⟩, .int .i64 0, .int .i64 0, .string ⟨#[]⟩, .slice none 0 0, .slice none 0 0] (L * 8)) 39))
  have hg1 := HB1.out.size
  clear hmk
  generalize w1.alloc (.cells (madeCells #[.int .i64 0, .int .i64 0, .string ⟨#[]⟩, .int .i64 0, .int .i64 0, .string ⟨#[]⟩, .slice none 0 0, .slice none 0 0] (L * 8)) 39) = W0 at *
  generalize w1.heap.size = g at *
  go_loopw [10] (fun i wr => ∃ j : Nat, j ≤ L ∧ i = .int .i64 j ∧ Hid (NPart wr g (List.replicate L retN) j) ∧ Hid (Below w.heap.size w wr)) (fun i _ => L - (intOf i).toNat)
  case atStart => exact ⟨0, Nat.zero_le _, rfl, HP0, HB0⟩
  case round =>
    obtain ⟨j, hj, rfl, HP, HB⟩ := hrel
    have hgw := HP.out.lt
    by_cases hjL : j < L
    · have hjl : j < (List.replicate L retN).length := by rw [List.length_replicate]; exact hjL
      obtain ⟨⟨u0, hu0⟩, ⟨u1, hu1⟩, ⟨u2, hu2⟩, ⟨u3, hu3⟩, ⟨u4, hu4⟩, ⟨u5, hu5⟩, ⟨u6, hu6⟩, ⟨u7, hu7⟩, hfz⟩ := HP.out.room j hjl
      have hf0 := hfz (j * 8)
      have hf1 := hfz (j * 8 + 1)
      have hf2 := hfz (j * 8 + 2)
      have hf3 := hfz (j * 8 + 3)
      have hf4 := hfz (j * 8 + 4)
      have hf5 := hfz (j * 8 + 5)
      have hf6 := hfz (j * 8 + 6)
      have hf7 := hfz (j * 8 + 7)
      have HPX := Lib.hid (HP.out.step hjl (.int .i64 47) (.int .i64 0) (.string ⟨#[]⟩) (.int .i64 0) (.int .i64 0) (.string ⟨#[]⟩) (.slice none 0 0) (.slice none 0 0) (by
        rw [List.getElem_replicate]
        exact NRep.mk_ (l := []) (by unfold I64; omega) (by unfold I64; omega) (Nat.le_refl _) (by simp) (NAll.nil _ _ _ _)))
      have HBX := Lib.hid (below_set8 (o := j * 8) HB.out hg1 (.int .i64 47) (.int .i64 0) (.string ⟨#[]⟩) (.int .i64 0) (.int .i64 0) (.string ⟨#[]⟩) (.slice none 0 0) (.slice none 0 0))
      clear hfz hjl
      go_wp2
      go_roundw
      case rel => exact ⟨j + 1, by omega, by go_num, HPX, HBX⟩
      case measure => simp [intOf]; omega
    · have hje : j = L := by omega
      subst hje
      have hl : (List.replicate j retN).length = j := List.length_replicate
      have hdone : NAll wr g wr.heap.size (List.replicate j retN) (some ⟨g, 0, none⟩) := NPart.done (by rw [hl]; exact HP.out)
      have HC := Lib.hid (tvalid_any ad _ wr g wr.heap.size (some ⟨g, 0, none⟩) j hdone (Nat.le_refl _) (by rw [hl]; omega) (by rw [hl]; omega) (HS.out _ HB.out))
      have HCn := Lib.hid (fun (W : World) (hb : Below wr.heap.size wr W) => count_any _ W g wr.heap.size (some ⟨g, 0, none⟩) j (hdone.below hb (Nat.le_refl _)) hb.size (by rw [hl]; omega) (by rw [hl]; omega) (by rw [rets_cnt]; omega))
      rw [hl, rets_vld] at HC
      rw [hl, rets_cnt] at HCn
      clear hdone hl
      by_cases h40 : 4096 < j
      · rw [if_pos h40] at HC
        have h40i : (4096 : Int) < (j : Int) := by omega
        have HI := Lib.hid (fun (W : World) (h : Sents W ad) => (show Calls Tryd.prog 38 #[ev (ad 3), .int .i64 104] W fun e w' => e = .returned (.bool true) ∧ Below W.heap.size W w' from is_any ad (some 3) (fun k h => by cases h; omega) 104 W h))
        clear h40
        go_wp2_with (first
          | (go_at_call 19; refine HC.out.mono ?_; rintro e w3 ⟨hb3, rfl⟩; have HB3 := Lib.hid (HB.out.trans (hb3.mono HB.out.size)); clear hb3)
          | (go_at_call 38; refine (HI.out _ (HS.out _ HB3.out)).mono ?_; rintro e w4 ⟨rfl, hb4⟩; have HB4 := Lib.hid (HB3.out.trans (hb4.mono HB3.out.size)); clear hb4))
        go_ret
        exact ⟨rfl, HB4.out⟩
      · rw [if_neg h40] at HC
        have h40i : ¬ (4096 : Int) < (j : Int) := by omega
        clear h40
        go_wp2_with (first
          | (go_at_call 19; refine HC.out.mono ?_; rintro e w3 ⟨hb3, rfl⟩; have HB3 := Lib.hid (HB.out.trans (hb3.mono HB.out.size)); have HBB3 := Lib.hid hb3; clear hb3)
          | (go_at_call 25; refine (HCn.out _ HBB3.out).mono ?_; rintro e w4 ⟨rfl, hb4⟩; have HB4 := Lib.hid (HB3.out.trans (hb4.mono HB3.out.size)); clear hb4))
        go_ret
        exact ⟨rfl, HB4.out⟩
theorem bounds_all (ad : Nat → Addr) (x : Int) (b : Bool) (hx : I64 x) (w : World) (hS : Sents w ad) :
    Calls Tryd.prog 8 #[.int .i64 x, .bool b] w fun e w' => e = .returned (.bool true) ∧ Below w.heap.size w w' := by
  cases b
  · exact bounds_wide ad x hx w hS
  · exact bounds_deep ad x hx w hS
end Go.Proofs.YtlinclbodbbemaaDoor
