/- The walk of the statement on sizes: whatever the numbers, it answers true. -/
import Derived.Test.YtaogcllghlgbiaaDoorValid
import Derived.Laws.BytesString
import Derived.Deep.DeepCutAuto
import Derived.Test.YtaogcllghlgbiaaDoorDeep
namespace Go.Proofs.YtaogcllghlgbiaaDoor
open Go.RowKit

/-- So many lists, one in the other, round the Int 3. -/
def nest : Nat → T
  | 0 => .mk 0 3 ByteArray.empty []
  | n + 1 => mkList [nest n]
theorem nest_sz : ∀ n, sz (nest n) = n + 1
  | 0 => by simp [nest, sz, szAll]
  | n + 1 => by rw [nest, mkList, sz, szAll, szAll, nest_sz n]; simp; omega

theorem Tryd.info_B : (Tryd.prog.info? 5).map (fun i => (i.zero, i.size, i.bytes)) = some (some (.int .u8 0), 1, 1) := by kernel_rfl
theorem nest_vdp : ∀ n, vdp (nest n) = n + 1
  | 0 => by simp [nest, vdp, vdpAll]
  | n + 1 => by rw [nest, mkList, vdp, vdpAll, vdpAll, nest_vdp n]; omega
theorem nest_odd : ∀ (n : Nat) (d z : Int), 0 ≤ z → z + n + 1 ≤ 4096 → (odd (nest n) d z).1 = if 40 < d + n then 112 else 0
  | 0, d, z, h0, h1 => by
    by_cases hd : 40 < d
    · rw [nest, odd]; simp [hd]
    · rw [nest, odd_fine (by omega) (by unfold zz; simp; omega) (by simp [badRange]) (by simp [badShape]; rfl), oddAll]; simp [hd]
  | n + 1, d, z, h0, h1 => by
    by_cases hd : 40 < d
    · rw [nest, mkList, odd]; simp [hd]; omega
    · have hz : zz 4 ByteArray.empty z = z + 1 := by unfold zz; rw [if_neg (by omega)]
      rw [nest, mkList, odd_fine (by omega) (by rw [hz]; omega) (by simp [badRange]) (by simp [badShape]; rfl), hz, oddAll]
      have ih := nest_odd n (d + 1) (z + 1) (by omega) (by omega)
      by_cases hc : 40 < d + 1 + n
      · rw [if_pos (by rw [ih, if_pos hc]; omega), ih, if_pos hc, if_pos (by omega)]
      · rw [if_neg (by rw [ih, if_neg hc]; simp), oddAll, if_neg (by omega)]
/-- The first j of X bytes are x. -/
def Xs (w : World) (gb X j : Nat) : Prop := ∃ cs : Array Value, w.heap[gb]? = some (.cells cs 5 (0, 0)) ∧ cs.size = X ∧ ∀ i, i < j → cs[i]? = some (.int .u8 120)
theorem Xs.room {w : World} {gb X j : Nat} (h : Xs w gb X j) (i : Nat) (hi : i < X) : ∃ u, w.cell? ⟨gb, i, none⟩ = some u ∧ w.frozen? ⟨gb, i, none⟩ = false := by
  obtain ⟨cs, h1, h2, _⟩ := h
  exact ⟨cs[i]'(by omega), (cell_of_row _ _ i _ _ _ h1).trans (Array.getElem?_eq_getElem (by omega)), by simp [World.frozen?, h1]⟩
theorem Xs.step {w : World} {gb X j : Nat} (h : Xs w gb X j) (hj : j < X) : Xs (w.setCell ⟨gb, j, none⟩ (.int .u8 120)) gb X (j + 1) := by
  obtain ⟨cs, h1, h2, h3⟩ := h
  refine ⟨cs.setIfInBounds j (.int .u8 120), by simp [World.setCell, Array.getElem?_modify, h1], by simpa using h2, fun i hi => ?_⟩
  by_cases e : i = j
  · subst e; simp [Array.getElem?_setIfInBounds]; omega
  · rw [Array.getElem?_setIfInBounds_ne (by omega)]; exact h3 i (by omega)
/-- So many x. -/
def xstr (X : Nat) : ByteArray := ((List.range X).map fun _ => (120 : Int)).foldl (fun r n => r.push (UInt8.ofNat n.toNat)) ByteArray.empty
theorem xstr_list (X : Nat) : (xstr X).data.toList = List.replicate X 120 := by
  have h : ∀ (X : Nat) (r : ByteArray), (((List.range X).map fun _ => (120 : Int)).foldl (fun r n => r.push (UInt8.ofNat n.toNat)) r).data.toList = r.data.toList ++ List.replicate X 120 := by
    intro X
    induction X with
    | zero => intro r; simp
    | succ X ih =>
      intro r
      rw [List.range_succ, List.map_append, List.foldl_append, List.replicate_succ']
      simp only [List.map_cons, List.map_nil, List.foldl_cons, List.foldl_nil]
      rw [← List.append_assoc, ← ih r]
      simp [ByteArray.push]
  have := h X ByteArray.empty
  simpa [xstr] using this
theorem xstr_size (X : Nat) : (xstr X).size = X := by
  have := congrArg List.length (xstr_list X)
  simpa using this
theorem xstr_printed (X : Nat) : printed (xstr X) = true := by
  unfold printed
  rw [xstr_list]
  induction X with
  | zero => rfl
  | succ X ih => rw [List.replicate_succ, printedL, ih]; rfl
theorem xstr_odd (X : Nat) (h : X < 6000) : (odd (.mk 2 0 (xstr X) []) 1 0).1 = if 4096 < (X : Int) + 1 then 104 else 0 := by
  have hz : zz 2 (xstr X) 0 = (X : Int) + 1 := by unfold zz; rw [if_pos rfl, xstr_size]; omega
  by_cases hc : 4096 < (X : Int) + 1
  · rw [odd_104 (by omega) (by rw [hz]; exact hc), if_pos hc]
  · rw [odd_fine (by omega) (by rw [hz]; omega) (by simp [badRange]) (by simp [badShape, xstr_printed]), oddAll, if_neg hc]
theorem Xs.conv {w : World} {gb X : Nat} (h : Xs w gb X X) : (convert 41 9 (.slice (some ⟨gb, 0, none⟩) X X)).run Tryd.prog w = .ok (.string (xstr X)) w := by
  obtain ⟨cs, h1, h2, h3⟩ := h
  rw [run_convert_bytes_string w _ _ 5 _ _ _ Tryd.underlying41 Tryd.underlying5 Tryd.underlying9]
  refine run_bytesToString w _ X X ((List.range X).map fun _ => (120 : Int)) ?_
  have hl := run_loadCells (P := Tryd.prog) w ⟨gb, 0, none⟩ X (fun _ => .int .u8 120) (fun j hj => by
    have hadd : Addr.add ⟨gb, 0, none⟩ j = ⟨gb, j, none⟩ := by unfold Addr.add; split <;> simp_all
    rw [hadd, cell_of_row _ _ j _ _ _ h1]; exact h3 j hj)
  rw [hl]; congr 2; simp
theorem repAll_one {w : World} {lo : Nat} {t : T} {c0 c1 c2 c3 : Value} (h : Rep w lo w.heap.size t (.agg #[c0, c1, c2, c3])) (hlo : lo ≤ w.heap.size) :
    RepAll (w.alloc (.cells #[c0, c1, c2, c3] 24)) lo (w.heap.size + 1) [t] (some ⟨w.heap.size, 0, none⟩) := by
  obtain ⟨b0, b1, b2, b3⟩ := box4 w c0 c1 c2 c3 24
  refine RepAll.of hlo (by omega) [t] 0 (fun i hi => ?_)
  have e : i = 0 := by simpa using hi
  subst e
  exact ⟨c0, c1, c2, c3, b0, b1, b2, b3, (h.alloc (Nat.le_refl _) _).keep (Nat.le_refl _) (by omega) (fun _ _ _ => rfl)⟩

set_option maxRecDepth 100000 in
set_option maxHeartbeats 4000000 in
theorem lawSizes_all (ad : Nat → Addr) (n text : Int) (w : World) (hn : I64 n) (ht : I64 text) (hS : Sents w ad) :
    Calls Tryd.prog 5 #[.int .i64 n, .int .i64 text] w fun e w' => e = .returned (.bool true) ∧ Below w.heap.size w w' := by
  have HS : ∀ W', Below w.heap.size w W' → Hid (Sents W' ad) := fun W' hb => hS.below hb
  obtain ⟨N, hN, hN60⟩ : ∃ N : Nat, Hid (numB n 60 = (N : Int)) ∧ N < 60 := by
    have h1 := Int.emod_nonneg n (b := 60) (by omega)
    have h2 := Int.emod_lt_of_pos n (b := 60) (by omega)
    refine ⟨(n % 60).toNat, ?_, by omega⟩
    show _ = _
    unfold numB; omega
  obtain ⟨X, hX, hX6⟩ : ∃ X : Nat, Hid (numB text 6000 = (X : Int)) ∧ X < 6000 := by
    have h1 := Int.emod_nonneg text (b := 6000) (by omega)
    have h2 := Int.emod_lt_of_pos text (b := 6000) (by omega)
    refine ⟨(text % 6000).toNat, ?_, by omega⟩
    show _ = _
    unfold numB; omega
  have HN := Lib.hid hn; have HT := Lib.hid ht
  clear hn ht hS
  go_enter Tryd.func5, Tryd.ntmps5
  go_wp2_with (first
    | (go_at_call 6; refine (first_any _).mono ?_; rintro e w1 ⟨rfl, hb1⟩)
    | (go_at_call_of 19 (Value.int IntKind.i64 n); refine (number_any _ _ _ HN.out (by omega) (by omega)).mono ?_; rintro e w2 ⟨rfl, rfl⟩; rw [hN.out])
    | (go_at_call 19; refine (number_any _ _ _ HT.out (by omega) (by omega)).mono ?_; rintro e w2 ⟨rfl, rfl⟩; rw [hX.out])
    | (go_at_call 14; refine (vI_any _ _).mono ?_; rintro e w3 ⟨rfl, hb3⟩))
  have hB0 := heap_alloc_new w3 (.cells #[.int .i64 0, .int .i64 3, .string ByteArray.empty, .slice none 0 0] 24)
  have hW3 : Below w.heap.size w w3 := hb1.trans (hb3.mono hb1.size)
  have hz3 := hW3.size
  have hR0 : ∀ W lo hi, Rep W lo hi (nest 0) (.agg #[.int .i64 0, .int .i64 3, .string ByteArray.empty, .slice none 0 0]) := fun W lo hi => Rep.mk_ (l := []) (by unfold I64; omega) (by unfold I64; omega) (by simp) (Nat.le_refl _) (by omega) (by unfold RepAll; trivial)
  have HB0 := Lib.hid hB0; have HR0 := Lib.hid (hR0 (w3.alloc (.cells #[.int .i64 0, .int .i64 3, .string ByteArray.empty, .slice none 0 0] 24)) (w3.heap.size + 1) (w3.alloc (.cells #[.int .i64 0, .int .i64 3, .string ByteArray.empty, .slice none 0 0] 24)).heap.size)
  have hW4 := hW3.alloc hz3 (.cells #[.int .i64 0, .int .i64 3, .string ByteArray.empty, .slice none 0 0] 24)
  clear hB0 hR0 hb1 hb3
  generalize w3.alloc (.cells #[.int .i64 0, .int .i64 3, .string ByteArray.empty, .slice none 0 0] 24) = W4 at *
  generalize w3.heap.size = g at *
  go_loopw [7] (fun i wr => ∃ (j : Nat) (k m : Int) (s : ByteArray) (p : Option Addr) (len cap : Nat), j ≤ N ∧ i = .int .i64 j ∧ Hid (wr.heap[g]? = some (.cells #[.int .i64 k, .int .i64 m, .string s, .slice p len cap] 24 (0, 0))) ∧ Hid (Rep wr (g + 1) wr.heap.size (nest j) (.agg #[.int .i64 k, .int .i64 m, .string s, .slice p len cap])) ∧ Below w.heap.size w wr) (fun i _ => N - (intOf i).toNat)
  case atStart => exact ⟨0, _, _, _, _, _, _, Nat.zero_le _, rfl, HB0, HR0, hW4⟩
  case round =>
    obtain ⟨j, k, m, s, p, len, cap, hj, rfl, HB, HR, hbr⟩ := hrel
    have hz := hbr.size
    have hgl : g < wr.heap.size := World.block_lt_of_cell? wr (a := ⟨g, 0, none⟩) ((cell_of_row _ _ 0 _ _ _ HB.out).trans rfl)
    obtain ⟨hx0, hx1, hx2, hx3, _⟩ := box4_in wr g _ _ _ _ _ HB.out
    by_cases hlt : j < N
    · go_wp2_with (go_at_call 12; refine (vL_any [nest j] _ (g + 1) (wr.heap.size + 1) _ 1 (repAll_one HR.out hgl) (Nat.le_refl _) (by omega) (by simp)).mono ?_; rintro e w5 ⟨⟨v, rfl, hv, hb5⟩, _, _⟩; obtain ⟨k2, m2, s2, p2, len2, cap2, rfl⟩ := rep_form hv; have HV := Lib.hid hv; clear hv; have hb6 := ((Below.refl wr.heap.size wr).alloc (Nat.le_refl _) _).trans (hb5.mono (by simp)); have HB6 := Lib.hid (heap_old HB.out hb6); obtain ⟨hy0, hy1, hy2, hy3, hyf⟩ := box4_in w5 g _ _ _ _ _ HB6.out; have hf0 := hyf 0; have hf1 := hyf 1; have hf2 := hyf 2; have hf3 := hyf 3; clear hyf; have hz5 := hb5.size; rw [World.size_alloc] at hz5; have HB5 := Lib.hid hb6; clear hb6)
      go_roundw
      case rel =>
        have hset : ∀ (w : World) (c : Array Value) (o : Nat) (u : Value), w.heap[g]? = some (.cells c 24 (0, 0)) → (w.setCell ⟨g, o, none⟩ u).heap[g]? = some (.cells (c.setIfInBounds o u) 24 (0, 0)) := by
          intro w c o u hw
          simp [World.setCell, Array.getElem?_modify, hw]
        refine ⟨j + 1, k2, m2, s2, p2, len2, cap2, by omega, by go_num, ?_, ?_, ?_⟩
        · show _ = _
          rw [hset _ _ 3 _ (hset _ _ 2 _ (hset _ _ 1 _ (hset _ _ 0 _ HB6.out)))]; rfl
        · show Rep _ _ _ _ _
          have hv := HV.out
          rw [World.size_setCell, World.size_setCell, World.size_setCell, World.size_setCell]
          have hl : ∀ o, (Addr.mk g o none).block < g + 1 := fun o => by show g < g + 1; omega
          exact ((((hv.keep (by simp; omega) (Nat.le_refl _) (fun _ _ _ => rfl) : Rep w5 (g + 1) w5.heap.size (nest (j + 1)) _).setCell (Or.inl (hl 0)) _).setCell (Or.inl (hl 1)) _).setCell (Or.inl (hl 2)) _).setCell (Or.inl (hl 3)) _
        · exact ((((hbr.trans (HB5.out.mono hz)).setCell hz3 _).setCell hz3 _).setCell hz3 _).setCell hz3 _
      case measure => simp [intOf]; omega
    · have hjl : j = N := by omega
      subst hjl
      have hRN := HR
      have hBN := HB
      obtain ⟨i0, hi0, hq0, hq1, hq2⟩ := info_parts Tryd.info_B
      have hmk : ∀ W : World, (Instr.makeSlice 41 (.int .i64 (X : Int)) (.int .i64 (X : Int))).run Tryd.prog W = .ok (.slice (some ⟨W.heap.size, 0, none⟩) X X) (W.alloc (.cells (madeCells #[.int .u8 0] X) 5)) := by
        intro W
        have h := run_make (P := Tryd.prog) W 41 5 i0 _ Tryd.underlying41 hi0 hq0 .i64 .i64 X X (by omega) (by omega) (by rw [hq2]; omega) (by omega)
        rw [hq1] at h
        simpa [Value.cells] using h
      clear hi0 hq0 hq1 hq2
      go_wp2
      have hC0 : Hid (Xs (wr.alloc (.cells (madeCells #[.int .u8 0] X) 5)) wr.heap.size X 0) := ⟨_, heap_alloc_new wr _, size_madeCells _ _, fun i hi => absurd hi (by omega)⟩
      have HBw := Lib.hid (heap_alloc_ wr _ (.cells (madeCells #[.int .u8 0] X) 5) _ HB.out)
      have HRw := Lib.hid (HR.out.alloc (Nat.le_refl _) (.cells (madeCells #[.int .u8 0] X) 5))
      have hbw := hbr.alloc hz (.cells (madeCells #[.int .u8 0] X) 5)
      have hgbW : wr.heap.size < (wr.alloc (.cells (madeCells #[.int .u8 0] X) 5)).heap.size := by simp
      generalize wr.alloc (.cells (madeCells #[.int .u8 0] X) 5) = W5 at *
      generalize wr.heap.size = gb at *
      go_loopw [9] (fun i wr => ∃ (q : Nat), q ≤ X ∧ i = .int .i64 q ∧ Hid (Xs wr gb X q) ∧ Hid (wr.heap[g]? = some (.cells #[.int .i64 k, .int .i64 m, .string s, .slice p len cap] 24 (0, 0))) ∧ Hid (Rep wr (g + 1) gb (nest j) (.agg #[.int .i64 k, .int .i64 m, .string s, .slice p len cap])) ∧ gb < wr.heap.size ∧ Below w.heap.size w wr) (fun i _ => X - (intOf i).toNat)
      case atStart => exact ⟨0, Nat.zero_le _, rfl, hC0, HBw, HRw, hgbW, hbw⟩
      case round =>
        obtain ⟨q, hq, rfl, HX, HB2, HR2, hgb2, hbr2⟩ := hrel
        by_cases hqX : q < X
        · obtain ⟨u, hu, hfu⟩ := Xs.room HX.out q hqX
          go_wp2
          go_roundw
          case rel => exact ⟨q + 1, by omega, by go_num, HX.out.step hqX, (Below.heap_setCell _ _ _ _ (by show g ≠ gb; omega)).trans HB2.out, HR2.out.setCell (Or.inr (Nat.le_refl gb)) _, by simpa using hgb2, hbr2.setCell (by show w.heap.size ≤ gb; omega) _⟩
          case measure => simp [intOf]; omega
        · have hqe : q = X := by omega
          subst hqe
          have hcv := Xs.conv HX.out
          have hgr2 : g < wr.heap.size := by omega
          go_upto_region 18 with (first
            | (go_at_call 16; refine (vS_any _ _).mono ?_; rintro e w7 ⟨rfl, hb7⟩))
          have hz7 := hb7.size
          have hZB := Lib.hid (heap_alloc_ w7 _ (.cells #[.int .i64 2, .int .i64 0, .string (xstr q), .slice none 0 0] 24) _ (heap_old HB2.out hb7))
          have hZH := Lib.hid (heap_alloc_new w7 (.cells #[.int .i64 2, .int .i64 0, .string (xstr q), .slice none 0 0] 24))
          have HRZ := Lib.hid ((HR2.out.below hb7 (by omega)).alloc (by omega) (.cells #[.int .i64 2, .int .i64 0, .string (xstr q), .slice none 0 0] 24))
          have hwZ := (hbr2.trans (hb7.mono hbr2.size)).alloc (by have := hbr2.size; omega) (.cells #[.int .i64 2, .int .i64 0, .string (xstr q), .slice none 0 0] 24)
          have hsZ : (w7.alloc (.cells #[.int .i64 2, .int .i64 0, .string (xstr q), .slice none 0 0] 24)).heap.size = w7.heap.size + 1 := by simp
          have hR2B : ∀ W, Hid (Rep W 0 0 (.mk 2 0 (xstr q) []) (.agg #[.int .i64 2, .int .i64 0, .string (xstr q), .slice none 0 0])) := fun W => Rep.mk_ (l := []) (by unfold I64; omega) (by unfold I64; omega) (by rw [xstr_size]; omega) (Nat.le_refl _) (by omega) (by unfold RepAll; trivial)
          have hRB := hR2B
          have HSB := Lib.hid (show sz (.mk 2 0 (xstr q) []) = 1 + (q : Int) from by rw [sz, if_pos rfl, szAll, xstr_size]; omega)
          have o1 := nest_odd j 1 0 (by omega) (by omega)
          have o2 := xstr_odd q hX6
          generalize w7.alloc (.cells #[.int .i64 2, .int .i64 0, .string (xstr q), .slice none 0 0] 24) = Z at *
          generalize w7.heap.size = h at *
          have hgZ : g < Z.heap.size := by omega
          have hhZ : h < Z.heap.size := by omega
          have hgbZ : gb ≤ Z.heap.size := by omega
          obtain ⟨zx0, zx1, zx2, zx3, _⟩ := box4_in Z g _ _ _ _ _ hZB.out
          obtain ⟨zy0, zy1, zy2, zy3, _⟩ := box4_in Z h _ _ _ _ _ hZH.out
          have hcur := Below.refl Z.heap.size Z
          have hx0 := zx0; have hx1 := zx1; have hx2 := zx2; have hx3 := zx3
          have hy0 := zy0; have hy1 := zy1; have hy2 := zy2; have hy3 := zy3
          by_cases hD : 40 < (j : Int) + 1
          all_goals by_cases hG : 4096 < (q : Int) + 1
          · have HI1 := Lib.hid (show (errCode (vIdx (nest j)) == 112) = true from by rw [vIdx_code, oddCode, o1, if_pos (by omega)]; rfl)
            have HI2 := Lib.hid (show (errCode (vIdx (.mk 2 0 (xstr q) [])) == 104) = true from by rw [vIdx_code, oddCode, o2, if_pos (by omega)]; rfl)
            clear o1 o2 hb7 HX HB2 HR2 HB0 HR0 hcv
            go_wp2_with (first
              | (go_at_call_of 8 (Value.agg #[Value.int IntKind.i64 k, Value.int IntKind.i64 m, Value.string s, Value.slice p len cap]); refine (valid_any ad (nest j) _ (g + 1) gb _ (HRZ.out.below hcur hgbZ) (by omega) (HS _ (hwZ.trans (hcur.mono hwZ.size))).out).mono ?_; rintro e w8 ⟨rfl, hbw8⟩; have hcur := hcur.trans (hbw8.mono hcur.size); have hx0 := (hcur.cell (p := ⟨g, 0, none⟩) hgZ).trans zx0; have hx1 := (hcur.cell (p := ⟨g, 1, none⟩) hgZ).trans zx1; have hx2 := (hcur.cell (p := ⟨g, 2, none⟩) hgZ).trans zx2; have hx3 := (hcur.cell (p := ⟨g, 3, none⟩) hgZ).trans zx3; have hy0 := (hcur.cell (p := ⟨h, 0, none⟩) hhZ).trans zy0; have hy1 := (hcur.cell (p := ⟨h, 1, none⟩) hhZ).trans zy1; have hy2 := (hcur.cell (p := ⟨h, 2, none⟩) hhZ).trans zy2; have hy3 := (hcur.cell (p := ⟨h, 3, none⟩) hhZ).trans zy3; have hsz := hcur.size)
              | (go_at_call_of 8 (Value.agg #[Value.int IntKind.i64 2, Value.int IntKind.i64 0, Value.string (xstr q), Value.slice none 0 0]); refine (valid_any ad (.mk 2 0 (xstr q) []) _ 0 0 _ (hRB _).out (Nat.zero_le _) (HS _ (hwZ.trans (hcur.mono hwZ.size))).out).mono ?_; rintro e w10 ⟨rfl, hbw10⟩; have hcur := hcur.trans (hbw10.mono hcur.size); have hx0 := (hcur.cell (p := ⟨g, 0, none⟩) hgZ).trans zx0; have hx1 := (hcur.cell (p := ⟨g, 1, none⟩) hgZ).trans zx1; have hx2 := (hcur.cell (p := ⟨g, 2, none⟩) hgZ).trans zx2; have hx3 := (hcur.cell (p := ⟨g, 3, none⟩) hgZ).trans zx3; have hy0 := (hcur.cell (p := ⟨h, 0, none⟩) hhZ).trans zy0; have hy1 := (hcur.cell (p := ⟨h, 1, none⟩) hhZ).trans zy1; have hy2 := (hcur.cell (p := ⟨h, 2, none⟩) hhZ).trans zy2; have hy3 := (hcur.cell (p := ⟨h, 3, none⟩) hhZ).trans zy3; have hsz := hcur.size)
              | (go_at_call_of 9 (errVal ad (vIdx (nest j))); refine (is_any ad (vIdx (nest j)) (vIdx_lt _) _ _ (HS _ (hwZ.trans (hcur.mono hwZ.size))).out).mono ?_; rintro e w9 ⟨rfl, hbw9⟩; rw [HI1.out]; have hcur := hcur.trans (hbw9.mono hcur.size); have hx0 := (hcur.cell (p := ⟨g, 0, none⟩) hgZ).trans zx0; have hx1 := (hcur.cell (p := ⟨g, 1, none⟩) hgZ).trans zx1; have hx2 := (hcur.cell (p := ⟨g, 2, none⟩) hgZ).trans zx2; have hx3 := (hcur.cell (p := ⟨g, 3, none⟩) hgZ).trans zx3; have hy0 := (hcur.cell (p := ⟨h, 0, none⟩) hhZ).trans zy0; have hy1 := (hcur.cell (p := ⟨h, 1, none⟩) hhZ).trans zy1; have hy2 := (hcur.cell (p := ⟨h, 2, none⟩) hhZ).trans zy2; have hy3 := (hcur.cell (p := ⟨h, 3, none⟩) hhZ).trans zy3; have hsz := hcur.size)
              | (go_at_call_of 9 (errVal ad (vIdx (T.mk 2 0 (xstr q) []))); refine (is_any ad (vIdx (.mk 2 0 (xstr q) [])) (vIdx_lt _) _ _ (HS _ (hwZ.trans (hcur.mono hwZ.size))).out).mono ?_; rintro e w11 ⟨rfl, hbw11⟩; rw [HI2.out]; have hcur := hcur.trans (hbw11.mono hcur.size); have hx0 := (hcur.cell (p := ⟨g, 0, none⟩) hgZ).trans zx0; have hx1 := (hcur.cell (p := ⟨g, 1, none⟩) hgZ).trans zx1; have hx2 := (hcur.cell (p := ⟨g, 2, none⟩) hgZ).trans zx2; have hx3 := (hcur.cell (p := ⟨g, 3, none⟩) hgZ).trans zx3; have hy0 := (hcur.cell (p := ⟨h, 0, none⟩) hhZ).trans zy0; have hy1 := (hcur.cell (p := ⟨h, 1, none⟩) hhZ).trans zy1; have hy2 := (hcur.cell (p := ⟨h, 2, none⟩) hhZ).trans zy2; have hy3 := (hcur.cell (p := ⟨h, 3, none⟩) hhZ).trans zy3; have hsz := hcur.size)
              | (go_at_call_of 20 (Value.agg #[Value.int IntKind.i64 k, Value.int IntKind.i64 m, Value.string s, Value.slice p len cap]); refine (size_any (nest j) _ (g + 1) gb _ (HRZ.out.below hcur hgbZ) (by omega) (by rw [nest_sz]; omega)).mono ?_; rintro e w12 ⟨rfl, hbw12⟩; rw [nest_sz]; have hcur := hcur.trans (hbw12.mono hcur.size); have hx0 := (hcur.cell (p := ⟨g, 0, none⟩) hgZ).trans zx0; have hx1 := (hcur.cell (p := ⟨g, 1, none⟩) hgZ).trans zx1; have hx2 := (hcur.cell (p := ⟨g, 2, none⟩) hgZ).trans zx2; have hx3 := (hcur.cell (p := ⟨g, 3, none⟩) hgZ).trans zx3; have hy0 := (hcur.cell (p := ⟨h, 0, none⟩) hhZ).trans zy0; have hy1 := (hcur.cell (p := ⟨h, 1, none⟩) hhZ).trans zy1; have hy2 := (hcur.cell (p := ⟨h, 2, none⟩) hhZ).trans zy2; have hy3 := (hcur.cell (p := ⟨h, 3, none⟩) hhZ).trans zy3; have hsz := hcur.size)
              | (go_at_call_of 21 (Value.agg #[Value.int IntKind.i64 k, Value.int IntKind.i64 m, Value.string s, Value.slice p len cap]); refine (vdeep_any (nest j) _ (g + 1) gb _ (HRZ.out.below hcur hgbZ) (by omega) (by rw [nest_vdp]; omega)).mono ?_; rintro e w13 ⟨rfl, hbw13⟩; rw [nest_vdp]; have hcur := hcur.trans (hbw13.mono hcur.size); have hx0 := (hcur.cell (p := ⟨g, 0, none⟩) hgZ).trans zx0; have hx1 := (hcur.cell (p := ⟨g, 1, none⟩) hgZ).trans zx1; have hx2 := (hcur.cell (p := ⟨g, 2, none⟩) hgZ).trans zx2; have hx3 := (hcur.cell (p := ⟨g, 3, none⟩) hgZ).trans zx3; have hy0 := (hcur.cell (p := ⟨h, 0, none⟩) hhZ).trans zy0; have hy1 := (hcur.cell (p := ⟨h, 1, none⟩) hhZ).trans zy1; have hy2 := (hcur.cell (p := ⟨h, 2, none⟩) hhZ).trans zy2; have hy3 := (hcur.cell (p := ⟨h, 3, none⟩) hhZ).trans zy3; have hsz := hcur.size)
              | (go_at_call_of 20 (Value.agg #[Value.int IntKind.i64 2, Value.int IntKind.i64 0, Value.string (xstr q), Value.slice none 0 0]); refine (size_any (.mk 2 0 (xstr q) []) _ 0 0 _ (hRB _).out (Nat.zero_le _) (by rw [HSB.out]; omega)).mono ?_; rintro e w14 ⟨rfl, hbw14⟩; rw [HSB.out]; have hcur := hcur.trans (hbw14.mono hcur.size); have hx0 := (hcur.cell (p := ⟨g, 0, none⟩) hgZ).trans zx0; have hx1 := (hcur.cell (p := ⟨g, 1, none⟩) hgZ).trans zx1; have hx2 := (hcur.cell (p := ⟨g, 2, none⟩) hgZ).trans zx2; have hx3 := (hcur.cell (p := ⟨g, 3, none⟩) hgZ).trans zx3; have hy0 := (hcur.cell (p := ⟨h, 0, none⟩) hhZ).trans zy0; have hy1 := (hcur.cell (p := ⟨h, 1, none⟩) hhZ).trans zy1; have hy2 := (hcur.cell (p := ⟨h, 2, none⟩) hhZ).trans zy2; have hy3 := (hcur.cell (p := ⟨h, 3, none⟩) hhZ).trans zy3; have hsz := hcur.size))
            go_ret
            exact ⟨by first | rfl | exact ret_bool (beq_iff_eq.2 (by omega)), hwZ.trans (hcur.mono hwZ.size)⟩
          · have HI1 := Lib.hid (show (errCode (vIdx (nest j)) == 112) = true from by rw [vIdx_code, oddCode, o1, if_pos (by omega)]; rfl)
            have HI2 := Lib.hid (show (errCode (vIdx (.mk 2 0 (xstr q) [])) == 0) = true from by rw [vIdx_code, oddCode, o2, if_neg (by omega)]; rfl)
            clear o1 o2 hb7 HX HB2 HR2 HB0 HR0 hcv
            go_wp2_with (first
              | (go_at_call_of 8 (Value.agg #[Value.int IntKind.i64 k, Value.int IntKind.i64 m, Value.string s, Value.slice p len cap]); refine (valid_any ad (nest j) _ (g + 1) gb _ (HRZ.out.below hcur hgbZ) (by omega) (HS _ (hwZ.trans (hcur.mono hwZ.size))).out).mono ?_; rintro e w8 ⟨rfl, hbw8⟩; have hcur := hcur.trans (hbw8.mono hcur.size); have hx0 := (hcur.cell (p := ⟨g, 0, none⟩) hgZ).trans zx0; have hx1 := (hcur.cell (p := ⟨g, 1, none⟩) hgZ).trans zx1; have hx2 := (hcur.cell (p := ⟨g, 2, none⟩) hgZ).trans zx2; have hx3 := (hcur.cell (p := ⟨g, 3, none⟩) hgZ).trans zx3; have hy0 := (hcur.cell (p := ⟨h, 0, none⟩) hhZ).trans zy0; have hy1 := (hcur.cell (p := ⟨h, 1, none⟩) hhZ).trans zy1; have hy2 := (hcur.cell (p := ⟨h, 2, none⟩) hhZ).trans zy2; have hy3 := (hcur.cell (p := ⟨h, 3, none⟩) hhZ).trans zy3; have hsz := hcur.size)
              | (go_at_call_of 8 (Value.agg #[Value.int IntKind.i64 2, Value.int IntKind.i64 0, Value.string (xstr q), Value.slice none 0 0]); refine (valid_any ad (.mk 2 0 (xstr q) []) _ 0 0 _ (hRB _).out (Nat.zero_le _) (HS _ (hwZ.trans (hcur.mono hwZ.size))).out).mono ?_; rintro e w10 ⟨rfl, hbw10⟩; have hcur := hcur.trans (hbw10.mono hcur.size); have hx0 := (hcur.cell (p := ⟨g, 0, none⟩) hgZ).trans zx0; have hx1 := (hcur.cell (p := ⟨g, 1, none⟩) hgZ).trans zx1; have hx2 := (hcur.cell (p := ⟨g, 2, none⟩) hgZ).trans zx2; have hx3 := (hcur.cell (p := ⟨g, 3, none⟩) hgZ).trans zx3; have hy0 := (hcur.cell (p := ⟨h, 0, none⟩) hhZ).trans zy0; have hy1 := (hcur.cell (p := ⟨h, 1, none⟩) hhZ).trans zy1; have hy2 := (hcur.cell (p := ⟨h, 2, none⟩) hhZ).trans zy2; have hy3 := (hcur.cell (p := ⟨h, 3, none⟩) hhZ).trans zy3; have hsz := hcur.size)
              | (go_at_call_of 9 (errVal ad (vIdx (nest j))); refine (is_any ad (vIdx (nest j)) (vIdx_lt _) _ _ (HS _ (hwZ.trans (hcur.mono hwZ.size))).out).mono ?_; rintro e w9 ⟨rfl, hbw9⟩; rw [HI1.out]; have hcur := hcur.trans (hbw9.mono hcur.size); have hx0 := (hcur.cell (p := ⟨g, 0, none⟩) hgZ).trans zx0; have hx1 := (hcur.cell (p := ⟨g, 1, none⟩) hgZ).trans zx1; have hx2 := (hcur.cell (p := ⟨g, 2, none⟩) hgZ).trans zx2; have hx3 := (hcur.cell (p := ⟨g, 3, none⟩) hgZ).trans zx3; have hy0 := (hcur.cell (p := ⟨h, 0, none⟩) hhZ).trans zy0; have hy1 := (hcur.cell (p := ⟨h, 1, none⟩) hhZ).trans zy1; have hy2 := (hcur.cell (p := ⟨h, 2, none⟩) hhZ).trans zy2; have hy3 := (hcur.cell (p := ⟨h, 3, none⟩) hhZ).trans zy3; have hsz := hcur.size)
              | (go_at_call_of 9 (errVal ad (vIdx (T.mk 2 0 (xstr q) []))); refine (is_any ad (vIdx (.mk 2 0 (xstr q) [])) (vIdx_lt _) _ _ (HS _ (hwZ.trans (hcur.mono hwZ.size))).out).mono ?_; rintro e w11 ⟨rfl, hbw11⟩; rw [HI2.out]; have hcur := hcur.trans (hbw11.mono hcur.size); have hx0 := (hcur.cell (p := ⟨g, 0, none⟩) hgZ).trans zx0; have hx1 := (hcur.cell (p := ⟨g, 1, none⟩) hgZ).trans zx1; have hx2 := (hcur.cell (p := ⟨g, 2, none⟩) hgZ).trans zx2; have hx3 := (hcur.cell (p := ⟨g, 3, none⟩) hgZ).trans zx3; have hy0 := (hcur.cell (p := ⟨h, 0, none⟩) hhZ).trans zy0; have hy1 := (hcur.cell (p := ⟨h, 1, none⟩) hhZ).trans zy1; have hy2 := (hcur.cell (p := ⟨h, 2, none⟩) hhZ).trans zy2; have hy3 := (hcur.cell (p := ⟨h, 3, none⟩) hhZ).trans zy3; have hsz := hcur.size)
              | (go_at_call_of 20 (Value.agg #[Value.int IntKind.i64 k, Value.int IntKind.i64 m, Value.string s, Value.slice p len cap]); refine (size_any (nest j) _ (g + 1) gb _ (HRZ.out.below hcur hgbZ) (by omega) (by rw [nest_sz]; omega)).mono ?_; rintro e w12 ⟨rfl, hbw12⟩; rw [nest_sz]; have hcur := hcur.trans (hbw12.mono hcur.size); have hx0 := (hcur.cell (p := ⟨g, 0, none⟩) hgZ).trans zx0; have hx1 := (hcur.cell (p := ⟨g, 1, none⟩) hgZ).trans zx1; have hx2 := (hcur.cell (p := ⟨g, 2, none⟩) hgZ).trans zx2; have hx3 := (hcur.cell (p := ⟨g, 3, none⟩) hgZ).trans zx3; have hy0 := (hcur.cell (p := ⟨h, 0, none⟩) hhZ).trans zy0; have hy1 := (hcur.cell (p := ⟨h, 1, none⟩) hhZ).trans zy1; have hy2 := (hcur.cell (p := ⟨h, 2, none⟩) hhZ).trans zy2; have hy3 := (hcur.cell (p := ⟨h, 3, none⟩) hhZ).trans zy3; have hsz := hcur.size)
              | (go_at_call_of 21 (Value.agg #[Value.int IntKind.i64 k, Value.int IntKind.i64 m, Value.string s, Value.slice p len cap]); refine (vdeep_any (nest j) _ (g + 1) gb _ (HRZ.out.below hcur hgbZ) (by omega) (by rw [nest_vdp]; omega)).mono ?_; rintro e w13 ⟨rfl, hbw13⟩; rw [nest_vdp]; have hcur := hcur.trans (hbw13.mono hcur.size); have hx0 := (hcur.cell (p := ⟨g, 0, none⟩) hgZ).trans zx0; have hx1 := (hcur.cell (p := ⟨g, 1, none⟩) hgZ).trans zx1; have hx2 := (hcur.cell (p := ⟨g, 2, none⟩) hgZ).trans zx2; have hx3 := (hcur.cell (p := ⟨g, 3, none⟩) hgZ).trans zx3; have hy0 := (hcur.cell (p := ⟨h, 0, none⟩) hhZ).trans zy0; have hy1 := (hcur.cell (p := ⟨h, 1, none⟩) hhZ).trans zy1; have hy2 := (hcur.cell (p := ⟨h, 2, none⟩) hhZ).trans zy2; have hy3 := (hcur.cell (p := ⟨h, 3, none⟩) hhZ).trans zy3; have hsz := hcur.size)
              | (go_at_call_of 20 (Value.agg #[Value.int IntKind.i64 2, Value.int IntKind.i64 0, Value.string (xstr q), Value.slice none 0 0]); refine (size_any (.mk 2 0 (xstr q) []) _ 0 0 _ (hRB _).out (Nat.zero_le _) (by rw [HSB.out]; omega)).mono ?_; rintro e w14 ⟨rfl, hbw14⟩; rw [HSB.out]; have hcur := hcur.trans (hbw14.mono hcur.size); have hx0 := (hcur.cell (p := ⟨g, 0, none⟩) hgZ).trans zx0; have hx1 := (hcur.cell (p := ⟨g, 1, none⟩) hgZ).trans zx1; have hx2 := (hcur.cell (p := ⟨g, 2, none⟩) hgZ).trans zx2; have hx3 := (hcur.cell (p := ⟨g, 3, none⟩) hgZ).trans zx3; have hy0 := (hcur.cell (p := ⟨h, 0, none⟩) hhZ).trans zy0; have hy1 := (hcur.cell (p := ⟨h, 1, none⟩) hhZ).trans zy1; have hy2 := (hcur.cell (p := ⟨h, 2, none⟩) hhZ).trans zy2; have hy3 := (hcur.cell (p := ⟨h, 3, none⟩) hhZ).trans zy3; have hsz := hcur.size))
            go_ret
            exact ⟨by first | rfl | exact ret_bool (beq_iff_eq.2 (by omega)), hwZ.trans (hcur.mono hwZ.size)⟩
          · have HI1 := Lib.hid (show (errCode (vIdx (nest j)) == 0) = true from by rw [vIdx_code, oddCode, o1, if_neg (by omega)]; rfl)
            have HI2 := Lib.hid (show (errCode (vIdx (.mk 2 0 (xstr q) [])) == 104) = true from by rw [vIdx_code, oddCode, o2, if_pos (by omega)]; rfl)
            clear o1 o2 hb7 HX HB2 HR2 HB0 HR0 hcv
            go_wp2_with (first
              | (go_at_call_of 8 (Value.agg #[Value.int IntKind.i64 k, Value.int IntKind.i64 m, Value.string s, Value.slice p len cap]); refine (valid_any ad (nest j) _ (g + 1) gb _ (HRZ.out.below hcur hgbZ) (by omega) (HS _ (hwZ.trans (hcur.mono hwZ.size))).out).mono ?_; rintro e w8 ⟨rfl, hbw8⟩; have hcur := hcur.trans (hbw8.mono hcur.size); have hx0 := (hcur.cell (p := ⟨g, 0, none⟩) hgZ).trans zx0; have hx1 := (hcur.cell (p := ⟨g, 1, none⟩) hgZ).trans zx1; have hx2 := (hcur.cell (p := ⟨g, 2, none⟩) hgZ).trans zx2; have hx3 := (hcur.cell (p := ⟨g, 3, none⟩) hgZ).trans zx3; have hy0 := (hcur.cell (p := ⟨h, 0, none⟩) hhZ).trans zy0; have hy1 := (hcur.cell (p := ⟨h, 1, none⟩) hhZ).trans zy1; have hy2 := (hcur.cell (p := ⟨h, 2, none⟩) hhZ).trans zy2; have hy3 := (hcur.cell (p := ⟨h, 3, none⟩) hhZ).trans zy3; have hsz := hcur.size)
              | (go_at_call_of 8 (Value.agg #[Value.int IntKind.i64 2, Value.int IntKind.i64 0, Value.string (xstr q), Value.slice none 0 0]); refine (valid_any ad (.mk 2 0 (xstr q) []) _ 0 0 _ (hRB _).out (Nat.zero_le _) (HS _ (hwZ.trans (hcur.mono hwZ.size))).out).mono ?_; rintro e w10 ⟨rfl, hbw10⟩; have hcur := hcur.trans (hbw10.mono hcur.size); have hx0 := (hcur.cell (p := ⟨g, 0, none⟩) hgZ).trans zx0; have hx1 := (hcur.cell (p := ⟨g, 1, none⟩) hgZ).trans zx1; have hx2 := (hcur.cell (p := ⟨g, 2, none⟩) hgZ).trans zx2; have hx3 := (hcur.cell (p := ⟨g, 3, none⟩) hgZ).trans zx3; have hy0 := (hcur.cell (p := ⟨h, 0, none⟩) hhZ).trans zy0; have hy1 := (hcur.cell (p := ⟨h, 1, none⟩) hhZ).trans zy1; have hy2 := (hcur.cell (p := ⟨h, 2, none⟩) hhZ).trans zy2; have hy3 := (hcur.cell (p := ⟨h, 3, none⟩) hhZ).trans zy3; have hsz := hcur.size)
              | (go_at_call_of 9 (errVal ad (vIdx (nest j))); refine (is_any ad (vIdx (nest j)) (vIdx_lt _) _ _ (HS _ (hwZ.trans (hcur.mono hwZ.size))).out).mono ?_; rintro e w9 ⟨rfl, hbw9⟩; rw [HI1.out]; have hcur := hcur.trans (hbw9.mono hcur.size); have hx0 := (hcur.cell (p := ⟨g, 0, none⟩) hgZ).trans zx0; have hx1 := (hcur.cell (p := ⟨g, 1, none⟩) hgZ).trans zx1; have hx2 := (hcur.cell (p := ⟨g, 2, none⟩) hgZ).trans zx2; have hx3 := (hcur.cell (p := ⟨g, 3, none⟩) hgZ).trans zx3; have hy0 := (hcur.cell (p := ⟨h, 0, none⟩) hhZ).trans zy0; have hy1 := (hcur.cell (p := ⟨h, 1, none⟩) hhZ).trans zy1; have hy2 := (hcur.cell (p := ⟨h, 2, none⟩) hhZ).trans zy2; have hy3 := (hcur.cell (p := ⟨h, 3, none⟩) hhZ).trans zy3; have hsz := hcur.size)
              | (go_at_call_of 9 (errVal ad (vIdx (T.mk 2 0 (xstr q) []))); refine (is_any ad (vIdx (.mk 2 0 (xstr q) [])) (vIdx_lt _) _ _ (HS _ (hwZ.trans (hcur.mono hwZ.size))).out).mono ?_; rintro e w11 ⟨rfl, hbw11⟩; rw [HI2.out]; have hcur := hcur.trans (hbw11.mono hcur.size); have hx0 := (hcur.cell (p := ⟨g, 0, none⟩) hgZ).trans zx0; have hx1 := (hcur.cell (p := ⟨g, 1, none⟩) hgZ).trans zx1; have hx2 := (hcur.cell (p := ⟨g, 2, none⟩) hgZ).trans zx2; have hx3 := (hcur.cell (p := ⟨g, 3, none⟩) hgZ).trans zx3; have hy0 := (hcur.cell (p := ⟨h, 0, none⟩) hhZ).trans zy0; have hy1 := (hcur.cell (p := ⟨h, 1, none⟩) hhZ).trans zy1; have hy2 := (hcur.cell (p := ⟨h, 2, none⟩) hhZ).trans zy2; have hy3 := (hcur.cell (p := ⟨h, 3, none⟩) hhZ).trans zy3; have hsz := hcur.size)
              | (go_at_call_of 20 (Value.agg #[Value.int IntKind.i64 k, Value.int IntKind.i64 m, Value.string s, Value.slice p len cap]); refine (size_any (nest j) _ (g + 1) gb _ (HRZ.out.below hcur hgbZ) (by omega) (by rw [nest_sz]; omega)).mono ?_; rintro e w12 ⟨rfl, hbw12⟩; rw [nest_sz]; have hcur := hcur.trans (hbw12.mono hcur.size); have hx0 := (hcur.cell (p := ⟨g, 0, none⟩) hgZ).trans zx0; have hx1 := (hcur.cell (p := ⟨g, 1, none⟩) hgZ).trans zx1; have hx2 := (hcur.cell (p := ⟨g, 2, none⟩) hgZ).trans zx2; have hx3 := (hcur.cell (p := ⟨g, 3, none⟩) hgZ).trans zx3; have hy0 := (hcur.cell (p := ⟨h, 0, none⟩) hhZ).trans zy0; have hy1 := (hcur.cell (p := ⟨h, 1, none⟩) hhZ).trans zy1; have hy2 := (hcur.cell (p := ⟨h, 2, none⟩) hhZ).trans zy2; have hy3 := (hcur.cell (p := ⟨h, 3, none⟩) hhZ).trans zy3; have hsz := hcur.size)
              | (go_at_call_of 21 (Value.agg #[Value.int IntKind.i64 k, Value.int IntKind.i64 m, Value.string s, Value.slice p len cap]); refine (vdeep_any (nest j) _ (g + 1) gb _ (HRZ.out.below hcur hgbZ) (by omega) (by rw [nest_vdp]; omega)).mono ?_; rintro e w13 ⟨rfl, hbw13⟩; rw [nest_vdp]; have hcur := hcur.trans (hbw13.mono hcur.size); have hx0 := (hcur.cell (p := ⟨g, 0, none⟩) hgZ).trans zx0; have hx1 := (hcur.cell (p := ⟨g, 1, none⟩) hgZ).trans zx1; have hx2 := (hcur.cell (p := ⟨g, 2, none⟩) hgZ).trans zx2; have hx3 := (hcur.cell (p := ⟨g, 3, none⟩) hgZ).trans zx3; have hy0 := (hcur.cell (p := ⟨h, 0, none⟩) hhZ).trans zy0; have hy1 := (hcur.cell (p := ⟨h, 1, none⟩) hhZ).trans zy1; have hy2 := (hcur.cell (p := ⟨h, 2, none⟩) hhZ).trans zy2; have hy3 := (hcur.cell (p := ⟨h, 3, none⟩) hhZ).trans zy3; have hsz := hcur.size)
              | (go_at_call_of 20 (Value.agg #[Value.int IntKind.i64 2, Value.int IntKind.i64 0, Value.string (xstr q), Value.slice none 0 0]); refine (size_any (.mk 2 0 (xstr q) []) _ 0 0 _ (hRB _).out (Nat.zero_le _) (by rw [HSB.out]; omega)).mono ?_; rintro e w14 ⟨rfl, hbw14⟩; rw [HSB.out]; have hcur := hcur.trans (hbw14.mono hcur.size); have hx0 := (hcur.cell (p := ⟨g, 0, none⟩) hgZ).trans zx0; have hx1 := (hcur.cell (p := ⟨g, 1, none⟩) hgZ).trans zx1; have hx2 := (hcur.cell (p := ⟨g, 2, none⟩) hgZ).trans zx2; have hx3 := (hcur.cell (p := ⟨g, 3, none⟩) hgZ).trans zx3; have hy0 := (hcur.cell (p := ⟨h, 0, none⟩) hhZ).trans zy0; have hy1 := (hcur.cell (p := ⟨h, 1, none⟩) hhZ).trans zy1; have hy2 := (hcur.cell (p := ⟨h, 2, none⟩) hhZ).trans zy2; have hy3 := (hcur.cell (p := ⟨h, 3, none⟩) hhZ).trans zy3; have hsz := hcur.size))
            go_ret
            exact ⟨by first | rfl | exact ret_bool (beq_iff_eq.2 (by omega)), hwZ.trans (hcur.mono hwZ.size)⟩
          · have HI1 := Lib.hid (show (errCode (vIdx (nest j)) == 0) = true from by rw [vIdx_code, oddCode, o1, if_neg (by omega)]; rfl)
            have HI2 := Lib.hid (show (errCode (vIdx (.mk 2 0 (xstr q) [])) == 0) = true from by rw [vIdx_code, oddCode, o2, if_neg (by omega)]; rfl)
            clear o1 o2 hb7 HX HB2 HR2 HB0 HR0 hcv
            go_wp2_with (first
              | (go_at_call_of 8 (Value.agg #[Value.int IntKind.i64 k, Value.int IntKind.i64 m, Value.string s, Value.slice p len cap]); refine (valid_any ad (nest j) _ (g + 1) gb _ (HRZ.out.below hcur hgbZ) (by omega) (HS _ (hwZ.trans (hcur.mono hwZ.size))).out).mono ?_; rintro e w8 ⟨rfl, hbw8⟩; have hcur := hcur.trans (hbw8.mono hcur.size); have hx0 := (hcur.cell (p := ⟨g, 0, none⟩) hgZ).trans zx0; have hx1 := (hcur.cell (p := ⟨g, 1, none⟩) hgZ).trans zx1; have hx2 := (hcur.cell (p := ⟨g, 2, none⟩) hgZ).trans zx2; have hx3 := (hcur.cell (p := ⟨g, 3, none⟩) hgZ).trans zx3; have hy0 := (hcur.cell (p := ⟨h, 0, none⟩) hhZ).trans zy0; have hy1 := (hcur.cell (p := ⟨h, 1, none⟩) hhZ).trans zy1; have hy2 := (hcur.cell (p := ⟨h, 2, none⟩) hhZ).trans zy2; have hy3 := (hcur.cell (p := ⟨h, 3, none⟩) hhZ).trans zy3; have hsz := hcur.size)
              | (go_at_call_of 8 (Value.agg #[Value.int IntKind.i64 2, Value.int IntKind.i64 0, Value.string (xstr q), Value.slice none 0 0]); refine (valid_any ad (.mk 2 0 (xstr q) []) _ 0 0 _ (hRB _).out (Nat.zero_le _) (HS _ (hwZ.trans (hcur.mono hwZ.size))).out).mono ?_; rintro e w10 ⟨rfl, hbw10⟩; have hcur := hcur.trans (hbw10.mono hcur.size); have hx0 := (hcur.cell (p := ⟨g, 0, none⟩) hgZ).trans zx0; have hx1 := (hcur.cell (p := ⟨g, 1, none⟩) hgZ).trans zx1; have hx2 := (hcur.cell (p := ⟨g, 2, none⟩) hgZ).trans zx2; have hx3 := (hcur.cell (p := ⟨g, 3, none⟩) hgZ).trans zx3; have hy0 := (hcur.cell (p := ⟨h, 0, none⟩) hhZ).trans zy0; have hy1 := (hcur.cell (p := ⟨h, 1, none⟩) hhZ).trans zy1; have hy2 := (hcur.cell (p := ⟨h, 2, none⟩) hhZ).trans zy2; have hy3 := (hcur.cell (p := ⟨h, 3, none⟩) hhZ).trans zy3; have hsz := hcur.size)
              | (go_at_call_of 9 (errVal ad (vIdx (nest j))); refine (is_any ad (vIdx (nest j)) (vIdx_lt _) _ _ (HS _ (hwZ.trans (hcur.mono hwZ.size))).out).mono ?_; rintro e w9 ⟨rfl, hbw9⟩; rw [HI1.out]; have hcur := hcur.trans (hbw9.mono hcur.size); have hx0 := (hcur.cell (p := ⟨g, 0, none⟩) hgZ).trans zx0; have hx1 := (hcur.cell (p := ⟨g, 1, none⟩) hgZ).trans zx1; have hx2 := (hcur.cell (p := ⟨g, 2, none⟩) hgZ).trans zx2; have hx3 := (hcur.cell (p := ⟨g, 3, none⟩) hgZ).trans zx3; have hy0 := (hcur.cell (p := ⟨h, 0, none⟩) hhZ).trans zy0; have hy1 := (hcur.cell (p := ⟨h, 1, none⟩) hhZ).trans zy1; have hy2 := (hcur.cell (p := ⟨h, 2, none⟩) hhZ).trans zy2; have hy3 := (hcur.cell (p := ⟨h, 3, none⟩) hhZ).trans zy3; have hsz := hcur.size)
              | (go_at_call_of 9 (errVal ad (vIdx (T.mk 2 0 (xstr q) []))); refine (is_any ad (vIdx (.mk 2 0 (xstr q) [])) (vIdx_lt _) _ _ (HS _ (hwZ.trans (hcur.mono hwZ.size))).out).mono ?_; rintro e w11 ⟨rfl, hbw11⟩; rw [HI2.out]; have hcur := hcur.trans (hbw11.mono hcur.size); have hx0 := (hcur.cell (p := ⟨g, 0, none⟩) hgZ).trans zx0; have hx1 := (hcur.cell (p := ⟨g, 1, none⟩) hgZ).trans zx1; have hx2 := (hcur.cell (p := ⟨g, 2, none⟩) hgZ).trans zx2; have hx3 := (hcur.cell (p := ⟨g, 3, none⟩) hgZ).trans zx3; have hy0 := (hcur.cell (p := ⟨h, 0, none⟩) hhZ).trans zy0; have hy1 := (hcur.cell (p := ⟨h, 1, none⟩) hhZ).trans zy1; have hy2 := (hcur.cell (p := ⟨h, 2, none⟩) hhZ).trans zy2; have hy3 := (hcur.cell (p := ⟨h, 3, none⟩) hhZ).trans zy3; have hsz := hcur.size)
              | (go_at_call_of 20 (Value.agg #[Value.int IntKind.i64 k, Value.int IntKind.i64 m, Value.string s, Value.slice p len cap]); refine (size_any (nest j) _ (g + 1) gb _ (HRZ.out.below hcur hgbZ) (by omega) (by rw [nest_sz]; omega)).mono ?_; rintro e w12 ⟨rfl, hbw12⟩; rw [nest_sz]; have hcur := hcur.trans (hbw12.mono hcur.size); have hx0 := (hcur.cell (p := ⟨g, 0, none⟩) hgZ).trans zx0; have hx1 := (hcur.cell (p := ⟨g, 1, none⟩) hgZ).trans zx1; have hx2 := (hcur.cell (p := ⟨g, 2, none⟩) hgZ).trans zx2; have hx3 := (hcur.cell (p := ⟨g, 3, none⟩) hgZ).trans zx3; have hy0 := (hcur.cell (p := ⟨h, 0, none⟩) hhZ).trans zy0; have hy1 := (hcur.cell (p := ⟨h, 1, none⟩) hhZ).trans zy1; have hy2 := (hcur.cell (p := ⟨h, 2, none⟩) hhZ).trans zy2; have hy3 := (hcur.cell (p := ⟨h, 3, none⟩) hhZ).trans zy3; have hsz := hcur.size)
              | (go_at_call_of 21 (Value.agg #[Value.int IntKind.i64 k, Value.int IntKind.i64 m, Value.string s, Value.slice p len cap]); refine (vdeep_any (nest j) _ (g + 1) gb _ (HRZ.out.below hcur hgbZ) (by omega) (by rw [nest_vdp]; omega)).mono ?_; rintro e w13 ⟨rfl, hbw13⟩; rw [nest_vdp]; have hcur := hcur.trans (hbw13.mono hcur.size); have hx0 := (hcur.cell (p := ⟨g, 0, none⟩) hgZ).trans zx0; have hx1 := (hcur.cell (p := ⟨g, 1, none⟩) hgZ).trans zx1; have hx2 := (hcur.cell (p := ⟨g, 2, none⟩) hgZ).trans zx2; have hx3 := (hcur.cell (p := ⟨g, 3, none⟩) hgZ).trans zx3; have hy0 := (hcur.cell (p := ⟨h, 0, none⟩) hhZ).trans zy0; have hy1 := (hcur.cell (p := ⟨h, 1, none⟩) hhZ).trans zy1; have hy2 := (hcur.cell (p := ⟨h, 2, none⟩) hhZ).trans zy2; have hy3 := (hcur.cell (p := ⟨h, 3, none⟩) hhZ).trans zy3; have hsz := hcur.size)
              | (go_at_call_of 20 (Value.agg #[Value.int IntKind.i64 2, Value.int IntKind.i64 0, Value.string (xstr q), Value.slice none 0 0]); refine (size_any (.mk 2 0 (xstr q) []) _ 0 0 _ (hRB _).out (Nat.zero_le _) (by rw [HSB.out]; omega)).mono ?_; rintro e w14 ⟨rfl, hbw14⟩; rw [HSB.out]; have hcur := hcur.trans (hbw14.mono hcur.size); have hx0 := (hcur.cell (p := ⟨g, 0, none⟩) hgZ).trans zx0; have hx1 := (hcur.cell (p := ⟨g, 1, none⟩) hgZ).trans zx1; have hx2 := (hcur.cell (p := ⟨g, 2, none⟩) hgZ).trans zx2; have hx3 := (hcur.cell (p := ⟨g, 3, none⟩) hgZ).trans zx3; have hy0 := (hcur.cell (p := ⟨h, 0, none⟩) hhZ).trans zy0; have hy1 := (hcur.cell (p := ⟨h, 1, none⟩) hhZ).trans zy1; have hy2 := (hcur.cell (p := ⟨h, 2, none⟩) hhZ).trans zy2; have hy3 := (hcur.cell (p := ⟨h, 3, none⟩) hhZ).trans zy3; have hsz := hcur.size))
            go_ret
            exact ⟨by first | rfl | exact ret_bool (beq_iff_eq.2 (by omega)), hwZ.trans (hcur.mono hwZ.size)⟩

end Go.Proofs.YtaogcllghlgbiaaDoor
