/- The document's Put and Insert. -/
import Derived.Test.YtjipchloebbldaaGlue2
namespace Go.Proofs.Ytjipchloebbldaa
open Go.RowKit
set_option maxRecDepth 100000

/-- Copies that lie in one new block. -/
def NewPart (w : World) (l : List T) (e : Ending) (w' : World) : Prop := (l = [] ∧ e = .returned (.slice none 0 0) ∧ Below w.heap.size w w') ∨ ∃ bo, w.heap.size ≤ bo ∧ e = .returned (.slice (some ⟨bo, 0, none⟩) l.length l.length) ∧ Part w' bo l l.length ∧ Below w.heap.size w w'
set_option maxHeartbeats 1000000 in
theorem values_part (l : List T) (w : World) (lo hi : Nat) (p : Option Addr) (cap : Nat) (hall : RepAll w lo hi l p) (_hlc : l.length ≤ cap) (hcap : l.length * 56 ≤ 140737488355328) (hhi : hi ≤ w.heap.size) :
    Calls Try.prog 11 #[.slice p l.length cap] w (NewPart w l) := by
  have ih : ∀ t ∈ l, ∀ (w : World) (lo hi : Nat) (v : Value), Rep w lo hi t v → hi ≤ w.heap.size → Calls Try.prog 42 #[v] w (NewVal w t) := fun t _ => value_any t
  cases hl : l with
  | nil =>
    simp only [List.length_nil]
    go_enter Try.func11, Try.ntmps11
    go_wp2
    go_ret
    exact .inl ⟨rfl, rfl, Below.refl _ _⟩
  | cons x xs =>
    have hpos : 0 < l.length := by rw [hl]; simp
    rw [← hl]
    clear hl
    have H := Lib.hid ih; clear ih
    obtain ⟨i0, hi0, hz0, hz1, hz2⟩ := info_parts Try.info_V
    have hmk : ∀ W : World, (Instr.makeSlice 22 (.int .i64 0) (.int .i64 (l.length : Int))).run Try.prog W = .ok (.slice (some ⟨W.heap.size, 0, none⟩) 0 l.length) (W.alloc (.cells (madeCells #[.int .i64 0, .int .i64 0, .string ⟨#[]⟩, .slice none 0 0] (l.length * 4)) 24)) := by
      intro W
      have h := run_make (P := Try.prog) W 22 24 i0 _ Try.underlying22 hi0 hz0 .i64 .i64 0 l.length (by omega) (by omega) (by rw [hz2]; omega) (by omega)
      rw [hz1] at h
      simpa [Value.cells] using h
    have hl0 : ((l.length : Int) == 0) = false := beq_eq_false_iff_ne.2 (by omega)
    go_enter Try.func11, Try.ntmps11
    go_wp2
    have hP := Lib.hid (Part.start w (madeCells #[.int .i64 0, .int .i64 0, .string ⟨#[]⟩, .slice none 0 0] (l.length * 4)) l (size_madeCells _ _))
    have hW : Below w.heap.size w (w.alloc (.cells (madeCells #[.int .i64 0, .int .i64 0, .string ⟨#[]⟩, .slice none 0 0] (l.length * 4)) 24)) := (Below.refl _ _).alloc (Nat.le_refl _) _
    clear hi0 hz0 hz1 hz2
    go_loopw [3, 4] (fun o i wr => ∃ j : Nat, j ≤ l.length ∧ i = .int .i64 j ∧ o = .slice (some ⟨w.heap.size, 0, none⟩) j l.length ∧ Hid (Part wr w.heap.size l j) ∧ Below w.heap.size w wr) (fun _ i _ => l.length - (intOf i).toNat)
    case atStart => exact ⟨0, Nat.zero_le _, rfl, rfl, hP, hW⟩
    case round =>
      obtain ⟨j, hj, rfl, rfl, HP, hbr⟩ := hrel
      have hz := hbr.size
      have hzl := HP.out.lt
      by_cases hlt : j < l.length
      · obtain ⟨b, off, k1, n1, s1, l1, q1, cc1, rfl, _, hbhi, hli, h0, h1, h2, h3, hrep⟩ := (hall.below hbr hhi).item j hlt
        have hlj : l[j] ∈ l := List.getElem_mem hlt
        rw [hli] at hrep hlj
        have HLI := Lib.hid hli; clear hli
        go_wp2_with (go_at_call 42; refine (H.out _ hlj _ lo hi _ hrep (by omega)).mono ?_; rintro e w2 ⟨v, rfl, hv, hb2⟩; obtain ⟨k2, n2, s2, q2, len2, cap2, rfl⟩ := rep_form hv; have HV := Lib.hid hv; clear hv; have hbz := hb2.size; have HP2 := Lib.hid (HP.out.below hb2); have hwl : w.heap.size < w2.heap.size := (by omega); obtain ⟨⟨u0, hu0⟩, ⟨u1, hu1⟩, ⟨u2, hu2⟩, ⟨u3, hu3⟩, hfz⟩ := HP2.out.room j hlt; have hf0 := hfz (j * 4); have hf1 := hfz (j * 4 + 1); have hf2 := hfz (j * 4 + 2); have hf3 := hfz (j * 4 + 3); clear hfz)
        go_roundw
        case rel =>
          have hv := HV.out
          have hli := HLI.out
          refine ⟨j + 1, by omega, by go_num, by go_num, ?_, ?_⟩
          · refine Part.below (Part.step HP2.out hlt _ _ _ _ ?_) ((Below.refl _ _).alloc (Nat.le_refl _) _)
            rw [hli]; exact hv.keep (by omega) (Nat.le_refl _) (fun _ _ _ => rfl)
          · exact (((((hbr.trans (hb2.mono hz)).setCell (Nat.le_refl _) _).setCell (Nat.le_refl _) _).setCell (Nat.le_refl _) _).setCell (Nat.le_refl _) _).alloc (by simp; omega) _
        case measure => simp [intOf]; omega
      · have hjl : j = l.length := by omega
        subst hjl
        go_wp2
        go_ret
        exact .inr ⟨_, Nat.le_refl _, rfl, HP.out, hbr⟩

/-- Another item in the place of the k-th. -/
theorem Part.put {wr : World} {bo lo k : Nat} {l : List T} {t : T} {c0 c1 c2 c3 : Value} (h : Part wr bo l l.length) (hk : k < l.length) (hv : Rep wr lo bo t (.agg #[c0, c1, c2, c3])) (hlo : lo ≤ bo) :
    RepAll ((((wr.setCell ⟨bo, k * 4, none⟩ c0).setCell ⟨bo, k * 4 + 1, none⟩ c1).setCell ⟨bo, k * 4 + 2, none⟩ c2).setCell ⟨bo, k * 4 + 3, none⟩ c3) lo wr.heap.size (l.take k ++ [t] ++ l.drop (k + 1)) (some ⟨bo, 0, none⟩) := by
  have hlt := h.lt
  obtain ⟨cs, h1, h2, h3⟩ := h
  have hset : ∀ (w : World) (c : Array Value) (o : Nat) (u : Value), w.heap[bo]? = some (.cells c 24 (0, 0)) → (w.setCell ⟨bo, o, none⟩ u).heap[bo]? = some (.cells (c.setIfInBounds o u) 24 (0, 0)) := by
    intro w c o u hw
    simp [World.setCell, Array.getElem?_modify, hw]
  have k3 := hset _ _ (k * 4 + 3) c3 (hset _ _ (k * 4 + 2) c2 (hset _ _ (k * 4 + 1) c1 (hset _ _ (k * 4) c0 h1)))
  have hother : ∀ p : Addr, p.block ≠ bo → ((((wr.setCell ⟨bo, k * 4, none⟩ c0).setCell ⟨bo, k * 4 + 1, none⟩ c1).setCell ⟨bo, k * 4 + 2, none⟩ c2).setCell ⟨bo, k * 4 + 3, none⟩ c3).cell? p = wr.cell? p := by
    intro p hp
    have hne : ∀ o : Nat, (⟨bo, o, none⟩ : Addr).block ≠ p.block := fun o e => hp e.symm
    rw [World.cell?_of_block (Below.heap_setCell _ _ _ _ (hne (k * 4 + 3)).symm), World.cell?_of_block (Below.heap_setCell _ _ _ _ (hne (k * 4 + 2)).symm), World.cell?_of_block (Below.heap_setCell _ _ _ _ (hne (k * 4 + 1)).symm), World.cell?_of_block (Below.heap_setCell _ _ _ _ (hne (k * 4)).symm)]
  have hc := fun o => cell_of_row _ _ o _ _ _ k3
  refine RepAll.of hlo hlt _ 0 (fun i hi => ?_)
  have hi' : i < l.length := by simp at hi; omega
  rw [Nat.zero_add]
  by_cases e : i = k
  · subst e
    refine ⟨c0, c1, c2, c3, (hc _).trans ?_, (hc _).trans ?_, (hc _).trans ?_, (hc _).trans ?_, ?_⟩
    · simp [Array.getElem?_setIfInBounds]; omega
    · simp [Array.getElem?_setIfInBounds]; omega
    · simp [Array.getElem?_setIfInBounds]; omega
    · simp [Array.getElem?_setIfInBounds]; omega
    · have hl : (l.take i ++ [t] ++ l.drop (i + 1))[i]'hi = t := by
        rw [List.getElem_append_left (by simp; omega), List.getElem_append_right (by simp; omega)]; simp
      rw [hl]
      exact hv.keep (Nat.le_refl _) (by omega) (fun p _ hp => hother p (by omega))
  · obtain ⟨d0, d1, d2, d3, e0, e1, e2, e3, hr'⟩ := h3 i hi' hi'
    refine ⟨d0, d1, d2, d3, (hc _).trans ?_, (hc _).trans ?_, (hc _).trans ?_, (hc _).trans ?_, ?_⟩
    · rw [Array.getElem?_setIfInBounds_ne (by omega), Array.getElem?_setIfInBounds_ne (by omega), Array.getElem?_setIfInBounds_ne (by omega), Array.getElem?_setIfInBounds_ne (by omega)]; exact e0
    · rw [Array.getElem?_setIfInBounds_ne (by omega), Array.getElem?_setIfInBounds_ne (by omega), Array.getElem?_setIfInBounds_ne (by omega), Array.getElem?_setIfInBounds_ne (by omega)]; exact e1
    · rw [Array.getElem?_setIfInBounds_ne (by omega), Array.getElem?_setIfInBounds_ne (by omega), Array.getElem?_setIfInBounds_ne (by omega), Array.getElem?_setIfInBounds_ne (by omega)]; exact e2
    · rw [Array.getElem?_setIfInBounds_ne (by omega), Array.getElem?_setIfInBounds_ne (by omega), Array.getElem?_setIfInBounds_ne (by omega), Array.getElem?_setIfInBounds_ne (by omega)]; exact e3
    · have hl : (l.take k ++ [t] ++ l.drop (k + 1))[i]'hi = l[i] := by
        rcases Nat.lt_or_ge i k with h4 | h4
        · rw [List.getElem_append_left (by simp; omega), List.getElem_append_left (by simp; omega), List.getElem_take]
        · rw [List.getElem_append_right (by simp; omega), List.getElem_drop]; congr 1; simp; omega
      rw [hl]
      exact hr'.keep (by omega) (Nat.le_refl _) (fun p hp _ => hother p (by omega))

theorem Part.put' {wr : World} {bo lo k : Nat} {l L : List T} {t : T} {c0 c1 c2 c3 : Value} (h : Part wr bo l l.length) (hk : k < l.length) (hv : Rep wr lo bo t (.agg #[c0, c1, c2, c3])) (hlo : lo ≤ bo) (hL : L = l.take k ++ [t] ++ l.drop (k + 1)) :
    RepAll ((((wr.setCell ⟨bo, k * 4, none⟩ c0).setCell ⟨bo, k * 4 + 1, none⟩ c1).setCell ⟨bo, k * 4 + 2, none⟩ c2).setCell ⟨bo, k * 4 + 3, none⟩ c3) lo ((((wr.setCell ⟨bo, k * 4, none⟩ c0).setCell ⟨bo, k * 4 + 1, none⟩ c1).setCell ⟨bo, k * 4 + 2, none⟩ c2).setCell ⟨bo, k * 4 + 3, none⟩ c3).heap.size L (some ⟨bo, 0, none⟩) := by
  rw [World.size_setCell, World.size_setCell, World.size_setCell, World.size_setCell, hL]
  exact h.put hk hv hlo

set_option maxHeartbeats 2000000 in
theorem rput_any (l : List T) (p : Option Addr) (cap : Nat) (i : Int) (t : T) (v : Value) (w : World) (lo : Nat) (ha : RepAll w lo w.heap.size l p) (hca : l.length ≤ cap) (hi : I64 i) (hv : Rep w lo w.heap.size t v) (hsz : szAll l + sz t ≤ 900000) (hlo : lo ≤ w.heap.size) :
    Calls Try.prog 17 #[.slice p l.length cap, .int .i64 i, v] w (Ans lo w (putS rfit l i t)) := by
  have hlen := len_le_sz l
  have htp := sz_pos t
  obtain ⟨vk, vn, vs, vp, vl, vc, rfl⟩ := rep_form hv
  by_cases hh : hasB l.length i = true
  · obtain ⟨i1, i2⟩ := hasB_iff.1 hh
    obtain ⟨k, rfl⟩ : ∃ k : Nat, i = (k : Int) + 1 := ⟨(i - 1).toNat, by omega⟩
    obtain ⟨L, hL⟩ : ∃ L, L = l.take k ++ [t] ++ l.drop (k + 1) := ⟨_, rfl⟩
    have hLs : szAll L ≤ 900000 := by
      have h1 := szAll_append (l.take k ++ [t]) (l.drop (k + 1)); have h4 := szAll_append (l.take k) [t]; have h2 := szAll_split l k (by omega); have h3 := szAll_append (l.take (k + 1)) (l.drop (k + 1)); rw [List.take_append_drop] at h3; have := sz_pos (l[k]'(by omega)); simp only [szAll] at h4; rw [hL]; omega
    have hLl : L.length = l.length := by rw [hL]; simp; omega
    obtain ⟨R, hR⟩ : ∃ R, R = madeS (rfit L) L := ⟨_, rfl⟩
    have HS : Hid (putS rfit l ((k : Int) + 1) t = R) := by show _ = _; unfold putS; rw [if_pos hh, show ((k : Int) + 1).toNat = k + 1 by omega, Nat.add_sub_cancel, ← hL, ← hR]
    have hK := made_tail L w lo hLs R hR
    rw [hLl] at hK
    have HK := Lib.hid hK
    have HL := Lib.hid hL
    have HV := Lib.hid hv
    have HVS := Lib.hid (values_part l (w.alloc (.cells #[.int .i64 vk, .int .i64 vn, .string vs, .slice vp vl vc] 24)) lo w.heap.size p cap (ha.alloc (Nat.le_refl _) _) hca (by omega) (by simp))
    have hkl : k < l.length := by omega
    rw [HS.out]
    clear ha hR HS hL hv hK
    go_enter Try.func17, Try.ntmps17
    go_wp2_with (first
      | (go_at_call 11; go_loud (refine HVS.out.mono ?_; rintro e w2 (⟨h0, _⟩ | ⟨bo, hbo, rfl, hP, hb2⟩); (exact absurd hkl (by rw [h0]; simp)); have HP := Lib.hid hP; rw [World.size_alloc] at hbo; have HB2 := Lib.hid (((Below.refl w.heap.size w).alloc (Nat.le_refl _) (.cells #[.int .i64 vk, .int .i64 vn, .string vs, .slice vp vl vc] 24)).trans (hb2.mono (by simp))); obtain ⟨hx0, hx1, hx2, hx3, hxf⟩ := box4_in w2 w.heap.size _ _ _ _ _ (heap_old (heap_alloc_new w _) hb2); clear hxf; obtain ⟨⟨u0, hu0⟩, ⟨u1, hu1⟩, ⟨u2, hu2⟩, ⟨u3, hu3⟩, hfz⟩ := hP.room k hkl; have hf0 := hfz (k * 4); have hf1 := hfz (k * 4 + 1); have hf2 := hfz (k * 4 + 2); have hf3 := hfz (k * 4 + 3); have hbl := hP.lt; clear hfz hP hb2))
      | (go_at_call 47; have HX := Lib.hid (HP.out.put' hkl ((HV.out.below HB2.out (Nat.le_refl _)).keep (Nat.le_refl _) (hi' := bo) (by omega) (fun _ _ _ => rfl)) (by omega) HL.out); (with_reducible refine (HK.out _ _ _ HX.out (Nat.le_refl _) ((((HB2.out.setCell (by show w.heap.size ≤ bo; omega) _).setCell (by show w.heap.size ≤ bo; omega) _).setCell (by show w.heap.size ≤ bo; omega) _).setCell (by show w.heap.size ≤ bo; omega) _)).mono ?_); rintro e w3 ⟨p3, cap3, rfl, h3⟩; have H3 := Lib.hid h3; clear h3))
    go_ret2
    exact ⟨p3, cap3, rfl, H3.out⟩
  · have HS : Hid (putS rfit l i t = ([], 10)) := by show _ = _; unfold putS; rw [if_neg hh]
    have h2 : i < 1 ∨ (l.length : Int) < i := by rw [hasB_iff] at hh; omega
    clear ha hv
    rw [HS.out]
    rcases Int.lt_or_le i 1 with h1 | h1
    · go_enter Try.func17, Try.ntmps17
      go_wp2
      go_ret2
      exact ans_none 10 ((Below.refl _ _).alloc (Nat.le_refl _) _)
    · have h3 : (l.length : Int) < i := by omega
      go_enter Try.func17, Try.ntmps17
      go_wp2
      go_ret2
      exact ans_none 10 ((Below.refl _ _).alloc (Nat.le_refl _) _)
end Go.Proofs.Ytjipchloebbldaa
