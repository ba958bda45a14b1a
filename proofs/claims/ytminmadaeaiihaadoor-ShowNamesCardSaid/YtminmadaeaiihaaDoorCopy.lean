/- Copies in new memory, as the document's words make them: Value, Values, L. -/
import Derived.Test.YtminmadaeaiihaaDoorClone
import Derived.Deep.RegionHeld3
namespace Go.Proofs.YtminmadaeaiihaaDoor
open Go.RowKit

set_option maxHeartbeats 1000000 in
theorem values_any (l : List T) (ih : ∀ t ∈ l, ∀ (w : World) (lo hi : Nat) (v : Value), Rep w lo hi t v → hi ≤ w.heap.size → Calls Tryd.prog 61 #[v] w (NewVal w t))
    (w : World) (lo hi : Nat) (p : Option Addr) (cap : Nat) (hall : RepAll w lo hi l p) (_hlc : l.length ≤ cap) (hcap : l.length * 56 ≤ 140737488355328) (hhi : hi ≤ w.heap.size) :
    Calls Tryd.prog 97 #[.slice p l.length cap] w (NewList w l) := by
  cases hl : l with
  | nil =>
    simp only [List.length_nil]
    go_enter Tryd.func97, Tryd.ntmps97
    go_wp2
    go_ret
    exact ⟨none, 0, rfl, Nat.le_refl _, by simp, by unfold RepAll; trivial, Below.refl _ _⟩
  | cons x xs =>
    have hpos : 0 < l.length := by rw [hl]; simp
    rw [← hl]
    clear hl
    have H := Lib.hid ih; clear ih
    obtain ⟨i0, hi0, hz0, hz1, hz2⟩ := info_parts Tryd.info_V
    have hmk : ∀ W : World, (Instr.makeSlice 36 (.int .i64 0) (.int .i64 (l.length : Int))).run Tryd.prog W = .ok (.slice (some ⟨W.heap.size, 0, none⟩) 0 l.length) (W.alloc (.cells (madeCells #[.int .i64 0, .int .i64 0, .string ⟨#[]⟩, .slice none 0 0] (l.length * 4)) 38)) := by
      intro W
      have h := run_make (P := Tryd.prog) W 36 38 i0 _ Tryd.underlying36 hi0 hz0 .i64 .i64 0 l.length (by omega) (by omega) (by rw [hz2]; omega) (by omega)
      rw [hz1] at h
      simpa [Value.cells] using h
    have hl0 : ((l.length : Int) == 0) = false := beq_eq_false_iff_ne.2 (by omega)
    go_enter Tryd.func97, Tryd.ntmps97
    go_wp2
    have hP := Lib.hid (Part.start w (madeCells #[.int .i64 0, .int .i64 0, .string ⟨#[]⟩, .slice none 0 0] (l.length * 4)) l (size_madeCells _ _))
    have hW : Below w.heap.size w (w.alloc (.cells (madeCells #[.int .i64 0, .int .i64 0, .string ⟨#[]⟩, .slice none 0 0] (l.length * 4)) 38)) := (Below.refl _ _).alloc (Nat.le_refl _) _
    clear hi0 hz0 hz1 hz2
    go_loopw [3, 4] (fun o i wr => ∃ j : Nat, j ≤ l.length ∧ i = .int .i64 j ∧ o = .slice (some ⟨w.heap.size, 0, none⟩) j l.length ∧ Hid (Part wr w.heap.size l j) ∧ Below w.heap.size w wr) (fun _ i _ => l.length - (intOf i).toNat)
    case atStart => exact ⟨0, Nat.zero_le _, rfl, rfl, hP, hW⟩
    case round =>
      obtain ⟨j, hj, rfl, rfl, HP, hbr⟩ := hrel
      have hz := hbr.size
      have hzl := HP.out.lt
      by_cases hlt : j < l.length
      · obtain ⟨b, off, k1, n1, s1, l1, q1, cc1, rfl, _, hbhi, hli, h0, h1, h2, h3, hrep⟩ := (hall.below hbr hhi).item j hlt
        have hlj : l[j] ∈ l := List.getElem_mem hlt
        rw [hli] at hrep hlj
        have HLI := Lib.hid hli; clear hli
        go_wp2_with (go_at_call 61; refine (H.out _ hlj _ lo hi _ hrep (by omega)).mono ?_; rintro e w2 ⟨v, rfl, hv, hb2⟩; obtain ⟨k2, n2, s2, q2, len2, cap2, rfl⟩ := rep_form hv; have HV := Lib.hid hv; clear hv; have hbz := hb2.size; have HP2 := Lib.hid (HP.out.below hb2); have hwl : w.heap.size < w2.heap.size := (by omega); obtain ⟨⟨u0, hu0⟩, ⟨u1, hu1⟩, ⟨u2, hu2⟩, ⟨u3, hu3⟩, hfz⟩ := HP2.out.room j hlt; have hf0 := hfz (j * 4); have hf1 := hfz (j * 4 + 1); have hf2 := hfz (j * 4 + 2); have hf3 := hfz (j * 4 + 3); clear hfz)
        go_roundw
        case rel =>
          have hv := HV.out
          have hli := HLI.out
          refine ⟨j + 1, by omega, by go_num, by go_num, ?_, ?_⟩
          · refine Part.below (Part.step HP2.out hlt _ _ _ _ ?_) ((Below.refl _ _).alloc (Nat.le_refl _) _)
            rw [hli]; exact hv.keep (by omega) (Nat.le_refl _) (fun _ _ _ => rfl)
          · exact (((((hbr.trans (hb2.mono hz)).setCell (Nat.le_refl _) _).setCell (Nat.le_refl _) _).setCell (Nat.le_refl _) _).setCell (Nat.le_refl _) _).alloc (by simp; omega) _
        case measure => simp [intOf]; omega
      · have hjl : j = l.length := by omega
        subst hjl
        go_wp2
        go_ret
        exact ⟨_, _, rfl, Nat.le_refl _, by omega, HP.out.done.keep (by omega) (Nat.le_refl _) (fun _ _ _ => rfl), hbr⟩

set_option maxHeartbeats 1000000 in
theorem value_any : ∀ (t : T) (w : World) (lo hi : Nat) (v : Value), Rep w lo hi t v → hi ≤ w.heap.size → Calls Tryd.prog 61 #[v] w (NewVal w t) := by
  refine T.ind_ (fun k n s l ih w lo hi v hr hhi => ?_)
  unfold Rep at hr
  obtain ⟨p, cap, rfl, hk, hn, hs, hlc, hcap, hall⟩ := hr
  have H := Lib.hid ih; clear ih
  have HALL := Lib.hid hall; clear hall
  go_enter Tryd.func61, Tryd.ntmps61
  go_wp2
  go_region_held3 (fun w' => w'.cell? ⟨w.heap.size, 0, none⟩ = some (.int .i64 k) ∧ w'.cell? ⟨w.heap.size, 1, none⟩ = some (.int .i64 n) ∧ w'.cell? ⟨w.heap.size, 2, none⟩ = some (.string s) ∧ w'.cell? ⟨w.heap.size, 3, none⟩ = some (.slice p l.length cap)) (first | go_keep | exact ⟨by assumption, by assumption, by assumption, by assumption⟩ | (go_show; fail)) (first | (go_at_call 97; refine (values_any l H.out _ lo hi p cap ((HALL.out.alloc hhi _).alloc (by simp; omega) _).drew hlc hcap (by simp; omega)).mono ?_; rintro e w2 ⟨p2, cap2, rfl, hlc2, hcap2, hall2, hb2⟩; have HA2 := Lib.hid hall2; clear hall2; obtain ⟨hx0, hx1, hx2, hx3, hxf⟩ := box4_in w2 w.heap.size _ _ _ _ _ (heap_old (heap_drew (heap_alloc_ _ _ _ _ (heap_alloc_new w _))) hb2); have hxf3 := hxf 3; clear hxf; obtain ⟨hy0, hy1, hy2, hy3, hyf⟩ := box4_in w2 (w.heap.size + 1) _ _ _ _ _ (heap_old (heap_drew (by have h := heap_alloc_new (w.alloc (.cells #[.int .i64 k, .int .i64 n, .string s, .slice p l.length cap] 38)) (.cells #[.int .i64 0, .int .i64 0, .string ⟨#[]⟩, .slice none 0 0] 38); rw [World.size_alloc] at h; exact h)) hb2); have hyf0 := hyf 0; have hyf1 := hyf 1; have hyf2 := hyf 2; have hyf3 := hyf 3; clear hyf))
  go_wp2
  refine bodyPost_ret (v := .agg #[.int .i64 k, .int .i64 n, .string s, .slice p2 l.length cap2]) (by simp [results, Tryd.results61, go_sem, hy0, hy1, hy2, hy3]) rfl ?_
  have hbw : Below w.heap.size w w2 := (((Below.refl _ _).alloc (Nat.le_refl _) _).alloc (by simp) _).drew.trans (hb2.mono (by simp; omega))
  refine ⟨_, rfl, Rep.mk_ hk hn hs hlc2 hcap2 (((((HA2.out.setCell (Or.inl (by simp)) _).setCell (Or.inl (by simp)) _).setCell (Or.inl (by simp)) _).setCell (Or.inl (by simp)) _).keep (by simp; omega) (by simp) (fun _ _ _ => rfl)), ?_⟩
  exact (((hbw.setCell (by simp) _).setCell (by simp) _).setCell (by simp) _).setCell (by simp) _

end Go.Proofs.YtminmadaeaiihaaDoor
