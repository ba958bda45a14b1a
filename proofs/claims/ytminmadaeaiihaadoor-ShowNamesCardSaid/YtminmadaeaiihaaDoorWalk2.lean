/- The contract of val.Valid's walk, whole. -/
import Derived.Test.YtminmadaeaiihaaDoorWalk
namespace Go.Proofs.YtminmadaeaiihaaDoor
open Go.RowKit

theorem zz_alone (k n : Int) (s : ByteArray) (z : Int) : zz k s z = z + szAlone (.mk k n s []) := by
  by_cases hk : k = 2
  · simp [zz, szAlone, hk]; omega
  · simp [zz, szAlone, hk]
theorem szAlone_le (k n : Int) (s : ByteArray) : szAlone (.mk k n s []) ≤ 1 + s.size := by
  by_cases hk : k = 2
  · simp [szAlone, hk]
  · simp [szAlone, hk]; omega

def Ptrs (eD eM eR eS : Value) : Prop := ∀ c, ∃ a, errOf eD eM eR eS c = .iface 179 (.pointer (some a))

def WalkAt (eD eM eR eS : Value) (t : T) : Prop := ∀ (w : World) (lo hi : Nat) (v : Value) (d z : Int), Rep w lo hi t v → hi ≤ w.heap.size → Errs w eD eM eR eS → NG ≤ w.heap.size → 0 ≤ z → z ≤ 4096 → 0 ≤ d → d ≤ 1000 →
  Calls Tryd.prog 130 #[v, .int .i64 d, .int .i64 z] w (WalkSays eD eM eR eS t d z w)

set_option maxHeartbeats 2000000 in
theorem walk_all (eD eM eR eS : Value) (hP : Ptrs eD eM eR eS) : ∀ t, WalkAt eD eM eR eS t := by
  refine T.ind_ (fun k n s l ih w lo hi v d z hr hhi he h4 hz0 hz1 hd0 hd1 => ?_)
  unfold Rep at hr
  obtain ⟨p, cap, rfl, hk, hn, hs, hlc, hcap, hall⟩ := hr
  by_cases hd : 40 < d
  · exact walk_deep k n s l p cap d z w eD eM eR eS he h4 hd
  have hg0 : 2 < w.heap.size := by unfold NG at h4; omega
  have hg1 : 1 < w.heap.size := by unfold NG at h4; omega
  have hg2 : 5 < w.heap.size := by unfold NG at h4; omega
  have hg3 : 3 < w.heap.size := by unfold NG at h4; omega
  have hA := (sz_eq k n s l).1
  have hZ := Lib.hid (zz_alone k n s z)
  have hAs := szAlone_le k n s
  have H := Lib.hid ih; clear ih
  have HALL := Lib.hid hall; clear hall
  have HE := Lib.hid he
  by_cases hm : 4096 < z + szAlone (.mk k n s [])
  · have hO := Lib.hid (odd_104 (k := k) (n := n) (s := s) (l := l) (d := d) (z := z) (by omega) (by rw [hZ.out]; omega))
    clear he
    go_enter Tryd.func130, Tryd.ntmps130
    go_wp2_with (go_at_call 147; refine (sizeAlone_any _ _ _ _ _ hs).mono ?_; rintro e w2 ⟨rfl, hb2⟩; have e1 := ((HE.out.below ((Below.refl w.heap.size w).alloc (Nat.le_refl _) _) h4).below hb2 (by simp; omega)).many; have hb3 := Lib.hid (((Below.refl w.heap.size w).alloc (Nat.le_refl _) _).trans (hb2.mono (by simp))))
    go_quiet (fail)
    go_wp2
    go_ret2
    exact WalkSays.bad hO.out (by decide) rfl (below_drawn hb3.out _)
  have hzz : zz k s z ≤ 4096 := by rw [hZ.out]; omega
  cases hr : badRange k n with
  | true =>
    have hO := Lib.hid (odd_105 (k := k) (n := n) (s := s) (l := l) (d := d) (z := z) (by omega) hzz hr)
    have HR := Lib.hid hr
    clear he hr hzz
    go_enter Tryd.func130, Tryd.ntmps130
    go_wp2_with (first
      | (go_at_call 147; refine (sizeAlone_any _ _ _ _ _ hs).mono ?_; rintro e w2 ⟨rfl, hb2⟩; obtain ⟨hx0, hx1, hx2, hx3, hxf⟩ := box4_in w2 w.heap.size _ _ _ _ _ (heap_old (heap_alloc_new w _) hb2); clear hxf; have hz2 := hb2.size; rw [World.size_alloc] at hz2)
      | (go_at_call 148; refine (inRange_any _ _ _ _ _).mono ?_; rintro e w3 ⟨rfl, hb3⟩; rw [HR.out]; have hb4 := ((Below.refl w.heap.size w).alloc (Nat.le_refl _) _).trans ((hb2.mono (by simp)).trans (hb3.mono (by omega))); have e1 := (HE.out.below hb4 h4).range; have HB4 := Lib.hid hb4; clear hb4))
    go_quiet (fail)
    go_wp2
    go_ret2
    exact WalkSays.bad hO.out (by decide) rfl (below_drawn HB4.out _)
  | false =>
    have HR := Lib.hid hr
    cases hsh : badShape k n s l.length with
    | true =>
      have hO := Lib.hid (odd_103 (k := k) (n := n) (s := s) (l := l) (d := d) (z := z) (by omega) hzz hr hsh)
      have HS := Lib.hid hsh
      clear he hr hzz hsh
      go_enter Tryd.func130, Tryd.ntmps130
      go_wp2_with (first
      | (go_at_call 147; refine (sizeAlone_any _ _ _ _ _ hs).mono ?_; rintro e w2 ⟨rfl, hb2⟩; obtain ⟨hx0, hx1, hx2, hx3, hxf⟩ := box4_in w2 w.heap.size _ _ _ _ _ (heap_old (heap_alloc_new w _) hb2); clear hxf; have hz2 := hb2.size; rw [World.size_alloc] at hz2)
      | (go_at_call 148; refine (inRange_any _ _ _ _ _).mono ?_; rintro e w3 ⟨rfl, hb3⟩; rw [HR.out]; have hz3 := hb3.size; have hx0 := (hb3.cell (p := ⟨w.heap.size, 0, none⟩) hz2).trans hx0; have hx1 := (hb3.cell (p := ⟨w.heap.size, 1, none⟩) hz2).trans hx1; have hx2 := (hb3.cell (p := ⟨w.heap.size, 2, none⟩) hz2).trans hx2; have hx3 := (hb3.cell (p := ⟨w.heap.size, 3, none⟩) hz2).trans hx3)
      | (go_at_call 149; refine (inShape_any _ _ _ _ _ _ _ hs).mono ?_; rintro e w4 ⟨rfl, hb4⟩; rw [HS.out]; have hb5 := ((Below.refl w.heap.size w).alloc (Nat.le_refl _) _).trans ((hb2.mono (by simp)).trans ((hb3.mono (by omega)).trans (hb4.mono (by omega)))); have e1 := (HE.out.below hb5 h4).shape; have hz4 := hb4.size; have hx3 := (hb4.cell (p := ⟨w.heap.size, 3, none⟩) (Nat.lt_of_lt_of_le hz2 hz3)).trans hx3; have HB5 := Lib.hid hb5; clear hb5))
      go_quiet (fail)
      go_wp2
      go_ret2
      exact WalkSays.bad hO.out (by decide) rfl (below_drawn HB5.out _)
    | false =>
      have hO := Lib.hid (odd_fine (k := k) (n := n) (s := s) (l := l) (d := d) (z := z) (by omega) hzz hr hsh)
      have HS := Lib.hid hsh
      have HZ := Lib.hid hzz
      clear he hr hzz hsh
      go_enter Tryd.func130, Tryd.ntmps130
      go_wp2_with (first
      | (go_at_call 147; refine (sizeAlone_any _ _ _ _ _ hs).mono ?_; rintro e w2 ⟨rfl, hb2⟩; obtain ⟨hx0, hx1, hx2, hx3, hxf⟩ := box4_in w2 w.heap.size _ _ _ _ _ (heap_old (heap_alloc_new w _) hb2); clear hxf; have hz2 := hb2.size; rw [World.size_alloc] at hz2)
      | (go_at_call 148; refine (inRange_any _ _ _ _ _).mono ?_; rintro e w3 ⟨rfl, hb3⟩; rw [HR.out]; have hz3 := hb3.size; have hx0 := (hb3.cell (p := ⟨w.heap.size, 0, none⟩) hz2).trans hx0; have hx1 := (hb3.cell (p := ⟨w.heap.size, 1, none⟩) hz2).trans hx1; have hx2 := (hb3.cell (p := ⟨w.heap.size, 2, none⟩) hz2).trans hx2; have hx3 := (hb3.cell (p := ⟨w.heap.size, 3, none⟩) hz2).trans hx3)
      | (go_at_call 149; refine (inShape_any _ _ _ _ _ _ _ hs).mono ?_; rintro e w4 ⟨rfl, hb4⟩; rw [HS.out]; have hb5 := ((Below.refl w.heap.size w).alloc (Nat.le_refl _) _).trans ((hb2.mono (by simp)).trans ((hb3.mono (by omega)).trans (hb4.mono (by omega)))); have e1 := (HE.out.below hb5 h4).shape; have hz4 := hb4.size; have hx3 := (hb4.cell (p := ⟨w.heap.size, 3, none⟩) (Nat.lt_of_lt_of_le hz2 hz3)).trans hx3; have HB5 := Lib.hid hb5; clear hb5))
      go_slots
      go_loopw [2, 32] (fun o i wr => ∃ (j : Nat) (y : Int), j ≤ l.length ∧ i = .int .i64 j ∧ o = .int .i64 y ∧ 0 ≤ y ∧ y ≤ 4096 ∧ Hid (oddAll l (d + 1) (zz k s z) = oddAll (l.drop j) (d + 1) y) ∧ Below w.heap.size w wr) (fun _ i _ => l.length - (intOf i).toNat)
      case atStart => exact ⟨0, zz k s z, Nat.zero_le _, rfl, by rw [hZ.out], by rw [hZ.out]; omega, HZ.out, rfl, HB5.out⟩
      case round =>
        obtain ⟨j, y, hj, rfl, rfl, hy0, hy1, HO, hbr⟩ := hrel
        have hz := hbr.size
        by_cases hlt : j < l.length
        · obtain ⟨b, off, k1, n1, s1, l1, q1, cc1, rfl, _, hbhi, hli, h0, h1, h2, h3, hrep⟩ := (HALL.out.below hbr hhi).item j hlt
          have hA0 := oddAll_drop l j hlt (d + 1) y
          rw [hli] at hA0
          have hAA := Lib.hid (HO.out.trans hA0); clear hA0
          have hlj : l[j] ∈ l := List.getElem_mem hlt
          rw [hli] at hlj hrep
          have hB := Lib.hid (odd_bound (.mk k1 n1 s1 l1) (d + 1) y)
          clear hli HO
          by_cases hc : (odd (.mk k1 n1 s1 l1) (d + 1) y).1 = 0
          · have hB1 := hB.out hc
            have HW : Hid (WalkRes eD eM eR eS (odd (.mk k1 n1 s1 l1) (d + 1) y) = .tuple #[.int .i64 (odd (.mk k1 n1 s1 l1) (d + 1) y).2, .nilIface]) := by show _ = _; unfold WalkRes; rw [if_pos hc]
            have HC := Lib.hid hc; clear hc
            go_wp2_with (go_at_call 130; refine (H.out _ hlj _ lo hi _ (d + 1) y (hrep.alloc (by omega) _) (by simp; omega) (HE.out.below (hbr.alloc hz _) h4) (by simp; omega) hy0 hy1 (by omega) (by omega)).mono ?_; rintro e w6 ⟨rfl, hb6⟩; rw [HW.out])
            go_roundw
            case rel =>
              refine ⟨j + 1, _, by omega, by go_num, rfl, by omega, hB1.2, ?_, (hbr.alloc hz _).trans (hb6.mono (by simp; omega))⟩
              show _ = _
              rw [hAA.out, if_neg (by simpa using HC.out)]
            case measure => simp [intOf]; omega
          · obtain ⟨a, ha⟩ := hP (odd (.mk k1 n1 s1 l1) (d + 1) y).1
            have HW : Hid (WalkRes eD eM eR eS (odd (.mk k1 n1 s1 l1) (d + 1) y) = .tuple #[.int .i64 0, .iface 179 (.pointer (some a))]) := by show _ = _; unfold WalkRes; rw [if_neg hc, ha]
            have HA2 := Lib.hid ha
            have HC := Lib.hid hc; clear hc ha
            go_wp2_with (go_at_call 130; refine (H.out _ hlj _ lo hi _ (d + 1) y (hrep.alloc (by omega) _) (by simp; omega) (HE.out.below (hbr.alloc hz _) h4) (by simp; omega) hy0 hy1 (by omega) (by omega)).mono ?_; rintro e w6 ⟨rfl, hb6⟩; rw [HW.out])
            go_ret2
            refine WalkSays.bad (z' := (odd (.mk k1 n1 s1 l1) (d + 1) y).2) ?_ HC.out HA2.out.symm ((hbr.alloc hz _).trans (hb6.mono (by simp; omega)))
            rw [hO.out, hAA.out, if_pos HC.out]
        · have hjl : j = l.length := by omega
          subst hjl
          go_wp2
          go_ret2
          refine ⟨?_, hbr⟩
          rw [hO.out, HO.out, List.drop_length, oddAll]; rfl

end Go.Proofs.YtminmadaeaiihaaDoor
