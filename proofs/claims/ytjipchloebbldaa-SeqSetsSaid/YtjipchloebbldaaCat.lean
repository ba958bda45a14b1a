/- slices.Concat at lists of values: the lists' items one behind the other, in new memory. -/
import Derived.Test.YtjipchloebbldaaCells
namespace Go.Proofs.Ytjipchloebbldaa
open Go.RowKit
set_option maxRecDepth 100000

/-- The parts of which a list is put together: each one's items, where they lie, and its room. -/
abbrev Prt := List T × Option Addr × Nat
def flat (ps : List Prt) : List T := (ps.map (·.1)).flatten
theorem flat_succ (ps : List Prt) (j : Nat) (h : j < ps.length) : flat (ps.take (j + 1)) = flat (ps.take j) ++ ps[j].1 := by
  unfold flat; rw [List.take_succ_eq_append_getElem h, List.map_append, List.flatten_append]; simp
theorem flat_le (ps : List Prt) (j : Nat) : (flat (ps.take j)).length ≤ (flat ps).length := by
  have h : flat ps = flat (ps.take j) ++ flat (ps.drop j) := by
    unfold flat; rw [← List.flatten_append, ← List.map_append, List.take_append_drop]
  rw [h, List.length_append]; omega
def Parts (w : World) (lo hi ba : Nat) (ps : List Prt) : Prop := ∀ k (h : k < ps.length), w.cell? ⟨ba, k, none⟩ = some (.slice ps[k].2.1 ps[k].1.length ps[k].2.2) ∧ RepAll w lo hi ps[k].1 ps[k].2.1 ∧ ps[k].1.length ≤ ps[k].2.2
theorem Parts.below {w w' : World} {lo hi ba B : Nat} {ps : List Prt} (h : Parts w lo hi ba ps) (hb : Below B w w') (hB : hi ≤ B) (hba : ba < B) : Parts w' lo hi ba ps :=
  fun k hk => ⟨(hb.cell (p := ⟨ba, k, none⟩) hba).trans (h k hk).1, (h k hk).2.1.below hb hB, (h k hk).2.2⟩

set_option maxHeartbeats 2000000 in
theorem concat_any (ps : List Prt) (w : World) (lo hi ba c : Nat) (hp : Parts w lo hi ba ps) (hba : ba < w.heap.size) (hhi : hi ≤ w.heap.size) (hlo : lo ≤ w.heap.size) (hlen : (flat ps).length ≤ 1000000) (hps : ps.length ≤ 1000) :
    Calls Try.prog 48 #[.slice (some ⟨ba, 0, none⟩) ps.length c] w fun e w' => ∃ p cap, e = .returned (.slice p (flat ps).length cap) ∧ (flat ps).length ≤ cap ∧ RepAll w' lo w'.heap.size (flat ps) p ∧ Below w.heap.size w w' := by
  obtain ⟨i0, hi0, hz0, hz1, hz2⟩ := info_parts Try.info_V
  have HP := Lib.hid hp; clear hp
  go_enter Try.func48, Try.ntmps48
  go_wp2
  go_loopw [3, 11] (fun v i wr => ∃ j : Nat, j ≤ ps.length ∧ i = .int .i64 j ∧ v = .int .i64 ((flat (ps.take j)).length : Nat) ∧ w = wr) (fun _ i _ => ps.length - (intOf i).toNat)
  case atStart => exact ⟨0, Nat.zero_le _, rfl, by simp [flat], rfl⟩
  case round =>
    obtain ⟨j, hj, rfl, rfl, rfl⟩ := hrel
    by_cases hlt : j < ps.length
    · obtain ⟨hc, _, _⟩ := HP.out j hlt
      have hA := congrArg List.length (flat_succ ps j hlt)
      rw [List.length_append] at hA
      have hB := flat_le ps (j + 1)
      have HA := Lib.hid hA
      have hneg : decide (((flat (ps.take j)).length : Int) + (ps[j].1.length : Int) < 0) = false := by simp; omega
      go_wp2
      go_roundw
      case rel => exact ⟨j + 1, by omega, by go_num, by rw [HA.out]; go_num, trivial⟩
      case measure => simp [intOf]; omega
    · have hjl : j = ps.length := by omega
      subst hjl
      rw [List.take_length]
      go_wp2_with (go_at_call 63; refine (grow_any _ _ hlen).mono ?_; rintro e w2 ⟨p2, cap2, rfl, hown, hb2⟩; have HO := Lib.hid hown; clear hown)
      go_loopw [6, 27] (fun v i wr => ∃ (j : Nat) (cs : List Value), j ≤ ps.length ∧ i = .int .i64 j ∧ Hid (wr.ownsRow w.heap.size 24 4 v (flat (ps.take j)).length cs) ∧ Hid (Cs wr lo hi (flat (ps.take j)) cs) ∧ Below w.heap.size w wr) (fun _ i _ => ps.length - (intOf i).toNat)
      case atStart => exact ⟨0, [], Nat.zero_le _, rfl, HO, rfl, hb2⟩
      case round =>
        obtain ⟨j, cs, hj, rfl, HW, HC, hbr⟩ := hrel
        have hz := hbr.size
        by_cases hlt : j < ps.length
        · obtain ⟨hc, hall, hcap⟩ := (HP.out.below hbr hhi hba) j hlt
          have hA := flat_succ ps j hlt
          have hB := flat_le ps (j + 1)
          have HA := Lib.hid hA
          obtain ⟨ns, hns, hnc⟩ := hall.cs
          have HALL := Lib.hid hall; clear hall
          generalize ps[j] = pj at *
          obtain ⟨lj, pp, cj⟩ := pj
          rcases Nat.eq_zero_or_pos lj.length with h0 | hpos
          · have hl0 : lj = [] := List.eq_nil_of_length_eq_zero h0
            subst hl0
            have HAL := HA.out
            simp only [List.append_nil] at HAL
            obtain ⟨sp, scap, rfl, hsc⟩ := owns_form HW.out
            have hr : ∀ ty, (Builtin.append_ #[22, 22] ty #[.slice sp (flat (List.take j ps)).length scap, .slice pp 0 cj]).run Try.prog wr = .ok (.slice sp (flat (List.take j ps)).length scap) wr := fun ty => by
              refine run_append_nothing wr _ _ ty 24 i0 Try.underlying22 hi0 sp _ scap hsc _ ?_
              cases pp with
              | none => exact Src.ofNil _ Try.underlying22 cj
              | some a => exact Src.ofSlice _ Try.underlying22 a 0 cj [] (by simp) (fun j u h => by simp at h) (by simp)
            go_wp2_with (at_builtin; refine Lib.wpList_append_run_sl _ rfl (.tmp 31) (.tmp 32) _ rfl _ _ rfl rfl (hr _) ?_)
            go_roundw
            case rel => exact ⟨j + 1, cs, by omega, by go_num, by rw [HAL]; exact HW, by rw [HAL]; exact HC, hbr⟩
            case measure => simp [intOf]; omega
          · obtain ⟨a, rfl⟩ : ∃ a, pp = some a := by
              cases lj with
              | nil => simp at hpos
              | cons t r => have := HALL.out; unfold RepAll at this; obtain ⟨a, _, _, _, _, h, _⟩ := this; exact ⟨a, h⟩
            have hlen2 : (flat (List.take j ps)).length + lj.length ≤ 1000000 := by
              have := congrArg List.length HA.out
              rw [List.length_append] at this
              show _ ≤ _; simp only at this; omega
            go_wp2_with (at_builtin; go_must (refine wpList_append_lies _ rfl (.tmp 31) (.tmp 32) 22 rfl w.heap.size 24 i0 _ 4 56 Try.underlying22 hi0 hz0 hz1 hz2 rfl (by decide) _ (flat (List.take j ps)).length cs rfl HW.out a lj.length cj ns rfl hns.len (hnc a rfl) hns.one hpos (by unfold maxLen; omega) (by omega) (by omega) wr.heap.size rfl ?_); intro gb cb w5 hown5 hgr5 hat5 hlt5; have HO5 := Lib.hid hown5; have hb5 := below_grown hbr hgr5 (fun k hk => (HW.out.lt k hk).1) hz; clear hown5 hgr5 hat5)
            go_roundw
            case rel =>
              have hA5 := HA.out
              exact ⟨j + 1, _, by omega, by go_num, by rw [hA5, List.length_append]; exact HO5, by rw [hA5]; exact ((HC.out.keep (Nat.le_refl _) (Nat.le_refl _) (fun p _ hp => (hb5.cell (by omega)).trans (hbr.cell (by omega)).symm)).app (hns.keep (Nat.le_refl _) (Nat.le_refl _) (fun p _ hp => (hb5.cell (by omega)).trans (hbr.cell (by omega)).symm))), hb5⟩
            case measure => simp [intOf]; omega
        · have hjl : j = ps.length := by omega
          subst hjl
          rw [List.take_length] at HW HC
          go_wp2
          go_ret
          obtain ⟨p, cap, rfl, h1, h2⟩ := all_of_row HW.out (HC.out.keep (Nat.le_refl _) (hi' := wr.heap.size) (by omega) (fun _ _ _ => rfl)) hlo (Nat.le_refl _)
          exact ⟨p, cap, rfl, h1, h2, hbr⟩
end Go.Proofs.Ytjipchloebbldaa
