/- Things as the document has them: a copy of their row. -/
import Derived.Test.YtcecgfijfnnpeaaDoorMf
import Derived.Test.YtcecgfijfnnpeaaDoorRise
namespace Go.Proofs.YtcecgfijfnnpeaaDoor.Mt
open Go.RowKit
set_option maxRecDepth 100000

set_option maxHeartbeats 1000000 in
theorem plain_any (l : List Tg) (p : Option Addr) (cap : Nat) (w : World) (h : GRow w w.heap.size p l) (hl : l.length ≤ 100) :
    Calls Tryd.prog 19 #[.slice p l.length cap] w fun e w' => (∃ q c, e = .returned (.slice q l.length c) ∧ GRow w' w'.heap.size q l) ∧ Below w.heap.size w w' := by
  rcases h with h | ⟨b, off, rfl, hbl, hc⟩
  · subst h
    go_enter Tryd.func19, Tryd.ntmps19
    go_wp2
    go_loop [3, 4] (fun v i => v = .slice none 0 0 ∧ i = .int .i64 0) (fun _ _ => 0)
    case atStart => exact ⟨rfl, rfl⟩
    case round =>
      obtain ⟨rfl, rfl⟩ := hrel
      go_wp2
      go_ret
      exact ⟨⟨none, ⟨0, rfl⟩, .inl rfl⟩, Below.refl _ _⟩
  · have HC := Lib.hid hc
    have HBL := Lib.hid hbl
    clear hc
    go_enter Tryd.func19, Tryd.ntmps19
    go_wp2
    go_loopw [3, 4] (fun v i wr => ∃ j : Nat, j ≤ l.length ∧ i = .int .i64 j ∧ Hid (wr.ownsRow w.heap.size 62 2 v j (cellsAt w b off (j * 2))) ∧ Hid (Below w.heap.size w wr)) (fun _ i _ => l.length - (intOf i).toNat)
    case atStart => exact ⟨0, Nat.zero_le _, rfl, Lib.hid (World.ownsRow_nil _ _ _ _), Lib.hid (Below.refl _ _)⟩
    case round =>
      obtain ⟨j, hj, rfl, HO, HB⟩ := hrel
      have hbz := HB.out.size
      obtain ⟨pv, cv, hv, _⟩ := sowns_form HO.out
      subst hv
      by_cases hlt : j < l.length
      · obtain ⟨_, hi0, q, c, hi1, _, _, _⟩ := HC.out j hlt
        have h0 := (HB.out.cell (p := ⟨b, off + j * 2, none⟩) HBL.out).trans hi0
        have h1 := (HB.out.cell (p := ⟨b, off + j * 2 + 1, none⟩) HBL.out).trans hi1
        have hbw : b < wr.heap.size := by omega
        have hcells : cellsAt w b off ((j + 1) * 2) = cellsAt w b off (j * 2) ++ [.int .i64 l[j].1, .slice q l[j].2.length c] := by
          rw [show (j + 1) * 2 = j * 2 + 1 + 1 by omega, cellsAt, cellsAt, ← Nat.add_assoc, hi0, hi1, List.append_assoc]; rfl
        obtain ⟨id, hid⟩ : ∃ id, l[j].1 = id := ⟨_, rfl⟩
        obtain ⟨m, hm⟩ : ∃ m, l[j].2.length = m := ⟨_, rfl⟩
        rw [hid] at h0 hcells
        rw [hm] at h1 hcells
        clear hi0 hi1 hid hm
        obtain ⟨g5, c5, w5, hr5, ho5, hb5⟩ := plain_push HO.out HB.out hbz (by omega) (.int .i64 id) (.slice q m c) rfl rfl 33 wr.heap.size rfl
        rw [← hcells] at ho5
        have HR5 := Lib.hid hr5
        have HO5 := Lib.hid ho5
        have HB5 := Lib.hid hb5
        clear hr5 ho5 hb5 hcells
        go_wp2
        go_region_law (refine sstep_append_run rfl (.tmp 11) (.tmp 23) _ rfl _ _ rfl rfl HR5.out ?_)
        all_goals (focus (
          go_wp2
          go_roundw
          case rel => exact ⟨j + 1, by omega, by go_num, HO5, HB5⟩
          case measure => simp [intOf]; omega))
      · have hje : j = l.length := by omega
        have HF : Hid (∃ q c, Value.slice pv j cv = .slice q l.length c ∧ GRow wr wr.heap.size q l) := Lib.hid (by
          subst hje
          refine ⟨pv, cv, rfl, ?_⟩
          rcases HO.out.2 with ⟨hv, h0⟩ | ⟨g, cap, cur, hv, hBg, hg, _⟩
          · exact .inl (List.eq_nil_of_length_eq_zero h0)
          · injection hv with hp _ _
            subst hp
            refine .inr ⟨g, 0, rfl, heap_lt2 hg, fun i hi => ?_⟩
            obtain ⟨hi64, hi0, q, c, hi1, hq, hql, hqz⟩ := HC.out i hi
            have r1 := HO.out.cells (g := g) rfl _ _ (cellsAt_get w b off _ (i * 2) (by omega))
            have r2 := HO.out.cells (g := g) rfl _ _ (cellsAt_get w b off _ (i * 2 + 1) (by omega))
            have hadd : ∀ n, Addr.add ⟨g, 0, none⟩ n = ⟨g, 0 + n, none⟩ := by
              intro n; unfold Addr.add; split
              · rename_i h; subst h; rfl
              · rfl
            rw [hadd, hi0] at r1
            rw [hadd, ← Nat.add_assoc off, hi1, ← Nat.add_assoc] at r2
            exact ⟨hi64, r1, q, c, r2, (hq.below HB.out).grow hbz, hql, hqz⟩)
        clear HO
        go_wp2
        go_ret
        obtain ⟨q, c, e, hg⟩ := HF.out
        exact ⟨⟨q, c, congrArg Ending.returned e, hg⟩, HB.out⟩
end Go.Proofs.YtcecgfijfnnpeaaDoor.Mt
