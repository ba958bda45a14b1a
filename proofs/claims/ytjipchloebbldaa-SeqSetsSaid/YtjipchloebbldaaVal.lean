/- Contracts of package val, a function each. -/
import Derived.Test.YtjipchloebbldaaRows
import Derived.Test.YtjipchloebbldaaBase
import Derived.Handy
import Derived.WalkSpells
namespace Go.Proofs.Ytjipchloebbldaa
open Go.RowKit

set_option maxHeartbeats 400000 in
theorem sizeAlone_any (k n : Int) (s : ByteArray) (p : Value) (w : World) (hs : s.size ≤ 140737488355328) :
    Calls Try.prog 73 #[.agg #[.int .i64 k, .int .i64 n, .string s, p]] w fun e w' => e = .returned (.int .i64 (szAlone (.mk k n s []))) ∧ Below w.heap.size w w' := by
  go_enter Try.func73, Try.ntmps73
  go_wp2
  · have h : (k == 2) = true := by assumption
    go_ret
    refine ⟨ret_int ?_, by go_grown⟩
    simp only [szAlone]; rw [if_pos (by simpa using h)]
  · have h : (k == 2) = false := by assumption
    go_ret
    refine ⟨ret_int ?_, by go_grown⟩
    simp only [szAlone]; rw [if_neg (by simpa using h)]

set_option maxHeartbeats 400000 in
theorem vI_any (n : Int) (w : World) :
    Calls Try.prog 39 #[.int .i64 n] w fun e w' => e = .returned (.agg #[.int .i64 0, .int .i64 n, .string ByteArray.empty, .slice none 0 0]) ∧ Below w.heap.size w w' := by
  go_enter Try.func39, Try.ntmps39
  go_wp2
  go_returns
  exact ⟨rfl, by go_grown⟩

set_option maxHeartbeats 400000 in
theorem vS_any (s : ByteArray) (w : World) :
    Calls Try.prog 28 #[.string s] w fun e w' => e = .returned (.agg #[.int .i64 2, .int .i64 0, .string s, .slice none 0 0]) ∧ Below w.heap.size w w' := by
  go_enter Try.func28, Try.ntmps28
  go_wp2
  go_returns
  exact ⟨rfl, by go_grown⟩

set_option maxHeartbeats 1000000 in
theorem size_any : ∀ (t : T) (w : World) (lo hi : Nat) (v : Value), Rep w lo hi t v → hi ≤ w.heap.size → sz t ≤ 1000000 →
    Calls Try.prog 62 #[v] w fun e w' => e = .returned (.int .i64 (sz t)) ∧ Below w.heap.size w w' := by
  refine T.ind_ (fun k n s l ih w lo hi v hr hhi hsz => ?_)
  unfold Rep at hr
  obtain ⟨p, cap, rfl, hk, hn, hs, hlc, hcap, hall⟩ := hr
  have H := Lib.hid ih; clear ih
  go_enter Try.func62, Try.ntmps62
  go_wp2_with (go_at_call 73; refine (sizeAlone_any _ _ _ _ _ hs).mono ?_; rintro e w1 ⟨rfl, hb1⟩; obtain ⟨hc1, hf1⟩ := below_bcell hb1)
  have hbw : Below w.heap.size w w1 := ((Below.refl _ _).alloc (Nat.le_refl _) _).trans (hb1.mono (by simp))
  clear hc1 hf1 hb1
  go_loopw [3, 11] (fun v i wr => ∃ j : Nat, j ≤ l.length ∧ i = .int .i64 j ∧ v = .int .i64 (szAlone (.mk k n s []) + szAll (l.take j)) ∧ Below w.heap.size w wr) (fun _ i _ => l.length - (intOf i).toNat)
  case atStart => exact ⟨0, Nat.zero_le _, rfl, by simp [szAll], hbw⟩
  case round =>
    obtain ⟨j, hj, rfl, rfl, hbr⟩ := hrel
    by_cases hlt : j < l.length
    · obtain ⟨b, off, k1, n1, s1, l1, q1, cc1, rfl, _, hbhi, hli, h0, h1, h2, h3, hrep⟩ := (hall.below hbr hhi).item j hlt
      have hA := szAll_split l j hlt
      have hB := szAll_take_le l (j + 1)
      have hC := szAll_nonneg (l.take j)
      have hD := sz_pos l[j]
      have hE := sz_eq k n s l
      have hz := hbr.size
      go_wp2_with (go_at_call 62; refine (H.out _ (List.getElem_mem hlt) _ lo hi _ (hrep.alloc (by omega) _) (by simp; omega) (by omega)).mono ?_; rintro e w2 ⟨rfl, hb2⟩; obtain ⟨hc2, hf2⟩ := below_bcell hb2)
      go_roundw
      case rel =>
        refine ⟨j + 1, by omega, by go_num, ?_, (hbr.alloc (by omega) _).trans (hb2.mono (by simp; omega))⟩
        rw [hli] at hA hD
        rw [IntWalk.wrap64_in _ ⟨by omega, by omega⟩, hA]; congr 1; omega
      case measure => simp [intOf]; omega
    · have hjl : j = l.length := by omega
      subst hjl
      go_wp2
      go_ret
      refine ⟨ret_int ?_, hbr⟩
      simp only [szAlone, sz, List.take_length]

end Go.Proofs.Ytjipchloebbldaa
