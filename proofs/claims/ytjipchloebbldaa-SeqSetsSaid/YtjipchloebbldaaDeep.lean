/- The contract of val.Deep. -/
import Derived.Test.YtjipchloebbldaaSmall
namespace Go.Proofs.Ytjipchloebbldaa
open Go.RowKit

mutual
/-- The levels of a value, whatever its kind. -/
def vdp : T → Int | .mk _ _ _ l => 1 + vdpAll l
def vdpAll : List T → Int | [] => 0 | t :: r => max (vdp t) (vdpAll r)
end
theorem vdpAll_nonneg : ∀ l, 0 ≤ vdpAll l
  | [] => by simp [vdpAll]
  | x :: r => by have := vdpAll_nonneg r; simp only [vdpAll]; omega
theorem vdp_pos : ∀ t, 1 ≤ vdp t
  | .mk k n s l => by have := vdpAll_nonneg l; simp only [vdp]; omega
theorem vdpAll_append : ∀ a b, vdpAll (a ++ b) = max (vdpAll a) (vdpAll b)
  | [], b => by have := vdpAll_nonneg b; simp [vdpAll]; omega
  | x :: r, b => by simp only [List.cons_append, vdpAll, vdpAll_append r b]; omega
theorem vdpAll_split (l : List T) (i : Nat) (h : i < l.length) : vdpAll (l.take (i + 1)) = max (vdpAll (l.take i)) (vdp (l[i])) := by
  rw [List.take_succ_eq_append_getElem h, vdpAll_append]; have := vdp_pos l[i]; simp only [vdpAll]; omega
theorem vdpAll_take_le (l : List T) (i : Nat) : vdpAll (l.take i) ≤ vdpAll l := by
  have h := vdpAll_append (l.take i) (l.drop i)
  rw [List.take_append_drop] at h; omega

set_option maxHeartbeats 1000000 in
theorem vdeep_any : ∀ (t : T) (w : World) (lo hi : Nat) (v : Value), Rep w lo hi t v → hi ≤ w.heap.size → vdp t ≤ 1000000 →
    Calls Try.prog 61 #[v] w fun e w' => e = .returned (.int .i64 (vdp t)) ∧ Below w.heap.size w w' := by
  refine T.ind_ (fun k n s l ih w lo hi v hr hhi hsz => ?_)
  unfold Rep at hr
  obtain ⟨p, cap, rfl, hk, hn, hs, hlc, hcap, hall⟩ := hr
  have H := Lib.hid ih; clear ih
  have hE : vdp (.mk k n s l) = 1 + vdpAll l := by rw [vdp]
  have hNN := vdpAll_nonneg l
  go_enter Try.func61, Try.ntmps61
  go_wp2
  have hbw : Below w.heap.size w (w.alloc (.cells #[.int .i64 k, .int .i64 n, .string s, .slice p l.length cap] 24)) := (Below.refl _ _).alloc (Nat.le_refl _) _
  go_loopw [3, 9] (fun v i wr => ∃ j : Nat, j ≤ l.length ∧ i = .int .i64 j ∧ v = .int .i64 (vdpAll (l.take j)) ∧ Below w.heap.size w wr) (fun _ i _ => l.length - (intOf i).toNat)
  case atStart => exact ⟨0, Nat.zero_le _, rfl, by simp [vdpAll], hbw⟩
  case round =>
    obtain ⟨j, hj, rfl, rfl, hbr⟩ := hrel
    by_cases hlt : j < l.length
    · obtain ⟨b, off, k1, n1, s1, l1, q1, cc1, rfl, _, hbhi, hli, h0, h1, h2, h3, hrep⟩ := (hall.below hbr hhi).item j hlt
      have hA := vdpAll_split l j hlt
      have hB := vdpAll_take_le l (j + 1)
      have hC := vdpAll_nonneg (l.take j)
      have hD := vdp_pos l[j]
      have hlj : l[j] ∈ l := List.getElem_mem hlt
      rw [hli] at hA hD hlj hrep
      clear hli
      have hz := hbr.size
      go_wp2_with (go_at_call 61; refine (H.out _ hlj _ lo hi _ (hrep.alloc (by omega) _) (by simp; omega) (by omega)).mono ?_; rintro e w2 ⟨rfl, hb2⟩; obtain ⟨hc2, hf2⟩ := below_bcell hb2)
      go_roundw
      case rel =>
        refine ⟨j + 1, by omega, by go_num, ?_, (hbr.alloc (by omega) _).trans (hb2.mono (by simp; omega))⟩
        rw [hA]; congr 1; split <;> omega
      case measure => simp [intOf]; omega
    · have hjl : j = l.length := by omega
      subst hjl
      go_wp2
      go_ret
      refine ⟨ret_int ?_, hbr⟩
      first | exact hE.symm | (rw [List.take_length]; exact hE.symm)

end Go.Proofs.Ytjipchloebbldaa
