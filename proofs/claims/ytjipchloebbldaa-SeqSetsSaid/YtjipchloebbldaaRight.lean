/- Which values are right, as the statements ask. -/
import Derived.Test.YtjipchloebbldaaOdd2
namespace Go.Proofs.Ytjipchloebbldaa
open Go.RowKit

set_option maxHeartbeats 1000000 in
theorem right_any (t : T) (w : World) (lo hi : Nat) (v : Value) (hr : Rep w lo hi t v) (hhi : hi ≤ w.heap.size) :
    Calls Try.prog 10 #[v] w fun e w' => e = .returned (.bool (rightB t)) ∧ Below w.heap.size w w' := by
  obtain ⟨k, n, s, p, len, cap, rfl⟩ := rep_form hr
  go_enter Try.func10, Try.ntmps10
  go_wp2_with (go_at_call 41; refine (rvalid_any t _ lo hi _ (hr.alloc hhi _) (by simp; omega)).mono ?_; rintro e w2 ⟨rfl, hb2⟩)
  go_ret
  exact ⟨rfl, ((Below.refl _ _).alloc (Nat.le_refl _) _).trans (hb2.mono (by simp))⟩

def allRight (l : List T) : Bool := l.all rightB
theorem allRight_drop (l : List T) (j : Nat) (h : j < l.length) : allRight (l.drop j) = (rightB l[j] && allRight (l.drop (j + 1))) := by
  unfold allRight; rw [List.drop_eq_getElem_cons h]; rfl

def fewRight (l : List T) (most : Int) : Bool := decide ((l.length : Int) ≤ most) && allRight l

set_option maxHeartbeats 1000000 in
theorem wvalues_any (l : List T) (w : World) (lo hi : Nat) (p : Option Addr) (cap : Nat) (most : Int) (hall : RepAll w lo hi l p) (hhi : hi ≤ w.heap.size) (hlen : l.length ≤ 9000000000000000000) :
    Calls Try.prog 26 #[.slice p l.length cap, .int .i64 most] w fun e w' => e = .returned (.bool (fewRight l most)) ∧ Below w.heap.size w w' := by
  by_cases hm : most < (l.length : Int)
  · have hf : fewRight l most = false := by unfold fewRight; rw [decide_eq_false (by omega)]; rfl
    have HF := Lib.hid hf; clear hf
    go_enter Try.func26, Try.ntmps26
    go_wp2
    go_ret
    exact ⟨ret_bool HF.out.symm, Below.refl _ _⟩
  · have hf : fewRight l most = allRight l := by unfold fewRight; rw [decide_eq_true (by omega)]; rfl
    have HF := Lib.hid hf; clear hf
    go_enter Try.func26, Try.ntmps26
    go_wp2
    go_loopw [5] (fun i wr => ∃ j : Nat, j ≤ l.length ∧ i = .int .i64 j ∧ Hid (allRight l = allRight (l.drop j)) ∧ Below w.heap.size w wr) (fun i _ => l.length - (intOf i).toNat)
    case atStart => exact ⟨0, Nat.zero_le _, rfl, rfl, Below.refl _ _⟩
    case round =>
      obtain ⟨j, hj, rfl, HO, hbr⟩ := hrel
      have hz := hbr.size
      by_cases hlt : j < l.length
      · obtain ⟨b, off, k1, n1, s1, l1, q1, cc1, rfl, _, hbhi, hli, h0, h1, h2, h3, hrep⟩ := (hall.below hbr hhi).item j hlt
        have hA0 := allRight_drop l j hlt
        rw [hli] at hA0 hrep
        have hA := Lib.hid (HO.out.trans hA0); clear hA0 hli
        go_wp2_with (go_at_call 10; refine (right_any _ _ lo hi _ hrep (by omega)).mono ?_; rintro e w2 ⟨rfl, hb2⟩)
        · have h : (!rightB (T.mk k1 n1 s1 l1)) = true := by assumption
          go_ret
          refine ⟨ret_bool ?_, hbr.trans (hb2.mono hz)⟩
          rw [HF.out, hA.out, show rightB (T.mk k1 n1 s1 l1) = false from by simpa using h]; rfl
        · have h : (!rightB (T.mk k1 n1 s1 l1)) = false := by assumption
          go_roundw
          case rel =>
            refine ⟨j + 1, by omega, by go_num, ?_, hbr.trans (hb2.mono hz)⟩
            show _ = _
            rw [hA.out, show rightB (T.mk k1 n1 s1 l1) = true from by simpa using h]; rfl
          case measure => simp [intOf]; omega
      · have hjl : j = l.length := by omega
        subst hjl
        go_wp2
        go_ret
        refine ⟨ret_bool ?_, hbr⟩
        rw [HF.out, HO.out, List.drop_length]; rfl

end Go.Proofs.Ytjipchloebbldaa
