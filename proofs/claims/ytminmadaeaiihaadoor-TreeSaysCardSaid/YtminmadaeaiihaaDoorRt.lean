/- The document's tree: how many nodes, how deep. -/
import Derived.Test.YtminmadaeaiihaaDoorTw
import Derived.Handy
namespace Go.Proofs.YtminmadaeaiihaaDoor
open Go.RowKit
set_option maxRecDepth 100000

/-- How many are left of so many; below 0: there are more. -/
def manyR (c left : Nat) : Int := if c ≤ left then ((left - c : Nat) : Int) else -1
def ManyOk (L : List Nd) : Prop := ∀ (w : World) (lo hi : Nat) (p : Option Addr) (cap left : Nat), NAll w lo hi L p → L.length ≤ cap → L.length * 112 ≤ 140737488355328 → left ≤ 1000000 → hi ≤ w.heap.size →
  Calls Tryd.prog 77 #[.slice p L.length cap, .int .i64 (left : Int)] w fun e w' => e = .returned (.int .i64 (manyR (cntAll L) left)) ∧ w' = w
set_option maxHeartbeats 1000000 in
theorem rmany_of (L : List Nd) (ih : ∀ t ∈ L, ManyOk t.l) : ManyOk L := by
  intro w lo hi p cap left hall hlc hcap hleft hhi
  have HIH := Lib.hid ih
  have HA := Lib.hid hall
  clear ih hall
  go_enter Tryd.func77, Tryd.ntmps77
  go_wp2
  go_loop [1, 5] (fun lf i => ∃ (j m : Nat), j ≤ L.length ∧ i = .int .i64 j ∧ lf = .int .i64 (m : Int) ∧ Hid (m + cntAll (L.take j) = left)) (fun _ i => L.length - (intOf i).toNat)
  case atStart => exact ⟨0, left, Nat.zero_le _, rfl, rfl, Lib.hid (by simp [cntAll])⟩
  case round =>
    obtain ⟨j, m, hj, rfl, rfl, hm⟩ := hrel
    have hm6 : (m : Int) ≤ 1000000 := by have := hm.out; omega
    by_cases hlj : j < L.length
    · obtain ⟨b, off, o, n, s, v, ll, k, mm, z, q, ql, qc, r, c, hp, _, hbhi, hli, h0, h1, h2, h3, h4, h5, h6, h7, hrep⟩ := HA.out.item j hlj
      have hsp := cntAll_split L j hlj
      have hle := cntAll_take_le L (j + 1)
      have hih := HIH.out _ (List.getElem_mem hlj)
      rw [hli] at hih hrep hsp
      simp only [Nd.l, cnt] at hih hsp
      obtain ⟨_, _, _, _, e1, e2, e3⟩ := hrep.parts
      by_cases hm1 : m < 1
      · have HF := Lib.hid (show (manyR (cntAll L) left) = -1 from by have := hm.out; unfold manyR; rw [if_neg (by omega)])
        have hmI : (m : Int) < 1 := by omega
        clear hsp hle hih hrep e3
        go_wp2
        go_ret
        exact ⟨by rw [HF.out]; rfl, rfl⟩
      · have hmI : ¬ (m : Int) < 1 := by omega
        have hC := hih w lo hi r c (m - 1) e3 e1 e2 (by omega) hhi
        unfold manyR at hC
        have hcast : ((m - 1 : Nat) : Int) = (m : Int) - 1 := by omega
        rw [hcast] at hC
        have hbw : b < w.heap.size := by omega
        subst hp
        by_cases hc : cntAll ll ≤ m - 1
        · rw [if_pos hc] at hC
          obtain ⟨m2, hm2⟩ : ∃ m2, m2 = m - 1 - cntAll ll := ⟨_, rfl⟩
          rw [← hm2] at hC
          have HC := Lib.hid hC
          have HM2 := Lib.hid (show m2 + cntAll (L.take (j + 1)) = left from by have := hm.out; omega)
          have hm0 : ¬ (m2 : Int) < 0 := by omega
          clear hC hsp hle hih hrep e3 hcast hm2 hc
          go_wp2_with (go_at_call 77; refine HC.out.mono ?_; rintro e w2 ⟨rfl, rfl⟩)
          go_round
          case rel => exact ⟨j + 1, m2, by omega, by go_num, rfl, HM2⟩
          case measure => simp [intOf]; omega
        · rw [if_neg hc] at hC
          have HC := Lib.hid hC
          have HF := Lib.hid (show (manyR (cntAll L) left) = -1 from by have := hm.out; unfold manyR; rw [if_neg (by omega)])
          clear hC hsp hle hih hrep e3 hcast hc
          go_wp2_with (go_at_call 77; refine HC.out.mono ?_; rintro e w2 ⟨rfl, rfl⟩)
          go_ret
          exact ⟨by rw [HF.out]; rfl, rfl⟩
    · have hje : j = L.length := by omega
      have HF := Lib.hid (show (manyR (cntAll L) left) = (m : Int) from by
        have := hm.out
        rw [hje, List.take_length] at this
        unfold manyR
        rw [if_pos (by omega)]; omega)
      go_wp2
      go_ret
      exact ⟨by rw [HF.out]; rfl, rfl⟩
theorem rmany_any (L : List Nd) : ManyOk L := by
  have key : ∀ t : Nd, ManyOk t.l := Nd.ind_ (fun o n s v l ih => rmany_of l ih)
  exact rmany_of L (fun t _ => key t)
set_option maxHeartbeats 400000 in
theorem rtooMany_any (L : List Nd) (w : World) (lo hi : Nat) (p : Option Addr) (cap : Nat) (hall : NAll w lo hi L p) (hlc : L.length ≤ cap) (hcap : L.length * 112 ≤ 140737488355328) (hhi : hi ≤ w.heap.size) :
    Calls Tryd.prog 49 #[.slice p L.length cap] w fun e w' => e = .returned (.bool (decide (4096 < cntAll L))) ∧ w' = w := by
  have hC := rmany_any L w lo hi p cap 4096 hall hlc hcap (by omega) hhi
  unfold manyR at hC
  clear hall
  by_cases h : cntAll L ≤ 4096
  · rw [if_pos h] at hC
    have HC := Lib.hid hC
    have HD := Lib.hid (show decide (4096 < cntAll L) = false from decide_eq_false (by omega))
    have hn : ¬ ((4096 - cntAll L : Nat) : Int) < 0 := by omega
    clear hC h
    go_enter Tryd.func49, Tryd.ntmps49
    go_wp2_with (go_at_call 77; refine HC.out.mono ?_; rintro e w2 ⟨rfl, rfl⟩)
    go_ret
    exact ⟨by rw [HD.out]; rfl, rfl⟩
  · rw [if_neg h] at hC
    have HC := Lib.hid hC
    have HD := Lib.hid (show decide (4096 < cntAll L) = true from decide_eq_true (by omega))
    clear hC h
    go_enter Tryd.func49, Tryd.ntmps49
    go_wp2_with (go_at_call 77; refine HC.out.mono ?_; rintro e w2 ⟨rfl, rfl⟩)
    go_ret
    exact ⟨by rw [HD.out]; rfl, rfl⟩

def RDeepOk (L : List Nd) : Prop := ∀ (w : World) (lo hi : Nat) (p : Option Addr) (cap : Nat), NAll w lo hi L p → hi ≤ w.heap.size → cntAll L ≤ 1000000000 →
  Calls Tryd.prog 11 #[.slice p L.length cap] w fun e w' => e = .returned (.int .i64 (dpNAll L : Int)) ∧ w' = w
set_option maxHeartbeats 1000000 in
theorem rdeep_of (L : List Nd) (ih : ∀ t ∈ L, RDeepOk t.l) : RDeepOk L := by
  intro w lo hi p cap hall hhi hN
  have HIH := Lib.hid ih
  have HA := Lib.hid hall
  clear ih hall
  have hdle := dpNAll_le L
  have hll := len_cnt L
  go_enter Tryd.func11, Tryd.ntmps11
  go_wp2
  go_loop [3, 4] (fun d i => ∃ j : Nat, j ≤ L.length ∧ d = .int .i64 (dpNAll (L.take j) : Int) ∧ i = .int .i64 j) (fun _ i => L.length - (intOf i).toNat)
  case atStart => exact ⟨0, Nat.zero_le _, by simp [dpNAll], rfl⟩
  case round =>
    obtain ⟨j, hj, rfl, rfl⟩ := hrel
    by_cases hlj : j < L.length
    · obtain ⟨b, off, o, n, s, v, ll, k, m, z, q, ql, qc, r, c, hp, _, hbhi, hli, h0, h1, h2, h3, h4, h5, h6, h7, hrep⟩ := HA.out.item j hlj
      have hmem : L[j] ∈ L := List.getElem_mem hlj
      have hcn := cntAll_mem hmem
      have hsp := dpNAll_split L j hlj
      have hdm := dpNAll_le (L.take j)
      have hct := cntAll_take_le L j
      have hih := HIH.out _ hmem
      rw [hli] at hih hrep hsp hcn
      simp only [Nd.l, dpN, cnt] at hih hsp hcn
      have hdl := dpNAll_le ll
      obtain ⟨_, _, _, _, e1, _, e3⟩ := hrep.parts
      have hC := hih w lo hi r c e3 hhi (by omega)
      have hbw : b < w.heap.size := by omega
      have hb1 : (dpNAll ll : Int) ≤ 1000000000 := by omega
      have hb2 : (dpNAll (L.take j) : Int) ≤ 1000000000 := by omega
      subst hp
      obtain ⟨d1, hd1⟩ : ∃ d1 : Nat, d1 = dpNAll (L.take j) := ⟨_, rfl⟩
      obtain ⟨d2, hd2⟩ : ∃ d2 : Nat, d2 = dpNAll ll := ⟨_, rfl⟩
      have HD := Lib.hid (show dpNAll (L.take (j + 1)) = max d1 (1 + d2) from (by rw [hsp, hd1, hd2]))
      rw [← hd1] at hb2 ⊢
      rw [← hd2] at hb1 hC
      have HC := Lib.hid hC
      clear hrep hli hih hsp hmem e3 hd1 hd2 hdm hdl hcn hC
      by_cases hmx : (d1 : Int) < 1 + (d2 : Int)
      · go_wp2_with (go_at_call 11; refine HC.out.mono ?_; rintro e w2 ⟨rfl, rfl⟩)
        go_round
        case rel => exact ⟨j + 1, by omega, by rw [HD.out]; congr 1; omega, by go_num⟩
        case measure => simp [intOf]; omega
      · go_wp2_with (go_at_call 11; refine HC.out.mono ?_; rintro e w2 ⟨rfl, rfl⟩)
        go_round
        case rel => exact ⟨j + 1, by omega, by rw [HD.out]; congr 1; omega, by go_num⟩
        case measure => simp [intOf]; omega
    · have hje : j = L.length := by omega
      subst hje
      go_wp2
      go_ret
      exact ⟨by simp, rfl⟩
theorem rdeep_any (L : List Nd) : RDeepOk L := by
  have key : ∀ t : Nd, RDeepOk t.l := Nd.ind_ (fun o n s v l ih => rdeep_of l ih)
  exact rdeep_of L (fun t _ => key t)
end Go.Proofs.YtminmadaeaiihaaDoor
