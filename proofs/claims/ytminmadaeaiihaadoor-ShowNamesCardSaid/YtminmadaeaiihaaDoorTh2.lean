/- Package tree: the places, the names, how deep. -/
import Derived.Test.YtminmadaeaiihaaDoorTh
import Derived.Test.YtminmadaeaiihaaDoorTw
namespace Go.Proofs.YtminmadaeaiihaaDoor
open Go.RowKit
set_option maxRecDepth 100000

set_option maxHeartbeats 1000000 in
theorem isKey_any (s : ByteArray) (w : World) : Calls Tryd.prog 139 #[.string s] w fun e w' => e = .returned (.bool (isKeyB s)) ∧ w' = w := by
  go_enter Tryd.func139, Tryd.ntmps139
  by_cases h0 : (s.toList == [105, 102]) = true
  · have HM := Lib.hid (show isKeyB s = true from by simp [isKeyB, keyWords, h0])
    go_wp2; go_ret; exact ⟨by rw [HM.out]; rfl, rfl⟩
  replace h0 : (s.toList == [105, 102]) = false := by simpa using h0
  by_cases h1 : (s.toList == [101, 108, 115, 101, 105, 102]) = true
  · have HM := Lib.hid (show isKeyB s = true from by simp [isKeyB, keyWords, h1])
    go_wp2; go_ret; exact ⟨by rw [HM.out]; rfl, rfl⟩
  replace h1 : (s.toList == [101, 108, 115, 101, 105, 102]) = false := by simpa using h1
  by_cases h2 : (s.toList == [101, 108, 115, 101]) = true
  · have HM := Lib.hid (show isKeyB s = true from by simp [isKeyB, keyWords, h2])
    go_wp2; go_ret; exact ⟨by rw [HM.out]; rfl, rfl⟩
  replace h2 : (s.toList == [101, 108, 115, 101]) = false := by simpa using h2
  by_cases h3 : (s.toList == [101, 110, 100, 105, 102]) = true
  · have HM := Lib.hid (show isKeyB s = true from by simp [isKeyB, keyWords, h3])
    go_wp2; go_ret; exact ⟨by rw [HM.out]; rfl, rfl⟩
  replace h3 : (s.toList == [101, 110, 100, 105, 102]) = false := by simpa using h3
  by_cases h4 : (s.toList == [102, 111, 114]) = true
  · have HM := Lib.hid (show isKeyB s = true from by simp [isKeyB, keyWords, h4])
    go_wp2; go_ret; exact ⟨by rw [HM.out]; rfl, rfl⟩
  replace h4 : (s.toList == [102, 111, 114]) = false := by simpa using h4
  by_cases h5 : (s.toList == [105, 110]) = true
  · have HM := Lib.hid (show isKeyB s = true from by simp [isKeyB, keyWords, h5])
    go_wp2; go_ret; exact ⟨by rw [HM.out]; rfl, rfl⟩
  replace h5 : (s.toList == [105, 110]) = false := by simpa using h5
  by_cases h6 : (s.toList == [101, 110, 100, 102, 111, 114]) = true
  · have HM := Lib.hid (show isKeyB s = true from by simp [isKeyB, keyWords, h6])
    go_wp2; go_ret; exact ⟨by rw [HM.out]; rfl, rfl⟩
  replace h6 : (s.toList == [101, 110, 100, 102, 111, 114]) = false := by simpa using h6
  by_cases h7 : (s.toList == [119, 104, 105, 108, 101]) = true
  · have HM := Lib.hid (show isKeyB s = true from by simp [isKeyB, keyWords, h7])
    go_wp2; go_ret; exact ⟨by rw [HM.out]; rfl, rfl⟩
  replace h7 : (s.toList == [119, 104, 105, 108, 101]) = false := by simpa using h7
  by_cases h8 : (s.toList == [101, 110, 100, 119, 104, 105, 108, 101]) = true
  · have HM := Lib.hid (show isKeyB s = true from by simp [isKeyB, keyWords, h8])
    go_wp2; go_ret; exact ⟨by rw [HM.out]; rfl, rfl⟩
  replace h8 : (s.toList == [101, 110, 100, 119, 104, 105, 108, 101]) = false := by simpa using h8
  by_cases h9 : (s.toList == [98, 114, 101, 97, 107]) = true
  · have HM := Lib.hid (show isKeyB s = true from by simp [isKeyB, keyWords, h9])
    go_wp2; go_ret; exact ⟨by rw [HM.out]; rfl, rfl⟩
  replace h9 : (s.toList == [98, 114, 101, 97, 107]) = false := by simpa using h9
  by_cases h10 : (s.toList == [99, 111, 110, 116, 105, 110, 117, 101]) = true
  · have HM := Lib.hid (show isKeyB s = true from by simp [isKeyB, keyWords, h10])
    go_wp2; go_ret; exact ⟨by rw [HM.out]; rfl, rfl⟩
  replace h10 : (s.toList == [99, 111, 110, 116, 105, 110, 117, 101]) = false := by simpa using h10
  by_cases h11 : (s.toList == [114, 101, 116, 117, 114, 110]) = true
  · have HM := Lib.hid (show isKeyB s = true from by simp [isKeyB, keyWords, h11])
    go_wp2; go_ret; exact ⟨by rw [HM.out]; rfl, rfl⟩
  replace h11 : (s.toList == [114, 101, 116, 117, 114, 110]) = false := by simpa using h11
  by_cases h12 : (s.toList == [102, 111, 114, 107]) = true
  · have HM := Lib.hid (show isKeyB s = true from by simp [isKeyB, keyWords, h12])
    go_wp2; go_ret; exact ⟨by rw [HM.out]; rfl, rfl⟩
  replace h12 : (s.toList == [102, 111, 114, 107]) = false := by simpa using h12
  by_cases h13 : (s.toList == [101, 110, 100, 102, 111, 114, 107]) = true
  · have HM := Lib.hid (show isKeyB s = true from by simp [isKeyB, keyWords, h13])
    go_wp2; go_ret; exact ⟨by rw [HM.out]; rfl, rfl⟩
  replace h13 : (s.toList == [101, 110, 100, 102, 111, 114, 107]) = false := by simpa using h13
  by_cases h14 : (s.toList == [116, 114, 121]) = true
  · have HM := Lib.hid (show isKeyB s = true from by simp [isKeyB, keyWords, h14])
    go_wp2; go_ret; exact ⟨by rw [HM.out]; rfl, rfl⟩
  replace h14 : (s.toList == [116, 114, 121]) = false := by simpa using h14
  by_cases h15 : (s.toList == [101, 120, 99, 101, 112, 116]) = true
  · have HM := Lib.hid (show isKeyB s = true from by simp [isKeyB, keyWords, h15])
    go_wp2; go_ret; exact ⟨by rw [HM.out]; rfl, rfl⟩
  replace h15 : (s.toList == [101, 120, 99, 101, 112, 116]) = false := by simpa using h15
  by_cases h16 : (s.toList == [102, 105, 110, 97, 108, 108, 121]) = true
  · have HM := Lib.hid (show isKeyB s = true from by simp [isKeyB, keyWords, h16])
    go_wp2; go_ret; exact ⟨by rw [HM.out]; rfl, rfl⟩
  replace h16 : (s.toList == [102, 105, 110, 97, 108, 108, 121]) = false := by simpa using h16
  by_cases h17 : (s.toList == [101, 110, 100, 116, 114, 121]) = true
  · have HM := Lib.hid (show isKeyB s = true from by simp [isKeyB, keyWords, h17])
    go_wp2; go_ret; exact ⟨by rw [HM.out]; rfl, rfl⟩
  replace h17 : (s.toList == [101, 110, 100, 116, 114, 121]) = false := by simpa using h17
  by_cases h18 : (s.toList == [97, 110, 121]) = true
  · have HM := Lib.hid (show isKeyB s = true from by simp [isKeyB, keyWords, h18])
    go_wp2; go_ret; exact ⟨by rw [HM.out]; rfl, rfl⟩
  replace h18 : (s.toList == [97, 110, 121]) = false := by simpa using h18
  have HM := Lib.hid (show isKeyB s = false from by simp only [isKeyB, keyWords, List.any_cons, List.any_nil, h0, h1, h2, h3, h4, h5, h6, h7, h8, h9, h10, h11, h12, h13, h14, h15, h16, h17, h18, Bool.or_false])
  go_wp2; go_ret; exact ⟨by rw [HM.out]; rfl, rfl⟩
set_option maxHeartbeats 400000 in
theorem isDigit_any (c : Nat) (w : World) : Calls Tryd.prog 138 #[.int .u8 c] w fun e w' => e = .returned (.bool (decide (48 ≤ c) && decide (c ≤ 57))) ∧ w' = w := by
  go_enter Tryd.func138, Tryd.ntmps138
  by_cases h1 : (48 : Int) ≤ c
  · have HM := Lib.hid (show (decide (48 ≤ c) && decide (c ≤ 57)) = decide ((c : Int) ≤ 57) from (by
      have h2 : 48 ≤ c := by omega
      rw [decide_eq_true h2, Bool.true_and]
      exact decide_eq_decide.2 (by omega)))
    go_wp2; go_ret; exact ⟨by rw [HM.out]; rfl, rfl⟩
  · have HM := Lib.hid (show (decide (48 ≤ c) && decide (c ≤ 57)) = false from (by
      have h2 : ¬ 48 ≤ c := by omega
      rw [decide_eq_false h2, Bool.false_and]))
    go_wp2; go_ret; exact ⟨by rw [HM.out]; rfl, rfl⟩
set_option maxHeartbeats 2000000 in
theorem placeIn_any (o n : Int) (s : ByteArray) (k m : Int) (z : ByteArray) (q : Option Addr) (ql qc : Nat) (p : Option Addr) (len cap : Nat) (at_ i : Int) (w : World) (hl : len ≤ 1000000000000) :
    Calls Tryd.prog 109 #[.agg #[.int .i64 o, .int .i64 n, .string s, .int .i64 k, .int .i64 m, .string z, .slice q ql qc, .slice p len cap], .int .i64 at_, .int .i64 i] w fun e w' => e = .returned (.int .i64 (placeInN o at_ i ((len : Int) - 1))) ∧ Below w.heap.size w w' := by
  have HB := Lib.hid ((Below.refl w.heap.size w).alloc (Nat.le_refl _) (.cells #[.int .i64 o, .int .i64 n, .string s, .int .i64 k, .int .i64 m, .string z, .slice q ql qc, .slice p len cap] 40))
  have hl1 : (len : Int) ≤ 1000000000000 := by omega
  go_enter Tryd.func109, Tryd.ntmps109
  go_wp2_with (go_at_call 140; refine (either_any _ _ _ _).mono ?_; rintro e w2 ⟨rfl, rfl⟩)
  all_goals (go_ret; exact ⟨by simp_all [placeInN], HB.out⟩)
theorem rep_open {w : World} {lo hi : Nat} {v : T} {k m : Int} {z : ByteArray} {q : Option Addr} {ql qc : Nat} (h : Rep w lo hi v (.agg #[.int .i64 k, .int .i64 m, .string z, .slice q ql qc])) : v.k = k ∧ v.n = m ∧ v.s = z ∧ v.l.length = ql := by
  match v, h with
  | .mk k' n' s' l', h =>
    unfold Rep at h
    obtain ⟨p, cap, hv, _⟩ := h
    simp only [Value.agg.injEq, Array.mk.injEq, List.cons.injEq, and_true, Value.int.injEq, Value.string.injEq, Value.slice.injEq, true_and] at hv
    obtain ⟨rfl, rfl, rfl, _, rfl, _⟩ := hv
    exact ⟨rfl, rfl, rfl, rfl⟩

set_option maxHeartbeats 400000 in
theorem hasEnough_any (o n : Int) (s : ByteArray) (k m : Int) (z : ByteArray) (q : Option Addr) (ql qc : Nat) (p : Option Addr) (len cap : Nat) (w : World) :
    Calls Tryd.prog 105 #[.agg #[.int .i64 o, .int .i64 n, .string s, .int .i64 k, .int .i64 m, .string z, .slice q ql qc, .slice p len cap]] w fun e w' => e = .returned (.bool (enoughB o len)) ∧ Below w.heap.size w w' := by
  have HB := Lib.hid ((Below.refl w.heap.size w).alloc (Nat.le_refl _) (.cells #[.int .i64 o, .int .i64 n, .string s, .int .i64 k, .int .i64 m, .string z, .slice q ql qc, .slice p len cap] 40))
  obtain ⟨a, ha⟩ : ∃ a, a = (boundsN o).1 := ⟨_, rfl⟩
  obtain ⟨b, hb⟩ : ∃ b, b = (boundsN o).2 := ⟨_, rfl⟩
  have HC := Lib.hid (show ∀ w, Calls Tryd.prog 137 #[.int .i64 o] w fun e w' => e = .returned (.tuple #[.int .i64 a, .int .i64 b]) ∧ w' = w from fun w => ha ▸ hb ▸ bounds_any o w)
  have HE := Lib.hid (show enoughB o len = (decide (a ≤ (len : Int)) && decide ((len : Int) ≤ b)) from (by rw [ha, hb]; rfl))
  clear ha hb
  go_enter Tryd.func105, Tryd.ntmps105
  by_cases h1 : a ≤ (len : Int)
  · go_wp2_with (go_at_call 137; refine (HC.out _).mono ?_; rintro e w2 ⟨rfl, rfl⟩)
    go_ret; exact ⟨by rw [HE.out, decide_eq_true h1]; rfl, HB.out⟩
  · go_wp2_with (go_at_call 137; refine (HC.out _).mono ?_; rintro e w2 ⟨rfl, rfl⟩)
    go_ret; exact ⟨by rw [HE.out, decide_eq_false (show ¬ a ≤ (len : Int) by omega)]; rfl, HB.out⟩

set_option maxHeartbeats 1000000 in
/-- tree.Deep. -/
theorem deep_of (L : List Nd) (ih : ∀ t ∈ L, ∀ (w : World) (lo hi : Nat) (p : Option Addr) (cap : Nat), NAll w lo hi t.l p → hi ≤ w.heap.size → t.l.length ≤ cap → t.l.length * 112 ≤ 140737488355328 → cntAll t.l ≤ 1000000000 →
      Calls Tryd.prog 10 #[.slice p t.l.length cap] w fun e w' => e = .returned (.int .i64 (dpNAll t.l : Int)) ∧ Below w.heap.size w w')
    (w : World) (lo hi : Nat) (p : Option Addr) (cap : Nat) (hall : NAll w lo hi L p) (hhi : hi ≤ w.heap.size) (_hlc : L.length ≤ cap) (hcap : L.length * 112 ≤ 140737488355328) (hN : cntAll L ≤ 1000000000) :
    Calls Tryd.prog 10 #[.slice p L.length cap] w fun e w' => e = .returned (.int .i64 (dpNAll L : Int)) ∧ Below w.heap.size w w' := by
  have HIH := Lib.hid ih
  have HA := Lib.hid hall
  clear ih hall
  have hdle := dpNAll_le L
  go_enter Tryd.func10, Tryd.ntmps10
  go_wp2
  go_loopw [3, 8] (fun d i wr => ∃ j : Nat, j ≤ L.length ∧ d = .int .i64 (dpNAll (L.take j) : Int) ∧ i = .int .i64 j ∧ Hid (Below w.heap.size w wr)) (fun _ i _ => L.length - (intOf i).toNat)
  case atStart => exact ⟨0, Nat.zero_le _, by simp [dpNAll], rfl, Lib.hid (Below.refl _ _)⟩
  case round =>
    obtain ⟨j, hj, rfl, rfl, HB⟩ := hrel
    have hwr := HB.out.size
    by_cases hlj : j < L.length
    · have hallr := HA.out.below HB.out hhi
      obtain ⟨b, off, o, n, s, v, ll, k, m, z, q, ql, qc, r, c, hp, _, hbhi, hli, h0, h1, h2, h3, h4, h5, h6, h7, hrep⟩ := hallr.item j hlj
      have hmem : L[j] ∈ L := List.getElem_mem hlj
      have hcn := cntAll_mem hmem
      have hsp := dpNAll_split L j hlj
      have hdm := dpNAll_le (L.take j)
      have hct := cntAll_take_le L j
      have hih := HIH.out _ hmem
      rw [hli] at hih hrep hsp hcn
      simp only [Nd.l, dpN, cnt] at hih hsp hcn
      have hdl := dpNAll_le ll
      obtain ⟨_, _, _, _, e1, e2, e3⟩ := hrep.parts
      have HC := Lib.hid (hih (wr.alloc (.cells #[.int .i64 o, .int .i64 n, .string s, .int .i64 k, .int .i64 m, .string z, .slice q ql qc, .slice r ll.length c] 40)) lo hi r c (e3.alloc (by omega) _) (by simp; omega) e1 e2 (by omega))
      have HSP := Lib.hid hsp
      have HBW := Lib.hid (HB.out.alloc hwr (.cells #[.int .i64 o, .int .i64 n, .string s, .int .i64 k, .int .i64 m, .string z, .slice q ql qc, .slice r ll.length c] 40))
      have hbw : b < wr.heap.size := by omega
      have hb1 : (dpNAll ll : Int) ≤ 1000000000 := by omega
      have hb2 : (dpNAll (L.take j) : Int) ≤ 1000000000 := by omega
      subst hp
      clear hallr hrep hli hih hsp hmem e3
      obtain ⟨d1, hd1⟩ : ∃ d1 : Nat, d1 = dpNAll (L.take j) := ⟨_, rfl⟩
      obtain ⟨d2, hd2⟩ : ∃ d2 : Nat, d2 = dpNAll ll := ⟨_, rfl⟩
      have HD := Lib.hid (show dpNAll (L.take (j + 1)) = max d1 (1 + d2) from (by rw [HSP.out, hd1, hd2]))
      rw [← hd1] at hb2 ⊢
      rw [← hd2] at hb1 HC
      clear hd1 hd2 hdm hdl hcn
      by_cases hmx : (d1 : Int) < 1 + (d2 : Int)
      · go_wp2_with (go_at_call 10; refine HC.out.mono ?_; rintro e w2 ⟨rfl, hb2⟩; have HB2 := Lib.hid (HBW.out.trans (hb2.mono HBW.out.size)); clear hb2)
        go_roundw
        case rel => exact ⟨j + 1, by omega, by rw [HD.out]; congr 1; omega, by go_num, HB2⟩
        case measure => simp [intOf]; omega
      · go_wp2_with (go_at_call 10; refine HC.out.mono ?_; rintro e w2 ⟨rfl, hb2⟩; have HB2 := Lib.hid (HBW.out.trans (hb2.mono HBW.out.size)); clear hb2)
        go_roundw
        case rel => exact ⟨j + 1, by omega, by rw [HD.out]; congr 1; omega, by go_num, HB2⟩
        case measure => simp [intOf]; omega
    · have hje : j = L.length := by omega
      subst hje
      go_wp2
      go_ret
      exact ⟨by simp, HB.out⟩
theorem deep_any (L : List Nd) (w : World) (lo hi : Nat) (p : Option Addr) (cap : Nat) (hall : NAll w lo hi L p) (hhi : hi ≤ w.heap.size) (hlc : L.length ≤ cap) (hcap : L.length * 112 ≤ 140737488355328) (hN : cntAll L ≤ 1000000000) :
    Calls Tryd.prog 10 #[.slice p L.length cap] w fun e w' => e = .returned (.int .i64 (dpNAll L : Int)) ∧ Below w.heap.size w w' := by
  have key : ∀ t : Nd, ∀ (w : World) (lo hi : Nat) (p : Option Addr) (cap : Nat), NAll w lo hi t.l p → hi ≤ w.heap.size → t.l.length ≤ cap → t.l.length * 112 ≤ 140737488355328 → cntAll t.l ≤ 1000000000 →
      Calls Tryd.prog 10 #[.slice p t.l.length cap] w fun e w' => e = .returned (.int .i64 (dpNAll t.l : Int)) ∧ Below w.heap.size w w' :=
    Nd.ind_ (fun o n s v l ih => deep_of l ih)
  exact deep_of L (fun t _ => key t) w lo hi p cap hall hhi hlc hcap hN
end Go.Proofs.YtminmadaeaiihaaDoor
