/- The document's Get, CutList, Delete, Put, Insert. -/
import Derived.Test.YtjipchloebbldaaGlue
namespace Go.Proofs.Ytjipchloebbldaa
open Go.RowKit
set_option maxRecDepth 100000

theorem step_append_run {P : Program} {ops : Array Oper} {o : Oper} {a : Act} {w : World} {K : Act → World → Prop} {Q : Exit → Act → World → Prop} {E : Prop} (hgd : o.guard = none) (s x : Operand) (t : TypeId)
    (ho : o.op = .call { callee := .builtin .append, args := #[s, x], argTypes := #[t, t] }) (v u : Value) (hs : a.eval s = v) (hx : a.eval x = u) {v' : Value} {w' : World}
    (hr : (Builtin.append_ #[t, t] o.type #[v, u]).run P w = .ok v' w') (h : K (a.put o.dst v') w') : if Region.wanted o (yielded ops a.tmps) = true then Oper.wp P o a w K Q else E := by
  have hw : Region.wanted o (yielded ops a.tmps) = true := by simp [Region.wanted, hgd]
  rw [if_pos hw]
  exact Lib.wp_append_run_sl w s x t ho v u hs hx hr h

set_option maxHeartbeats 2000000 in
theorem rdelete_any (l : List T) (p : Option Addr) (cap : Nat) (i : Int) (w : World) (lo : Nat) (ha : RepAll w lo w.heap.size l p) (hca : l.length ≤ cap) (hi : I64 i) (hsz : szAll l ≤ 900000) (hlo : lo ≤ w.heap.size) :
    Calls Try.prog 21 #[.slice p l.length cap, .int .i64 i] w (Ans lo w (delS rfit l i)) := by
  have hlen := len_le_sz l
  by_cases hh : hasB l.length i = true
  · obtain ⟨i1, i2⟩ := hasB_iff.1 hh
    obtain ⟨k, rfl⟩ : ∃ k : Nat, i = (k : Int) + 1 := ⟨(i - 1).toNat, by omega⟩
    obtain ⟨L1, hL1⟩ : ∃ L, L = l.take k := ⟨_, rfl⟩
    obtain ⟨L, hL⟩ : ∃ L, L = L1 ++ l.drop (k + 1) := ⟨_, rfl⟩
    have hLl1 : L1.length = k := by rw [hL1, List.length_take]; omega
    have hLs : szAll L ≤ 900000 := by have h1 := szAll_append L1 (l.drop (k + 1)); have h2 := szAll_split l k (by omega); have h3 := szAll_append (l.take (k + 1)) (l.drop (k + 1)); rw [List.take_append_drop] at h3; have := sz_pos (l[k]'(by omega)); rw [hL]; rw [hL1] at h1 ⊢; omega
    have hLl : L.length ≤ 1000000 := by have := len_le_sz L; omega
    obtain ⟨R, hR⟩ : ∃ R, R = madeS (rfit L) L := ⟨_, rfl⟩
    have HS : Hid (delS rfit l ((k : Int) + 1) = R) := by show _ = _; unfold delS; rw [if_pos hh, show ((k : Int) + 1).toNat = k + 1 by omega, Nat.add_sub_cancel, ← hL1, ← hL, ← hR]
    have HK := Lib.hid (made_tail L w lo hLs R hR)
    have hs1 := slice_head p l.length cap k (by omega)
    obtain ⟨q, hs2, hqr⟩ := slice_tail p l.length cap (k + 1) (by omega) hca w lo w.heap.size l ha rfl
    simp only [Int.natCast_add, Int.natCast_one] at hs2
    have hmk := mkrow l.length (by omega) (l.length : Int) rfl
    have HA := Lib.hid (hL1 ▸ ha.take k : RepAll w lo w.heap.size L1 p)
    have HQ := Lib.hid hqr
    have HL := Lib.hid hL
    have HLd : Hid (l.length - (k + 1) = (l.drop (k + 1)).length) := by show _ = _; rw [List.length_drop]
    have HG0 := Lib.hid ((Gl.start (lo := lo) (hi := w.heap.size) (W := w.drew) (Below.refl w.heap.size w).drew (Nat.le_refl _) (n := l.length) (by omega)))
    obtain ⟨q1, cap1, w1, hr1, hg1⟩ := HG0.out.all (Nat.le_refl _) (by simp) ((HA.out.drew.alloc (Nat.le_refl _) (.cells (madeCells #[.int .i64 0, .int .i64 0, .string ⟨#[]⟩, .slice none 0 0] (l.length * 4)) 24))) (by simp; omega) L1 rfl (m := k) (c := cap) hLl1.symm 22
    rw [hLl1] at hr1 hg1
    have HR1 := Lib.hid hr1
    have HG1 := Lib.hid hg1
    clear hr1 hg1
    have hw1 : IntKind.i64.wrap ((k : Int) + 1 - 1) = (k : Int) := by rw [IntKind.wrap_i64]; omega
    have hw2 : IntKind.i64.wrap (k : Int) = (k : Int) := by rw [IntKind.wrap_i64]; omega
    have hb0 : (0 : Int) ≤ (k : Int) := by omega
    have hb1 : (k : Int) ≤ (cap : Int) := by omega
    have hb2 : (k : Int) + 1 ≤ (l.length : Int) := by omega
    have hb3 : (0 : Int) ≤ (k : Int) + 1 := by omega
    have hb4 : (l.length : Int) ≤ 1000000 := by omega
    rw [HS.out]
    clear ha hqr hR HS hL hL1
    go_enter Try.func21, Try.ntmps21
    go_upto_region 3 with fail
    go_cut [6] from 15 to 23 (fun c wx => ∃ q cap, c = .slice q k cap ∧ Hid (Gl w.heap.size lo w.heap.size w L1 (.slice q k cap) wx))
    case first =>
      go_region_law (refine step_append_run rfl (.tmp 17) (.tmp 21) _ rfl _ _ rfl rfl HR1.out ?_)
      go_wp2
      go_meet
      exact ⟨_, _, rfl, HG1⟩
    obtain ⟨q2, cap2, rfl, HG2⟩ := hcut
    clear HR1
    go_wp2_with (first
      | (at_builtin; obtain ⟨q3, cap3, w3, hr3, hg3⟩ := HG2.out.all (Nat.le_refl _) HG2.out.bel.size (HQ.out.below HG2.out.bel (Nat.le_refl _)) (by have := HLd.out; omega) L HL.out (m := l.length - (k + 1)) (c := cap - (k + 1)) HLd.out 22; refine Lib.wpList_append_run_sl _ rfl (.tmp 23) (.tmp 26) _ rfl _ _ rfl rfl hr3 ?_; have HG3 := Lib.hid hg3; clear hr3 hg3)
      | (go_at_call 47; obtain ⟨q4, cap4, he4, h41, h42⟩ := HG3.out.fin hlo HG3.out.bel.size; simp only [Value.slice.injEq, true_and] at he4; obtain ⟨rfl, rfl⟩ := he4; (with_reducible refine (HK.out _ _ _ h42 h41 HG3.out.bel).mono ?_); clear h42; rintro e w4 ⟨p4, cap4, rfl, h4⟩; have H4 := Lib.hid h4; clear h4))
    go_ret2
    exact ⟨p4, cap4, rfl, H4.out⟩
  · have HS : Hid (delS rfit l i = ([], 10)) := by show _ = _; unfold delS; rw [if_neg hh]
    have h2 : i < 1 ∨ (l.length : Int) < i := by rw [hasB_iff] at hh; omega
    clear ha
    rw [HS.out]
    rcases Int.lt_or_le i 1 with h1 | h1
    · go_enter Try.func21, Try.ntmps21
      go_wp2
      go_ret2
      exact ans_none 10 (Below.refl _ _)
    · have h3 : (l.length : Int) < i := by omega
      go_enter Try.func21, Try.ntmps21
      go_wp2
      go_ret2
      exact ans_none 10 (Below.refl _ _)

set_option maxHeartbeats 2000000 in
theorem rget_any (l : List T) (p : Option Addr) (cap : Nat) (i : Int) (w : World) (lo : Nat) (ha : RepAll w lo w.heap.size l p) (hi : I64 i) (hlen : l.length ≤ 1000000) :
    Calls Try.prog 13 #[.slice p l.length cap, .int .i64 i] w (AnsV lo w (getS l i)) := by
  by_cases hh : hasB l.length i = true
  · obtain ⟨i1, i2⟩ := hasB_iff.1 hh
    obtain ⟨k, rfl⟩ : ∃ k : Nat, i = (k : Int) + 1 := ⟨(i - 1).toNat, by omega⟩
    have hk : k < l.length := by omega
    obtain ⟨b, off, k1, n1, s1, l1, q1, cc1, rfl, _, hbhi, hli, h0, h1, h2, h3, hrep⟩ := ha.item k hk
    have HS : Hid (getS l ((k : Int) + 1) = (l[k], 0)) := getS_at hk
    have hbw : b < w.heap.size := by omega
    have HR := Lib.hid hrep; clear hrep ha
    rw [HS.out]
    have HLI := Lib.hid hli; clear hli
    generalize l[k] = t at *
    go_enter Try.func13, Try.ntmps13
    go_wp2
    refine bodyPost_ret (v := .tuple #[.agg #[.int .i64 k1, .int .i64 n1, .string s1, .slice q1 l1.length cc1], .int .i64 0]) (by simp [results, Try.results13, go_sem]) rfl ?_
    exact ⟨k1, n1, s1, q1, l1.length, cc1, rfl, (HR.out.alloc (Nat.le_refl _) _).keep (Nat.le_refl _) (by simp) (fun _ _ _ => rfl), by go_grown⟩
  · have HS : Hid (getS l i = (zeroT, 10)) := by show _ = _; unfold getS; rw [if_neg hh]
    have h2 : i < 1 ∨ (l.length : Int) < i := by rw [hasB_iff] at hh; omega
    clear ha
    rw [HS.out]
    rcases Int.lt_or_le i 1 with h1 | h1
    · go_enter Try.func13, Try.ntmps13
      go_wp2
      refine bodyPost_ret (v := .tuple #[.agg #[.int .i64 0, .int .i64 0, .string ⟨#[]⟩, .slice none 0 0], .int .i64 10]) (by simp [results, Try.results13, go_sem]) rfl ?_
      exact ⟨0, 0, ⟨#[]⟩, none, 0, 0, rfl, rep_zero, by go_grown⟩
    · have h3 : (l.length : Int) < i := by omega
      go_enter Try.func13, Try.ntmps13
      go_wp2
      refine bodyPost_ret (v := .tuple #[.agg #[.int .i64 0, .int .i64 0, .string ⟨#[]⟩, .slice none 0 0], .int .i64 10]) (by simp [results, Try.results13, go_sem]) rfl ?_
      exact ⟨0, 0, ⟨#[]⟩, none, 0, 0, rfl, rep_zero, by go_grown⟩

/-- 0: a piece; 1: none; 2: out of the list. -/
def withinS (n : Nat) (i j : Int) : Int := if j < i then 1 else if hasB n i = true ∧ hasB n j = true then 0 else 2
set_option maxHeartbeats 400000 in
theorem within_any (n : Nat) (i j : Int) (w : World) : Calls Try.prog 46 #[.int .i64 n, .int .i64 i, .int .i64 j] w fun e w' => e = .returned (.int .i64 (withinS n i j)) ∧ w' = w := by
  by_cases h1 : j < i
  · have HS : Hid (withinS n i j = 1) := by show _ = _; unfold withinS; rw [if_pos h1]
    go_enter Try.func46, Try.ntmps46
    go_wp2
    go_ret
    exact ⟨ret_int HS.out.symm, rfl⟩
  · by_cases h2 : i < 1
    · have HS : Hid (withinS n i j = 2) := by show _ = _; unfold withinS; rw [if_neg h1, if_neg (by simp only [hasB_iff]; omega)]
      go_enter Try.func46, Try.ntmps46
      go_wp2
      go_ret
      exact ⟨ret_int HS.out.symm, rfl⟩
    · by_cases h3 : (n : Int) < j
      · have HS : Hid (withinS n i j = 2) := by show _ = _; unfold withinS; rw [if_neg h1, if_neg (by simp only [hasB_iff]; omega)]
        go_enter Try.func46, Try.ntmps46
        go_wp2
        go_ret
        exact ⟨ret_int HS.out.symm, rfl⟩
      · have HS : Hid (withinS n i j = 0) := by show _ = _; unfold withinS; rw [if_neg h1, if_pos (by simp only [hasB_iff]; omega)]
        go_enter Try.func46, Try.ntmps46
        go_wp2
        go_ret
        exact ⟨ret_int HS.out.symm, rfl⟩

set_option maxHeartbeats 1000000 in
theorem rcut_any (l : List T) (p : Option Addr) (cap : Nat) (i j : Int) (w : World) (lo : Nat) (ha : RepAll w lo w.heap.size l p) (hca : l.length ≤ cap) (hi : I64 i) (hj : I64 j) (hsz : szAll l ≤ 900000) (hlo : lo ≤ w.heap.size) :
    Calls Try.prog 15 #[.slice p l.length cap, .int .i64 i, .int .i64 j] w (Ans lo w (cutS rfit l i j)) := by
  have hlen := len_le_sz l
  by_cases hij : j < i
  · have HS : Hid (cutS rfit l i j = ([], 0)) := by show _ = _; unfold cutS; rw [if_pos hij]
    have HW : Hid (withinS l.length i j = 1) := by show _ = _; unfold withinS; rw [if_pos hij]
    clear ha
    go_enter Try.func15, Try.ntmps15
    go_wp2_with (go_at_call 46; (with_reducible refine (within_any l.length _ _ _).mono ?_); rintro e w1 ⟨rfl, hw⟩; subst hw; rw [HW.out])
    go_ret2
    rw [HS.out]
    exact ans_none 0 (Below.refl _ _)
  · by_cases hh : hasB l.length i = true ∧ hasB l.length j = true
    · have HW : Hid (withinS l.length i j = 0) := by show _ = _; unfold withinS; rw [if_neg hij, if_pos hh]
      obtain ⟨hhi, hhj⟩ := hh
      obtain ⟨i1, i2⟩ := hasB_iff.1 hhi
      obtain ⟨j1, j2⟩ := hasB_iff.1 hhj
      obtain ⟨k, rfl⟩ : ∃ k : Nat, i = (k : Int) + 1 := ⟨(i - 1).toNat, by omega⟩
      obtain ⟨m, rfl⟩ : ∃ m : Nat, j = (m : Int) := ⟨j.toNat, by omega⟩
      have hL : (l.take ((m : Int).toNat)).drop (((k : Int) + 1).toNat - 1) = (l.take m).drop k := by rw [show ((m : Int)).toNat = m by omega, show ((k : Int) + 1).toNat - 1 = k by omega]
      have hLl : ((l.take m).drop k).length = m - k := by rw [List.length_drop, List.length_take]; omega
      have hLs : szAll ((l.take m).drop k) ≤ 900000 := by have := szAll_drop_le (l.take m) k; have := szAll_take_le l m; omega
      have HS : Hid (cutS rfit l ((k : Int) + 1) m = madeS (rfit ((l.take m).drop k)) ((l.take m).drop k)) := by show _ = _; unfold cutS; rw [if_neg hij, if_pos ⟨hhi, hhj⟩, hL]
      obtain ⟨q, hq, hqr⟩ := slice_mid p l.length cap k m (by omega) (by omega) hca w lo w.heap.size l ha rfl
      obtain ⟨R, hR⟩ : ∃ R, R = madeS (rfit ((l.take m).drop k)) ((l.take m).drop k) := ⟨_, rfl⟩
      have HK := Lib.hid (made_tail ((l.take m).drop k) w lo hLs R hR)
      rw [HS.out, ← hR]
      have hV := values_any ((l.take m).drop k) (fun t _ => value_any t) w lo w.heap.size q (cap - k) hqr (by rw [hLl]; omega) (by rw [hLl]; omega) (Nat.le_refl _)
      rw [hLl] at hV
      have HV := Lib.hid hV
      clear ha hR HS hV hqr
      generalize (l.take m).drop k = L at *
      rw [hLl] at HK
      go_enter Try.func15, Try.ntmps15
      go_wp2_with (first
        | (go_at_call 46; (with_reducible refine (within_any l.length _ _ _).mono ?_); rintro e w1 ⟨rfl, hw⟩; subst hw; rw [HW.out])
        | (go_at_call 11; (with_reducible refine HV.out.mono ?_); rintro e w2 ⟨p2, cap2, rfl, h21, _, h22, hb2⟩; rw [hLl] at h21; rw [hLl]; have H22 := Lib.hid (h22.keep hlo (Nat.le_refl _) (fun _ _ _ => rfl)); have HB2 := Lib.hid hb2; clear h22 hb2)
        | (go_at_call 47; (with_reducible refine (HK.out _ _ _ H22.out h21 HB2.out).mono ?_); rintro e w3 ⟨p3, cap3, rfl, h3⟩; have H3 := Lib.hid h3; clear h3))
      go_ret2
      exact ⟨p3, cap3, rfl, H3.out⟩
    · have HS : Hid (cutS rfit l i j = ([], 10)) := by show _ = _; unfold cutS; rw [if_neg hij, if_neg hh]
      have HW : Hid (withinS l.length i j = 2) := by show _ = _; unfold withinS; rw [if_neg hij, if_neg hh]
      clear ha
      go_enter Try.func15, Try.ntmps15
      go_wp2_with (go_at_call 46; (with_reducible refine (within_any l.length _ _ _).mono ?_); rintro e w1 ⟨rfl, hw⟩; subst hw; rw [HW.out])
      go_ret2
      rw [HS.out]
      exact ans_none 10 (Below.refl _ _)
end Go.Proofs.Ytjipchloebbldaa
