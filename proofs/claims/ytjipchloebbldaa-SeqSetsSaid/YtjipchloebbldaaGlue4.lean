/- The document's Insert. -/
import Derived.Test.YtjipchloebbldaaGlue3
namespace Go.Proofs.Ytjipchloebbldaa
open Go.RowKit
set_option maxRecDepth 100000

theorem Gl.alloc {B lo hi : Nat} {w0 w : World} {L : List T} {v : Value} (h : Gl B lo hi w0 L v w) (hhi : hi ≤ B) (hB : B ≤ w.heap.size) (o : Obj) : Gl B lo hi w0 L v (w.alloc o) := by
  obtain ⟨⟨cs, h1, h2⟩, h3⟩ := h
  refine ⟨⟨cs, ?_, ?_⟩, h3.alloc hB o⟩
  · refine ⟨h1.1, ?_⟩
    rcases h1.2 with h4 | ⟨g, cap, cur, rfl, h4, h5, h6⟩
    · exact .inl h4
    · exact .inr ⟨g, cap, cur, rfl, h4, (Below.heap_alloc w o g (heap_lt h5)).trans h5, h6⟩
  · exact h2.keep (Nat.le_refl _) (Nat.le_refl _) (fun p _ hp => World.cell?_alloc_lt w o p (by omega))

set_option maxHeartbeats 4000000 in
theorem rinsert_any (l : List T) (p : Option Addr) (cap : Nat) (i : Int) (t : T) (v : Value) (w : World) (lo : Nat) (ha : RepAll w lo w.heap.size l p) (hca : l.length ≤ cap) (hi : I64 i) (hv : Rep w lo w.heap.size t v) (hsz : szAll l + sz t ≤ 900000) (hlo : lo ≤ w.heap.size) :
    Calls Try.prog 19 #[.slice p l.length cap, v, .int .i64 i] w (Ans lo w (insS rfit l t i)) := by
  have hlen := len_le_sz l
  have htp := sz_pos t
  obtain ⟨vk, vn, vs, vp, vl, vc, rfl⟩ := rep_form hv
  obtain ⟨k, hk⟩ : ∃ k, k = insAt l.length i := ⟨_, rfl⟩
  have hkl : k ≤ l.length := by rw [hk]; unfold insAt; split <;> (try split) <;> omega
  obtain ⟨L1, hL1⟩ : ∃ L, L = l.take k := ⟨_, rfl⟩
  obtain ⟨L2, hL2⟩ : ∃ L, L = L1 ++ [t] := ⟨_, rfl⟩
  obtain ⟨L, hL⟩ : ∃ L, L = L2 ++ l.drop k := ⟨_, rfl⟩
  have hLl1 : L1.length = k := by rw [hL1, List.length_take]; omega
  have hLl2 : L2.length = k + 1 := by rw [hL2]; simp [hLl1]
  have hLs : szAll L ≤ 900000 := by
    have h1 := szAll_append L2 (l.drop k); have h4 := szAll_append L1 [t]; have h3 := szAll_append (l.take k) (l.drop k); rw [List.take_append_drop] at h3; simp only [szAll] at h4; rw [← hL2] at h4; rw [← hL] at h1; rw [← hL1] at h3; omega
  have hLl : L.length ≤ 1000000 := by have := len_le_sz L; omega
  obtain ⟨R, hR⟩ : ∃ R, R = madeS (rfit L) L := ⟨_, rfl⟩
  have HS : Hid (insS rfit l t i = R) := by show _ = _; unfold insS; rw [← hk, ← hL1, ← hL2, ← hL, ← hR]
  have HK := Lib.hid (made_tail L w lo hLs R hR)
  have hs1 := slice_head p l.length cap k (by omega)
  obtain ⟨q, hs2, hqr⟩ := slice_tail p l.length cap k hkl hca w lo w.heap.size l ha rfl
  have HQ := Lib.hid hqr
  have hmk := mkrow (l.length + 1) (by omega) ((l.length : Int) + 1) (by omega)
  have HA := Lib.hid (hL1 ▸ ha.take k : RepAll w lo w.heap.size L1 p)
  have HL := Lib.hid hL
  have HL2 := Lib.hid hL2
  have HV := Lib.hid hv
  have HLd : Hid (l.length - k = (l.drop k).length) := by show _ = _; rw [List.length_drop]
  have HB1 := Lib.hid ((Below.refl w.heap.size w).alloc (Nat.le_refl _) (.cells #[.int .i64 vk, .int .i64 vn, .string vs, .slice vp vl vc] 24))
  obtain ⟨W1, hW1⟩ : ∃ W1, W1 = w.alloc (.cells #[.int .i64 vk, .int .i64 vn, .string vs, .slice vp vl vc] 24) := ⟨_, rfl⟩
  have hz1 : W1.heap.size = w.heap.size + 1 := by rw [hW1, World.size_alloc]
  have HBX : Hid (W1.heap[w.heap.size]? = some (.cells #[.int .i64 vk, .int .i64 vn, .string vs, .slice vp vl vc] 24 (0, 0))) := by show _ = _; rw [hW1]; exact heap_alloc_new w _
  rw [← hW1] at HB1
  have HG0 := Lib.hid (Gl.start (lo := lo) (hi := w.heap.size) (W := W1.drew) (Below.refl W1.heap.size W1).drew (Nat.le_refl _) (n := l.length + 1) (by omega))
  obtain ⟨q1, cap1, w1, hr1, hg1⟩ := HG0.out.all (by omega) (by simp) (((HA.out.below HB1.out (Nat.le_refl _)).drew.alloc (by show w.heap.size ≤ W1.heap.size; omega) (.cells (madeCells #[.int .i64 0, .int .i64 0, .string ⟨#[]⟩, .slice none 0 0] ((l.length + 1) * 4)) 24))) (by simp; omega) L1 rfl (m := k) (c := cap) hLl1.symm 22
  rw [hLl1] at hr1 hg1
  have HR1 := Lib.hid hr1
  have HG1 := Lib.hid hg1
  have hw2 : IntKind.i64.wrap (k : Int) = (k : Int) := by rw [IntKind.wrap_i64]; omega
  have hw3 : IntKind.i64.wrap ((l.length : Int) + 1) = (l.length : Int) + 1 := by rw [IntKind.wrap_i64]; omega
  have hb0 : (0 : Int) ≤ (k : Int) := by omega
  have hb1 : (k : Int) ≤ (cap : Int) := by omega
  have hb2 : (k : Int) ≤ (l.length : Int) := by omega
  have hb4 : (l.length : Int) ≤ 1000000 := by omega
  obtain ⟨hi1, hi2⟩ := hi
  have HKV := Lib.hid (show (i < 1 ∧ (k : Int) = 0) ∨ (1 ≤ i ∧ (l.length : Int) < i ∧ (k : Int) = (l.length : Int)) ∨ (1 ≤ i ∧ i ≤ (l.length : Int) ∧ (k : Int) = i - 1) from by rw [hk]; unfold insAt; split <;> (try split) <;> omega)
  rw [HS.out]
  have HW1 := Lib.hid hW1
  clear ha hqr hR HS hL hL1 hL2 hv hr1 hg1 HG0 hk hW1
  have HZ1 := Lib.hid hz1
  clear hz1
  go_enter Try.func19, Try.ntmps19
  go_upto_if 13 with fail
  rw [← HW1.out]
  go_cut [8] from 14 to 20 (fun c wx => c = .int .i64 (k : Int) ∧ W1 = wx)
  case first =>
    go_wp2
    all_goals
      go_meet
      exact ⟨by have := HKV.out; congr 1; omega, rfl⟩
  obtain ⟨rfl, rfl⟩ := hcut
  clear hi1 hi2 HKV
  go_upto_region 6 with fail
  go_cut [9] from 20 to 28 (fun c wx => ∃ q cap, c = .slice q k cap ∧ Hid (Gl W1.heap.size lo w.heap.size W1 L1 (.slice q k cap) wx))
  case first =>
    go_region_law (refine step_append_run rfl (.tmp 23) (.tmp 26) _ rfl _ _ rfl rfl HR1.out ?_)
    go_wp2
    go_meet
    exact ⟨_, _, rfl, HG1⟩
  obtain ⟨q2, cap2, rfl, HG2⟩ := hcut
  clear HR1 HG1
  obtain ⟨hx0, hx1, hx2, hx3, hxf⟩ := box4_in wc w.heap.size _ _ _ _ _ (heap_old HBX.out HG2.out.bel)
  clear hxf
  have hzc := HG2.out.bel.size
  have hz1 := HZ1.out
  obtain ⟨q3, cap3, w3, hr3, hg3⟩ := (HG2.out.alloc (by omega) hzc (.cells #[.int .i64 vk, .int .i64 vn, .string vs, .slice vp vl vc] 24)).run (l := [t]) (cs := [.int .i64 vk, .int .i64 vn, .string vs, .slice vp vl vc]) (p := some ⟨wc.heap.size, 0, none⟩) (c := 1) (m := 1) (by omega) (by simp; omega) ⟨_, _, _, _, [], rfl, (HV.out.below ((HB1.out.trans (HG2.out.bel.mono (by omega))).alloc (by omega) _) (Nat.le_refl _)), rfl⟩
    (fun a ha => by injection ha with ha; subst ha; exact World.news_of_block (cs := #[.int .i64 vk, .int .i64 vn, .string vs, .slice vp vl vc]) (t := 24) (fr := (0, 0)) (heap_alloc_new wc _)) (fun h => by cases h) (by simp; omega) L2 HL2.out rfl 22
  rw [hLl2] at hr3 hg3
  have HR3 := Lib.hid hr3
  have HG3 := Lib.hid hg3
  have hz3 := hg3.bel.size
  obtain ⟨q4, cap4, w4, hr4, hg4⟩ := HG3.out.all (by omega) (by omega) (HQ.out.below (HB1.out.trans (HG3.out.bel.mono (by omega))) (Nat.le_refl _)) (by have := HLd.out; omega) L HL.out (m := l.length - k) (c := cap - k) HLd.out 22
  have HR4 := Lib.hid hr4
  have HG4 := Lib.hid hg4
  obtain ⟨q5, cap5, he5, h51, h52⟩ := HG4.out.fin (by omega) (by have := HG4.out.bel.size; omega)
  simp only [Value.slice.injEq, true_and] at he5
  obtain ⟨rfl, rfl⟩ := he5
  have HKK := Lib.hid (HK.out _ _ _ h52 h51 (HB1.out.trans (HG4.out.bel.mono (by omega))))
  clear hr3 hg3 hr4 hg4 h52 h51 hz1 hzc hz3
  go_wp2_with (first
    | (at_builtin; refine Lib.wpList_append_run_sl _ rfl (.tmp 28) (.tmp 30) _ rfl _ _ rfl rfl HR3.out ?_)
    | (at_builtin; refine Lib.wpList_append_run_sl _ rfl (.tmp 32) (.tmp 35) _ rfl _ _ rfl rfl HR4.out ?_)
    | (go_at_call 47; (with_reducible refine HKK.out.mono ?_); rintro e w6 ⟨p6, cap6, rfl, h6⟩; have H6 := Lib.hid h6; clear h6))
  go_ret2
  exact ⟨p6, cap6, rfl, H6.out⟩
end Go.Proofs.Ytjipchloebbldaa
