/- The calls of package seq that make a list: Delete, Put, Insert. -/
import Derived.Test.YtjipchloebbldaaMade
namespace Go.Proofs.Ytjipchloebbldaa
open Go.RowKit
set_option maxRecDepth 100000

set_option maxHeartbeats 2000000 in
theorem delete_any (l : List T) (p : Option Addr) (cap : Nat) (i : Int) (w : World) (lo : Nat) (ha : RepAll w lo w.heap.size l p) (hca : l.length ≤ cap) (hi : I64 i) (hsz : szAll l ≤ 900000) (hlo : lo ≤ w.heap.size) :
    Calls Try.prog 20 #[.slice p l.length cap, .int .i64 i] w (Ans w.heap.size w (delS vfit l i)) := by
  have hlen := len_le_sz l
  by_cases hh : hasB l.length i = true
  · obtain ⟨i1, i2⟩ := hasB_iff.1 hh
    obtain ⟨k, rfl⟩ : ∃ k : Nat, i = (k : Int) + 1 := ⟨(i - 1).toNat, by omega⟩
    obtain ⟨L, hL⟩ : ∃ L, L = l.take k ++ l.drop (k + 1) := ⟨_, rfl⟩
    have hLs : szAll L ≤ 900000 := by have h1 := szAll_append (l.take k) (l.drop (k + 1)); have h2 := szAll_split l k (by omega); have h3 := szAll_append (l.take (k + 1)) (l.drop (k + 1)); rw [List.take_append_drop] at h3; have := sz_pos (l[k]'(by omega)); rw [hL]; omega
    have hLl : L.length ≤ 1000000 := by have := len_le_sz L; omega
    obtain ⟨R, hR⟩ : ∃ R, R = madeS (vfit L) L := ⟨_, rfl⟩
    have HS : Hid (delS vfit l ((k : Int) + 1) = R) := by show _ = _; unfold delS; rw [if_pos hh, show ((k : Int) + 1).toNat = k + 1 by omega, Nat.add_sub_cancel, ← hL, ← hR]
    have HK := Lib.hid (checked_tail L w lo hLs R hR)
    have hs1 := slice_head p l.length cap k (by omega)
    obtain ⟨q, hs2, hqr⟩ := slice_tail p l.length cap (k + 1) (by omega) hca w lo w.heap.size l ha rfl
    simp only [Int.natCast_add, Int.natCast_one] at hs2
    have HT : Hid (RepAll w lo w.heap.size (l.take k) p ∧ (l.take k).length = k) := ⟨ha.take k, by rw [List.length_take]; omega⟩
    have HD : Hid (RepAll w lo w.heap.size (l.drop (k + 1)) q ∧ (l.drop (k + 1)).length = l.length - (k + 1)) := ⟨hqr, by rw [List.length_drop]⟩
    have HBW := Lib.hid (((Below.refl w.heap.size w).alloc (Nat.le_refl _) (.cells #[.slice p k cap, .slice q (l.length - (k + 1)) (cap - (k + 1))] 22)).drew)
    have HC0 := concat2_any (l.take k) (l.drop (k + 1)) p q cap (cap - (k + 1)) (w.alloc (.cells #[.slice p k cap, .slice q (l.length - (k + 1)) (cap - (k + 1))] 22)).drew lo w.heap.size w.heap.size (by rw [HT.out.2, HD.out.2]; exact heap_alloc_new w _) (HT.out.1.below HBW.out (Nat.le_refl _)) (by have := HT.out.2; omega) (HD.out.1.below HBW.out (Nat.le_refl _)) (by have := HD.out.2; omega) HBW.out.size (Nat.le_trans hlo HBW.out.size) (by rw [← hL]; exact hLl)
    rw [← hL] at HC0
    have HC := Lib.hid HC0; clear HC0
    have hw1 : IntKind.i64.wrap ((k : Int) + 1 - 1) = (k : Int) := by rw [IntKind.wrap_i64]; omega
    have hw2 : IntKind.i64.wrap (k : Int) = (k : Int) := by rw [IntKind.wrap_i64]; omega
    have hb0 : (0 : Int) ≤ (k : Int) := by omega
    have hb1 : (k : Int) ≤ (cap : Int) := by omega
    have hb2 : (k : Int) + 1 ≤ (l.length : Int) := by omega
    have hb3 : (0 : Int) ≤ (k : Int) + 1 := by omega
    rw [HS.out]
    clear ha hqr hR HS HT HD hL
    go_enter Try.func20, Try.ntmps20
    go_wp2_with (go_at_call 43; (with_reducible refine (has_any l p cap _ _ (by omega)).mono ?_); rintro e w1 ⟨rfl, hw⟩; subst hw)
    go_region_held3 (fun _ => True) (first | go_keep | trivial | (go_show; fail)) (first
      | (go_at_call 48; (with_reducible refine HC.out.mono ?_); rintro e w2 ⟨p2, cap2, rfl, h21, h22, hb2⟩; have H22 := Lib.hid h22; have HB2 := Lib.hid (HBW.out.trans (hb2.mono HBW.out.size)); clear h22 hb2)
      | (go_at_call 45; (with_reducible refine (HK.out _ _ _ H22.out h21 HB2.out).mono ?_); rintro e w3 ⟨⟨p3, cap3, rfl, h3⟩, _⟩; have H3 := Lib.hid h3; clear h3))
    go_wp2
    go_ret2
    exact ⟨p3, cap3, rfl, H3.out⟩
  · have HS : Hid (delS vfit l i = ([], 10)) := by show _ = _; unfold delS; rw [if_neg hh]
    have h2 : hasB l.length i = false := by simpa using hh
    clear ha
    go_enter Try.func20, Try.ntmps20
    go_wp2_with (go_at_call 43; (with_reducible refine (has_any l p cap _ _ (by omega)).mono ?_); rintro e w1 ⟨rfl, rfl⟩)
    go_ret2
    rw [HS.out]
    exact ans_none 10 (Below.refl _ _)

/-- One value in a row of its own. -/
theorem repAll_box {W : World} {lo hi g : Nat} {t : T} {c0 c1 c2 c3 : Value} {ty : TypeId} (hb : W.heap[g]? = some (.cells #[c0, c1, c2, c3] ty (0, 0))) (h : Rep W lo hi t (.agg #[c0, c1, c2, c3])) (hlo : lo ≤ g) (hhi : hi ≤ W.heap.size) : RepAll W lo W.heap.size [t] (some ⟨g, 0, none⟩) := by
  obtain ⟨e0, e1, e2, e3, _⟩ := box4_in W g c0 c1 c2 c3 ty hb
  refine RepAll.of hlo (heap_lt hb) [t] 0 (fun i hi' => ?_)
  obtain rfl : i = 0 := by simp at hi'; omega
  exact ⟨c0, c1, c2, c3, e0, e1, e2, e3, h.keep (Nat.le_refl _) hhi (fun _ _ _ => rfl)⟩
theorem concat_mid (a c : List T) (v : T) (pa pc : Option Addr) (ca cc la lc : Nat) (c0 c1 c2 c3 : Value) (W : World) (lo hi g ba : Nat) (hb : W.heap[ba]? = some (.cells #[.slice pa la ca, .slice (some ⟨g, 0, none⟩) 1 1, .slice pc lc cc] 22 (0, 0)))
    (hg : W.heap[g]? = some (.cells #[c0, c1, c2, c3] 24 (0, 0))) (hv : Rep W lo hi v (.agg #[c0, c1, c2, c3])) (ha : RepAll W lo hi a pa) (hla : a.length = la) (hca : la ≤ ca) (hc : RepAll W lo hi c pc) (hlc : c.length = lc) (hcc : lc ≤ cc) (hhi : hi ≤ W.heap.size) (hlo : lo ≤ g) (hlen : (a ++ [v] ++ c).length ≤ 1000000) :
    Calls Try.prog 48 #[.slice (some ⟨ba, 0, none⟩) 3 3] W (Glued lo W (a ++ [v] ++ c)) := by
  subst hla; subst hlc
  exact concat3_any a [v] c pa (some ⟨g, 0, none⟩) pc ca 1 cc W lo W.heap.size ba hb (ha.keep (Nat.le_refl _) hhi (fun _ _ _ => rfl)) hca (repAll_box hg hv hlo hhi) (Nat.le_refl _) (hc.keep (Nat.le_refl _) hhi (fun _ _ _ => rfl)) hcc (Nat.le_refl _) (by have := heap_lt hg; omega) hlen

set_option maxHeartbeats 2000000 in
theorem put_any (l : List T) (p : Option Addr) (cap : Nat) (i : Int) (t : T) (v : Value) (w : World) (lo : Nat) (ha : RepAll w lo w.heap.size l p) (hca : l.length ≤ cap) (hi : I64 i) (hv : Rep w lo w.heap.size t v) (hsz : szAll l + sz t ≤ 900000) (hlo : lo ≤ w.heap.size) :
    Calls Try.prog 16 #[.slice p l.length cap, .int .i64 i, v] w (Ans w.heap.size w (putS vfit l i t)) := by
  have hlen := len_le_sz l
  have htp := sz_pos t
  obtain ⟨vk, vn, vs, vp, vl, vc, rfl⟩ := rep_form hv
  by_cases hh : hasB l.length i = true
  · obtain ⟨i1, i2⟩ := hasB_iff.1 hh
    obtain ⟨k, rfl⟩ : ∃ k : Nat, i = (k : Int) + 1 := ⟨(i - 1).toNat, by omega⟩
    obtain ⟨L, hL⟩ : ∃ L, L = l.take k ++ [t] ++ l.drop (k + 1) := ⟨_, rfl⟩
    have hLs : szAll L ≤ 900000 := by
      have h1 := szAll_append (l.take k ++ [t]) (l.drop (k + 1)); have h4 := szAll_append (l.take k) [t]; have h2 := szAll_split l k (by omega); have h3 := szAll_append (l.take (k + 1)) (l.drop (k + 1)); rw [List.take_append_drop] at h3; have := sz_pos (l[k]'(by omega)); simp only [szAll] at h4; rw [hL]; omega
    have hLl : L.length ≤ 1000000 := by have := len_le_sz L; omega
    obtain ⟨R, hR⟩ : ∃ R, R = madeS (vfit L) L := ⟨_, rfl⟩
    have HS : Hid (putS vfit l ((k : Int) + 1) t = R) := by show _ = _; unfold putS; rw [if_pos hh, show ((k : Int) + 1).toNat = k + 1 by omega, Nat.add_sub_cancel, ← hL, ← hR]
    have HK := Lib.hid (checked_tail L w lo hLs R hR)
    have hs1 := slice_head p l.length cap k (by omega)
    obtain ⟨q, hs2, hqr⟩ := slice_tail p l.length cap (k + 1) (by omega) hca w lo w.heap.size l ha rfl
    simp only [Int.natCast_add, Int.natCast_one] at hs2
    have HBW := Lib.hid (((((Below.refl w.heap.size w).alloc (Nat.le_refl _) (.cells #[.int .i64 vk, .int .i64 vn, .string vs, .slice vp vl vc] 24)).alloc (by simp) (.cells #[.int .i64 vk, .int .i64 vn, .string vs, .slice vp vl vc] 24)).alloc (by simp; omega) (.cells #[.slice p k cap, .slice (some ⟨w.heap.size + 1, 0, none⟩) 1 1, .slice q (l.length - (k + 1)) (cap - (k + 1))] 22)).drew)
    have hg1 : ((((w.alloc (.cells #[.int .i64 vk, .int .i64 vn, .string vs, .slice vp vl vc] 24)).alloc (.cells #[.int .i64 vk, .int .i64 vn, .string vs, .slice vp vl vc] 24)).alloc (.cells #[.slice p k cap, .slice (some ⟨w.heap.size + 1, 0, none⟩) 1 1, .slice q (l.length - (k + 1)) (cap - (k + 1))] 22)).drew).heap[w.heap.size + 1]? = some (.cells #[.int .i64 vk, .int .i64 vn, .string vs, .slice vp vl vc] 24 (0, 0)) := by
      refine heap_drew (heap_alloc_ _ _ _ _ ?_)
      have h := heap_alloc_new (w.alloc (.cells #[.int .i64 vk, .int .i64 vn, .string vs, .slice vp vl vc] 24)) (.cells #[.int .i64 vk, .int .i64 vn, .string vs, .slice vp vl vc] 24)
      rw [World.size_alloc] at h; exact h
    have hg2 : ((((w.alloc (.cells #[.int .i64 vk, .int .i64 vn, .string vs, .slice vp vl vc] 24)).alloc (.cells #[.int .i64 vk, .int .i64 vn, .string vs, .slice vp vl vc] 24)).alloc (.cells #[.slice p k cap, .slice (some ⟨w.heap.size + 1, 0, none⟩) 1 1, .slice q (l.length - (k + 1)) (cap - (k + 1))] 22)).drew).heap[w.heap.size + 2]? = some (.cells #[.slice p k cap, .slice (some ⟨w.heap.size + 1, 0, none⟩) 1 1, .slice q (l.length - (k + 1)) (cap - (k + 1))] 22 (0, 0)) := by
      have h := heap_alloc_new ((w.alloc (.cells #[.int .i64 vk, .int .i64 vn, .string vs, .slice vp vl vc] 24)).alloc (.cells #[.int .i64 vk, .int .i64 vn, .string vs, .slice vp vl vc] 24)) (.cells #[.slice p k cap, .slice (some ⟨w.heap.size + 1, 0, none⟩) 1 1, .slice q (l.length - (k + 1)) (cap - (k + 1))] 22)
      rw [World.size_alloc, World.size_alloc] at h; exact h
    have HG0 := Lib.hid (heap_drew (heap_alloc_ _ (.cells #[.int .i64 vk, .int .i64 vn, .string vs, .slice vp vl vc] 24) (.cells #[.slice p k cap, .slice (some ⟨w.heap.size + 1, 0, none⟩) 1 1, .slice q (l.length - (k + 1)) (cap - (k + 1))] 22) _ (heap_alloc_ _ (.cells #[.int .i64 vk, .int .i64 vn, .string vs, .slice vp vl vc] 24) (.cells #[.int .i64 vk, .int .i64 vn, .string vs, .slice vp vl vc] 24) _ (heap_alloc_new w (.cells #[.int .i64 vk, .int .i64 vn, .string vs, .slice vp vl vc] 24)))))
    have HC0 := concat_mid (l.take k) (l.drop (k + 1)) t p q cap (cap - (k + 1)) k (l.length - (k + 1)) _ _ _ _ _ lo w.heap.size (w.heap.size + 1) (w.heap.size + 2) hg2 hg1 (hv.below HBW.out (Nat.le_refl _)) ((ha.take k).below HBW.out (Nat.le_refl _)) (by rw [List.length_take]; omega) (by omega) (hqr.below HBW.out (Nat.le_refl _)) (by rw [List.length_drop]) (by omega) HBW.out.size (by omega) (by rw [← hL]; exact hLl)
    rw [← hL] at HC0
    have HC := Lib.hid HC0; clear HC0 hg1 hg2
    have hw1 : IntKind.i64.wrap ((k : Int) + 1 - 1) = (k : Int) := by rw [IntKind.wrap_i64]; omega
    have hw2 : IntKind.i64.wrap (k : Int) = (k : Int) := by rw [IntKind.wrap_i64]; omega
    have hb0 : (0 : Int) ≤ (k : Int) := by omega
    have hb1 : (k : Int) ≤ (cap : Int) := by omega
    have hb2 : (k : Int) + 1 ≤ (l.length : Int) := by omega
    have hb3 : (0 : Int) ≤ (k : Int) + 1 := by omega
    rw [HS.out]
    clear ha hqr hR HS hL hv
    go_enter Try.func16, Try.ntmps16
    go_wp2_with (go_at_call 43; (with_reducible refine (has_any l p cap _ _ (by omega)).mono ?_); rintro e w1 ⟨rfl, hw⟩; subst hw)
    go_region_held3 (fun w' => w'.cell? ⟨w.heap.size, 0, none⟩ = some (.int .i64 vk) ∧ w'.cell? ⟨w.heap.size, 1, none⟩ = some (.int .i64 vn) ∧ w'.cell? ⟨w.heap.size, 2, none⟩ = some (.string vs) ∧ w'.cell? ⟨w.heap.size, 3, none⟩ = some (.slice vp vl vc)) (first | go_keep | exact ⟨by assumption, by assumption, by assumption, by assumption⟩ | (go_show; fail)) (first
      | (go_at_call 48; (with_reducible refine HC.out.mono ?_); rintro e w2 ⟨p2, cap2, rfl, h21, h22, hb2⟩; have HG2 := Lib.hid (heap_old HG0.out hb2); obtain ⟨hx0, hx1, hx2, hx3, hxf⟩ := box4_in w2 w.heap.size _ _ _ _ _ HG2.out; clear hxf; have H22 := Lib.hid h22; have HB2 := Lib.hid (HBW.out.trans (hb2.mono HBW.out.size)); clear h22 hb2)
      | (go_at_call 45; (with_reducible refine (HK.out _ _ _ H22.out h21 HB2.out).mono ?_); rintro e w3 ⟨⟨p3, cap3, rfl, h3⟩, hb3⟩; obtain ⟨hy0, hy1, hy2, hy3, hyf⟩ := box4_in w3 w.heap.size _ _ _ _ _ (heap_old HG2.out hb3); clear hyf hb3; have H3 := Lib.hid h3; clear h3))
    go_wp2
    go_ret2
    exact ⟨p3, cap3, rfl, H3.out⟩
  · have HS : Hid (putS vfit l i t = ([], 10)) := by show _ = _; unfold putS; rw [if_neg hh]
    have h2 : hasB l.length i = false := by simpa using hh
    clear ha hv
    go_enter Try.func16, Try.ntmps16
    go_wp2_with (go_at_call 43; (with_reducible refine (has_any l p cap _ _ (by omega)).mono ?_); rintro e w1 ⟨rfl, hw⟩; subst hw)
    go_ret2
    rw [HS.out]
    exact ans_none 10 ((Below.refl _ _).alloc (Nat.le_refl _) _)
end Go.Proofs.Ytjipchloebbldaa
