/- The calls of package seq that make a list: Insert. -/
import Derived.Test.YtjipchloebbldaaMade2
namespace Go.Proofs.Ytjipchloebbldaa
open Go.RowKit
set_option maxRecDepth 100000

set_option maxHeartbeats 2000000 in
theorem insert_any (l : List T) (p : Option Addr) (cap : Nat) (i : Int) (t : T) (v : Value) (w : World) (lo : Nat) (ha : RepAll w lo w.heap.size l p) (hca : l.length ≤ cap) (hi : I64 i) (hv : Rep w lo w.heap.size t v) (hsz : szAll l + sz t ≤ 900000) (hlo : lo ≤ w.heap.size) :
    Calls Try.prog 18 #[.slice p l.length cap, v, .int .i64 i] w (Ans w.heap.size w (insS vfit l t i)) := by
  have hlen := len_le_sz l
  have htp := sz_pos t
  obtain ⟨vk, vn, vs, vp, vl, vc, rfl⟩ := rep_form hv
  obtain ⟨k, hk⟩ : ∃ k, k = insAt l.length i := ⟨_, rfl⟩
  have hkl : k ≤ l.length := by rw [hk]; unfold insAt; split <;> (try split) <;> omega
  obtain ⟨L, hL⟩ : ∃ L, L = l.take k ++ [t] ++ l.drop k := ⟨_, rfl⟩
  have hLs : szAll L ≤ 900000 := by
    have h1 := szAll_append (l.take k ++ [t]) (l.drop k); have h4 := szAll_append (l.take k) [t]; have h3 := szAll_append (l.take k) (l.drop k); rw [List.take_append_drop] at h3; simp only [szAll] at h4; rw [hL]; omega
  have hLl : L.length ≤ 1000000 := by have := len_le_sz L; omega
  obtain ⟨R, hR⟩ : ∃ R, R = madeS (vfit L) L := ⟨_, rfl⟩
  have HS : Hid (insS vfit l t i = R) := by show _ = _; unfold insS; rw [← hk, ← hL, ← hR]
  have HK := Lib.hid (checked_tail L w lo hLs R hR)
  have hs1 := slice_head p l.length cap k (by omega)
  obtain ⟨q, hs2, hqr⟩ := slice_tail p l.length cap k (by omega) hca w lo w.heap.size l ha rfl
  have HBW := Lib.hid (((((Below.refl w.heap.size w).alloc (Nat.le_refl _) (.cells #[.int .i64 vk, .int .i64 vn, .string vs, .slice vp vl vc] 24)).alloc (by simp) (.cells #[.int .i64 vk, .int .i64 vn, .string vs, .slice vp vl vc] 24)).alloc (by simp; omega) (.cells #[.slice p k cap, .slice (some ⟨w.heap.size + 1, 0, none⟩) 1 1, .slice q (l.length - k) (cap - k)] 22)).drew)
  have hg1 : ((((w.alloc (.cells #[.int .i64 vk, .int .i64 vn, .string vs, .slice vp vl vc] 24)).alloc (.cells #[.int .i64 vk, .int .i64 vn, .string vs, .slice vp vl vc] 24)).alloc (.cells #[.slice p k cap, .slice (some ⟨w.heap.size + 1, 0, none⟩) 1 1, .slice q (l.length - k) (cap - k)] 22)).drew).heap[w.heap.size + 1]? = some (.cells #[.int .i64 vk, .int .i64 vn, .string vs, .slice vp vl vc] 24 (0, 0)) := by
    refine heap_drew (heap_alloc_ _ _ _ _ ?_)
    have h := heap_alloc_new (w.alloc (.cells #[.int .i64 vk, .int .i64 vn, .string vs, .slice vp vl vc] 24)) (.cells #[.int .i64 vk, .int .i64 vn, .string vs, .slice vp vl vc] 24)
    rw [World.size_alloc] at h; exact h
  have hg2 : ((((w.alloc (.cells #[.int .i64 vk, .int .i64 vn, .string vs, .slice vp vl vc] 24)).alloc (.cells #[.int .i64 vk, .int .i64 vn, .string vs, .slice vp vl vc] 24)).alloc (.cells #[.slice p k cap, .slice (some ⟨w.heap.size + 1, 0, none⟩) 1 1, .slice q (l.length - k) (cap - k)] 22)).drew).heap[w.heap.size + 2]? = some (.cells #[.slice p k cap, .slice (some ⟨w.heap.size + 1, 0, none⟩) 1 1, .slice q (l.length - k) (cap - k)] 22 (0, 0)) := by
    have h := heap_alloc_new ((w.alloc (.cells #[.int .i64 vk, .int .i64 vn, .string vs, .slice vp vl vc] 24)).alloc (.cells #[.int .i64 vk, .int .i64 vn, .string vs, .slice vp vl vc] 24)) (.cells #[.slice p k cap, .slice (some ⟨w.heap.size + 1, 0, none⟩) 1 1, .slice q (l.length - k) (cap - k)] 22)
    rw [World.size_alloc, World.size_alloc] at h; exact h
  have HG0 := Lib.hid (heap_drew (heap_alloc_ _ (.cells #[.int .i64 vk, .int .i64 vn, .string vs, .slice vp vl vc] 24) (.cells #[.slice p k cap, .slice (some ⟨w.heap.size + 1, 0, none⟩) 1 1, .slice q (l.length - k) (cap - k)] 22) _ (heap_alloc_ _ (.cells #[.int .i64 vk, .int .i64 vn, .string vs, .slice vp vl vc] 24) (.cells #[.int .i64 vk, .int .i64 vn, .string vs, .slice vp vl vc] 24) _ (heap_alloc_new w (.cells #[.int .i64 vk, .int .i64 vn, .string vs, .slice vp vl vc] 24)))))
  have HC0 := concat_mid (l.take k) (l.drop k) t p q cap (cap - k) k (l.length - k) _ _ _ _ _ lo w.heap.size (w.heap.size + 1) (w.heap.size + 2) hg2 hg1 (hv.below HBW.out (Nat.le_refl _)) ((ha.take k).below HBW.out (Nat.le_refl _)) (by rw [List.length_take]; omega) (by omega) (hqr.below HBW.out (Nat.le_refl _)) (by rw [List.length_drop]) (by omega) HBW.out.size (by omega) (by rw [← hL]; exact hLl)
  rw [← hL] at HC0
  have HC := Lib.hid HC0; clear HC0 hg1 hg2
  have hw2 : IntKind.i64.wrap (k : Int) = (k : Int) := by rw [IntKind.wrap_i64]; omega
  have hb0 : (0 : Int) ≤ (k : Int) := by omega
  have hb1 : (k : Int) ≤ (cap : Int) := by omega
  have hb2 : (k : Int) ≤ (l.length : Int) := by omega
  obtain ⟨hi1, hi2⟩ := hi
  have HKV := Lib.hid (show (k : Int) = min (max i 1) ((l.length : Int) + 1) - 1 from by rw [hk]; unfold insAt; split <;> (try split) <;> omega)
  rw [HS.out]
  clear ha hqr hR HS hL hv hk
  go_enter Try.func18, Try.ntmps18
  go_upto_region 1 with fail
  go_cut [8] from 9 to 16 (fun c wx => c = .int .i64 (k : Int) ∧ wx = w.alloc (.cells #[.int .i64 vk, .int .i64 vn, .string vs, .slice vp vl vc] 24))
  case first =>
    go_wp2
    go_meet
    exact ⟨by rw [← HKV.out], rfl⟩
  obtain ⟨rfl, rfl⟩ := hcut
  go_wp2
  go_region_held3 (fun w' => w'.cell? ⟨w.heap.size, 0, none⟩ = some (.int .i64 vk) ∧ w'.cell? ⟨w.heap.size, 1, none⟩ = some (.int .i64 vn) ∧ w'.cell? ⟨w.heap.size, 2, none⟩ = some (.string vs) ∧ w'.cell? ⟨w.heap.size, 3, none⟩ = some (.slice vp vl vc)) (first | go_keep | exact ⟨by assumption, by assumption, by assumption, by assumption⟩ | (go_show; fail)) (first
    | (go_at_call 48; (with_reducible refine HC.out.mono ?_); rintro e w2 ⟨p2, cap2, rfl, h21, h22, hb2⟩; have HG2 := Lib.hid (heap_old HG0.out hb2); obtain ⟨hx0, hx1, hx2, hx3, hxf⟩ := box4_in w2 w.heap.size _ _ _ _ _ HG2.out; clear hxf; have H22 := Lib.hid h22; have HB2 := Lib.hid (HBW.out.trans (hb2.mono HBW.out.size)); clear h22 hb2)
    | (go_at_call 45; (with_reducible refine (HK.out _ _ _ H22.out h21 HB2.out).mono ?_); rintro e w3 ⟨⟨p3, cap3, rfl, h3⟩, hb3⟩; obtain ⟨hy0, hy1, hy2, hy3, hyf⟩ := box4_in w3 w.heap.size _ _ _ _ _ (heap_old HG2.out hb3); clear hyf hb3; have H3 := Lib.hid h3; clear h3))
  go_wp2
  go_ret2
  exact ⟨p3, cap3, rfl, H3.out⟩

end Go.Proofs.Ytjipchloebbldaa
