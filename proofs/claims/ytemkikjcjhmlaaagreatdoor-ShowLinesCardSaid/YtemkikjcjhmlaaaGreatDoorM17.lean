/- The writer of package show: whole, a case each. Printed by gen_whole.py. -/
import Derived.Test.YtemkikjcjhmlaaaGreatDoorM14
namespace Go.Proofs.YtemkikjcjhmlaaaGreatDoor.Sh
open Go.RowKit
set_option maxRecDepth 100000

set_option maxHeartbeats 4000000 in
theorem whole_lit (ad : Nat → Addr) (eD eM eR eS : Value) (hP : Ptrs eD eM eR eS) (n : Int) (s : ByteArray) (v : T) (l : List Nd) (h0 : (odd v 1 0).1 = 0) : WOk ad eD eM eR eS (.mk 1 n s v l) := by
  intro B b kk X w lo hi x hr hlo hhi hBw h hc hlen
  obtain ⟨k, m, z, q, ql, qc, r, c, rfl, _, _, hsz, hv, hlc, hl112, hall⟩ := hr.open
  obtain ⟨W1, hW1⟩ : ∃ W1, W1 = w.alloc (.cells #[.int .i64 1, .int .i64 n, .string s, .int .i64 k, .int .i64 m, .string z, .slice q ql qc, .slice r l.length c] 33) := ⟨_, rfl⟩
  have hb0 : Below w.heap.size w W1 := hW1 ▸ (Below.refl w.heap.size w).alloc (Nat.le_refl _) _
  have HX : Hid (W1.heap[w.heap.size]? = some (.cells #[.int .i64 1, .int .i64 n, .string s, .int .i64 k, .int .i64 m, .string z, .slice q ql qc, .slice r l.length c] 33 (0, 0))) := hW1 ▸ heap_alloc_new w _
  have HW := Lib.hid (h.below hb0)
  have hB1 : B ≤ W1.heap.size := Nat.le_trans hBw hb0.size
  have HB := Lib.hid (hb0.mono hBw)
  have HK : Hid (Kp b w W1) := Kp.of_below hb0
  have HV := Lib.hid (fun W (hb : Below B w W) => hv.below hb hhi)
  have HALL := Lib.hid (fun W (hb : Below B w W) => hall.below hb hhi)
  have HC := Lib.hid hc
  obtain ⟨g, hg⟩ : ∃ g, g = w.heap.size := ⟨_, rfl⟩
  have hgb : g ≠ b := by have := h.lt; omega
  rw [← hg] at HX
  have hgl : g < W1.heap.size := ltW HX.out
  clear hr hc h hb0 hv hall
  obtain ⟨x0, x1, x2, x3, x4, x5, x6, x7, _⟩ := box8s _ g _ _ _ _ _ _ _ _ _ HX.out
  have HE := Lib.hid (show wT (.mk 1 n s v l) = tx v from by rw [wT]; rfl)
  rw [HE.out] at hlen
  have HT := Lib.hid (textS_any eD eM eR eS hP v W1 lo hi _ (HV.out _ HB.out) (by omega) (HC.out.e _ HB.out) h0)
  go_enter Tryz.func36, Tryz.ntmps36
  go_upto_region 1 with fail
  rw [← hW1, ← hg]
  clear hW1 hg
  go_wp2_with (first
    | (go_at_call 58; refine HT.out.mono ?_; rintro e w2 ⟨rfl, hb2⟩; have HB2 := Lib.hid (HB.out.trans (hb2.mono hB1)); have HK2 := Lib.hid (HK.out.trans (Kp.of_below hb2)); have HP := Lib.hid (put1_any B b kk X ⟨(tx v).toArray⟩ w2 (HW.out.below hb2) (by show X.length + (tx v).toArray.size ≤ _; rw [List.size_toArray]; exact hlen) (Nat.le_trans hB1 hb2.size)); clear hb2)
    | (go_at_call 37; refine HP.out.mono ?_; rintro e w3 ⟨rfl, h3, hb3, hk3⟩; have H3 := Lib.hid h3; have HB3 := Lib.hid (HB2.out.trans hb3); have HK3 := Lib.hid (HK2.out.trans hk3); clear h3 hb3 hk3))
  go_end0
  exact ⟨rfl, by rw [HE.out]; exact H3.out, HB3.out, HK3.out⟩
set_option maxHeartbeats 4000000 in
theorem whole_var (ad : Nat → Addr) (eD eM eR eS : Value) (n : Int) (s : ByteArray) (v : T) (l : List Nd) : WOk ad eD eM eR eS (.mk 2 n s v l) := by
  intro B b kk X w lo hi x hr hlo hhi hBw h hc hlen
  obtain ⟨k, m, z, q, ql, qc, r, c, rfl, _, _, hsz, hv, hlc, hl112, hall⟩ := hr.open
  obtain ⟨W1, hW1⟩ : ∃ W1, W1 = w.alloc (.cells #[.int .i64 2, .int .i64 n, .string s, .int .i64 k, .int .i64 m, .string z, .slice q ql qc, .slice r l.length c] 33) := ⟨_, rfl⟩
  have hb0 : Below w.heap.size w W1 := hW1 ▸ (Below.refl w.heap.size w).alloc (Nat.le_refl _) _
  have HX : Hid (W1.heap[w.heap.size]? = some (.cells #[.int .i64 2, .int .i64 n, .string s, .int .i64 k, .int .i64 m, .string z, .slice q ql qc, .slice r l.length c] 33 (0, 0))) := hW1 ▸ heap_alloc_new w _
  have HW := Lib.hid (h.below hb0)
  have hB1 : B ≤ W1.heap.size := Nat.le_trans hBw hb0.size
  have HB := Lib.hid (hb0.mono hBw)
  have HK : Hid (Kp b w W1) := Kp.of_below hb0
  have HV := Lib.hid (fun W (hb : Below B w W) => hv.below hb hhi)
  have HALL := Lib.hid (fun W (hb : Below B w W) => hall.below hb hhi)
  have HC := Lib.hid hc
  obtain ⟨g, hg⟩ : ∃ g, g = w.heap.size := ⟨_, rfl⟩
  have hgb : g ≠ b := by have := h.lt; omega
  rw [← hg] at HX
  have hgl : g < W1.heap.size := ltW HX.out
  clear hr hc h hb0 hv hall
  obtain ⟨x0, x1, x2, x3, x4, x5, x6, x7, _⟩ := box8s _ g _ _ _ _ _ _ _ _ _ HX.out
  have HE := Lib.hid (show wT (.mk 2 n s v l) = s.data.toList from by rw [wT]; rfl)
  rw [HE.out, Array.length_toList] at hlen
  have HP := Lib.hid (put1_any B b kk X s W1 HW.out hlen hB1)
  go_enter Tryz.func36, Tryz.ntmps36
  go_upto_region 1 with fail
  rw [← hW1, ← hg]
  clear hW1 hg
  go_wp2_with (go_at_call 37; refine HP.out.mono ?_; rintro e w3 ⟨rfl, h3, hb3, hk3⟩; have H3 := Lib.hid h3; have HB3 := Lib.hid (HB.out.trans hb3); have HK3 := Lib.hid (HK.out.trans hk3); clear h3 hb3 hk3)
  go_end0
  exact ⟨rfl, by rw [HE.out]; exact H3.out, HB3.out, HK3.out⟩
set_option maxHeartbeats 4000000 in
theorem whole_set (ad : Nat → Addr) (eD eM eR eS : Value) (n : Int) (s : ByteArray) (v : T) (l : List Nd) (hw : ∀ t ∈ l, WOk ad eD eM eR eS t) (hll : l.length ≤ 1000000) : WOk ad eD eM eR eS (.mk 27 n s v l) := by
  intro B b kk X w lo hi x hr hlo hhi hBw h hc hlen
  obtain ⟨k, m, z, q, ql, qc, r, c, rfl, _, _, hsz, hv, hlc, hl112, hall⟩ := hr.open
  obtain ⟨W1, hW1⟩ : ∃ W1, W1 = w.alloc (.cells #[.int .i64 27, .int .i64 n, .string s, .int .i64 k, .int .i64 m, .string z, .slice q ql qc, .slice r l.length c] 33) := ⟨_, rfl⟩
  have hb0 : Below w.heap.size w W1 := hW1 ▸ (Below.refl w.heap.size w).alloc (Nat.le_refl _) _
  have HX : Hid (W1.heap[w.heap.size]? = some (.cells #[.int .i64 27, .int .i64 n, .string s, .int .i64 k, .int .i64 m, .string z, .slice q ql qc, .slice r l.length c] 33 (0, 0))) := hW1 ▸ heap_alloc_new w _
  have HW := Lib.hid (h.below hb0)
  have hB1 : B ≤ W1.heap.size := Nat.le_trans hBw hb0.size
  have HB := Lib.hid (hb0.mono hBw)
  have HK : Hid (Kp b w W1) := Kp.of_below hb0
  have HV := Lib.hid (fun W (hb : Below B w W) => hv.below hb hhi)
  have HALL := Lib.hid (fun W (hb : Below B w W) => hall.below hb hhi)
  have HC := Lib.hid hc
  obtain ⟨g, hg⟩ : ∃ g, g = w.heap.size := ⟨_, rfl⟩
  have hgb : g ≠ b := by have := h.lt; omega
  rw [← hg] at HX
  have hgl : g < W1.heap.size := ltW HX.out
  clear hr hc h hb0 hv hall
  obtain ⟨x0, x1, x2, x3, x4, x5, x6, x7, _⟩ := box8s _ g _ _ _ _ _ _ _ _ _ HX.out
  have HE := Lib.hid (show wT (.mk 27 n s v l) = joinS (⟨#[32, 61, 32]⟩ : ByteArray).data.toList (wAll l) from by rw [wT]; rfl)
  rw [HE.out] at hlen
  have HP := Lib.hid (shList_any ad eD eM eR eS l hw ⟨#[32, 61, 32]⟩ B b kk X W1 lo hi r c (HALL.out _ HB.out) hll hlo hhi hB1 HW.out (HC.out.on HB.out) hlen)
  clear hw
  go_enter Tryz.func36, Tryz.ntmps36
  go_upto_region 1 with fail
  rw [← hW1, ← hg]
  clear hW1 hg
  go_wp2_with (go_at_call 39; refine HP.out.mono ?_; rintro e w3 ⟨rfl, h3, hb3, hk3⟩; have H3 := Lib.hid h3; have HB3 := Lib.hid (HB.out.trans hb3); have HK3 := Lib.hid (HK.out.trans hk3); clear h3 hb3 hk3)
  go_end0
  exact ⟨rfl, by rw [HE.out]; exact H3.out, HB3.out, HK3.out⟩
end Go.Proofs.YtemkikjcjhmlaaaGreatDoor.Sh
