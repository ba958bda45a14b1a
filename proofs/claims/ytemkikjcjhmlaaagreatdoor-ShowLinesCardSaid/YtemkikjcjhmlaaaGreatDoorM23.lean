/- The writer of package show: whole, cases. Printed by gen_whole3.py. -/
import Derived.Test.YtemkikjcjhmlaaaGreatDoorM14
namespace Go.Proofs.YtemkikjcjhmlaaaGreatDoor.Sh
open Go.RowKit
set_option maxRecDepth 100000

set_option maxHeartbeats 4000000 in
theorem braces_any (ad : Nat → Addr) (eD eM eR eS : Value) (l : List Nd) (hw : ∀ t ∈ l, WOk ad eD eM eR eS t) (B b : Nat) (kk : Int) (X : List UInt8) (w : World) (lo hi : Nat) (p : Option Addr) (cap : Nat) (hall : NAll w lo hi l p) (hlc : l.length ≤ 1000000) (hlo : lo ≤ B) (hhi : hi ≤ B) (hBw : B ≤ w.heap.size) (h : Wr B b kk X w) (hc : Ctx ad eD eM eR eS B w)
    (hlen : X.length + 1 + (joinS [44, 32] (wAll l)).length + 1 ≤ 70368744177664) :
    Calls Tryz.prog 65 #[.pointer (some ⟨b, 0, none⟩), .slice p l.length cap] w (WPost B b kk (X ++ ([123] ++ joinS [44, 32] (wAll l) ++ [125])) w) := by
  have HALL := Lib.hid (fun W (hb : Below B w W) => hall.below hb hhi)
  have HC := Lib.hid hc
  have HWR := Lib.hid hw
  have HP1 := Lib.hid (put1_any B b kk X ⟨#[123]⟩ w h (by show X.length + 1 ≤ _; omega) hBw)
  have HEX := Lib.hid (show X ++ ([123] ++ joinS [44, 32] (wAll l) ++ [125]) = ((X ++ (⟨#[123]⟩ : ByteArray).data.toList) ++ joinS (⟨#[44, 32]⟩ : ByteArray).data.toList (wAll l)) ++ (⟨#[125]⟩ : ByteArray).data.toList from by simp)
  clear hw hall h hc
  go_enter Tryz.func65, Tryz.ntmps65
  go_wp2_with (first
    | (go_at_call 37; (with_reducible refine HP1.out.mono ?_); rintro e w5 ⟨rfl, h5, hb5, hk5⟩; have HB5 := Lib.hid hb5; have HK5 := Lib.hid hk5; have hs5 := Nat.le_trans hBw hb5.size; have HP5 := Lib.hid (shList_any ad eD eM eR eS l HWR.out ⟨#[44, 32]⟩ B b kk _ w5 lo hi p cap (HALL.out _ HB5.out) hlc hlo hhi hs5 h5 (HC.out.on HB5.out) (by rw [List.length_append]; show X.length + 1 + (joinS [44, 32] (wAll l)).length ≤ _; omega)); clear h5 hb5 hk5)
    | (go_at_call 39; (with_reducible refine HP5.out.mono ?_); rintro e w6 ⟨rfl, h6, hb6, hk6⟩; have HB6 := Lib.hid (HB5.out.trans hb6); have HK6 := Lib.hid (HK5.out.trans hk6); have hs6 := Nat.le_trans hs5 hb6.size; have HP6 := Lib.hid (put1_any B b kk _ ⟨#[125]⟩ w6 h6 (by rw [List.length_append, List.length_append]; show X.length + 1 + (joinS [44, 32] (wAll l)).length + 1 ≤ _; omega) hs6); clear h6 hb6 hk6)
    | (go_at_call 37; (with_reducible refine HP6.out.mono ?_); rintro e w7 ⟨rfl, h7, hb7, hk7⟩; have H7 := Lib.hid h7; have HB7 := Lib.hid (HB6.out.trans hb7); have HK7 := Lib.hid (HK6.out.trans hk7); clear h7 hb7 hk7))
  go_end0
  exact ⟨rfl, by have h7 := H7.out; rw [← HEX.out] at h7; exact h7, HB7.out, HK7.out⟩
set_option maxHeartbeats 4000000 in
theorem whole_make (ad : Nat → Addr) (eD eM eR eS : Value) (n : Int) (s : ByteArray) (v : T) (l : List Nd) (hw : ∀ t ∈ l, WOk ad eD eM eR eS t) (hll : l.length ≤ 1000000) : WOk ad eD eM eR eS (.mk 25 n s v l) := by
  intro B b kk X w lo hi x hr hlo hhi hBw h hc hlen
  obtain ⟨k, m, z, q, ql, qc, r, c, rfl, _, _, hsz, hv, hlc, hl112, hall⟩ := hr.open
  obtain ⟨W1, hW1⟩ : ∃ W1, W1 = w.alloc (.cells #[.int .i64 25, .int .i64 n, .string s, .int .i64 k, .int .i64 m, .string z, .slice q ql qc, .slice r l.length c] 33) := ⟨_, rfl⟩
  have hb0 : Below w.heap.size w W1 := hW1 ▸ (Below.refl w.heap.size w).alloc (Nat.le_refl _) _
  have HX : Hid (W1.heap[w.heap.size]? = some (.cells #[.int .i64 25, .int .i64 n, .string s, .int .i64 k, .int .i64 m, .string z, .slice q ql qc, .slice r l.length c] 33 (0, 0))) := hW1 ▸ heap_alloc_new w _
  have HW := Lib.hid (h.below hb0)
  have hB1 : B ≤ W1.heap.size := Nat.le_trans hBw hb0.size
  have HB := Lib.hid (hb0.mono hBw)
  have HK : Hid (Kp b w W1) := Kp.of_below hb0
  have HV := Lib.hid (fun W (hb : Below B w W) => hv.below hb hhi)
  have HALL := Lib.hid (fun W (hb : Below B w W) => hall.below hb hhi)
  have HC := Lib.hid hc
  obtain ⟨g, hg⟩ : ∃ g, g = w.heap.size := ⟨_, rfl⟩
  have hgb : g ≠ b := by have := h.lt; omega
  rw [← hg] at HX
  have hgl : g < W1.heap.size := ltW HX.out
  clear hr hc h hb0 hv hall
  obtain ⟨x0, x1, x2, x3, x4, x5, x6, x7, _⟩ := box8s _ g _ _ _ _ _ _ _ _ _ HX.out
  have HE := Lib.hid (show wT (.mk 25 n s v l) = [123] ++ joinS [44, 32] (wAll l) ++ [125] from by rw [wT]; rfl)
  rw [HE.out] at hlen
  simp only [List.length_append, List.length_singleton] at hlen
  have HP := Lib.hid (braces_any ad eD eM eR eS l hw B b kk X W1 lo hi r c (HALL.out _ HB.out) hll hlo hhi hB1 HW.out (HC.out.on HB.out) (by omega))
  clear hw
  go_enter Tryz.func36, Tryz.ntmps36
  go_upto_region 1 with fail
  rw [← hW1, ← hg]
  clear hW1 hg
  go_wp2_with (go_at_call 65; refine HP.out.mono ?_; rintro e w3 ⟨rfl, h3, hb3, hk3⟩; have H3 := Lib.hid h3; have HB3 := Lib.hid (HB.out.trans hb3); have HK3 := Lib.hid (HK.out.trans hk3); clear h3 hb3 hk3)
  go_end0
  exact ⟨rfl, by rw [HE.out]; exact H3.out, HB3.out, HK3.out⟩
set_option maxHeartbeats 4000000 in
theorem whole_fun (ad : Nat → Addr) (eD eM eR eS : Value) (n : Int) (s : ByteArray) (v : T) (l : List Nd) (hw : ∀ t ∈ l, WOk ad eD eM eR eS t) (hll : l.length ≤ 1000000) : WOk ad eD eM eR eS (.mk 24 n s v l) := by
  intro B b kk X w lo hi x hr hlo hhi hBw h hc hlen
  obtain ⟨k, m, z, q, ql, qc, r, c, rfl, _, _, hsz, hv, hlc, hl112, hall⟩ := hr.open
  obtain ⟨W1, hW1⟩ : ∃ W1, W1 = w.alloc (.cells #[.int .i64 24, .int .i64 n, .string s, .int .i64 k, .int .i64 m, .string z, .slice q ql qc, .slice r l.length c] 33) := ⟨_, rfl⟩
  have hb0 : Below w.heap.size w W1 := hW1 ▸ (Below.refl w.heap.size w).alloc (Nat.le_refl _) _
  have HX : Hid (W1.heap[w.heap.size]? = some (.cells #[.int .i64 24, .int .i64 n, .string s, .int .i64 k, .int .i64 m, .string z, .slice q ql qc, .slice r l.length c] 33 (0, 0))) := hW1 ▸ heap_alloc_new w _
  have HW := Lib.hid (h.below hb0)
  have hB1 : B ≤ W1.heap.size := Nat.le_trans hBw hb0.size
  have HB := Lib.hid (hb0.mono hBw)
  have HK : Hid (Kp b w W1) := Kp.of_below hb0
  have HV := Lib.hid (fun W (hb : Below B w W) => hv.below hb hhi)
  have HALL := Lib.hid (fun W (hb : Below B w W) => hall.below hb hhi)
  have HC := Lib.hid hc
  obtain ⟨g, hg⟩ : ∃ g, g = w.heap.size := ⟨_, rfl⟩
  have hgb : g ≠ b := by have := h.lt; omega
  rw [← hg] at HX
  have hgl : g < W1.heap.size := ltW HX.out
  clear hr hc h hb0 hv hall
  obtain ⟨x0, x1, x2, x3, x4, x5, x6, x7, _⟩ := box8s _ g _ _ _ _ _ _ _ _ _ HX.out
  have HE := Lib.hid (show wT (.mk 24 n s v l) = s.data.toList ++ [40] ++ joinS [44, 32] (wAll l) ++ [41] from by rw [wT]; rfl)
  have hds : s.data.toList.length = s.size := Array.length_toList ..
  rw [HE.out] at hlen
  simp only [List.length_append, List.length_singleton, hds] at hlen
  have HEX := Lib.hid (show X ++ wT (.mk 24 n s v l) = ((X ++ (s.data.toList ++ (⟨#[40]⟩ : ByteArray).data.toList)) ++ joinS (⟨#[44, 32]⟩ : ByteArray).data.toList (wAll l)) ++ (⟨#[41]⟩ : ByteArray).data.toList from by rw [HE.out]; simp)
  have HWR := Lib.hid hw
  have HP4 := Lib.hid (put2_any B b kk X s ⟨#[40]⟩ W1 HW.out (by show X.length + s.size + 1 ≤ _; omega) hB1)
  clear hw
  go_enter Tryz.func36, Tryz.ntmps36
  go_upto_region 1 with fail
  rw [← hW1, ← hg]
  clear hW1 hg
  go_wp2_with (first
    | (go_at_call 37; (with_reducible refine HP4.out.mono ?_); rintro e w5 ⟨rfl, h5, hb5, hk5⟩; have HB5 := Lib.hid (HB.out.trans hb5); have HK5 := Lib.hid (HK.out.trans hk5); have hs5 := Nat.le_trans hB1 hb5.size; have HP5 := Lib.hid (shList_any ad eD eM eR eS l HWR.out ⟨#[44, 32]⟩ B b kk _ w5 lo hi r c (HALL.out _ HB5.out) hll hlo hhi hs5 h5 (HC.out.on HB5.out) (by simp only [List.length_append, hds]; show X.length + (s.size + 1) + (joinS [44, 32] (wAll l)).length ≤ _; omega)); clear h5 hb5 hk5)
    | (go_at_call 39; (with_reducible refine HP5.out.mono ?_); rintro e w6 ⟨rfl, h6, hb6, hk6⟩; have HB6 := Lib.hid (HB5.out.trans hb6); have HK6 := Lib.hid (HK5.out.trans hk6); have hs6 := Nat.le_trans hs5 hb6.size; have HP6 := Lib.hid (put1_any B b kk _ ⟨#[41]⟩ w6 h6 (by simp only [List.length_append, hds]; show X.length + (s.size + 1) + (joinS [44, 32] (wAll l)).length + 1 ≤ _; omega) hs6); clear h6 hb6 hk6)
    | (go_at_call 37; (with_reducible refine HP6.out.mono ?_); rintro e w7 ⟨rfl, h7, hb7, hk7⟩; have H7 := Lib.hid h7; have HB7 := Lib.hid (HB6.out.trans hb7); have HK7 := Lib.hid (HK6.out.trans hk7); clear h7 hb7 hk7))
  go_end0
  exact ⟨rfl, by rw [HEX.out]; exact H7.out, HB7.out, HK7.out⟩
end Go.Proofs.YtemkikjcjhmlaaaGreatDoor.Sh
