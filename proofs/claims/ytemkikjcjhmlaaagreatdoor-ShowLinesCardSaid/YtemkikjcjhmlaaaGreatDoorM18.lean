/- The writer of package show: whole, a case. Printed by gen_whole2.py. -/
import Derived.Test.YtemkikjcjhmlaaaGreatDoorM14
namespace Go.Proofs.YtemkikjcjhmlaaaGreatDoor.Sh
open Go.RowKit
set_option maxRecDepth 100000

set_option maxHeartbeats 4000000 in
theorem whole_bin5 (ad : Nat → Addr) (eD eM eR eS : Value) (n : Int) (s : ByteArray) (v : T) (t1 t2 : Nd) (hw1 : WOk ad eD eM eR eS t1) (hw2 : WOk ad eD eM eR eS t2) : WOk ad eD eM eR eS (.mk 5 n s v [t1, t2]) := by
  intro B b kk X w lo hi x hr hlo hhi hBw h hc hlen
  obtain ⟨k, m, z, q, ql, qc, r, c, rfl, _, _, hsz, hv, hlc, hl112, hall⟩ := hr.open
  obtain ⟨W1, hW1⟩ : ∃ W1, W1 = w.alloc (.cells #[.int .i64 5, .int .i64 n, .string s, .int .i64 k, .int .i64 m, .string z, .slice q ql qc, .slice r [t1, t2].length c] 33) := ⟨_, rfl⟩
  have hb0 : Below w.heap.size w W1 := hW1 ▸ (Below.refl w.heap.size w).alloc (Nat.le_refl _) _
  have HX : Hid (W1.heap[w.heap.size]? = some (.cells #[.int .i64 5, .int .i64 n, .string s, .int .i64 k, .int .i64 m, .string z, .slice q ql qc, .slice r [t1, t2].length c] 33 (0, 0))) := hW1 ▸ heap_alloc_new w _
  have HW := Lib.hid (h.below hb0)
  have hB1 : B ≤ W1.heap.size := Nat.le_trans hBw hb0.size
  have HB := Lib.hid (hb0.mono hBw)
  have HK : Hid (Kp b w W1) := Kp.of_below hb0
  have HV := Lib.hid (fun W (hb : Below B w W) => hv.below hb hhi)
  have HALL := Lib.hid (fun W (hb : Below B w W) => hall.below hb hhi)
  have HC := Lib.hid hc
  obtain ⟨g, hg⟩ : ∃ g, g = w.heap.size := ⟨_, rfl⟩
  have hgb : g ≠ b := by have := h.lt; omega
  rw [← hg] at HX
  have hgl : g < W1.heap.size := ltW HX.out
  clear hr hc h hb0 hv hall
  obtain ⟨x0, x1, x2, x3, x4, x5, x6, x7, _⟩ := box8s _ g _ _ _ _ _ _ _ _ _ HX.out
  have HE := Lib.hid (show wT (.mk 5 n s v [t1, t2]) = jn (btw [⟨#[32, 43, 32]⟩]) (psA [t1, t2]) ([t1, t2] : List Nd).length from by
    rw [wT]
    show jn (fun _ => [32] ++ [43] ++ [32]) (psA [t1, t2]) (psA [t1, t2]).length = _
    rw [psA_len]; rfl)
  rw [HE.out] at hlen
  have hw : ∀ t ∈ [t1, t2], WOk ad eD eM eR eS t := by
    intro t ht
    simp only [List.mem_cons, List.not_mem_nil, or_false] at ht
    rcases ht with rfl | rfl
    · exact hw1
    · exact hw2
  have hsg : W1.cell? ⟨4, 5, none⟩ = some (.string ⟨#[43]⟩) := HC.out.g _ HB.out 5 (by omega) (by omega)
  have hbg : Below W1.heap.size W1 (W1.alloc (.cells #[.string ⟨#[32, 43, 32]⟩] 9)) := (Below.refl _ W1).alloc (Nat.le_refl _) _
  have hbd : Below W1.heap.size W1 (W1.alloc (.cells #[.string ⟨#[32, 43, 32]⟩] 9)).drew := hbg.drew
  have HPN := Lib.hid (fun (W : World) (hb : Below W1.heap.size W1 W) (hx : W.heap[W1.heap.size]? = some (.cells #[.string ⟨#[32, 43, 32]⟩] 9 (0, 0))) => (shParts_any ad eD eM eR eS [t1, t2] hw [⟨#[32, 43, 32]⟩] W1.heap.size 1 B b kk X W lo hi r c (HALL.out _ (HB.out.trans (hb.mono hB1))) (by simp) (by simp) hlo hhi (Nat.le_trans hB1 hb.size) (HW.out.below hb) (HC.out.on (HB.out.trans (hb.mono hB1))) hx (by have := HW.out.lt; omega) hlen).mono (fun e w' h => (show e = .returned (.tuple #[]) ∧ Wr B b kk (X ++ jn (btw [⟨#[32, 43, 32]⟩]) (psA [t1, t2]) ([t1, t2] : List Nd).length) w' ∧ Below B W1 w' ∧ Kp b W1 w' from ⟨h.1, h.2.1, (hb.mono hB1).trans h.2.2.1, (Kp.of_below hb).trans h.2.2.2⟩)))
  have HP1 := Lib.hid (HPN.out _ hbg (heap_alloc_new W1 _))
  have HP2 := Lib.hid (HPN.out _ hbd (heap_alloc_new W1 _))
  have hmx : Tryz.prog.follows .mixedOrders = true := by kernel_rfl
  clear hw hw1 hw2 hbg hbd
  simp only [List.length_cons, List.length_nil, Nat.zero_add, Nat.reduceAdd] at x7 HX hW1 HP1 HP2 HE
  go_enter Tryz.func36, Tryz.ntmps36
  go_upto_region 1 with fail
  try simp only [List.length_cons, List.length_nil, Nat.zero_add, Nat.reduceAdd]
  rw [← hW1, ← hg]
  clear hW1 hg
  go_upto_region 48 with fail
  go_region_with_o (go_at_call 63; refine HP2.out.mono ?_; rintro e w3 ⟨rfl, h3, hb3, hk3⟩; have H3 := Lib.hid h3; have HB3 := Lib.hid (HB.out.trans hb3); have HK3 := Lib.hid (HK.out.trans hk3); clear h3 hb3 hk3)
  all_goals go_wp2
  all_goals go_end0
  all_goals exact ⟨rfl, by rw [HE.out]; exact H3.out, HB3.out, HK3.out⟩
end Go.Proofs.YtemkikjcjhmlaaaGreatDoor.Sh
