/- The walk of the statement on loops. -/
import Derived.Test.YtlinclbodbbemaaDoorLawTreeLoops
namespace Go.Proofs.YtlinclbodbbemaaDoor
open Go.RowKit
set_option maxRecDepth 100000

set_option maxHeartbeats 4000000 in
theorem loops_false (ad : Nat → Addr) (zs : List Int) (p : Option Addr) (cap : Nat) (w : World) (hz : IntsAt w p zs) (hl : zs.length ≤ 15) (hS : Sents w ad) :
    Calls Tryd.prog 9 #[.slice p zs.length cap, .bool false] w fun e w' => e = .returned (.bool true) ∧ Below w.heap.size w w' := by
  have HS := Lib.hid (fun W (hb : Below w.heap.size w W) => hS.below hb)
  have HF1 := Lib.hid (first7_any ad w hS)
  have HZ := Lib.hid hz
  clear hS hz
  have HLS := Lib.hid (LSt.start 45 (by simp))
  go_enter Tryd.func9, Tryd.ntmps9
  go_wp2_with (go_at_call 15; refine HF1.out.mono ?_; rintro e w1 ⟨rfl, hb1⟩; have HB1 := Lib.hid hb1; clear hb1)
  have HN0 := Lib.hid (loops_start w w1 HB1.out 45 (by unfold I64; omega))
  have hg1 := HB1.out.size
  clear HB1 HF1
  generalize (w1.alloc (.cells #[.int .i64 45, .int .i64 0, .string ⟨#[]⟩, .int .i64 0, .int .i64 0, .string ⟨#[]⟩, .slice none 0 0, .slice none 0 0] 39)).alloc (.cells #[.int .i64 1, .int .i64 0, .string ⟨#[]⟩, .int .i64 0, .int .i64 1, .string ⟨#[]⟩, .slice none 0 0, .slice none 0 0] 39) = W0 at *
  generalize w1.heap.size = g at *
  have HNb := HN0.out.2
  have HNa := Lib.hid HN0.out.1
  clear HN0
  generalize hg7 : g + 1 = g7 at *
  try rw [hg7] at HNb
  have HOb := Lib.hid HNb
  have HG7 := Lib.hid (show g7 ≠ g ∧ g7 = g.succ from ⟨by omega, hg7.symm⟩)
  clear hg7 HNb
  go_loopw [8, 9, 10] (fun f d i wr => ∃ (j : Nat) (fine done : Bool) (x : Nd) (o : Int) (q : Option Addr) (len cp : Nat), f = .bool fine ∧ d = .bool done ∧ i = .int .i64 j ∧ j ≤ zs.length ∧ Hid (NBx w wr g x o q len cp) ∧ Hid (wr.heap[g7]? = some (.cells #[.int .i64 1, .int .i64 0, .string ⟨#[]⟩, .int .i64 0, .int .i64 1, .string ⟨#[]⟩, .slice none 0 0, .slice none 0 0] 39 (0, 0))) ∧ Hid (LSt x fine done) ∧ Hid (cnt x ≤ 1 + 6 * j ∧ dpN x ≤ 1 + 2 * j)) (fun _ _ i _ => zs.length - (intOf i).toNat)
  case atStart => exact ⟨0, false, false, _, _, none, 0, 0, rfl, rfl, rfl, Nat.zero_le _, HNa, HOb, HLS, Lib.hid ⟨by simp [cnt, cntAll], by simp [dpN, dpNAll]⟩⟩
  case round =>
    obtain ⟨j, fine, done, x, o, q, len, cp, rfl, rfl, rfl, hj, HN, HO, HL, HC⟩ := hrel
    obtain ⟨x0, x1, x2, x3, x4, x5, x6, x7, xf⟩ := box8_in _ _ _ _ _ _ _ _ _ _ _ HN.out.box
    obtain ⟨y0, y1, y2, y3, y4, y5, y6, y7, _⟩ := box8_in _ _ _ _ _ _ _ _ _ _ _ HO.out
    have hgw := heap_lt HN.out.box
    have hgw7 := heap_lt HO.out
    have hgwa : g < wr.heap.size + 1 := by omega
    have hgwb : g < wr.heap.size + 1 + 1 := by omega
    have hgwc : g < wr.heap.size + 1 + 1 + 1 := by omega
    have hgwd : g < wr.heap.size + 2 := by omega
    have hgwe : g < wr.heap.size + 3 := by omega
    by_cases hjl : j < zs.length
    · have xf0 := xf 0
      have xf1 := xf 1
      have xf2 := xf 2
      have xf3 := xf 3
      have xf4 := xf 4
      have xf5 := xf 5
      have xf6 := xf 6
      have xf7 := xf 7
      clear xf
      obtain ⟨b, off, hp, hbw, hzc⟩ := HZ.out.at_.resolve_left (fun h => by rw [h] at hjl; simp at hjl)
      have hzj := (HN.out.bel.cell (p := ⟨b, off + j, none⟩) hbw).trans (hzc j hjl)
      have hzI := HZ.out.wf zs[j] (List.getElem_mem hjl)
      have hbwr : b < wr.heap.size := Nat.lt_of_lt_of_le hbw HN.out.bel.size
      subst hp
      have HNM := Lib.hid (fun w => number6_any zs[j] 5 w hzI (by omega) (by omega))
      obtain ⟨k, hk⟩ : ∃ k : Nat, zs[j] % 5 = (k : Int) := ⟨(zs[j] % 5).toNat, by omega⟩
      have hk5 : k < 5 := by omega
      rw [hk] at HNM
      clear hk hzc hbw hzI
      have hks : k = 0 ∨ k = 1 ∨ k = 2 ∨ k = 3 ∨ k = 4 := by omega
      have HLN := Lib.hid (HL.out.next k)
      have HCN := Lib.hid (show cnt (wrapN k x) ≤ 1 + 6 * (j + 1) ∧ dpN (wrapN k x) ≤ 1 + 2 * (j + 1) from ⟨by have := wrapN_cnt k x; have := HC.out.1; omega, by have := wrapN_dp k x; have := HC.out.2; omega⟩)
      clear hk5
      rcases hks with rfl | rfl | rfl | rfl | rfl
      · cases fine
        · cases done
          · go_wp2_with (go_at_call 12; refine (HNM.out _).mono ?_; rintro e w2 ⟨rfl, rfl⟩)
            go_roundw
            case rel => exact ⟨j + 1, true, true, _, _, _, _, _, rfl, rfl, by go_num, by omega, Lib.hid (wrap_0 HN.out HO.out hg1 HG7.out).1, Lib.hid (wrap_0 HN.out HO.out hg1 HG7.out).2, HLN, HCN⟩
            case measure => simp [intOf]; omega
          · go_wp2_with (go_at_call 12; refine (HNM.out _).mono ?_; rintro e w2 ⟨rfl, rfl⟩)
            go_roundw
            case rel => exact ⟨j + 1, false, true, _, _, _, _, _, rfl, rfl, by go_num, by omega, Lib.hid (wrap_0 HN.out HO.out hg1 HG7.out).1, Lib.hid (wrap_0 HN.out HO.out hg1 HG7.out).2, HLN, HCN⟩
            case measure => simp [intOf]; omega
        · go_wp2_with (go_at_call 12; refine (HNM.out _).mono ?_; rintro e w2 ⟨rfl, rfl⟩)
          go_roundw
          case rel => exact ⟨j + 1, true, true, _, _, _, _, _, rfl, rfl, by go_num, by omega, Lib.hid (wrap_0 HN.out HO.out hg1 HG7.out).1, Lib.hid (wrap_0 HN.out HO.out hg1 HG7.out).2, HLN, HCN⟩
          case measure => simp [intOf]; omega
      · go_wp2_with (go_at_call 12; refine (HNM.out _).mono ?_; rintro e w2 ⟨rfl, rfl⟩)
        go_roundw
        case rel => exact ⟨j + 1, fine, true, _, _, _, _, _, rfl, rfl, by go_num, by omega, Lib.hid (wrap_1 HN.out HO.out hg1 HG7.out).1, Lib.hid (wrap_1 HN.out HO.out hg1 HG7.out).2, HLN, HCN⟩
        case measure => simp [intOf]; omega
      · go_wp2_with (go_at_call 12; refine (HNM.out _).mono ?_; rintro e w2 ⟨rfl, rfl⟩)
        go_roundw
        case rel => exact ⟨j + 1, fine, done, _, _, _, _, _, rfl, rfl, by go_num, by omega, Lib.hid (wrap_2 HN.out HO.out hg1 HG7.out).1, Lib.hid (wrap_2 HN.out HO.out hg1 HG7.out).2, HLN, HCN⟩
        case measure => simp [intOf]; omega
      · go_wp2_with (go_at_call 12; refine (HNM.out _).mono ?_; rintro e w2 ⟨rfl, rfl⟩)
        go_roundw
        case rel => exact ⟨j + 1, fine, done, _, _, _, _, _, rfl, rfl, by go_num, by omega, Lib.hid (wrap_3 HN.out HO.out hg1 HG7.out).1, Lib.hid (wrap_3 HN.out HO.out hg1 HG7.out).2, HLN, HCN⟩
        case measure => simp [intOf]; omega
      · go_wp2_with (go_at_call 12; refine (HNM.out _).mono ?_; rintro e w2 ⟨rfl, rfl⟩)
        go_roundw
        case rel => exact ⟨j + 1, fine, done, _, _, _, _, _, rfl, rfl, by go_num, by omega, Lib.hid (wrap_4 HN.out HO.out hg1 HG7.out).1, Lib.hid (wrap_4 HN.out HO.out hg1 HG7.out).2, HLN, HCN⟩
        case measure => simp [intOf]; omega
    · have hje : j = zs.length := by omega
      have hcx := HC.out.1
      have hdx := HC.out.2
      have HV := Lib.hid (HL.out.vld (by omega) (by omega))
      have hnew := heap_alloc_new wr (.cells #[.int .i64 o, .int .i64 0, .string ⟨#[]⟩, .int .i64 0, .int .i64 0, .string ⟨#[]⟩, .slice none 0 0, .slice q len cp] 39)
      have HB2 := Lib.hid (HN.out.bel.alloc HN.out.bel.size (.cells #[.int .i64 o, .int .i64 0, .string ⟨#[]⟩, .int .i64 0, .int .i64 0, .string ⟨#[]⟩, .slice none 0 0, .slice q len cp] 39))
      have HC2 := Lib.hid (tvalid_any ad [x] _ (g + 1) (wr.heap.size + 1) (some ⟨wr.heap.size, 0, none⟩) 1 (one_row' (HN.out.rep.alloc (Nat.le_refl _) _) wr.heap.size _ (Nat.le_refl _) (by omega) hnew) (by simp) (by simp) (by simp) (HS.out _ HB2.out))
      rw [HV.out] at HC2
      clear xf hnew hcx hdx HLS
      cases fine
      · have P1 := Lib.hid (fun (W : World) => placed_any 103 0 (by omega) W)
        have SS := Lib.hid (fun (W : World) (b : Nat) (h1 : Sents W ad) (h2 : W.heap[b]? = some (.cells #[.int .i64 0, ev (ad 2)] 73 (0, 0))) => (show Calls Tryd.prog 18 #[.iface 71 (.pointer (some ⟨b, 0, none⟩)), .agg #[.int .i64 103, .bool true, .int .i64 0, .int .i64 0, .int .i64 0, .string ByteArray.empty, .slice none 0 0]] W (fun e w' => e = .returned (.bool true) ∧ Below W.heap.size W w') from seeSame_at ad 2 (by omega) b 0 W h1 h2))
        unfold fp at P1
        go_wp2_with (first
          | (go_at_call 19; refine HC2.out.mono ?_; rintro e w3 ⟨hb3, bk, rfl, _, hx3⟩; have HB3 := Lib.hid (HB2.out.trans (hb3.mono HB2.out.size)); have HX3 := Lib.hid hx3; clear hb3 hx3)
          | (go_at_call 39; refine (P1.out _).mono ?_; rintro e w4 ⟨rfl, hb4⟩; have HB4 := Lib.hid (HB3.out.trans (hb4.mono HB3.out.size)); have HX4 := Lib.hid (heap_old HX3.out hb4); clear hb4)
          | (go_at_call 18; refine (SS.out _ bk (HS.out _ HB4.out) HX4.out).mono ?_; rintro e w5 ⟨rfl, hb5⟩; have HB5 := Lib.hid (HB4.out.trans (hb5.mono HB4.out.size)); clear hb5))
        go_ret
        exact ⟨rfl, HB5.out⟩
      · go_wp2_with (go_at_call 19; refine HC2.out.mono ?_; rintro e w3 ⟨hb3, rfl⟩; have HB3 := Lib.hid (HB2.out.trans (hb3.mono HB2.out.size)); clear hb3)
        go_ret
        exact ⟨rfl, HB3.out⟩

set_option maxHeartbeats 4000000 in
theorem loops_true (ad : Nat → Addr) (zs : List Int) (p : Option Addr) (cap : Nat) (w : World) (hz : IntsAt w p zs) (hl : zs.length ≤ 15) (hS : Sents w ad) :
    Calls Tryd.prog 9 #[.slice p zs.length cap, .bool true] w fun e w' => e = .returned (.bool true) ∧ Below w.heap.size w w' := by
  have HS := Lib.hid (fun W (hb : Below w.heap.size w W) => hS.below hb)
  have HF1 := Lib.hid (first7_any ad w hS)
  have HZ := Lib.hid hz
  clear hS hz
  have HLS := Lib.hid (LSt.start 46 (by simp))
  go_enter Tryd.func9, Tryd.ntmps9
  go_wp2_with (go_at_call 15; refine HF1.out.mono ?_; rintro e w1 ⟨rfl, hb1⟩; have HB1 := Lib.hid hb1; clear hb1)
  have HN0 := Lib.hid (loops_start w w1 HB1.out 46 (by unfold I64; omega))
  have hg1 := HB1.out.size
  clear HB1 HF1
  generalize (w1.alloc (.cells #[.int .i64 46, .int .i64 0, .string ⟨#[]⟩, .int .i64 0, .int .i64 0, .string ⟨#[]⟩, .slice none 0 0, .slice none 0 0] 39)).alloc (.cells #[.int .i64 1, .int .i64 0, .string ⟨#[]⟩, .int .i64 0, .int .i64 1, .string ⟨#[]⟩, .slice none 0 0, .slice none 0 0] 39) = W0 at *
  generalize w1.heap.size = g at *
  have HNb := HN0.out.2
  have HNa := Lib.hid HN0.out.1
  clear HN0
  generalize hg7 : g + 1 = g7 at *
  try rw [hg7] at HNb
  have HOb := Lib.hid HNb
  have HG7 := Lib.hid (show g7 ≠ g ∧ g7 = g.succ from ⟨by omega, hg7.symm⟩)
  clear hg7 HNb
  go_loopw [8, 9, 10] (fun f d i wr => ∃ (j : Nat) (fine done : Bool) (x : Nd) (o : Int) (q : Option Addr) (len cp : Nat), f = .bool fine ∧ d = .bool done ∧ i = .int .i64 j ∧ j ≤ zs.length ∧ Hid (NBx w wr g x o q len cp) ∧ Hid (wr.heap[g7]? = some (.cells #[.int .i64 1, .int .i64 0, .string ⟨#[]⟩, .int .i64 0, .int .i64 1, .string ⟨#[]⟩, .slice none 0 0, .slice none 0 0] 39 (0, 0))) ∧ Hid (LSt x fine done) ∧ Hid (cnt x ≤ 1 + 6 * j ∧ dpN x ≤ 1 + 2 * j)) (fun _ _ i _ => zs.length - (intOf i).toNat)
  case atStart => exact ⟨0, false, false, _, _, none, 0, 0, rfl, rfl, rfl, Nat.zero_le _, HNa, HOb, HLS, Lib.hid ⟨by simp [cnt, cntAll], by simp [dpN, dpNAll]⟩⟩
  case round =>
    obtain ⟨j, fine, done, x, o, q, len, cp, rfl, rfl, rfl, hj, HN, HO, HL, HC⟩ := hrel
    obtain ⟨x0, x1, x2, x3, x4, x5, x6, x7, xf⟩ := box8_in _ _ _ _ _ _ _ _ _ _ _ HN.out.box
    obtain ⟨y0, y1, y2, y3, y4, y5, y6, y7, _⟩ := box8_in _ _ _ _ _ _ _ _ _ _ _ HO.out
    have hgw := heap_lt HN.out.box
    have hgw7 := heap_lt HO.out
    have hgwa : g < wr.heap.size + 1 := by omega
    have hgwb : g < wr.heap.size + 1 + 1 := by omega
    have hgwc : g < wr.heap.size + 1 + 1 + 1 := by omega
    have hgwd : g < wr.heap.size + 2 := by omega
    have hgwe : g < wr.heap.size + 3 := by omega
    by_cases hjl : j < zs.length
    · have xf0 := xf 0
      have xf1 := xf 1
      have xf2 := xf 2
      have xf3 := xf 3
      have xf4 := xf 4
      have xf5 := xf 5
      have xf6 := xf 6
      have xf7 := xf 7
      clear xf
      obtain ⟨b, off, hp, hbw, hzc⟩ := HZ.out.at_.resolve_left (fun h => by rw [h] at hjl; simp at hjl)
      have hzj := (HN.out.bel.cell (p := ⟨b, off + j, none⟩) hbw).trans (hzc j hjl)
      have hzI := HZ.out.wf zs[j] (List.getElem_mem hjl)
      have hbwr : b < wr.heap.size := Nat.lt_of_lt_of_le hbw HN.out.bel.size
      subst hp
      have HNM := Lib.hid (fun w => number6_any zs[j] 5 w hzI (by omega) (by omega))
      obtain ⟨k, hk⟩ : ∃ k : Nat, zs[j] % 5 = (k : Int) := ⟨(zs[j] % 5).toNat, by omega⟩
      have hk5 : k < 5 := by omega
      rw [hk] at HNM
      clear hk hzc hbw hzI
      have hks : k = 0 ∨ k = 1 ∨ k = 2 ∨ k = 3 ∨ k = 4 := by omega
      have HLN := Lib.hid (HL.out.next k)
      have HCN := Lib.hid (show cnt (wrapN k x) ≤ 1 + 6 * (j + 1) ∧ dpN (wrapN k x) ≤ 1 + 2 * (j + 1) from ⟨by have := wrapN_cnt k x; have := HC.out.1; omega, by have := wrapN_dp k x; have := HC.out.2; omega⟩)
      clear hk5
      rcases hks with rfl | rfl | rfl | rfl | rfl
      · cases fine
        · cases done
          · go_wp2_with (go_at_call 12; refine (HNM.out _).mono ?_; rintro e w2 ⟨rfl, rfl⟩)
            go_roundw
            case rel => exact ⟨j + 1, true, true, _, _, _, _, _, rfl, rfl, by go_num, by omega, Lib.hid (wrap_0 HN.out HO.out hg1 HG7.out).1, Lib.hid (wrap_0 HN.out HO.out hg1 HG7.out).2, HLN, HCN⟩
            case measure => simp [intOf]; omega
          · go_wp2_with (go_at_call 12; refine (HNM.out _).mono ?_; rintro e w2 ⟨rfl, rfl⟩)
            go_roundw
            case rel => exact ⟨j + 1, false, true, _, _, _, _, _, rfl, rfl, by go_num, by omega, Lib.hid (wrap_0 HN.out HO.out hg1 HG7.out).1, Lib.hid (wrap_0 HN.out HO.out hg1 HG7.out).2, HLN, HCN⟩
            case measure => simp [intOf]; omega
        · go_wp2_with (go_at_call 12; refine (HNM.out _).mono ?_; rintro e w2 ⟨rfl, rfl⟩)
          go_roundw
          case rel => exact ⟨j + 1, true, true, _, _, _, _, _, rfl, rfl, by go_num, by omega, Lib.hid (wrap_0 HN.out HO.out hg1 HG7.out).1, Lib.hid (wrap_0 HN.out HO.out hg1 HG7.out).2, HLN, HCN⟩
          case measure => simp [intOf]; omega
      · go_wp2_with (go_at_call 12; refine (HNM.out _).mono ?_; rintro e w2 ⟨rfl, rfl⟩)
        go_roundw
        case rel => exact ⟨j + 1, fine, true, _, _, _, _, _, rfl, rfl, by go_num, by omega, Lib.hid (wrap_1 HN.out HO.out hg1 HG7.out).1, Lib.hid (wrap_1 HN.out HO.out hg1 HG7.out).2, HLN, HCN⟩
        case measure => simp [intOf]; omega
      · go_wp2_with (go_at_call 12; refine (HNM.out _).mono ?_; rintro e w2 ⟨rfl, rfl⟩)
        go_roundw
        case rel => exact ⟨j + 1, fine, done, _, _, _, _, _, rfl, rfl, by go_num, by omega, Lib.hid (wrap_2 HN.out HO.out hg1 HG7.out).1, Lib.hid (wrap_2 HN.out HO.out hg1 HG7.out).2, HLN, HCN⟩
        case measure => simp [intOf]; omega
      · go_wp2_with (go_at_call 12; refine (HNM.out _).mono ?_; rintro e w2 ⟨rfl, rfl⟩)
        go_roundw
        case rel => exact ⟨j + 1, fine, done, _, _, _, _, _, rfl, rfl, by go_num, by omega, Lib.hid (wrap_3 HN.out HO.out hg1 HG7.out).1, Lib.hid (wrap_3 HN.out HO.out hg1 HG7.out).2, HLN, HCN⟩
        case measure => simp [intOf]; omega
      · go_wp2_with (go_at_call 12; refine (HNM.out _).mono ?_; rintro e w2 ⟨rfl, rfl⟩)
        go_roundw
        case rel => exact ⟨j + 1, fine, done, _, _, _, _, _, rfl, rfl, by go_num, by omega, Lib.hid (wrap_4 HN.out HO.out hg1 HG7.out).1, Lib.hid (wrap_4 HN.out HO.out hg1 HG7.out).2, HLN, HCN⟩
        case measure => simp [intOf]; omega
    · have hje : j = zs.length := by omega
      have hcx := HC.out.1
      have hdx := HC.out.2
      have HV := Lib.hid (HL.out.vld (by omega) (by omega))
      have hnew := heap_alloc_new wr (.cells #[.int .i64 o, .int .i64 0, .string ⟨#[]⟩, .int .i64 0, .int .i64 0, .string ⟨#[]⟩, .slice none 0 0, .slice q len cp] 39)
      have HB2 := Lib.hid (HN.out.bel.alloc HN.out.bel.size (.cells #[.int .i64 o, .int .i64 0, .string ⟨#[]⟩, .int .i64 0, .int .i64 0, .string ⟨#[]⟩, .slice none 0 0, .slice q len cp] 39))
      have HC2 := Lib.hid (tvalid_any ad [x] _ (g + 1) (wr.heap.size + 1) (some ⟨wr.heap.size, 0, none⟩) 1 (one_row' (HN.out.rep.alloc (Nat.le_refl _) _) wr.heap.size _ (Nat.le_refl _) (by omega) hnew) (by simp) (by simp) (by simp) (HS.out _ HB2.out))
      rw [HV.out] at HC2
      clear xf hnew hcx hdx HLS
      cases fine
      · have P1 := Lib.hid (fun (W : World) => placed_any 103 0 (by omega) W)
        have SS := Lib.hid (fun (W : World) (b : Nat) (h1 : Sents W ad) (h2 : W.heap[b]? = some (.cells #[.int .i64 0, ev (ad 2)] 73 (0, 0))) => (show Calls Tryd.prog 18 #[.iface 71 (.pointer (some ⟨b, 0, none⟩)), .agg #[.int .i64 103, .bool true, .int .i64 0, .int .i64 0, .int .i64 0, .string ByteArray.empty, .slice none 0 0]] W (fun e w' => e = .returned (.bool true) ∧ Below W.heap.size W w') from seeSame_at ad 2 (by omega) b 0 W h1 h2))
        unfold fp at P1
        go_wp2_with (first
          | (go_at_call 19; refine HC2.out.mono ?_; rintro e w3 ⟨hb3, bk, rfl, _, hx3⟩; have HB3 := Lib.hid (HB2.out.trans (hb3.mono HB2.out.size)); have HX3 := Lib.hid hx3; clear hb3 hx3)
          | (go_at_call 39; refine (P1.out _).mono ?_; rintro e w4 ⟨rfl, hb4⟩; have HB4 := Lib.hid (HB3.out.trans (hb4.mono HB3.out.size)); have HX4 := Lib.hid (heap_old HX3.out hb4); clear hb4)
          | (go_at_call 18; refine (SS.out _ bk (HS.out _ HB4.out) HX4.out).mono ?_; rintro e w5 ⟨rfl, hb5⟩; have HB5 := Lib.hid (HB4.out.trans (hb5.mono HB4.out.size)); clear hb5))
        go_ret
        exact ⟨rfl, HB5.out⟩
      · go_wp2_with (go_at_call 19; refine HC2.out.mono ?_; rintro e w3 ⟨hb3, rfl⟩; have HB3 := Lib.hid (HB2.out.trans (hb3.mono HB2.out.size)); clear hb3)
        go_ret
        exact ⟨rfl, HB3.out⟩

set_option maxHeartbeats 1000000 in
theorem loops_many (ad : Nat → Addr) (zs : List Int) (p : Option Addr) (cap : Nat) (goes : Bool) (w : World) (hl : 15 < zs.length) (hS : Sents w ad) :
    Calls Tryd.prog 9 #[.slice p zs.length cap, .bool goes] w fun e w' => e = .returned (.bool true) ∧ Below w.heap.size w w' := by
  have HF1 := Lib.hid (first7_any ad w hS)
  have hli : (15 : Int) < (zs.length : Int) := by omega
  clear hS hl
  go_enter Tryd.func9, Tryd.ntmps9
  go_wp2_with (go_at_call 15; refine HF1.out.mono ?_; rintro e w1 ⟨rfl, hb1⟩; have HB1 := Lib.hid hb1; clear hb1)
  go_ret
  exact ⟨rfl, HB1.out⟩
theorem loops_all (ad : Nat → Addr) (zs : List Int) (p : Option Addr) (cap : Nat) (goes : Bool) (w : World) (hz : IntsAt w p zs) (hS : Sents w ad) :
    Calls Tryd.prog 9 #[.slice p zs.length cap, .bool goes] w fun e w' => e = .returned (.bool true) ∧ Below w.heap.size w w' := by
  by_cases hl : zs.length ≤ 15
  · cases goes
    · exact loops_false ad zs p cap w hz hl hS
    · exact loops_true ad zs p cap w hz hl hS
  · exact loops_many ad zs p cap goes w (by omega) hS

end Go.Proofs.YtlinclbodbbemaaDoor
