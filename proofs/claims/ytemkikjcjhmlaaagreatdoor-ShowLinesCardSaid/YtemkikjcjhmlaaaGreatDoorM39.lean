/- The world's Program. The walk of the statement on lines. The statement on lines: all ways. -/
import Derived.Test.YtemkikjcjhmlaaaGreatDoorM38
import Derived.Test.YtemkikjcjhmlaaaGreatDoorM09
import Derived.Test.YtemkikjcjhmlaaaGreatDoorM32
namespace Go.Proofs.YtemkikjcjhmlaaaGreatDoor
open Go.RowKit
set_option maxRecDepth 100000

def okF : Flt → Bool
  | .ok => true
  | _ => false
theorem okF_iff {F : Flt} (h : okF F = true) : F = .ok := by
  cases F with
  | ok => rfl
  | bare k => cases h
  | at_ n k => cases h
theorem fltR_open (F : Flt) : ∃ f0 f1 f2, fltR F = .agg #[.int .i64 f0, .bool f1, .int .i64 f2, .int .i64 0, .int .i64 0, .string ByteArray.empty, .slice none 0 0] ∧ (f0 == 0) = okF F := by
  cases F with
  | ok => exact ⟨_, _, _, rfl, rfl⟩
  | bare k => exact ⟨_, _, _, rfl, by show ((101 + (k : Int)) == 0) = false; simp; omega⟩
  | at_ n k => exact ⟨_, _, _, rfl, by show ((101 + (k : Int)) == 0) = false; simp; omega⟩

theorem field_code (f0 : Int) (f1 : Bool) (f2 : Int) (W : World) : (Instr.field 37 (.agg #[.int .i64 f0, .bool f1, .int .i64 f2, .int .i64 0, .int .i64 0, .string ByteArray.empty, .slice none 0 0]) 0).run Tryz.prog W = .ok (.int .i64 f0) W := by kernel_rfl
set_option maxHeartbeats 1000000 in
theorem wProgram_any (L : List Nd) (most : Int) (hm0 : 0 ≤ most) (hm1 : most ≤ 6000) (w : World) (lo hi : Nat) (p : Option Addr) (cap : Nat) (hall : NAll w lo hi L p) (hlc : L.length ≤ cap) (hcap : L.length * 112 ≤ 140737488355328) (hhi : hi ≤ w.heap.size) :
    Calls Tryz.prog 5 #[.slice p L.length cap, .int .i64 most] w fun e w' => e = .returned (.bool (decide (0 ≤ ndAll L most 0) && okF (vldF L 0))) ∧ Below w.heap.size w w' := by
  have HN := Lib.hid (wNodes_any L most hm0 hm1 w lo hi p cap hall hlc hcap hhi)
  by_cases h1 : 0 ≤ ndAll L most 0
  · have hc1 := ndAll_cnt L most 0 hm0 h1
    rw [decide_eq_true h1] at HN
    have HV := Lib.hid (fun W (hb : Below w.heap.size w W) => rvalid7_any L W lo hi p cap (hall.below hb hhi) hlc hcap (by have := hb.size; omega) (by omega))
    obtain ⟨f0, f1, f2, hf, hf0⟩ := fltR_open (vldF L 0)
    rw [hf] at HV
    have HF := Lib.hid (show (decide (0 ≤ ndAll L most 0) && okF (vldF L 0)) = (f0 == 0) from by rw [decide_eq_true h1, hf0]; rfl)
    have hfd := fun W => field_code f0 f1 f2 W
    clear hall h1 hc1 hf hf0
    go_enter Tryz.func5, Tryz.ntmps5
    go_wp2_with (first
      | (go_at_call 8; refine HN.out.mono ?_; rintro e w2 ⟨rfl, hb2⟩; have HB2 := Lib.hid hb2; clear hb2)
      | (go_at_call 9; refine (HV.out _ HB2.out).mono ?_; rintro e w3 ⟨rfl, hb3⟩; have HB3 := Lib.hid (HB2.out.trans (hb3.mono HB2.out.size)); clear hb3))
    go_ret
    exact ⟨ret_bool HF.out.symm, HB3.out⟩
  · have hd := decide_eq_false h1
    rw [hd] at HN
    rw [hd]
    clear hall h1 hd
    go_enter Tryz.func5, Tryz.ntmps5
    go_wp2_with (go_at_call 8; refine HN.out.mono ?_; rintro e w2 ⟨rfl, hb2⟩)
    go_ret
    exact ⟨ret_bool rfl, hb2⟩
end Go.Proofs.YtemkikjcjhmlaaaGreatDoor

namespace Go.Proofs.YtemkikjcjhmlaaaGreatDoor.Sh
open Go.RowKit
set_option maxRecDepth 100000

set_option maxHeartbeats 4000000 in
theorem lines_not (ad : Nat → Addr) (eD eM eR eS : Value) (hP : Ptrs eD eM eR eS) (a b : List Nd) (pa pb : Option Addr) (ca cb : Nat) (k : Int) (w : World) (ha : NAll w 0 w.heap.size a pa) (hlca : a.length ≤ ca) (hcapa : a.length * 112 ≤ 140737488355328) (hb : NAll w 0 w.heap.size b pb) (hlcb : b.length ≤ cb) (hcapb : b.length * 112 ≤ 140737488355328) (hG : Glob ad eD eM eR eS w)
    (h : ((decide (0 ≤ ndAll a 500 0) && Go.Proofs.YtemkikjcjhmlaaaGreatDoor.okF (vldF a 0)) && (decide (0 ≤ ndAll b 500 0) && Go.Proofs.YtemkikjcjhmlaaaGreatDoor.okF (vldF b 0))) = false) :
    Calls Tryz.prog 3 #[.slice pa a.length ca, .slice pb b.length cb, .int .i64 k] w fun e w' => e = .returned (.bool true) ∧ Below w.heap.size w w' := by
  have HF := Lib.hid (first8_any ad eD eM eR eS hP w hG)
  have HPA := Lib.hid (fun W (hb : Below w.heap.size w W) => wProgram_any a 500 (by omega) (by omega) W 0 w.heap.size pa ca (ha.below hb (Nat.le_refl _)) hlca hcapa hb.size)
  have HPB := Lib.hid (fun W (hb2 : Below w.heap.size w W) => wProgram_any b 500 (by omega) (by omega) W 0 w.heap.size pb cb (hb.below hb2 (Nat.le_refl _)) hlcb hcapb hb2.size)
  obtain ⟨A, hA⟩ : ∃ A, (decide (0 ≤ ndAll a 500 0) && Go.Proofs.YtemkikjcjhmlaaaGreatDoor.okF (vldF a 0)) = A := ⟨_, rfl⟩
  obtain ⟨B, hB⟩ : ∃ A, (decide (0 ≤ ndAll b 500 0) && Go.Proofs.YtemkikjcjhmlaaaGreatDoor.okF (vldF b 0)) = A := ⟨_, rfl⟩
  rw [hA, hB] at h
  have HPA1 := Lib.hid (fun W hb => by have := HPA.out W hb; rw [hA] at this; exact this)
  have HPB1 := Lib.hid (fun W hb => by have := HPB.out W hb; rw [hB] at this; exact this)
  clear HPA HPB hA hB ha hb hG
  cases A with
  | false =>
    clear h
    go_enter Tryz.func3, Tryz.ntmps3
    go_wp2_with (first
      | (go_at_call 4; refine HF.out.mono ?_; rintro e w2 ⟨rfl, hb2⟩; have HB2 := Lib.hid hb2; clear hb2)
      | (go_at_call 5; (with_reducible refine (HPA1.out _ HB2.out).mono ?_); rintro e w3 ⟨rfl, hb3⟩; have HB3 := Lib.hid (HB2.out.trans (hb3.mono HB2.out.size)); clear hb3))
    go_ret
    exact ⟨rfl, HB3.out⟩
  | true =>
    rw [Bool.true_and] at h
    subst h
    go_enter Tryz.func3, Tryz.ntmps3
    go_wp2_with (first
      | (go_at_call 4; refine HF.out.mono ?_; rintro e w2 ⟨rfl, hb2⟩; have HB2 := Lib.hid hb2; clear hb2)
      | (go_at_call 5; (with_reducible refine (HPA1.out _ HB2.out).mono ?_); rintro e w3 ⟨rfl, hb3⟩; have HB3 := Lib.hid (HB2.out.trans (hb3.mono HB2.out.size)); clear hb3)
      | (go_at_call 5; (with_reducible refine (HPB1.out _ HB3.out).mono ?_); rintro e w4 ⟨rfl, hb4⟩; have HB4 := Lib.hid (HB3.out.trans (hb4.mono HB3.out.size)); clear hb4))
    go_ret
    exact ⟨rfl, HB4.out⟩
end Go.Proofs.YtemkikjcjhmlaaaGreatDoor.Sh

namespace Go.Proofs.YtemkikjcjhmlaaaGreatDoor.Sh
open Go.RowKit
set_option maxRecDepth 100000

theorem neg_all (ad : Nat → Addr) (eD eM eR eS : Value) : NegOk ad eD eM eR eS := fun n s v t1 hw hd hL => whole_neg_true ad eD eM eR eS n s v t1 hw hd hL
theorem showLines_all (ad : Nat → Addr) (eD eM eR eS : Value) (hP : Ptrs eD eM eR eS) (a b : List Nd) (pa pb : Option Addr) (ca cb : Nat) (k : Int) (w : World) (ha : NAll w 0 w.heap.size a pa) (hlca : a.length ≤ ca) (hcapa : a.length * 112 ≤ 140737488355328) (hb : NAll w 0 w.heap.size b pb) (hlcb : b.length ≤ cb) (hcapb : b.length * 112 ≤ 140737488355328) (hk : I64 k) (hG : Glob ad eD eM eR eS w) :
    Calls Tryz.prog 3 #[.slice pa a.length ca, .slice pb b.length cb, .int .i64 k] w fun e w' => e = .returned (.bool true) ∧ Below w.heap.size w w' := by
  cases h : ((decide (0 ≤ ndAll a 500 0) && Go.Proofs.YtemkikjcjhmlaaaGreatDoor.okF (vldF a 0)) && (decide (0 ≤ ndAll b 500 0) && Go.Proofs.YtemkikjcjhmlaaaGreatDoor.okF (vldF b 0))) with
  | false => exact lines_not ad eD eM eR eS hP a b pa pb ca cb k w ha hlca hcapa hb hlcb hcapb hG h
  | true =>
    rw [Bool.and_eq_true] at h
    have h1 := h.1
    have h2 := h.2
    have hpa := fun W (hw : Below w.heap.size w W) => by have := wProgram_any a 500 (by omega) (by omega) W 0 w.heap.size pa ca (ha.below hw (Nat.le_refl _)) hlca hcapa hw.size; rw [h1] at this; exact this
    have hpb := fun W (hw : Below w.heap.size w W) => by have := wProgram_any b 500 (by omega) (by omega) W 0 w.heap.size pb cb (hb.below hw (Nat.le_refl _)) hlcb hcapb hw.size; rw [h2] at this; exact this
    rw [Bool.and_eq_true] at h1 h2
    exact lines_main ad eD eM eR eS hP (neg_all ad eD eM eR eS) a b pa pb ca cb k w hk ha hlca hb hlcb hG (okF_iff h1.2) (okF_iff h2.2) (by simpa using h1.1) (by simpa using h2.1) hpa hpb
end Go.Proofs.YtemkikjcjhmlaaaGreatDoor.Sh
