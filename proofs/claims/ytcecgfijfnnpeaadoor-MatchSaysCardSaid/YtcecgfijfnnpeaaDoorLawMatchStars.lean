/- The walk of the statement on stars. -/
import Derived.Test.YtcecgfijfnnpeaaDoorMt2
import Derived.Test.YtcecgfijfnnpeaaDoorLexNb
namespace Go.Proofs.YtcecgfijfnnpeaaDoor.Mt
open Go.RowKit
set_option maxRecDepth 100000

set_option maxHeartbeats 1000000 in
theorem first10_any (w : World) (hM : MaxL w) : Calls Tryd.prog 8 #[] w fun e w' => e = .returned (.bool true) ∧ Below w.heap.size w w' := by
  have V1 := Lib.hid (fun (W : World) (h : MaxL W) => by
    have := verb_any ⟨#[108, 42, 111, 111, 107, 32, 103]⟩ ⟨#[108, 111, 111]⟩ W (by decide) h
    rw [show verbB (⟨#[108, 42, 111, 111, 107, 32, 103]⟩ : ByteArray).data.toList (⟨#[108, 111, 111]⟩ : ByteArray).data.toList = true from by decide +kernel] at this; exact this)
  have V2 := Lib.hid (fun (W : World) (h : MaxL W) => by
    have := verb_any ⟨#[108, 42, 111, 111, 107, 32, 103]⟩ ⟨#[108, 111, 32, 107]⟩ W (by decide) h
    rw [show verbB (⟨#[108, 42, 111, 111, 107, 32, 103]⟩ : ByteArray).data.toList (⟨#[108, 111, 32, 107]⟩ : ByteArray).data.toList = false from by decide +kernel] at this; exact this)
  have HM := Lib.hid hM; clear hM
  go_enter Tryd.func8, Tryd.ntmps8
  go_wp2_with (go_at_call 15; first
    | (with_reducible refine (V1.out _ HM.out).mono ?_; rintro e w1 ⟨rfl, hb1⟩; have HB1 := Lib.hid hb1; have HM1 := Lib.hid (HM.out.below hb1); clear hb1)
    | (with_reducible refine (V2.out _ HM1.out).mono ?_; rintro e w2 ⟨rfl, hb2⟩; have HB2 := Lib.hid (HB1.out.trans (hb2.mono HB1.out.size)); clear hb2))
  go_ret; exact ⟨rfl, HB2.out⟩

def plainB (l : Ls) : Bool := l.all (fun c => c != 42 && c != 32)
theorem plain_step {l : Ls} {j : Nat} (h : j < l.length) : (l.drop j).all (fun c => c != 42 && c != 32) = ((l[j] != 42 && l[j] != 32) && (l.drop (j + 1)).all (fun c => c != 42 && c != 32)) := by
  rw [List.drop_eq_getElem_cons h]; rfl
theorem ne_nat (c : UInt8) (n : Nat) (hn : n < 256) : (c != UInt8.ofNat n) = !(((c.toNat : Int)) == (n : Int)) := by
  have h : c = UInt8.ofNat n ↔ c.toNat = n := by
    constructor
    · rintro rfl; rw [UInt8.toNat_ofNat']; exact Nat.mod_eq_of_lt hn
    · intro h; apply UInt8.toNat_inj.1; rw [h, UInt8.toNat_ofNat']; exact (Nat.mod_eq_of_lt hn).symm
  rw [Bool.eq_iff_iff]
  simp only [bne_iff_ne, ne_eq, Bool.not_eq_true', beq_eq_false_iff_ne, h]
  omega
set_option maxHeartbeats 1000000 in
theorem plainName_any (s : ByteArray) (hs : s.size ≤ 1000000) (w : World) : Calls Tryd.prog 23 #[.string s] w fun e w' => e = .returned (.bool (plainB s.data.toList)) ∧ w' = w := by
  have HP : Hid (plainB s.data.toList = s.data.toList.all (fun c => c != 42 && c != 32)) := Lib.hid rfl
  go_enter Tryd.func23, Tryd.ntmps23
  go_wp2
  go_loop [3] (fun i => ∃ j : Nat, j ≤ s.size ∧ i = .int .i64 j ∧ Hid (s.data.toList.all (fun c => c != 42 && c != 32) = (s.data.toList.drop j).all (fun c => c != 42 && c != 32))) (fun i => s.size - (intOf i).toNat)
  case atStart => exact ⟨0, Nat.zero_le _, rfl, Lib.hid rfl⟩
  case round =>
    obtain ⟨j, hj, rfl, HA⟩ := hrel
    by_cases hlt : j < s.size
    · have HA1 := HA.out.trans (plain_step (by rw [len_data]; exact hlt))
      rw [get_data s j hlt, show (42 : UInt8) = UInt8.ofNat 42 from rfl, show (32 : UInt8) = UInt8.ofNat 32 from rfl, ne_nat _ 42 (by omega), ne_nat _ 32 (by omega)] at HA1
      cases h42 : (((s[j]).toNat : Int) == ((42 : Nat) : Int)) with
      | true =>
        have HF := Lib.hid (show plainB s.data.toList = false from HP.out.trans (Eq.trans HA1 (by rw [h42]; rfl)))
        have h42' : (((s[j]).toNat : Int) == 42) = true := h42
        clear HA HA1 h42
        go_wp2
        go_ret; exact ⟨by rw [HF.out]; rfl, rfl⟩
      | false =>
        have h42' : (((s[j]).toNat : Int) == 42) = false := h42
        cases h32 : (((s[j]).toNat : Int) == ((32 : Nat) : Int)) with
        | true =>
          have HF := Lib.hid (show plainB s.data.toList = false from HP.out.trans (Eq.trans HA1 (by rw [h42, h32]; rfl)))
          have h32' : (((s[j]).toNat : Int) == 32) = true := h32
          clear HA HA1 h42 h32
          go_wp2
          go_ret; exact ⟨by rw [HF.out]; rfl, rfl⟩
        | false =>
          have h32' : (((s[j]).toNat : Int) == 32) = false := h32
          have HA2 := Lib.hid (HA1.trans (by rw [h42, h32]; rfl : _ = (s.data.toList.drop (j + 1)).all (fun c => c != 42 && c != 32)))
          clear HA HA1 h42 h32
          go_wp2
          go_round
          case rel => exact ⟨j + 1, by omega, by go_num, HA2⟩
          case measure => simp [intOf]; omega
    · have hje : j = s.size := by omega
      have HF := Lib.hid (show plainB s.data.toList = true from by rw [HP.out, HA.out, hje, List.drop_of_length_le (by rw [len_data]; exact Nat.le_refl _)]; rfl)
      clear HA
      go_wp2
      go_ret; exact ⟨by rw [HF.out]; rfl, rfl⟩

set_option maxHeartbeats 1000000 in
theorem stars_out (a b : ByteArray) (n : Int) (w : World) (hM : MaxL w) (h : 10 < a.size ∨ 10 < b.size ∨ a.size = 0 ∨ b.size = 0) :
    Calls Tryd.prog 4 #[.string a, .string b, .int .i64 n] w fun e w' => e = .returned (.bool true) ∧ Below w.heap.size w w' := by
  have F := Lib.hid (first10_any w hM)
  clear hM
  by_cases h1 : 10 < a.size
  · have d1 : decide ((10 : Int) < (a.size : Int)) = true := by simp; omega
    go_enter Tryd.func4, Tryd.ntmps4
    go_wp2_with (go_at_call 8; refine F.out.mono ?_; rintro e w1 ⟨rfl, hb1⟩; have HB1 := Lib.hid hb1; clear hb1)
    go_ret; exact ⟨rfl, HB1.out⟩
  have d1 : decide ((10 : Int) < (a.size : Int)) = false := by simp; omega
  by_cases h2 : 10 < b.size
  · have d2 : decide ((10 : Int) < (b.size : Int)) = true := by simp; omega
    go_enter Tryd.func4, Tryd.ntmps4
    go_wp2_with (go_at_call 8; refine F.out.mono ?_; rintro e w1 ⟨rfl, hb1⟩; have HB1 := Lib.hid hb1; clear hb1)
    go_ret; exact ⟨rfl, HB1.out⟩
  have d2 : decide ((10 : Int) < (b.size : Int)) = false := by simp; omega
  by_cases h3 : a.size = 0
  · have d3 : ((a.size : Int) == 0) = true := by rw [beq_iff_eq]; omega
    go_enter Tryd.func4, Tryd.ntmps4
    go_wp2_with (go_at_call 8; refine F.out.mono ?_; rintro e w1 ⟨rfl, hb1⟩; have HB1 := Lib.hid hb1; clear hb1)
    go_ret; exact ⟨rfl, HB1.out⟩
  have d3 : ((a.size : Int) == 0) = false := by rw [beq_eq_false_iff_ne]; omega
  have h4 : b.size = 0 := by omega
  have d4 : ((b.size : Int) == 0) = true := by rw [beq_iff_eq]; omega
  go_enter Tryd.func4, Tryd.ntmps4
  go_wp2_with (go_at_call 8; refine F.out.mono ?_; rintro e w1 ⟨rfl, hb1⟩; have HB1 := Lib.hid hb1; clear hb1)
  go_ret; exact ⟨rfl, HB1.out⟩

set_option maxHeartbeats 2000000 in
theorem stars_not (a b : ByteArray) (n : Int) (w : World) (hM : MaxL w) (ha : a.size ≤ 10) (hb : b.size ≤ 10) (ha0 : 0 < a.size) (hb0 : 0 < b.size)
    (h : (validB (a ++ b).data.toList && validB a.data.toList && plainB (a ++ b).data.toList) = false) :
    Calls Tryd.prog 4 #[.string a, .string b, .int .i64 n] w fun e w' => e = .returned (.bool true) ∧ Below w.heap.size w w' := by
  have F := Lib.hid (first10_any w hM)
  have d1 : decide ((10 : Int) < (a.size : Int)) = false := by simp; omega
  have d2 : decide ((10 : Int) < (b.size : Int)) = false := by simp; omega
  have d3 : ((a.size : Int) == 0) = false := by rw [beq_eq_false_iff_ne]; omega
  have d4 : ((b.size : Int) == 0) = false := by rw [beq_eq_false_iff_ne]; omega
  have hz : (a ++ b).size = a.size + b.size := by simp
  have hz1 : (a ++ b).size ≤ 1000000 := by omega
  have hz2 : a.size ≤ 1000000 := by omega
  have V1 := Lib.hid (fun (W : World) (h : MaxL W) => valid_any (a ++ b) W hz1 h)
  have V2 := Lib.hid (fun (W : World) (h : MaxL W) => valid_any a W hz2 h)
  have V3 := Lib.hid (fun (W : World) => plainName_any (a ++ b) hz1 W)
  have HM := Lib.hid hM; clear hM hz1 hz2
  cases h1 : validB (a ++ b).data.toList with
  | false =>
    have V1 := Lib.hid (fun (W : World) (h : MaxL W) => by have := V1.out W h; rw [h1] at this; exact this)
    clear h h1
    go_enter Tryd.func4, Tryd.ntmps4
    go_wp2_with (first
      | (go_at_call 8; refine F.out.mono ?_; rintro e w1 ⟨rfl, hb1⟩; have HB1 := Lib.hid hb1; have HM1 := Lib.hid (HM.out.below hb1); clear hb1)
      | (go_at_call 13; (with_reducible refine (V1.out _ HM1.out).mono ?_; rintro e w2 ⟨rfl, hb2⟩; have HB2 := Lib.hid (HB1.out.trans (hb2.mono HB1.out.size)); clear hb2)))
    go_ret; exact ⟨rfl, HB2.out⟩
  | true =>
    have V1 := Lib.hid (fun (W : World) (h : MaxL W) => by have := V1.out W h; rw [h1] at this; exact this)
    cases h2 : validB a.data.toList with
    | false =>
      have V2 := Lib.hid (fun (W : World) (h : MaxL W) => by have := V2.out W h; rw [h2] at this; exact this)
      clear h h1 h2
      go_enter Tryd.func4, Tryd.ntmps4
      go_wp2_with (first
        | (go_at_call 8; refine F.out.mono ?_; rintro e w1 ⟨rfl, hb1⟩; have HB1 := Lib.hid hb1; have HM1 := Lib.hid (HM.out.below hb1); clear hb1)
        | (go_at_call 13; (first | (with_reducible refine (V1.out _ HM1.out).mono ?_; rintro e w2 ⟨rfl, hb2⟩; have HB2 := Lib.hid (HB1.out.trans (hb2.mono HB1.out.size)); have HM2 := Lib.hid (HM1.out.below hb2); clear hb2) | (with_reducible refine (V2.out _ HM2.out).mono ?_; rintro e w3 ⟨rfl, hb3⟩; have HB3 := Lib.hid (HB2.out.trans (hb3.mono HB2.out.size)); clear hb3))))
      go_ret; exact ⟨rfl, HB3.out⟩
    | true =>
      have V2 := Lib.hid (fun (W : World) (h : MaxL W) => by have := V2.out W h; rw [h2] at this; exact this)
      have h3 : plainB (a ++ b).data.toList = false := by rw [h1, h2] at h; exact h
      have V3 := Lib.hid (fun (W : World) => by have := V3.out W; rw [h3] at this; exact this)
      clear h h1 h2 h3
      go_enter Tryd.func4, Tryd.ntmps4
      go_wp2_with (first
        | (go_at_call 8; refine F.out.mono ?_; rintro e w1 ⟨rfl, hb1⟩; have HB1 := Lib.hid hb1; have HM1 := Lib.hid (HM.out.below hb1); clear hb1)
        | (go_at_call 13; (first | (with_reducible refine (V1.out _ HM1.out).mono ?_; rintro e w2 ⟨rfl, hb2⟩; have HB2 := Lib.hid (HB1.out.trans (hb2.mono HB1.out.size)); have HM2 := Lib.hid (HM1.out.below hb2); clear hb2) | (with_reducible refine (V2.out _ HM2.out).mono ?_; rintro e w3 ⟨rfl, hb3⟩; have HB3 := Lib.hid (HB2.out.trans (hb3.mono HB2.out.size)); clear hb3)))
        | (go_at_call 23; refine (V3.out _).mono ?_; rintro e w4 ⟨rfl, rfl⟩))
      go_ret; exact ⟨rfl, HB3.out⟩
end Go.Proofs.YtcecgfijfnnpeaaDoor.Mt
