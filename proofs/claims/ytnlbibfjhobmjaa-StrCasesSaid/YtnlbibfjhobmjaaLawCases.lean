/- The walk of the statement on cases. -/
import Derived.Test.YtnlbibfjhobmjaaTurn
import Derived.Test.YtnlbibfjhobmjaaCut
namespace Go.Proofs.Ytnlbibfjhobmjaa
open Go.RowKit
set_option maxRecDepth 100000

theorem upper_size (s : ByteArray) : (upper s).size = s.size := by show (upper s).data.size = _; simp [upper]
theorem lower_size (s : ByteArray) : (lower s).size = s.size := by show (lower s).data.size = _; simp [lower]
theorem upper_at (s : ByteArray) (i : Nat) (h : i < s.size) : (upper s)[i]'(by rw [upper_size]; exact h) = upB s[i] := by
  show (upper s).data[i]'_ = _
  simp [upper]; rfl
theorem lower_at (s : ByteArray) (i : Nat) (h : i < s.size) : (lower s)[i]'(by rw [lower_size]; exact h) = loB s[i] := by
  show (lower s).data[i]'_ = _
  simp [lower]; rfl
theorem fin_bytes {P : UInt8 → Prop} (h : ∀ n : Fin 256, P (UInt8.ofNat n.val)) (c : UInt8) : P c := fin_all h c
theorem lo_up (c : UInt8) : loB (upB c) = loB c ∧ upB (loB c) = upB c ∧ upB (loB (upB c)) = upB c := fin_all (P := fun c => loB (upB c) = loB c ∧ upB (loB c) = upB c ∧ upB (loB (upB c)) = upB c) (by decide +kernel) c
theorem lower_upper (s : ByteArray) : lower (upper s) = lower s := by unfold lower upper; simp [Function.comp_def, (lo_up _).1]
theorem upper_lower (s : ByteArray) : upper (lower s) = upper s := by unfold lower upper; simp [Function.comp_def, (lo_up _).2.1]
/-- Is it a letter? -/
def letB (c : UInt8) : Bool := (decide (97 ≤ c.toNat) && decide (c.toNat ≤ 122)) || (decide (65 ≤ c.toNat) && decide (c.toNat ≤ 90))

/-- What the two cases of a byte are. -/
def three (c u l : Int) : Prop := 0 ≤ c ∧ c ≤ 255 ∧ ((c < 65 ∨ (90 < c ∧ c < 97) ∨ 122 < c) ∧ c = u ∧ c = l ∨ 97 ≤ c ∧ c ≤ 122 ∧ u = c - 32 ∧ c = l ∧ bits BinOp.or IntKind.u8 (c - 32) 32 = c ∨ 65 ≤ c ∧ c ≤ 90 ∧ c = u ∧ l = c + 32 ∧ bits BinOp.or IntKind.u8 c 32 = c + 32)
instance (c u l : Int) : Decidable (three c u l) := by unfold three; infer_instance
theorem three_fin : ∀ n : Fin 256, three ((UInt8.ofNat n.val).toNat : Int) ((upB (UInt8.ofNat n.val)).toNat : Int) ((loB (UInt8.ofNat n.val)).toNat : Int) := by decide +kernel
theorem three_at (s : ByteArray) : ∃ U L : ByteArray, U = upper s ∧ L = lower s ∧ U.size = s.size ∧ L.size = s.size ∧ ∀ (j : Nat) (h : j < s.size) (hu : j < U.size) (hl : j < L.size), Hid (∃ c u l : Int, three c u l ∧ ((s[j]'h).toNat : Int) = c ∧ ((U[j]'hu).toNat : Int) = u ∧ ((L[j]'hl).toNat : Int) = l) :=
  ⟨_, _, rfl, rfl, upper_size s, lower_size s, fun j h _ _ => ⟨_, _, _, fin_all (P := fun c => three (c.toNat : Int) ((upB c).toNat : Int) ((loB c).toNat : Int)) three_fin s[j], rfl, by rw [upper_at s j h], by rw [lower_at s j h]⟩⟩

set_option maxHeartbeats 4000000 in
theorem cases_main (s : ByteArray) (w : World) (hs : s.size ≤ 200) :
    Calls Try.prog 6 #[.string s] w fun e w' => e = .returned (.bool true) ∧ Below w.heap.size w w' := by
  have h1 := lower_upper s
  have h2 := upper_lower s
  obtain ⟨U, L, hU, hL, hul, hll, HT⟩ := three_at s
  rw [← hU, ← hL] at h1
  rw [← hL, ← hU] at h2
  have HUL := Lib.hid h1
  have HLU := Lib.hid h2
  have HU := Lib.hid hU
  have HL := Lib.hid hL
  clear h1 h2 hU hL
  have hd : decide ((200 : Int) < (s.size : Int)) = false := by simp; omega
  go_enter Try.func6, Try.ntmps6
  go_wp2_with (first
    | (go_at_call 7; refine (first3_any _).mono ?_; rintro e w1 ⟨rfl, rfl⟩)
    | (go_at_call_of 17 (Value.string s); refine (upper_any s _ (by omega)).mono ?_; rintro e w2 ⟨rfl, hb2⟩; rw [← HU.out]; have HB2 := Lib.hid hb2; clear hb2)
    | (go_at_call_of 18 (Value.string s); refine (lower_any s _ (by omega)).mono ?_; rintro e w3 ⟨rfl, hb3⟩; rw [← HL.out]; have HB3 := Lib.hid (HB2.out.trans (hb3.mono HB2.out.size)); clear hb3)
    | (go_at_call_of 18 (Value.string U); refine (lower_any U _ (by rw [hul]; omega)).mono ?_; rintro e w4 ⟨rfl, hb4⟩; rw [HUL.out]; have HB4 := Lib.hid (HB3.out.trans (hb4.mono HB3.out.size)); clear hb4)
    | (go_at_call_of 17 (Value.string L); refine (upper_any L _ (by rw [hll]; omega)).mono ?_; rintro e w5 ⟨rfl, hb5⟩; rw [HLU.out]; have HB5 := Lib.hid (HB4.out.trans (hb5.mono HB4.out.size)); clear hb5))
  clear HB2 HB3 HB4
  go_loopw [6] (fun i wr => ∃ j : Nat, j ≤ s.size ∧ i = .int .i64 j ∧ Hid (Below w.heap.size w wr)) (fun i _ => s.size - (intOf i).toNat)
  case atStart => exact ⟨0, Nat.zero_le _, rfl, HB5⟩
  case round =>
    obtain ⟨j, hj, rfl, hbel⟩ := hrel
    by_cases hlt : j < s.size
    · have hju : j < U.size := by omega
      have hjl : j < L.size := by omega
      obtain ⟨c, u, l, h3, x1, x2, x3⟩ := (HT j hlt hju hjl).out
      clear HT hd
      obtain ⟨hc0, hc1, h3⟩ := h3
      have hq : ∀ nq, Hid (Below w.heap.size w (wr.drewN nq)) := fun nq => below_drewN hbel.out nq
      rcases h3 with ⟨h3, rfl, rfl⟩ | ⟨ha, hb, rfl, rfl, hor⟩ | ⟨ha, hb, rfl, rfl, hor⟩
      · rcases h3 with h3 | ⟨h3, h4⟩ | h3
        · have d1 : decide ((97 : Int) ≤ c) = false := by simp; omega
          have d2 : decide ((65 : Int) ≤ c) = false := by simp; omega
          go_wp2
          go_quiet (fail)
          go_wp2
          go_roundw
          case measure => simp [intOf]; omega
          case rel => exact ⟨j + 1, by omega, by go_num, hq _⟩
        · have d1 : decide ((97 : Int) ≤ c) = false := by simp; omega
          have d2 : decide ((65 : Int) ≤ c) = true := by simp; omega
          have d3 : decide (c ≤ (90 : Int)) = false := by simp; omega
          go_wp2
          go_quiet (fail)
          go_wp2
          go_roundw
          case measure => simp [intOf]; omega
          case rel => exact ⟨j + 1, by omega, by go_num, hq _⟩
        · have d1 : decide ((97 : Int) ≤ c) = true := by simp; omega
          have d2 : decide (c ≤ (122 : Int)) = false := by simp; omega
          have d3 : decide ((65 : Int) ≤ c) = true := by simp; omega
          have d4 : decide (c ≤ (90 : Int)) = false := by simp; omega
          go_wp2
          go_quiet (fail)
          go_wp2
          go_roundw
          case measure => simp [intOf]; omega
          case rel => exact ⟨j + 1, by omega, by go_num, hq _⟩
      all_goals
        go_wp2
        go_quiet (fail)
        go_wp2
        go_roundw
        case measure => simp [intOf]; omega
        case rel => exact ⟨j + 1, by omega, by go_num, hq _⟩
    · clear HT hd
      go_wp2_with (first
        | (go_at_call 19; refine (refUpper_any ⟨#[97, 122]⟩ _ (by decide)).mono ?_; rintro e w2 ⟨rfl, hb2⟩; rw [show upper ⟨#[97, 122]⟩ = ⟨#[65, 90]⟩ from by decide +kernel]; have HB2 := Lib.hid (hbel.out.trans (hb2.mono hbel.out.size)); clear hb2)
        | (go_at_call 17; refine (upper_any ⟨#[97, 122]⟩ _ (by decide)).mono ?_; rintro e w3 ⟨rfl, hb3⟩; rw [show upper ⟨#[97, 122]⟩ = ⟨#[65, 90]⟩ from by decide +kernel]; have HB3 := Lib.hid (HB2.out.trans (hb3.mono HB2.out.size)); clear hb3))
      go_ret
      exact ⟨rfl, HB3.out⟩

theorem cases_all (s : ByteArray) (w : World) (hs : s.size ≤ 9223372036854775807) :
    Calls Try.prog 6 #[.string s] w fun e w' => e = .returned (.bool true) ∧ Below w.heap.size w w' := by
  by_cases h : s.size ≤ 200
  · exact cases_main s w h
  · have hd : decide ((200 : Int) < (s.size : Int)) = true := by simp; omega
    clear h
    go_enter Try.func6, Try.ntmps6
    go_wp2_with (go_at_call 7; refine (first3_any _).mono ?_; rintro e w1 ⟨rfl, rfl⟩)
    go_ret
    exact ⟨rfl, Below.refl _ _⟩
end Go.Proofs.Ytnlbibfjhobmjaa
