/- Letters turned into the other case: str.turn, and the document's. -/
import Derived.Test.YtnlbibfjhobmjaaDoorBytes
namespace Go.Proofs.YtnlbibfjhobmjaaDoor
open Go.RowKit
set_option maxRecDepth 100000

theorem xor32_fin : ∀ n : Fin 256, bits BinOp.xor IntKind.u8 (n.val : Int) 32 = ((n.val ^^^ 32 : Nat) : Int) := by decide +kernel
theorem xor32 (c : UInt8) : ((c ^^^ 32).toNat : Int) = bits BinOp.xor IntKind.u8 (c.toNat : Int) 32 := by
  rw [UInt8.toNat_xor]; exact (xor32_fin ⟨c.toNat, c.toNat_lt⟩).symm

set_option maxHeartbeats 2000000 in
theorem turn_any (f : UInt8 → UInt8) (lo hi : Int) (hf : ∀ c : UInt8, f c = if lo ≤ (c.toNat : Int) ∧ (c.toNat : Int) ≤ hi then c ^^^ 32 else c) (s : ByteArray) (w : World) (hs : s.size ≤ 9223372036854775807) :
    Calls Tryd.prog 25 #[.string s, .int .u8 lo, .int .u8 hi] w fun e w' => e = .returned (.string ⟨(s.data.toList.map f).toArray⟩) ∧ Below w.heap.size w w' := by
  have HF := Lib.hid hf; clear hf
  have hconv := fun w => Lib.run_convert_string_bytes (P := Tryd.prog) w 9 39 5 s Tryd.underlying9 Tryd.underlying39 Tryd.underlying5
  have HR0 := Lib.hid (brow_bytes w s)
  have HB0 := Lib.hid (below_bytes w s)
  go_enter Tryd.func25, Tryd.ntmps25
  go_wp2
  clear hconv
  generalize Lib.bytesWorld w 5 s = W0 at *
  generalize hcap : grownCap w s.size 0 5 = cap
  clear hcap
  generalize hg : w.heap.size = g at *
  have HG := Lib.hid hg; clear hg
  go_loopw [14] (fun i wr => ∃ k : Nat, k ≤ s.size ∧ i = .int .i64 k ∧ Hid (BRow wr g (turned f s.data.toList k)) ∧ Hid (Below g w wr)) (fun i _ => s.size - (intOf i).toNat)
  case atStart => exact ⟨0, Nat.zero_le _, rfl, by rw [turned_zero]; exact HR0, HB0⟩
  case round =>
    obtain ⟨k, hk, rfl, hrow, hbel⟩ := hrel
    by_cases hlt : k < s.size
    · have hl : k < s.data.toList.length := by simpa using hlt
      have hr := hrow.out k (by rw [turned_len]; exact hl)
      rw [turned_at f _ k hl] at hr
      obtain ⟨hc, hfz⟩ := hr
      have hfc := HF.out s.data.toList[k]
      have HS := Lib.hid (turned_step f s.data.toList k hl)
      have HE := Lib.hid (turned_same f s.data.toList k hl)
      have hset := hrow.out.set k (by rw [turned_len]; exact hl) (f s.data.toList[k])
      rw [HS.out] at hset
      generalize s.data.toList[k] = c at *
      by_cases ha : lo ≤ (c.toNat : Int)
      · by_cases hb : (c.toNat : Int) ≤ hi
        · rw [if_pos ⟨ha, hb⟩] at hfc
          have HFC := Lib.hid hfc; clear hfc
          have HSET := Lib.hid hset; clear hset
          go_wp2
          go_roundw
          case measure => simp [intOf]; omega
          case rel => exact ⟨k + 1, by omega, by go_num, HSET.out _ (by rw [HFC.out, xor32]), hbel.out.setCell (p := ⟨g, k, none⟩) (Nat.le_refl _) _⟩
        · have hb' : decide ((c.toNat : Int) ≤ hi) = false := by simpa using hb
          rw [if_neg (by omega)] at hfc
          have HE2 := Lib.hid (HE.out hfc)
          clear hfc hset
          go_wp2
          go_roundw
          case measure => simp [intOf]; omega
          case rel => exact ⟨k + 1, by omega, by go_num, by rw [HE2.out]; exact hrow, hbel⟩
      · have ha' : decide (lo ≤ (c.toNat : Int)) = false := by simpa using ha
        rw [if_neg (by omega)] at hfc
        have HE2 := Lib.hid (HE.out hfc)
        clear hfc hset
        go_wp2
        go_roundw
        case measure => simp [intOf]; omega
        case rel => exact ⟨k + 1, by omega, by go_num, by rw [HE2.out]; exact hrow, hbel⟩
    · have hk' : k = s.size := by omega
      subst hk'
      have hback := hrow.out.back cap
      rw [turned_len, show s.data.toList.length = s.size from by simp, show turned f s.data.toList s.size = s.data.toList.map f from by rw [← turned_all]; simp] at hback
      go_wp2
      go_ret
      exact ⟨rfl, by rw [HG.out]; exact hbel⟩

set_option maxHeartbeats 2000000 in
theorem refTurn_any (f : UInt8 → UInt8) (lo tt : Int) (h0 : 0 ≤ lo) (h1 : lo ≤ 200) (h2 : 0 ≤ tt) (h3 : tt ≤ 200) (hf : ∀ c : UInt8, ((f c).toNat : Int) = if lo ≤ (c.toNat : Int) ∧ (c.toNat : Int) ≤ lo + 25 then (c.toNat : Int) - lo + tt else c.toNat) (s : ByteArray) (w : World) (hs : s.size ≤ 9223372036854775807) :
    Calls Tryd.prog 26 #[.string s, .int .u8 lo, .int .u8 tt] w fun e w' => e = .returned (.string ⟨(s.data.toList.map f).toArray⟩) ∧ Below w.heap.size w w' := by
  have HF := Lib.hid hf; clear hf
  have hconv := fun w => Lib.run_convert_string_bytes (P := Tryd.prog) w 9 39 5 s Tryd.underlying9 Tryd.underlying39 Tryd.underlying5
  have HR0 := Lib.hid (brow_bytes w s)
  have HB0 := Lib.hid (below_bytes w s)
  go_enter Tryd.func26, Tryd.ntmps26
  go_wp2
  clear hconv
  generalize Lib.bytesWorld w 5 s = W0 at *
  generalize hcap : grownCap w s.size 0 5 = cap
  clear hcap
  generalize hg : w.heap.size = g at *
  have HG := Lib.hid hg; clear hg
  go_loopw [8] (fun i wr => ∃ k : Nat, k ≤ s.size ∧ i = .int .i64 k ∧ Hid (BRow wr g (turned f s.data.toList k)) ∧ Hid (Below g w wr)) (fun i _ => s.size - (intOf i).toNat)
  case atStart => exact ⟨0, Nat.zero_le _, rfl, by rw [turned_zero]; exact HR0, HB0⟩
  case round =>
    obtain ⟨k, hk, rfl, hrow, hbel⟩ := hrel
    by_cases hlt : k < s.size
    · have hl : k < s.data.toList.length := by simpa using hlt
      have hr := hrow.out k (by rw [turned_len]; exact hl)
      rw [turned_at f _ k hl] at hr
      obtain ⟨hc, hfz⟩ := hr
      have hfc := HF.out s.data.toList[k]
      have HS := Lib.hid (turned_step f s.data.toList k hl)
      have HE := Lib.hid (turned_same f s.data.toList k hl)
      have hset := hrow.out.set k (by rw [turned_len]; exact hl) (f s.data.toList[k])
      rw [HS.out] at hset
      have hc255 : ((s.data.toList[k]).toNat : Int) ≤ 255 := by have := s.data.toList[k].toNat_lt; omega
      generalize s.data.toList[k] = c at *
      by_cases ha : lo ≤ (c.toNat : Int)
      · by_cases hb : (c.toNat : Int) ≤ lo + 25
        · rw [if_pos ⟨ha, hb⟩] at hfc
          have HFC := Lib.hid hfc; clear hfc
          have HSET := Lib.hid hset; clear hset
          go_wp2
          go_roundw
          case measure => simp [intOf]; omega
          case rel => exact ⟨k + 1, by omega, by go_num, HSET.out _ HFC.out, hbel.out.setCell (p := ⟨g, k, none⟩) (Nat.le_refl _) _⟩
        · have hb' : decide ((c.toNat : Int) ≤ lo + 25) = false := by simpa using hb
          rw [if_neg (by omega)] at hfc
          have HE2 := Lib.hid (HE.out (UInt8.toNat_inj.1 (by omega)))
          clear hfc hset
          go_wp2
          go_roundw
          case measure => simp [intOf]; omega
          case rel => exact ⟨k + 1, by omega, by go_num, by rw [HE2.out]; exact hrow, hbel⟩
      · have ha' : decide (lo ≤ (c.toNat : Int)) = false := by simpa using ha
        rw [if_neg (by omega)] at hfc
        have HE2 := Lib.hid (HE.out (UInt8.toNat_inj.1 (by omega)))
        clear hfc hset
        go_wp2
        go_roundw
        case measure => simp [intOf]; omega
        case rel => exact ⟨k + 1, by omega, by go_num, by rw [HE2.out]; exact hrow, hbel⟩
    · have hk' : k = s.size := by omega
      subst hk'
      have hback := hrow.out.back cap
      rw [turned_len, show s.data.toList.length = s.size from by simp, show turned f s.data.toList s.size = s.data.toList.map f from by rw [← turned_all]; simp] at hback
      go_wp2
      go_ret
      exact ⟨rfl, by rw [HG.out]; exact hbel⟩

theorem up_fin : ∀ n : Fin 256, upB (UInt8.ofNat n.val) = (if (97 : Int) ≤ n.val ∧ (n.val : Int) ≤ 122 then UInt8.ofNat n.val ^^^ 32 else UInt8.ofNat n.val) ∧ ((upB (UInt8.ofNat n.val)).toNat : Int) = if (97 : Int) ≤ n.val ∧ (n.val : Int) ≤ 97 + 25 then (n.val : Int) - 97 + 65 else n.val := by decide +kernel
theorem lo_fin : ∀ n : Fin 256, loB (UInt8.ofNat n.val) = (if (65 : Int) ≤ n.val ∧ (n.val : Int) ≤ 90 then UInt8.ofNat n.val ^^^ 32 else UInt8.ofNat n.val) ∧ ((loB (UInt8.ofNat n.val)).toNat : Int) = if (65 : Int) ≤ n.val ∧ (n.val : Int) ≤ 65 + 25 then (n.val : Int) - 65 + 97 else n.val := by decide +kernel
theorem fin_all {P : UInt8 → Prop} (h : ∀ n : Fin 256, P (UInt8.ofNat n.val)) (c : UInt8) : P c := by
  have := h ⟨c.toNat, c.toNat_lt⟩
  simpa using this

set_option maxHeartbeats 1000000 in
theorem upper_any (s : ByteArray) (w : World) (hs : s.size ≤ 9223372036854775807) :
    Calls Tryd.prog 12 #[.string s] w fun e w' => e = .returned (.string (upper s)) ∧ Below w.heap.size w w' := by
  go_enter Tryd.func12, Tryd.ntmps12
  go_wp2_with (go_at_call 25; refine (turn_any upB 97 122 (fun c => by have := (up_fin ⟨c.toNat, c.toNat_lt⟩).1; simpa using this) s _ hs).mono ?_; rintro e w1 ⟨rfl, hb1⟩; have HB1 := Lib.hid hb1; clear hb1)
  go_ret
  exact ⟨rfl, HB1.out⟩
set_option maxHeartbeats 1000000 in
theorem lower_any (s : ByteArray) (w : World) (hs : s.size ≤ 9223372036854775807) :
    Calls Tryd.prog 14 #[.string s] w fun e w' => e = .returned (.string (lower s)) ∧ Below w.heap.size w w' := by
  go_enter Tryd.func14, Tryd.ntmps14
  go_wp2_with (go_at_call 25; refine (turn_any loB 65 90 (fun c => by have := (lo_fin ⟨c.toNat, c.toNat_lt⟩).1; simpa using this) s _ hs).mono ?_; rintro e w1 ⟨rfl, hb1⟩; have HB1 := Lib.hid hb1; clear hb1)
  go_ret
  exact ⟨rfl, HB1.out⟩
set_option maxHeartbeats 1000000 in
theorem refUpper_any (s : ByteArray) (w : World) (hs : s.size ≤ 9223372036854775807) :
    Calls Tryd.prog 13 #[.string s] w fun e w' => e = .returned (.string (upper s)) ∧ Below w.heap.size w w' := by
  go_enter Tryd.func13, Tryd.ntmps13
  go_wp2_with (go_at_call 26; refine (refTurn_any upB 97 65 (by omega) (by omega) (by omega) (by omega) (fun c => by have := (up_fin ⟨c.toNat, c.toNat_lt⟩).2; simpa using this) s _ hs).mono ?_; rintro e w1 ⟨rfl, hb1⟩; have HB1 := Lib.hid hb1; clear hb1)
  go_ret
  exact ⟨rfl, HB1.out⟩
end Go.Proofs.YtnlbibfjhobmjaaDoor
