/- Package match: letters without their case: what is alike, what begins. -/
import Derived.Test.YtcecgfijfnnpeaaDoorMn
import Derived.Test.YtcecgfijfnnpeaaDoorMp2
namespace Go.Proofs.YtcecgfijfnnpeaaDoor.Mt
open Go.RowKit
set_option maxRecDepth 100000

theorem lo_nat (c : UInt8) : ((loB c).toNat : Int) = if 65 ≤ c.toNat ∧ c.toNat ≤ 90 then (c.toNat : Int) + 32 else (c.toNat : Int) := by
  unfold loB
  split
  · rw [UInt8.toNat_add]
    rename_i h
    have h2 : (c.toNat + (32 : UInt8).toNat) % 2 ^ 8 = c.toNat + 32 := by
      rw [show (32 : UInt8).toNat = 32 from rfl]; omega
    rw [h2]; omega
  · rfl
set_option maxHeartbeats 1000000 in
theorem small_any (c : UInt8) (w : World) : Calls Tryd.prog 59 #[.int .u8 (c.toNat : Int)] w fun e w' => e = .returned (.int .u8 ((loB c).toNat : Int)) ∧ w' = w := by
  have HL := Lib.hid (lo_nat c)
  have hlt := c.toNat_lt
  generalize c.toNat = n at *
  by_cases h1 : 65 ≤ n
  · by_cases h2 : n ≤ 90
    · have d1 : decide ((65 : Int) ≤ (n : Int)) = true := by simp; omega
      have d2 : decide ((n : Int) ≤ (90 : Int)) = true := by simp; omega
      have HE := Lib.hid (HL.out.trans (if_pos ⟨h1, h2⟩))
      clear HL
      go_enter Tryd.func59, Tryd.ntmps59
      go_wp2
      go_ret; exact ⟨ret_int HE.out.symm, rfl⟩
    · have d1 : decide ((65 : Int) ≤ (n : Int)) = true := by simp; omega
      have d2 : decide ((n : Int) ≤ (90 : Int)) = false := by simp; omega
      have HE := Lib.hid (HL.out.trans (if_neg (fun h => h2 h.2)))
      clear HL
      go_enter Tryd.func59, Tryd.ntmps59
      go_wp2
      go_ret; exact ⟨ret_int HE.out.symm, rfl⟩
  · have d1 : decide ((65 : Int) ≤ (n : Int)) = false := by simp; omega
    have HE := Lib.hid (HL.out.trans (if_neg (fun h => h1 h.1)))
    clear HL
    go_enter Tryd.func59, Tryd.ntmps59
    go_wp2
    go_ret; exact ⟨ret_int HE.out.symm, rfl⟩

theorem quiet_ret {P : Program} {f : FuncId} {args : Array Value} {w : World} {v : Value} (h : Calls P f args w fun e w' => e = .returned v ∧ w' = w) : Calls P f args w fun e w' => e = .returned v ∧ ∃ m, w' = w.drewN m := h.mono (by rintro e w2 ⟨rfl, rfl⟩; exact ⟨rfl, 0, rfl⟩)
/-- Drawn on from w, no more. -/
def Dr (w w' : World) : Prop := ∃ m, w' = w.drewN m
theorem Dr.refl (w : World) : Dr w w := ⟨0, rfl⟩
theorem Dr.more {w w' : World} (h : Dr w w') (n : Nat) : Dr w (w'.drewN n) := by obtain ⟨m, rfl⟩ := h; exact ⟨m + n, by rw [World.drewN_drewN]⟩
theorem Dr.trans {w w' w2 : World} (h : Dr w w') (h2 : Dr w' w2) : Dr w w2 := by obtain ⟨m, rfl⟩ := h2; exact h.more m
theorem Dr.cell {w w' : World} (h : Dr w w') (p : Addr) : w'.cell? p = w.cell? p := by obtain ⟨m, rfl⟩ := h; rfl
theorem Dr.size {w w' : World} (h : Dr w w') : w'.heap.size = w.heap.size := by obtain ⟨m, rfl⟩ := h; rfl
theorem Dr.below {w w' : World} (h : Dr w w') : Below w.heap.size w w' := by obtain ⟨m, rfl⟩ := h; exact ⟨rfl, rfl, rfl, Nat.le_refl _, fun _ _ => rfl⟩

theorem begins_eq (n w : Ls) : beginsB n w = (decide (w.length ≤ n.length) && ((lowL n).take w.length == lowL w)) := by
  unfold beginsB
  rw [← Lib.hasPrefix_of_take]
  have hl : (lowL n).length = n.length ∧ (lowL w).length = w.length := by simp [lowL]
  rw [hl.1, hl.2]
theorem begins_long {n w : Ls} (h : n.length < w.length) : beginsB n w = false := by rw [begins_eq, decide_eq_false (by omega)]; rfl
theorem begins_bad {n w : Ls} {j : Nat} (h1 : j < n.length) (h2 : j < w.length) (h : loB n[j] ≠ loB w[j]) : beginsB n w = false := by
  cases hq : beginsB n w with
  | false => rfl
  | true =>
    exfalso; apply h
    unfold beginsB at hq
    rw [pre_iff] at hq
    have := hq.getElem (i := j) (by simpa [lowL] using h2)
    simp only [lowL, List.getElem_map] at this
    exact this.symm
theorem begins_good {n w : Ls} (h : w.length ≤ n.length) (h2 : ∀ j (h3 : j < w.length), loB (n[j]'(by omega)) = loB w[j]) : beginsB n w = true := by
  unfold beginsB
  rw [pre_iff, List.prefix_iff_eq_take]
  apply List.ext_getElem
  · simp [lowL]; omega
  · intro i g1 g2
    simp only [lowL, List.getElem_take, List.getElem_map]
    have : i < w.length := by simpa [lowL] using g1
    exact (h2 i this).symm

set_option maxHeartbeats 2000000 in
theorem begins_any (n s : ByteArray) (hn : n.size ≤ 140737488355328) (_hs : s.size ≤ 140737488355328) (w : World) : Calls Tryd.prog 41 #[.string n, .string s] w fun e w' => e = .returned (.bool (beginsB n.data.toList s.data.toList)) ∧ Dr w w' := by
  by_cases hl : n.size < s.size
  · have HM := Lib.hid (show beginsB n.data.toList s.data.toList = false from begins_long (by rw [len_data, len_data]; exact hl))
    have d1 : decide ((n.size : Int) < (s.size : Int)) = true := by simp; omega
    have d2 : decide (n.size < s.size) = true := by simp; omega
    go_enter Tryd.func41, Tryd.ntmps41
    go_wp2
    go_ret; exact ⟨by rw [HM.out]; rfl, Dr.refl _⟩
  have d1 : decide ((n.size : Int) < (s.size : Int)) = false := by simp; omega
  have d2 : decide (n.size < s.size) = false := by simp; omega
  have HSM := Lib.hid (fun c w => quiet_ret (small_any c w))
  go_enter Tryd.func41, Tryd.ntmps41
  go_wp2
  go_loopw [13] (fun i wr => ∃ j : Nat, j ≤ s.size ∧ i = .int .i64 j ∧ Hid (∀ i, i < j → ∀ (h1 : i < n.data.toList.length) (h2 : i < s.data.toList.length), loB n.data.toList[i] = loB s.data.toList[i]) ∧ Hid (Dr w wr)) (fun i _ => s.size - (intOf i).toNat)
  case atStart => exact ⟨0, Nat.zero_le _, rfl, Lib.hid (fun _ h => by omega), Lib.hid (Dr.refl _)⟩
  case round =>
    obtain ⟨j, hj, rfl, hA, HD⟩ := hrel
    by_cases hjs : j < s.size
    · have hjn : j < n.size := by omega
      have hq : ∀ m, Hid (Dr w (wr.drewN m)) := fun m => HD.out.more m
      have g1 := get_data s j hjs
      have g2 := get_data n j hjn
      by_cases heq : loB n[j] = loB s[j]
      · have HN : Hid (∀ i, i < j + 1 → ∀ (h1 : i < n.data.toList.length) (h2 : i < s.data.toList.length), loB n.data.toList[i] = loB s.data.toList[i]) := Lib.hid (fun i hi h1 h2 => by
          by_cases e : i = j
          · subst e; rw [g1, g2]; exact heq
          · exact hA.out i (by omega) h1 h2)
        obtain ⟨m, hm⟩ : ∃ m, (loB s[j]).toNat = m := ⟨_, rfl⟩
        have KA := Lib.hid (fun w => by have := HSM.out n[j] w; rw [heq, hm] at this; exact this)
        have KB := Lib.hid (fun w => by have := HSM.out s[j] w; rw [hm] at this; exact this)
        clear g1 g2 heq hA HD hm
        go_wp2
        go_quiet ((go_at_call 59; first | (with_reducible refine Calls.quiet_of (KA.out _)) | (with_reducible refine Calls.quiet_of (KB.out _))))
        go_wp2
        go_roundw
        case rel => exact ⟨j + 1, by omega, by go_num, HN, hq _⟩
        case measure => simp [intOf]; omega
      · have HF := Lib.hid (show beginsB n.data.toList s.data.toList = false from begins_bad (j := j) (by rw [len_data]; exact hjn) (by rw [len_data]; exact hjs) (by rw [g1, g2]; exact heq))
        obtain ⟨m1, hm1⟩ : ∃ m, (loB n[j]).toNat = m := ⟨_, rfl⟩
        obtain ⟨m2, hm2⟩ : ∃ m, (loB s[j]).toNat = m := ⟨_, rfl⟩
        have hmm : ¬ m1 = m2 := fun h => heq (UInt8.toNat_inj.1 (by rw [hm1, hm2, h]))
        have KA := Lib.hid (fun w => by have := HSM.out n[j] w; rw [hm1] at this; exact this)
        have KB := Lib.hid (fun w => by have := HSM.out s[j] w; rw [hm2] at this; exact this)
        have hne : ((m1 : Int) != (m2 : Int)) = true := by simp; omega
        clear g1 g2 heq hA HD hm1 hm2
        go_wp2
        go_quiet ((go_at_call 59; first | (with_reducible refine Calls.quiet_of (KA.out _)) | (with_reducible refine Calls.quiet_of (KB.out _))))
        go_wp2
        go_ret; exact ⟨by rw [HF.out]; rfl, (hq _).out⟩
    · have hje : j = s.size := by omega
      have HF := Lib.hid (show beginsB n.data.toList s.data.toList = true from begins_good (by rw [len_data, len_data]; omega) (fun i h3 => hA.out i (by rw [len_data] at h3; omega) _ h3))
      clear hA
      go_wp2
      go_ret; exact ⟨by rw [HF.out]; rfl, HD.out⟩
set_option maxHeartbeats 1000000 in
theorem alike_any (n s : ByteArray) (hn : n.size ≤ 140737488355328) (hs : s.size ≤ 140737488355328) (w : World) : Calls Tryd.prog 30 #[.string n, .string s] w fun e w' => e = .returned (.bool (alikeB n.data.toList s.data.toList)) ∧ Dr w w' := by
  have he := alike_eq n.data.toList s.data.toList
  rw [len_data, len_data] at he
  have HB := Lib.hid (fun w => begins_any n s hn hs w)
  by_cases h : n.size = s.size
  · have d1 : ((n.size : Int) == (s.size : Int)) = true := by simp; omega
    have HE := Lib.hid (show alikeB n.data.toList s.data.toList = beginsB n.data.toList s.data.toList from by rw [he, h]; simp)
    clear he h
    go_enter Tryd.func30, Tryd.ntmps30
    go_wp2_with (go_at_call 41; refine (HB.out _).mono ?_; rintro e w2 ⟨rfl, HD⟩; have HD2 := Lib.hid HD; clear HD)
    go_ret; exact ⟨by rw [HE.out]; rfl, HD2.out⟩
  · have d1 : ((n.size : Int) == (s.size : Int)) = false := by simp; omega
    have HE := Lib.hid (show alikeB n.data.toList s.data.toList = false from by rw [he, show (n.size == s.size) = false from by simpa using h]; rfl)
    clear he h
    go_enter Tryd.func30, Tryd.ntmps30
    go_wp2
    go_ret; exact ⟨by rw [HE.out]; rfl, Dr.refl _⟩
end Go.Proofs.YtcecgfijfnnpeaaDoor.Mt
