/- The document's Before: does a text stand ahead of another one, byte by byte? -/
import Derived.Test.YtcecgfijfnnpeaaDoorOrdT
import Derived.Deep.QuietTactic
import Derived.Deep.RegionHeld3
import Derived.BigQuiet
import Derived.Handy
namespace Go.Proofs.YtcecgfijfnnpeaaDoor
open Go.RowKit
set_option maxRecDepth 100000

/-- Does a text stand ahead of another one? -/
def befB (a b : ByteArray) : Bool := decide (Lib.compareBytes a.data.toList b.data.toList < 0)
def befL (a b : List UInt8) : Bool := decide (Lib.compareBytes a b < 0)
theorem befL_at (a b : ByteArray) (j : Nat) (h : j < a.size) (h' : j < b.size) : befL (a.data.toList.drop j) (b.data.toList.drop j) = if a[j].toNat = b[j].toNat then befL (a.data.toList.drop (j + 1)) (b.data.toList.drop (j + 1)) else decide (a[j].toNat < b[j].toNat) := by
  have e1 : j < a.data.toList.length := by simpa using h
  have e2 : j < b.data.toList.length := by simpa using h'
  unfold befL
  rw [List.drop_eq_getElem_cons e1, List.drop_eq_getElem_cons e2, compareBytes_cons]
  have h1 : a.data.toList[j] = a[j] := rfl
  have h2 : b.data.toList[j] = b[j] := rfl
  rw [h1, h2]
  unfold cmpB cmpI
  by_cases c : a[j].toNat = b[j].toNat
  · rw [if_pos c, if_neg (c := (a[j].toNat : Int) < b[j].toNat) (by omega), if_neg (c := (b[j].toNat : Int) < a[j].toNat) (by omega)]; simp
  · rw [if_neg c]
    by_cases c2 : (a[j].toNat : Int) < b[j].toNat
    · have c3 : a[j].toNat < b[j].toNat := by omega
      rw [if_pos c2]; simp [c3]
    · have c3 : ¬ a[j].toNat < b[j].toNat := by omega
      rw [if_neg c2, if_pos (c := (b[j].toNat : Int) < a[j].toNat) (by omega)]; simp [c3]
theorem befL_end (a b : ByteArray) (j : Nat) (hj : j ≤ a.size) (hj' : j ≤ b.size) (h : j = a.size ∨ j = b.size) : befL (a.data.toList.drop j) (b.data.toList.drop j) = decide (a.size < b.size) := by
  unfold befL
  have l1 : (a.data.toList.drop j).length = a.size - j := by simp
  have l2 : (b.data.toList.drop j).length = b.size - j := by simp
  generalize a.data.toList.drop j = x at *
  generalize b.data.toList.drop j = y at *
  cases x <;> cases y <;> simp_all [Lib.compareBytes] <;> omega

set_option maxHeartbeats 1000000 in
theorem before_any (a b : ByteArray) (w : World) (ha : a.size ≤ 140737488355328) (_hb : b.size ≤ 140737488355328) :
    Calls Tryd.prog 61 #[.string a, .string b] w fun e w' => e = .returned (.bool (befB a b)) ∧ ∃ m, w' = w.drewN m := by
  go_enter Tryd.func61, Tryd.ntmps61
  go_wp2
  go_loopw [5] (fun i wr => ∃ j : Nat, j ≤ a.size ∧ j ≤ b.size ∧ i = .int .i64 j ∧ Hid (befB a b = befL (a.data.toList.drop j) (b.data.toList.drop j)) ∧ ∃ m, wr = w.drewN m) (fun i _ => a.size - (intOf i).toNat)
  case atStart => exact ⟨0, Nat.zero_le _, Nat.zero_le _, rfl, by show _ = _; rfl, 0, rfl⟩
  case round =>
    obtain ⟨j, hj, hj', rfl, HO, m, rfl⟩ := hrel
    by_cases hlt : j < a.size
    · by_cases hlt' : j < b.size
      · have hA := Lib.hid (HO.out.trans (befL_at a b j hlt hlt'))
        by_cases hc : a[j].toNat = b[j].toNat
        · have hd : ((a[j].toNat : Int) != (b[j].toNat : Int)) = false := by simp; omega
          go_wp2
          go_quiet (fail)
          go_wp2
          go_roundw
          case measure => simp [intOf]; omega
          case rel => exact ⟨j + 1, by omega, by omega, by go_num, by show _ = _; rw [hA.out, if_pos hc], _, rfl⟩
        · have hd : ((a[j].toNat : Int) != (b[j].toNat : Int)) = true := by simp; omega
          go_wp2
          go_quiet (fail)
          go_wp2
          go_quiet (fail)
          go_wp2
          go_ret
          exact ⟨ret_bool (by rw [hA.out, if_neg hc]), _, by rw [World.drewN_drewN, World.drewN_drewN]⟩
      · have hE := Lib.hid (HO.out.trans (befL_end a b j hj hj' (.inr (by omega))))
        go_wp2
        go_ret
        exact ⟨ret_bool hE.out.symm, _, rfl⟩
    · have hE := Lib.hid (HO.out.trans (befL_end a b j hj hj' (.inl (by omega))))
      go_wp2
      go_ret
      exact ⟨ret_bool hE.out.symm, _, rfl⟩
end Go.Proofs.YtcecgfijfnnpeaaDoor
