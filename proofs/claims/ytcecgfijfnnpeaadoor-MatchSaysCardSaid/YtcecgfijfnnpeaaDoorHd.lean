/- The document's Holds. -/
import Derived.Test.YtcecgfijfnnpeaaDoorTr
import Derived.Test.YtcecgfijfnnpeaaDoorChecked
import Derived.WalkKit
import Derived.ProofKit
import Derived.Lib.Hide
import Derived.LoopTactic
import Derived.WalkSpells
namespace Go.Proofs.YtcecgfijfnnpeaaDoor
open Go.RowKit
set_option maxRecDepth 100000

def holdsB (ss : List ByteArray) (s : ByteArray) : Bool := ss.any (fun y => y.toList == s.toList)
theorem bytes_eq {y s : ByteArray} : (y.toList == s.toList) = true ↔ y = s := by
  rw [beq_iff_eq]
  constructor
  · intro h
    have h2 : y.data.toList = s.data.toList := by rw [← Go.ByteArray.toList_eq, ← Go.ByteArray.toList_eq, h]
    cases y; cases s; simp only at h2; congr 1; exact Array.toList_inj.1 h2
  · rintro rfl; rfl
theorem holdsB_iff (ss : List ByteArray) (s : ByteArray) : holdsB ss s = true ↔ s ∈ ss := by
  unfold holdsB
  rw [List.any_eq_true]
  constructor
  · rintro ⟨y, hy, h⟩; rw [bytes_eq] at h; exact h ▸ hy
  · intro h; exact ⟨s, h, bytes_eq.2 rfl⟩
set_option maxHeartbeats 1000000 in
theorem holds_any (ss : List ByteArray) (p : Option Addr) (cap B : Nat) (s : ByteArray) (w : World) (h : TRow w B p ss) (hl : ss.length ≤ 9000000000000000000) :
    Calls Tryd.prog 26 #[.slice p ss.length cap, .string s] w fun e w' => e = .returned (.bool (holdsB ss s)) ∧ w' = w := by
  have HS := Lib.hid h; clear h
  go_enter Tryd.func26, Tryd.ntmps26
  go_wp2
  go_loop [5] (fun i => ∃ j : Nat, j ≤ ss.length ∧ i = .int .i64 j ∧ Hid (holdsB ss s = holdsB (ss.drop j) s)) (fun i => ss.length - (intOf i).toNat)
  case atStart => exact ⟨0, Nat.zero_le _, rfl, rfl⟩
  case round =>
    obtain ⟨j, hj, rfl, HO⟩ := hrel
    by_cases hlt : j < ss.length
    · obtain ⟨b, off, rfl, _, h0⟩ := HS.out.at_ j hlt
      obtain ⟨y, hy⟩ : ∃ y, y = ss[j] := ⟨_, rfl⟩
      have HN := Lib.hid (show holdsB ss s = ((y.toList == s.toList) || holdsB (ss.drop (j + 1)) s) from by rw [HO.out, List.drop_eq_getElem_cons hlt, hy]; rfl)
      rw [← hy] at h0
      clear hy
      cases hb : (y.toList == s.toList) with
      | true =>
        have HF := Lib.hid (show holdsB ss s = true from by rw [HN.out, hb]; rfl)
        go_wp2
        go_ret
        exact ⟨ret_bool HF.out.symm, rfl⟩
      | false =>
        have HF := Lib.hid (show holdsB ss s = holdsB (ss.drop (j + 1)) s from by rw [HN.out, hb]; rfl)
        go_wp2
        go_round
        case rel => exact ⟨j + 1, by omega, by go_num, HF⟩
        case measure => simp [intOf]; omega
    · have hje : j = ss.length := by omega
      have HF := Lib.hid (show holdsB ss s = false from by rw [HO.out, hje, List.drop_length]; rfl)
      go_wp2
      go_ret
      exact ⟨ret_bool HF.out.symm, rfl⟩

end Go.Proofs.YtcecgfijfnnpeaaDoor
