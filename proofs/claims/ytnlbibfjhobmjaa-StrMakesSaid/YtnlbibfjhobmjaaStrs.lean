/- A slice of texts that came in, or that a call made: what it holds. -/
import Derived.Test.YtnlbibfjhobmjaaBytes
namespace Go.Proofs.Ytnlbibfjhobmjaa
open Go.RowKit
set_option maxRecDepth 100000

/-- The slice p (of as many as ss) holds the texts ss, all below block B. -/
def SRow (w : World) (B : Nat) (p : Option Addr) (ss : List ByteArray) : Prop :=
  ss = [] ∨ ∃ a : Addr, p = some a ∧ a.block < B ∧ ∀ i (h : i < ss.length), w.cell? (a.add i) = some (.string ss[i])
theorem add_block (a : Addr) (i : Nat) : (a.add i).block = a.block := by unfold Addr.add; split <;> rfl
theorem SRow.below {w w' : World} {B : Nat} {p : Option Addr} {ss : List ByteArray} (h : SRow w B p ss) (hb : Below B w w') : SRow w' B p ss := by
  rcases h with h | ⟨a, hp, ha, hc⟩
  · exact .inl h
  · exact .inr ⟨a, hp, ha, fun i hi => by rw [hb.cell (p := a.add i) (by rw [add_block]; exact ha)]; exact hc i hi⟩
theorem SRow.grow {w : World} {B C : Nat} {p : Option Addr} {ss : List ByteArray} (h : SRow w B p ss) (hb : B ≤ C) : SRow w C p ss := by
  rcases h with h | ⟨a, hp, ha, hc⟩
  · exact .inl h
  · exact .inr ⟨a, hp, Nat.lt_of_lt_of_le ha hb, hc⟩
theorem SRow.at_ {w : World} {B : Nat} {p : Option Addr} {ss : List ByteArray} (h : SRow w B p ss) (i : Nat) (hi : i < ss.length) : ∃ a : Addr, p = some a ∧ w.cell? (a.add i) = some (.string ss[i]) := by
  rcases h with h | ⟨a, hp, _, hc⟩
  · subst h; simp at hi
  · exact ⟨a, hp, hc i hi⟩

def textsB (ss : List ByteArray) (n m : Int) : Bool := decide ((ss.length : Int) ≤ n) && ss.all (fun s => decide ((s.size : Int) ≤ m))

set_option maxHeartbeats 1000000 in
theorem texts_any (ss : List ByteArray) (p : Option Addr) (cap B : Nat) (n m : Int) (w : World) (h : SRow w B p ss) (hl : ss.length ≤ 9223372036854775807) :
    Calls Try.prog 8 #[.slice p ss.length cap, .int .i64 n, .int .i64 m] w fun e w' => e = .returned (.bool (textsB ss n m)) ∧ w = w' := by
  have HS := Lib.hid h; clear h
  by_cases hn : (ss.length : Int) ≤ n
  · have e1 : textsB ss n m = ss.all (fun s => decide ((s.size : Int) ≤ m)) := by simp [textsB, hn]
    rw [e1]; clear e1
    have hd : decide (n < (ss.length : Int)) = false := by simp; omega
    clear hn
    go_enter Try.func8, Try.ntmps8
    go_wp2
    go_loop [7] (fun i => ∃ j : Nat, j ≤ ss.length ∧ i = .int .i64 j ∧ Hid (ss.all (fun s => decide ((s.size : Int) ≤ m)) = (ss.drop j).all (fun s => decide ((s.size : Int) ≤ m)))) (fun i => ss.length - (intOf i).toNat)
    case atStart => exact ⟨0, Nat.zero_le _, rfl, rfl⟩
    case round =>
      obtain ⟨j, hj, rfl, hall⟩ := hrel
      by_cases hlt : j < ss.length
      · obtain ⟨a, rfl, hc⟩ := HS.out.at_ j hlt
        have hdr := Lib.hid (List.drop_eq_getElem_cons hlt)
        have hall2 : Hid (ss.all (fun s => decide ((s.size : Int) ≤ m)) = (decide (((ss[j]).size : Int) ≤ m) && (ss.drop (j + 1)).all (fun s => decide ((s.size : Int) ≤ m)))) := by
          show _ = _
          rw [hall.out, hdr.out]; rfl
        clear hall hdr
        generalize ss[j] = s at *
        by_cases hm : (s.size : Int) ≤ m
        · have hmd : decide (m < (s.size : Int)) = false := by simp; omega
          have HMM := Lib.hid (decide_eq_true hm)
          clear hm
          go_wp2
          go_round
          case measure => simp [intOf]; omega
          case rel => exact ⟨j + 1, by omega, by go_num, by show _ = _; rw [hall2.out, HMM.out]; rfl⟩
        · have hmd : decide (m < (s.size : Int)) = true := by simp; omega
          have HMM := Lib.hid (decide_eq_false hm)
          clear hm
          go_wp2
          go_ret
          exact ⟨ret_bool (by rw [hall2.out, HMM.out]; rfl), rfl⟩
      · have hje : j = ss.length := by omega
        subst hje
        go_wp2
        go_ret
        exact ⟨ret_bool (by rw [hall.out]; simp), rfl⟩
  · have e1 : textsB ss n m = false := by simp [textsB, hn]
    rw [e1]; clear e1
    have hd : decide (n < (ss.length : Int)) = true := by simp; omega
    clear hn
    go_enter Try.func8, Try.ntmps8
    go_wp2
    go_ret
    exact ⟨rfl, rfl⟩
end Go.Proofs.Ytnlbibfjhobmjaa
