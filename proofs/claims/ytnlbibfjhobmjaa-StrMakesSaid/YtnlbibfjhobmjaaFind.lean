/- str.Index and str.Last, and the world's Number. -/
import Derived.Test.YtnlbibfjhobmjaaBytes
import Derived.Test.YtnlbibfjhobmjaaCut
import Derived.Test.YtnlbibfjhobmjaaShelf
import Derived.Test.YtnlbibfjhobmjaaFindM
namespace Go.Proofs.Ytnlbibfjhobmjaa
open Go.RowKit
set_option maxRecDepth 100000

theorem emod_of_tmod (n b : Int) (hb : 1 ≤ b) : n % b = if n.tmod b < 0 then n.tmod b + b else n.tmod b := by
  have h := @Int.tmod_eq_emod n b
  have h1 := Int.emod_nonneg n (b := b) (by omega)
  have h2 := Int.emod_lt_of_pos n (b := b) (by omega)
  have hab : (b.natAbs : Int) = b := by omega
  by_cases hd : 0 ≤ n ∨ b ∣ n
  · rw [if_pos hd] at h; rw [h]; rw [if_neg (by omega)]; omega
  · rw [if_neg hd] at h; rw [h]; rw [if_pos (by omega)]; omega
theorem tmod_bounds (n b : Int) (hb : 1 ≤ b) : -b ≤ n.tmod b ∧ n.tmod b < b := by
  have h := emod_of_tmod n b hb
  have h1 := Int.emod_nonneg n (b := b) (by omega)
  have h2 := Int.emod_lt_of_pos n (b := b) (by omega)
  split at h <;> omega
/-- Number: the rest, from 0 on. -/
def numB (n b : Int) : Int := n % b
set_option maxHeartbeats 400000 in
theorem number_any (n b : Int) (w : World) (hn : I64 n) (hb : 1 ≤ b) (hb2 : b ≤ 1000000) :
    Calls Try.prog 13 #[.int .i64 n, .int .i64 b] w fun e w' => e = .returned (.int .i64 (numB n b)) ∧ w = w' := by
  obtain ⟨hn1, hn2⟩ := hn
  have ht := tmod_bounds n b hb
  have he := Lib.hid (emod_of_tmod n b hb)
  go_enter Try.func13, Try.ntmps13
  go_wp2
  · have h : n.tmod b < 0 := by assumption
    go_ret
    refine ⟨ret_int ?_, rfl⟩
    unfold numB; rw [he.out, if_pos h]
  · have h : 0 ≤ n.tmod b := by assumption
    go_ret
    refine ⟨ret_int ?_, rfl⟩
    unfold numB; rw [he.out, if_neg (by omega)]

/-- What internal/bytealg.MaxLen holds is some int. -/
def MaxL (w : World) : Prop := ∃ m : Int, w.cell? ⟨0, 0, none⟩ = some (.int .i64 m)
theorem MaxL.below {B : Nat} {w w' : World} (h : MaxL w) (hb : Below B w w') (hB : 0 < B) : MaxL w' := by
  obtain ⟨m, hm⟩ := h
  exact ⟨m, by rw [hb.cell (p := ⟨0, 0, none⟩) hB]; exact hm⟩

set_option maxHeartbeats 1000000 in
theorem strIndex_any (s t : ByteArray) (n : Int) (w : World) (hs : s.size < 4294967281) (hm : MaxL w) (hn : Lib.index s.data.toList t.data.toList = n) (h0 : -1 ≤ n) (h1 : n ≤ 4294967281) :
    Calls Try.prog 14 #[.string s, .string t] w fun e w' => e = .returned (.int .i64 (n + 1)) ∧ w = w' := by
  obtain ⟨m, hm⟩ := hm
  have HM := Lib.hid hm
  have HN := Lib.hid hn
  clear hm hn
  go_enter Try.func14, Try.ntmps14
  go_wp2_with (go_at_call 20; refine (Try.strings_Index s t m _ hs HM.out).mono ?_; rintro e w1 ⟨rfl, rfl⟩; rw [HN.out])
  go_ret
  exact ⟨rfl, rfl⟩
set_option maxHeartbeats 1000000 in
theorem strLast_any (s t : ByteArray) (n : Int) (w : World) (hs : s.size < 4294967281) (hn : Lib.lastIndex s.data.toList t.data.toList = n) (h0 : -1 ≤ n) (h1 : n ≤ 4294967281) :
    Calls Try.prog 15 #[.string s, .string t] w fun e w' => e = .returned (.int .i64 (n + 1)) ∧ w = w' := by
  have HN := Lib.hid hn
  clear hn
  go_enter Try.func15, Try.ntmps15
  go_wp2_with (go_at_call 23; refine (Try.strings_LastIndex s t (by omega) _).mono ?_; rintro e w1 ⟨rfl, rfl⟩; rw [HN.out])
  go_ret
  exact ⟨rfl, rfl⟩
end Go.Proofs.Ytnlbibfjhobmjaa
