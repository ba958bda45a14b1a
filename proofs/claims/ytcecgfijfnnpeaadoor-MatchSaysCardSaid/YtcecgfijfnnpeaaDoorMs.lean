/- Package match: patterns: which names may be, which words fit. -/
import Derived.Test.YtcecgfijfnnpeaaDoorMn
import Derived.Test.YtcecgfijfnnpeaaDoorTr
import Derived.Test.YtcecgfijfnnpeaaDoorShelf
import Derived.WalkSpells
import Derived.Lib.SplitLaws
namespace Go.Proofs.YtcecgfijfnnpeaaDoor.Mt
open Go.RowKit
set_option maxRecDepth 100000

/-- The library's own variable has its place. -/
def MaxL (w : World) : Prop := ∃ m, w.cell? ⟨1, 0, none⟩ = some (.int .i64 m)
theorem MaxL.lt {w : World} (h : MaxL w) : 1 < w.heap.size := by obtain ⟨m, h⟩ := h; exact World.block_lt_of_cell? w (a := ⟨1, 0, none⟩) h
theorem MaxL.below {w w' : World} (h : MaxL w) (hb : Below w.heap.size w w') : MaxL w' := by
  have hl := h.lt
  obtain ⟨m, h⟩ := h
  exact ⟨m, (hb.cell (p := ⟨1, 0, none⟩) hl).trans h⟩

theorem beq_bytes {x : ByteArray} {l : Ls} : (x.toList == l) = (x.data.toList == l) := by rw [Go.ByteArray.toList_eq]
set_option maxHeartbeats 1000000 in
theorem isPattern_any (s : ByteArray) (w : World) (hs : s.size ≤ 1000000) (hM : MaxL w) : Calls Tryd.prog 32 #[.string s] w fun e w' => e = .returned (.bool (patB s.data.toList)) ∧ Below w.heap.size w w' := by
  obtain ⟨m, hm⟩ := hM
  have hcl : (Lib.cut s.data.toList [42]).1.length + (Lib.cut s.data.toList [42]).2.1.length ≤ s.size := by
    have hl := len_data s
    rcases first_of s.data.toList 42 with h | ⟨a, b, h1, h2⟩
    · rw [cut_no _ _ h]; simp
    · rw [h1, cut_at _ _ _ h2]
      rw [h1, List.length_append, List.length_cons] at hl
      simp only; omega
  have hp : patB s.data.toList = ((s.data.toList == [42]) || nameL ((Lib.cut s.data.toList [42]).1 ++ (Lib.cut s.data.toList [42]).2.1)) := rfl
  have HC := Lib.hid (show Calls Tryd.prog 49 #[.string s, .string ⟨#[42]⟩] w fun e w' => e = .returned (.tuple #[.string ⟨(Lib.cut s.data.toList [42]).1.toArray⟩, .string ⟨(Lib.cut s.data.toList [42]).2.1.toArray⟩, .bool (Lib.cut s.data.toList [42]).2.2]) ∧ ∃ n, w' = w.drewN n from Tryd.strings_Cut s ⟨#[42]⟩ m w (by omega) hm)
  obtain ⟨A, hA⟩ : ∃ A : ByteArray, (⟨(Lib.cut s.data.toList [42]).1.toArray⟩ : ByteArray) = A := ⟨_, rfl⟩
  obtain ⟨B, hB⟩ : ∃ B : ByteArray, (⟨(Lib.cut s.data.toList [42]).2.1.toArray⟩ : ByteArray) = B := ⟨_, rfl⟩
  have hAd : A.data.toList = (Lib.cut s.data.toList [42]).1 := by rw [← hA]
  have hBd : B.data.toList = (Lib.cut s.data.toList [42]).2.1 := by rw [← hB]
  rw [hA, hB] at HC
  rw [← hAd, ← hBd] at hp hcl
  generalize (Lib.cut s.data.toList [42]).2.2 = st at HC
  rw [len_data, len_data] at hcl
  have hab : (A ++ B).data.toList = A.data.toList ++ B.data.toList := by simp [ByteArray.data_append]
  have hz : (A ++ B).size = A.size + B.size := by simp
  rw [← hab] at hp
  have HI := Lib.hid (fun w => isName_any (A ++ B) (by omega) w)
  have hq : (s.toList == [42]) = (s.data.toList == [42]) := beq_bytes
  clear hA hB hAd hBd hab
  cases hst : (s.data.toList == [42]) with
  | true =>
    rw [hst] at hp hq
    have HP := Lib.hid hp
    clear hp hst
    go_enter Tryd.func32, Tryd.ntmps32
    go_wp2_with (go_at_call 49; refine HC.out.mono ?_; rintro e w2 ⟨rfl, n, rfl⟩)
    go_ret; exact ⟨by rw [HP.out]; rfl, (Below.refl _ _).trans ⟨rfl, rfl, rfl, Nat.le_refl _, fun _ _ => rfl⟩⟩
  | false =>
    rw [hst] at hp hq
    have HP := Lib.hid hp
    clear hp hst
    go_enter Tryd.func32, Tryd.ntmps32
    go_wp2_with (first
      | (go_at_call 49; refine HC.out.mono ?_; rintro e w2 ⟨rfl, n, rfl⟩)
      | (go_at_call 50; refine (HI.out _).mono ?_; rintro e w2 ⟨rfl, rfl⟩))
    go_ret; exact ⟨by rw [HP.out]; rfl, (Below.refl _ _).trans ⟨rfl, rfl, rfl, Nat.le_refl _, fun _ _ => rfl⟩⟩
end Go.Proofs.YtcecgfijfnnpeaaDoor.Mt
