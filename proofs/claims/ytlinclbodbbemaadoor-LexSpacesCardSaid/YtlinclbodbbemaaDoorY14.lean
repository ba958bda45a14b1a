/- Contracts of the reader of words: signs, digits, kinds of runs; the tables of keys and signs. -/
import Derived.Test.YtlinclbodbbemaaDoorY09
import Derived.Test.YtlinclbodbbemaaDoorY10
import Derived.Test.YtlinclbodbbemaaDoorY13
import Derived.Laws.Rows
namespace Go.Proofs.YtlinclbodbbemaaDoor
open Go.RowKit
set_option maxRecDepth 100000

def keyS (i : Nat) : ByteArray := ⟨(keysB.getD i []).toArray⟩
def signS (i : Nat) : ByteArray := ⟨(signsB.getD i []).toArray⟩
def keysA : Array Value := ⟨keysB.map fun z => Value.string ⟨z.toArray⟩⟩
def signsA : Array Value := ⟨signsB.map fun z => Value.string ⟨z.toArray⟩⟩
/-- The program's tables of keys and signs stand in their variables. -/
structure LexT (w : World) : Prop where
  key : ∃ t fr, w.heap[5]? = some (.cells keysA t fr)
  sign : ∃ t fr, w.heap[6]? = some (.cells signsA t fr)
theorem heap_lt' {w : World} {g : Nat} {o : Obj} (h : w.heap[g]? = some o) : g < w.heap.size := by
  rcases Nat.lt_or_ge g w.heap.size with h1 | h1
  · exact h1
  · rw [Array.getElem?_eq_none h1] at h; cases h
theorem LexT.lt {w : World} (h : LexT w) : 5 < w.heap.size ∧ 6 < w.heap.size := by
  obtain ⟨⟨_, _, h1⟩, _, _, h2⟩ := h
  exact ⟨heap_lt' h1, heap_lt' h2⟩
theorem LexT.below {w w' : World} {B : Nat} (h : LexT w) (hb : Below B w w') (h1 : 5 < B) (h2 : 6 < B) : LexT w' := by
  have hl := h.lt
  obtain ⟨⟨t, fr, k1⟩, t', fr', k2⟩ := h
  exact ⟨⟨t, fr, (hb.block _ h1).trans k1⟩, t', fr', (hb.block _ h2).trans k2⟩
theorem LexT.but {w w' : World} {g : Nat} (h : LexT w) (hb : But g w w') (h1 : 5 ≠ g) (h2 : 6 ≠ g) : LexT w' := by
  have hl := h.lt
  obtain ⟨⟨t, fr, k1⟩, t', fr', k2⟩ := h
  exact ⟨⟨t, fr, (hb.block _ hl.1 h1).trans k1⟩, t', fr', (hb.block _ hl.2 h2).trans k2⟩
theorem LexT.drewN {w : World} (h : LexT w) (m : Nat) : LexT (w.drewN m) := ⟨h.key, h.sign⟩

abbrev keysV : Value := .agg #[.string (keyS 0), .string (keyS 1), .string (keyS 2), .string (keyS 3), .string (keyS 4), .string (keyS 5), .string (keyS 6), .string (keyS 7), .string (keyS 8), .string (keyS 9), .string (keyS 10), .string (keyS 11), .string (keyS 12), .string (keyS 13), .string (keyS 14), .string (keyS 15), .string (keyS 16), .string (keyS 17), .string (keyS 18)]
abbrev signsV : Value := .agg #[.string (signS 0), .string (signS 1), .string (signS 2), .string (signS 3), .string (signS 4), .string (signS 5), .string (signS 6), .string (signS 7), .string (signS 8), .string (signS 9), .string (signS 10), .string (signS 11), .string (signS 12), .string (signS 13), .string (signS 14), .string (signS 15), .string (signS 16), .string (signS 17), .string (signS 18), .string (signS 19), .string (signS 20), .string (signS 21), .string (signS 22), .string (signS 23), .string (signS 24), .string (signS 25), .string (signS 26), .string (signS 27), .string (signS 28), .string (signS 29), .string (signS 30), .string (signS 31), .string (signS 32)]
theorem idx_keys (w : World) (j : Nat) (hj : j < 19) : (Instr.index 130 keysV (.int .i64 (j : Int))).run Tryd.prog w = .ok (.string (keyS j)) w := by
  have h : j = 0 ∨ j = 1 ∨ j = 2 ∨ j = 3 ∨ j = 4 ∨ j = 5 ∨ j = 6 ∨ j = 7 ∨ j = 8 ∨ j = 9 ∨ j = 10 ∨ j = 11 ∨ j = 12 ∨ j = 13 ∨ j = 14 ∨ j = 15 ∨ j = 16 ∨ j = 17 ∨ j = 18 := by omega
  rcases h with rfl | rfl | rfl | rfl | rfl | rfl | rfl | rfl | rfl | rfl | rfl | rfl | rfl | rfl | rfl | rfl | rfl | rfl | rfl
  all_goals simp [Instr.index, run_underlying Tryd.underlying130, asIntOf, go_sem, keysV]
theorem idx_signs (w : World) (j : Nat) (hj : j < 33) : (Instr.index 131 signsV (.int .i64 (j : Int))).run Tryd.prog w = .ok (.string (signS j)) w := by
  have h : j = 0 ∨ j = 1 ∨ j = 2 ∨ j = 3 ∨ j = 4 ∨ j = 5 ∨ j = 6 ∨ j = 7 ∨ j = 8 ∨ j = 9 ∨ j = 10 ∨ j = 11 ∨ j = 12 ∨ j = 13 ∨ j = 14 ∨ j = 15 ∨ j = 16 ∨ j = 17 ∨ j = 18 ∨ j = 19 ∨ j = 20 ∨ j = 21 ∨ j = 22 ∨ j = 23 ∨ j = 24 ∨ j = 25 ∨ j = 26 ∨ j = 27 ∨ j = 28 ∨ j = 29 ∨ j = 30 ∨ j = 31 ∨ j = 32 := by omega
  rcases h with rfl | rfl | rfl | rfl | rfl | rfl | rfl | rfl | rfl | rfl | rfl | rfl | rfl | rfl | rfl | rfl | rfl | rfl | rfl | rfl | rfl | rfl | rfl | rfl | rfl | rfl | rfl | rfl | rfl | rfl | rfl | rfl | rfl
  all_goals simp [Instr.index, run_underlying Tryd.underlying131, asIntOf, go_sem, signsV]

theorem ix_keys (W : World) (j : Nat) (h : j < 19) : (Instr.index 130 (.agg keysA) (.int .i64 (j : Int))).run Tryd.prog W = .ok (.string (keyS j)) W := idx_keys W j h
theorem ix_signs (W : World) (j : Nat) (h : j < 33) : (Instr.index 131 (.agg signsA) (.int .i64 (j : Int))).run Tryd.prog W = .ok (.string (signS j)) W := idx_signs W j h
theorem info_keys : (Tryd.prog.info? 130).map (·.size) = some keysA.size := by kernel_rfl
theorem info_signs : (Tryd.prog.info? 131).map (·.size) = some signsA.size := by kernel_rfl

theorem pfx_iff : ∀ (x i : Bs), pfx x i = true ↔ i.take x.length = x
  | [], i => by simp [pfx]
  | _ :: _, [] => by simp [pfx]
  | a :: x, b :: i => by
    rw [pfx]
    by_cases e : a = b
    · subst e; rw [if_pos rfl, pfx_iff x i]; simp
    · rw [if_neg e]; simp; intro e2; exact absurd e2.symm e
theorem toList_beq {a b : ByteArray} {B : Bool} (h : (a = b) ↔ B = true) : (a.toList == b.toList) = B := by
  cases B with
  | true => rw [h.2 rfl]; simp
  | false => exact toList_ne (fun e => by have := h.1 e; cases this)
set_option maxHeartbeats 1000000 in
theorem sHasPrefix_any (s x : ByteArray) (B : Bool) (hB : pfx x.data.toList s.data.toList = B) (w : World) :
    Calls Tryd.prog 135 #[.string s, .string x] w fun e w' => e = .returned (.bool B) ∧ w' = w := by
  by_cases hl : x.size ≤ s.size
  · have hb : ((s.extract 0 x.size).toList == x.toList) = B := by
      refine toList_beq ?_
      rw [← hB, pfx_iff]
      constructor
      · intro e
        have := congrArg (fun b : ByteArray => b.data.toList) e
        simp only [ext_take] at this
        simpa using this
      · intro e
        refine ba_ext ?_
        rw [ext_take]; simpa using e
    have h1 : decide ((x.size : Int) ≤ (s.size : Int)) = true := by simp; omega
    clear hB
    go_enter Tryd.func135, Tryd.ntmps135
    go_wp2
    all_goals
      go_ret
      exact ⟨rfl, rfl⟩
  · have hb : B = false := by
      rw [← hB, Bool.eq_false_iff]
      intro e
      have := congrArg List.length ((pfx_iff _ _).1 e)
      simp at this
      omega
    subst hb
    clear hB
    go_enter Tryd.func135, Tryd.ntmps135
    go_wp2
    all_goals
      go_ret
      exact ⟨rfl, rfl⟩
set_option maxHeartbeats 400000 in
theorem hasPrefix_any (s x : ByteArray) (B : Bool) (hB : pfx x.data.toList s.data.toList = B) (w : World) :
    Calls Tryd.prog 100 #[.string s, .string x] w fun e w' => e = .returned (.bool B) ∧ ∃ m, w' = w.drewN m := by
  have sP := Lib.hid (sHasPrefix_any s x B hB w)
  clear hB
  go_enter Tryd.func100, Tryd.ntmps100
  go_wp2_with (go_at_call 135; refine sP.out.mono ?_; rintro e w2 ⟨rfl, rfl⟩)
  go_ret
  exact ⟨rfl, 0, rfl⟩

theorem signAt_step (i b : Bs) (j : Nat) (h : j < 33) : signAt i b (signsB.drop j) = signAt i (if pfx (signsB.getD j []) i then signsB.getD j [] else b) (signsB.drop (j + 1)) := by
  have h' : j < signsB.length := h
  rw [List.drop_eq_getElem_cons h', signAt]
  have e : signsB.getD j [] = signsB[j] := by simp [List.getD, h']
  rw [e]
def SignPost (s : ByteArray) (p n g : Nat) (w : World) (e : Ending) (w' : World) : Prop :=
  e = .returned (.tuple #[.string ⟨(signL (s.data.toList.drop p)).toArray⟩, .bool (decide (signL (s.data.toList.drop p) ≠ []))]) ∧ LR w' g s (p + (signL (s.data.toList.drop p)).length) n ∧ But g w w'

end Go.Proofs.YtlinclbodbbemaaDoor
