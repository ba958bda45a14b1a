/- The names of codes, and back. No program is named. -/
import Derived.Test.YtcinhndidkllbaaDoorNumP
namespace Go.Proofs.YtcinhndidkllbaaDoor
open Go.RowKit

/-- The code that a name is of. -/
def codeAt (l : Bs) : Nat → List Bs → Option Nat
  | _, [] => none
  | i, m :: r => if m = l then some i else codeAt l (i + 1) r
def codeL (l : Bs) : Int × Bool := match codeAt l 0 names with
  | some i => ((i : Int), true)
  | none => (0, false)
theorem codeAt_step (l : Bs) (i : Nat) (h : i < 15) : codeAt l i (names.drop i) = if names.getD i [] = l then some i else codeAt l (i + 1) (names.drop (i + 1)) := by
  have h' : i < names.length := h
  rw [List.drop_eq_getElem_cons h', codeAt]
  have e : names.getD i [] = names[i] := by simp [List.getD, h']
  rw [e]
theorem codeAt_end (l : Bs) : codeAt l 15 (names.drop 15) = none := rfl
theorem codeL_name {n : Int} (h0 : 0 ≤ n) (h1 : n ≤ 14) : codeL (nameOf n) = (n, true) := by
  have hc : n = 0 ∨ n = 1 ∨ n = 2 ∨ n = 3 ∨ n = 4 ∨ n = 5 ∨ n = 6 ∨ n = 7 ∨ n = 8 ∨ n = 9 ∨ n = 10 ∨ n = 11 ∨ n = 12 ∨ n = 13 ∨ n = 14 := by omega
  clear h0 h1
  rcases hc with rfl | rfl | rfl | rfl | rfl | rfl | rfl | rfl | rfl | rfl | rfl | rfl | rfl | rfl | rfl
  all_goals decide +kernel
theorem nameOf_out {n : Int} (h : n < 0 ∨ 14 < n) : nameOf n = [] := by
  unfold nameOf
  split
  · rfl
  · rw [List.getElem?_eq_none (by show 15 ≤ n.toNat; omega)]; rfl
theorem codeL_out {n : Int} (h : n < 0 ∨ 14 < n) : codeL (nameOf n) = (0, false) := by
  rw [nameOf_out h]; decide +kernel
end Go.Proofs.YtcinhndidkllbaaDoor
