/- sort.SliceStable at the machine of seq.Sort. -/
import Derived.Test.YtjipchloebbldaaMach2
import Derived.Test.YtjipchloebbldaaStab
namespace Go.Proofs.Ytjipchloebbldaa
open Go.RowKit Go.Sort Go.Shelf Go.Lib
set_option maxRecDepth 100000

noncomputable def Try.tiL : TypeInfo := (Try.prog.info? 22).get (by kernel_rfl)
noncomputable def Try.tiV : TypeInfo := (Try.prog.info? 24).get (by kernel_rfl)
theorem Try.swK (n : Nat) (h2 : 2 ≤ n) : Lib.swapperK n Try.tiV 25 = 9 := by
  have a : Try.tiV.hasPointers = true := by kernel_rfl
  have b : Try.tiV.bytes = 56 := by kernel_rfl
  have c : (n == 0) = false := by simp; omega
  have d : (n == 1) = false := by simp; omega
  simp [Lib.swapperK, a, b, c, d]
theorem below_grow (w : World) (os : Array Obj) : Below w.heap.size w (grow w os) := by
  unfold grow
  exact ⟨rfl, rfl, rfl, by simp, fun k hk => by simp only [Array.getElem?_append]; rw [if_pos hk]⟩

theorem sliceStable_two (l : List T) (enc : Nat → List Value) (bo gx : Nat) (hO : SWO (ltP l)) (h2 : 2 ≤ l.length) (hlen : l.length ≤ 1000000) (d : Array Nat) (W : World) (hS : SortS l enc bo gx d W) :
    Calls Try.prog 53 #[.iface 22 (.slice (some ⟨bo, 0, none⟩) l.length l.length), .func (.func 54) #[] #[.pointer (some ⟨gx, 0, none⟩)]] W fun e w' =>
      e = .returned (.tuple #[]) ∧ ∃ d', SortS l enc bo gx d' w' ∧ Keeps bo W w' ∧ PermIn 0 l.length d d' ∧ SortedIn (ltP l) 0 l.length d' := by
  have M := mach l enc bo gx hlen
  refine Any.sort_SliceStable_of_stable Try.laysGt8 22 24 Try.tiL Try.tiV (by kernel_rfl) (by kernel_rfl) (by kernel_rfl) (by kernel_rfl) 25 (fun _ => by kernel_rfl) (some ⟨bo, 0, none⟩) l.length l.length (by omega) 82 (by rw [Try.swK _ h2]; kernel_rfl) (.func 54) #[] _ W _ ?_
  have hB : sliceBound Try.prog 24 Try.tiV 25 (some ⟨bo, 0, none⟩) l.length l.length = #[.slice (some ⟨bo, 0, none⟩) l.length l.length, typeHandle Try.prog 24] := by
    unfold sliceBound; rw [Try.swK _ h2]; rfl
  rw [hB]
  have hb : Below W.heap.size W (stableWorld Try.prog Try.laysGt8_ren 22 (some ⟨bo, 0, none⟩) l.length l.length W) := ((Below.refl W.heap.size W).alloc (Nat.le_refl _) _).alloc (by simp) _
  refine (stable_any hO M hlen d _ (M.step _ _ _ hS hb)).mono ?_
  rintro e w' ⟨rfl, d', h1, h2, h3, h4⟩
  exact ⟨rfl, d', h1, (Keeps.of_below hb).trans h2, h3, h4⟩
theorem sliceStable_one (p : Option Addr) (W : World) (lb : Array Value) :
    Calls Try.prog 53 #[.iface 22 (.slice p 1 1), .func (.func 54) #[] lb] W fun e w' => e = .returned (.tuple #[]) ∧ Below W.heap.size W w' := by
  refine (Any.sort_SliceStable_tiny Try.laysGt8 22 24 Try.tiL Try.tiV (by kernel_rfl) (by kernel_rfl) (by kernel_rfl) (by kernel_rfl) 25 (fun _ => by kernel_rfl) p 1 1 (Nat.le_refl _) 75 (by kernel_rfl) (.func 54) #[] lb W).mono ?_
  rintro e w' ⟨rfl, os, rfl⟩
  exact ⟨rfl, below_grow _ _⟩
theorem sliceStable_none (p : Option Addr) (W : World) (lb : Array Value) :
    Calls Try.prog 53 #[.iface 22 (.slice p 0 0), .func (.func 54) #[] lb] W fun e w' => e = .returned (.tuple #[]) ∧ Below W.heap.size W w' := by
  refine (Any.sort_SliceStable_tiny Try.laysGt8 22 24 Try.tiL Try.tiV (by kernel_rfl) (by kernel_rfl) (by kernel_rfl) (by kernel_rfl) 25 (fun _ => by kernel_rfl) p 0 0 (Nat.zero_le _) 74 (by kernel_rfl) (.func 54) #[] lb W).mono ?_
  rintro e w' ⟨rfl, os, rfl⟩
  exact ⟨rfl, below_grow _ _⟩
theorem sliceStable_any (l : List T) (enc : Nat → List Value) (bo gx : Nat) (hO : SWO (ltP l)) (h0 : l ≠ []) (hlen : l.length ≤ 1000000) (d : Array Nat) (W : World) (hS : SortS l enc bo gx d W) :
    Calls Try.prog 53 #[.iface 22 (.slice (some ⟨bo, 0, none⟩) l.length l.length), .func (.func 54) #[] #[.pointer (some ⟨gx, 0, none⟩)]] W fun e w' =>
      e = .returned (.tuple #[]) ∧ ∃ d', SortS l enc bo gx d' w' ∧ Keeps bo W w' ∧ PermIn 0 l.length d d' ∧ SortedIn (ltP l) 0 l.length d' := by
  have hp := List.length_pos_iff.2 h0
  by_cases h2 : 2 ≤ l.length
  · exact sliceStable_two l enc bo gx hO h2 hlen d W hS
  · have h1 : l.length = 1 := by omega
    have r := sliceStable_one (some ⟨bo, 0, none⟩) W #[.pointer (some ⟨gx, 0, none⟩)]
    rw [← h1] at r
    refine r.mono ?_
    rintro e w' ⟨rfl, hb⟩
    exact ⟨rfl, d, (mach l enc bo gx hlen).step _ _ _ hS hb, Keeps.of_below hb, permIn_refl _ _ _, fun i j h1 h2 h3 => by omega⟩
end Go.Proofs.Ytjipchloebbldaa
