/- Plain words on rows of bytes that a call made itself, and letters turned into the other case. -/
import Derived.Test.YtnlbibfjhobmjaaDoorChecked
import Derived.Below
import Derived.WalkKit
import Derived.ProofKit
import Derived.Lib.Hide
import Derived.Lib.ConvBytes
import Derived.Laws.IdiomStrings
import Derived.LoopTactic
import Derived.Deep.RegionWith
import Derived.Deep.DeepCutAuto
import Derived.Deep.QuietTactic
import Derived.BigQuiet
import Derived.Deep.RegionHeld3
namespace Go.Proofs.YtnlbibfjhobmjaaDoor
open Go.RowKit

abbrev Bs := List UInt8
theorem ret_bool {a b : Bool} (h : a = b) : Ending.returned (.bool a) = .returned (.bool b) := by rw [h]
theorem ret_int {k : IntKind} {a b : Int} (h : a = b) : Ending.returned (.int k a) = .returned (.int k b) := by rw [h]
theorem ret_str {a b : ByteArray} (h : a = b) : Ending.returned (.string a) = .returned (.string b) := by rw [h]
theorem below_bcell {W w1 : World} (hb : Below W.heap.size W w1) : (∀ b o, b < W.heap.size → w1.cell? ⟨b, o, none⟩ = W.cell? ⟨b, o, none⟩) ∧ (∀ b o, b < W.heap.size → w1.frozen? ⟨b, o, none⟩ = W.frozen? ⟨b, o, none⟩) :=
  ⟨fun b o h => hb.cell (p := ⟨b, o, none⟩) h, fun b o h => hb.frozen (p := ⟨b, o, none⟩) h⟩

/-- Block g holds the bytes l, and may be written. -/
def BRow (w : World) (g : Nat) (l : Bs) : Prop := ∀ i (h : i < l.length), w.cell? ⟨g, i, none⟩ = some (.int .u8 (l[i].toNat : Int)) ∧ w.frozen? ⟨g, i, none⟩ = false
theorem BRow.lt {w : World} {g : Nat} {l : Bs} (h : BRow w g l) (hl : l ≠ []) : g < w.heap.size :=
  World.block_lt_of_cell? w (a := ⟨g, 0, none⟩) (h 0 (by cases l; exact absurd rfl hl; simp)).1
theorem BRow.set {w : World} {g : Nat} {l : Bs} (h : BRow w g l) (j : Nat) (hj : j < l.length) (x : UInt8) (d : Int) (hd : (x.toNat : Int) = d) :
    BRow (w.setCell ⟨g, j, none⟩ (.int .u8 d)) g (l.set j x) := by
  subst hd
  intro i hi
  have hi' : i < l.length := by simpa using hi
  obtain ⟨h1, h2⟩ := h i hi'
  refine ⟨?_, by simpa using h2⟩
  by_cases e : i = j
  · subst e
    rw [List.getElem_set_self]
    exact World.cell?_setCell_same w _ _ h1
  · rw [List.getElem_set_ne (Ne.symm e), World.cell?_setCell_other w _ _ _ (fun h => e (congrArg Addr.off h).symm)]
    exact h1

/-- The first k letters turned. -/
def turned (f : UInt8 → UInt8) (l : Bs) (k : Nat) : Bs := (l.take k).map f ++ l.drop k
theorem turned_zero (f : UInt8 → UInt8) (l : Bs) : turned f l 0 = l := by simp [turned]
theorem turned_all (f : UInt8 → UInt8) (l : Bs) : turned f l l.length = l.map f := by simp [turned]
theorem turned_len (f : UInt8 → UInt8) (l : Bs) (k : Nat) : (turned f l k).length = l.length := by simp [turned]; omega
theorem turned_at (f : UInt8 → UInt8) (l : Bs) (k : Nat) (h : k < l.length) : (turned f l k)[k]'(by rw [turned_len]; exact h) = l[k] := by
  simp [turned, Nat.min_eq_left (Nat.le_of_lt h)]
theorem turned_step (f : UInt8 → UInt8) (l : Bs) (k : Nat) (h : k < l.length) : (turned f l k).set k (f l[k]) = turned f l (k + 1) := by
  apply List.ext_getElem
  · simp [turned_len]
  · intro i h1 h2
    simp only [List.getElem_set, turned, List.getElem_append, List.getElem_map, List.getElem_take, List.getElem_drop, List.length_map, List.length_take]
    simp [turned_len] at h1
    by_cases e : k = i
    · subst e; simp; omega
    · rw [if_neg e]
      split <;> split
      · rfl
      · omega
      · omega
      · congr 1; omega
theorem turned_same (f : UInt8 → UInt8) (l : Bs) (k : Nat) (h : k < l.length) (hf : f l[k] = l[k]) : turned f l (k + 1) = turned f l k := by
  rw [← turned_step f l k h, hf]
  have e := turned_at f l k h
  conv => lhs; rw [← e]
  exact List.set_getElem_self _

theorem brow_bytes (w : World) (s : ByteArray) : BRow (Lib.bytesWorld w 5 s) w.heap.size s.data.toList := by
  intro i hi
  have hi' : i < s.size := by simpa using hi
  refine ⟨?_, ?_⟩
  · rw [Lib.bytesWorld_cell w 5 s i hi']
    simp [List.getD, hi']
  · have hn := Lib.bytesWorld_at_new w 5 s
    have hz : i < (Lib.bytesCells w 5 s).size := by simp [Lib.bytesCells]; omega
    simp [World.frozen?, hn]; omega
theorem below_bytes (w : World) (s : ByteArray) : Below w.heap.size w (Lib.bytesWorld w 5 s) :=
  ⟨rfl, rfl, rfl, by rw [Lib.bytesWorld_size]; omega, fun k hk => Lib.bytesWorld_at_old w _ s k hk⟩
theorem BRow.back {w : World} {g : Nat} {l : Bs} (h : BRow w g l) (cap : Nat) : (convert 39 9 (.slice (some ⟨g, 0, none⟩) l.length cap)).run Tryd.prog w = .ok (.string ⟨l.toArray⟩) w :=
  run_convert_bytes_back w _ _ 5 ⟨g, 0, none⟩ cap l Tryd.underlying39 Tryd.underlying5 Tryd.underlying9 (fun j hj => by
    have e : (⟨g, 0, none⟩ : Addr).add j = ⟨g, j, none⟩ := by unfold Addr.add; split <;> simp_all
    rw [e]; exact (h j hj).1)

def upB (c : UInt8) : UInt8 := if 97 ≤ c.toNat ∧ c.toNat ≤ 122 then c ^^^ 32 else c
def loB (c : UInt8) : UInt8 := if 65 ≤ c.toNat ∧ c.toNat ≤ 90 then c ^^^ 32 else c
def upper (s : ByteArray) : ByteArray := ⟨(s.data.toList.map upB).toArray⟩
def lower (s : ByteArray) : ByteArray := ⟨(s.data.toList.map loB).toArray⟩

theorem below_drewN {B : Nat} {a w : World} (h : Below B a w) (n : Nat) : Below B a (w.drewN n) := ⟨h.os, h.tape, h.output, h.size, h.block⟩
end Go.Proofs.YtnlbibfjhobmjaaDoor
