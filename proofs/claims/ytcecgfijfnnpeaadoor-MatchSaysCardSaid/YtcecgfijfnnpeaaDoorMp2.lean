/- Package match, plainly: letters without their case, the numbers of words, the thing that is meant. No program is named. -/
import Derived.Test.YtcecgfijfnnpeaaDoorMp
import Derived.Lib.ParseIntB
import Derived.Lib.ItoaLen
namespace Go.Proofs.YtcecgfijfnnpeaaDoor.Mt
open Go.RowKit

def loB (c : UInt8) : UInt8 := if 65 ≤ c.toNat ∧ c.toNat ≤ 90 then c + 32 else c
def lowL (l : Ls) : Ls := l.map loB
def beginsB (n w : Ls) : Bool := Lib.hasPrefix (lowL n) (lowL w)
def alikeB (n w : Ls) : Bool := lowL n == lowL w
theorem alike_eq (n w : Ls) : alikeB n w = (n.length == w.length && beginsB n w) := by
  unfold alikeB beginsB
  rw [Bool.eq_iff_iff, Bool.and_eq_true, beq_iff_eq, beq_iff_eq, pre_iff]
  have hl : (lowL n).length = n.length ∧ (lowL w).length = w.length := by simp [lowL]
  constructor
  · intro h; exact ⟨by rw [← hl.1, ← hl.2, h], h ▸ List.prefix_refl _⟩
  · rintro ⟨h1, h2⟩; exact (h2.eq_of_length (by rw [hl.1, hl.2, h1])).symm
/-- The number that a word says. -/
def numO (w : Ls) : Option Int :=
  match w with
  | [] => none
  | c :: d => if c.toNat = 35 then (match Lib.parseIntB 32 d with | .ok v => if Lib.itoa v == d then some v else none | _ => none) else none
/-- A thing: its number, its names. -/
abbrev Tg := Int × List ByteArray
def namedB (f : Ls → Ls → Bool) (w : Ls) (t : Tg) : Bool := t.2.any (fun n => f n.data.toList w)
/-- The number of those that fit, from one on that was found. -/
def onlyB (f : Ls → Ls → Bool) (w : Ls) : List Tg → Option Int → Option Int
  | [], o => o
  | t :: r, o => if namedB f w t then (match o with | none => onlyB f w r (some t.1) | some x => if t.1 = x then onlyB f w r (some x) else some (-2)) else onlyB f w r o
def objectB (w : Ls) (l : List Tg) : Int :=
  if w = [] then -1 else
  match numO w with
  | some n => if l.any (fun t => t.1 == n) then n else -3
  | none => match onlyB alikeB w l none with
    | some x => x
    | none => match onlyB beginsB w l none with
      | some x => x
      | none => -3
theorem alike_self (n : Ls) : alikeB n n = true := by unfold alikeB; simp
theorem alike_len {n w : Ls} (h : n.length ≠ w.length) : alikeB n w = false := by
  rw [alike_eq]; rw [show (n.length == w.length) = false from by rw [beq_eq_false_iff_ne]; exact h]; rfl
theorem begins_app (n m : Ls) : beginsB (n ++ m) n = true := by
  unfold beginsB lowL; rw [pre_iff, List.map_append]; exact List.prefix_append _ _
theorem num_none {w : Ls} {c : UInt8} {r : Ls} (h : w = c :: r) (hc : c.toNat ≠ 35) : numO w = none := by
  subst h; exact if_neg hc

/-- What the statement on meaning asks. -/
theorem means_all (a b q : ByteArray) (i j : Int) (hb : 1 ≤ b.size) (hij : i ≠ j) (c : UInt8) (r : Ls) (hc : a.data.toList = c :: r) (h35 : c.toNat ≠ 35) :
    objectB a.data.toList [(i, [a]), (j, [a ++ b])] = i ∧ objectB (a ++ b).data.toList [(i, [a]), (j, [a ++ b])] = j ∧ objectB a.data.toList [(i, [a ++ b]), (j, [a ++ b, (a ++ b) ++ q])] = -2 ∧
    objectB a.data.toList [(i, [a ++ b, a])] = i ∧ objectB [] [(i, [a]), (j, [a ++ b])] = -1 ∧ objectB a.data.toList [] = -3 := by
  have hab : ∀ x y : ByteArray, (x ++ y).data.toList = x.data.toList ++ y.data.toList := fun x y => by simp [ByteArray.data_append]
  have hbl : b.data.toList.length = b.size := by simp
  have hn1 := num_none hc h35
  have hn2 : numO (a ++ b).data.toList = none := num_none (r := r ++ b.data.toList) (by rw [hab, hc]; rfl) h35
  have hne : a.data.toList ≠ [] := by rw [hc]; simp
  have hne2 : (a ++ b).data.toList ≠ [] := by rw [hab, hc]; simp
  have e1 : alikeB (a ++ b).data.toList a.data.toList = false := alike_len (by rw [hab, List.length_append]; omega)
  have e2 : alikeB a.data.toList (a ++ b).data.toList = false := alike_len (by rw [hab, List.length_append]; omega)
  have e3 : alikeB ((a ++ b) ++ q).data.toList a.data.toList = false := alike_len (by rw [hab, hab, List.length_append, List.length_append]; omega)
  have b1 : beginsB (a ++ b).data.toList a.data.toList = true := by rw [hab]; exact begins_app _ _
  have hji : ¬ j = i := fun h => hij h.symm
  clear hab
  generalize (a ++ b) ++ q = Y at *
  generalize a ++ b = X at *
  refine ⟨?_, ?_, ?_, ?_, ?_, ?_⟩
  · unfold objectB; rw [if_neg hne, hn1]; simp [onlyB, namedB, alike_self, e1]
  · unfold objectB; rw [if_neg hne2, hn2]; simp [onlyB, namedB, alike_self, e2]
  · unfold objectB; rw [if_neg hne, hn1]; simp [onlyB, namedB, e1, e3, b1, hji]
  · unfold objectB; rw [if_neg hne, hn1]; simp [onlyB, namedB, alike_self, e1]
  · unfold objectB; rw [if_pos rfl]
  · unfold objectB; rw [if_neg hne, hn1]; rfl
end Go.Proofs.YtcecgfijfnnpeaaDoor.Mt
