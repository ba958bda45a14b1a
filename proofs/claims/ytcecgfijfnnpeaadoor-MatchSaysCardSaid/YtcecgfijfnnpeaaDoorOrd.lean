/- Contracts of val's order, of the list comparison that it uses, and of Same. -/
import Derived.Test.YtcecgfijfnnpeaaDoorSmall
namespace Go.Proofs.YtcecgfijfnnpeaaDoor
open Go.RowKit

mutual
/-- The order of two values: below 0, 0, above 0. -/
def ord : T → T → Int
  | .mk k n s l, .mk k' n' s' l' => if k ≠ k' then cmpI k k' else if k = 2 then Lib.compareBytes s.data.toList s'.data.toList else if k = 4 then ordAll l l' else cmpI n n'
def ordAll : List T → List T → Int
  | [], [] => 0
  | [], _ :: _ => -1
  | _ :: _, [] => 1
  | t :: r, t' :: r' => if ord t t' ≠ 0 then ord t t' else ordAll r r'
end

theorem ordAll_drop (l l' : List T) (j : Nat) (h : j < l.length) (h' : j < l'.length) : ordAll (l.drop j) (l'.drop j) = if ord l[j] l'[j] ≠ 0 then ord l[j] l'[j] else ordAll (l.drop (j + 1)) (l'.drop (j + 1)) := by
  rw [List.drop_eq_getElem_cons h, List.drop_eq_getElem_cons h', ordAll]

/-- Same, in Bool's words. -/
def sameB (t t' : T) : Bool := ord t t' == 0
end Go.Proofs.YtcecgfijfnnpeaaDoor
