/- What may stand where, as plain data. No program is named. -/
import Derived.Test.YtminmadaeaiihaaDoorNt
namespace Go.Proofs.YtminmadaeaiihaaDoor
open Go.RowKit

def isStmtB (o : Int) : Bool := decide (40 ≤ o) && decide (o ≤ 51) && (o != 50)
def isExprB (o : Int) : Bool := decide (1 ≤ o) && decide (o ≤ 29) && (o != 26)
def mayStandB (o at_ : Int) (lp : Bool) : Bool :=
  if at_ = 0 then isStmtB o && (lp || ((o != 45) && (o != 46))) else if at_ = 1 then o == 52 else if at_ = 2 then o == 50 else if at_ = 4 then (o == 26) || isExprB o else
  if at_ = 5 then o == 25 else if at_ = 6 then ((o == 2) || (o == 22)) || (o == 20) else if at_ = 7 then o == 2 else if at_ = 8 then (o == 2) || (o == 26) else isExprB o
def boundsN (o : Int) : Int × Int :=
  if o = 1 ∨ o = 2 ∨ o = 45 ∨ o = 46 then (0, 0) else if o = 47 then (0, 1) else if o = 3 ∨ o = 4 ∨ o = 26 ∨ o = 40 then (1, 1) else if o = 29 then (2, 3) else if o = 19 ∨ o = 21 ∨ o = 43 then (3, 3) else
  if o = 23 ∨ o = 28 ∨ o = 41 ∨ o = 49 then (2, 9223372036854775807) else if o = 24 ∨ o = 25 ∨ o = 52 then (0, 9223372036854775807) else (2, 2)
def enoughB (o : Int) (len : Nat) : Bool := decide ((boundsN o).1 ≤ len) && decide ((len : Int) ≤ (boundsN o).2)
def isNamedB (o : Int) : Bool := (o == 2) || (o == 24) || (o == 42) || (o == 43) || (o == 50)
/-- The place of the i-th of so many, last being the last one's number. -/
def placeInN (o at_ i last : Int) : Int :=
  if o = 52 then 0 else if o = 51 then 1 else if o = 41 then (if i.tmod 2 = 1 ∨ i = last then 1 else 3) else if o = 42 ∨ o = 43 ∨ o = 44 ∨ o = 48 then (if i = last then 1 else 3) else
  if o = 49 then (if i = 0 then 1 else 2) else if o = 50 then (if i = 0 then 5 else 1) else if o = 29 then (if i = 1 then 5 else 3) else if o = 25 then (if at_ = 5 then 3 else 4) else if o = 24 then 4 else
  if o = 23 then (if i < 2 then 3 else 4) else if o = 26 then (if at_ = 8 then 7 else 3) else if o = 27 then (if i = 0 then 6 else 3) else if o = 20 then (if i = 0 ∧ at_ = 6 then 6 else 3) else
  if o = 28 then (if i = last then 3 else if i = last - 1 then 8 else 7) else 3
def keyWords : List (List UInt8) := [[105, 102], [101, 108, 115, 101, 105, 102], [101, 108, 115, 101], [101, 110, 100, 105, 102], [102, 111, 114], [105, 110], [101, 110, 100, 102, 111, 114], [119, 104, 105, 108, 101], [101, 110, 100, 119, 104, 105, 108, 101], [98, 114, 101, 97, 107], [99, 111, 110, 116, 105, 110, 117, 101], [114, 101, 116, 117, 114, 110], [102, 111, 114, 107], [101, 110, 100, 102, 111, 114, 107], [116, 114, 121], [101, 120, 99, 101, 112, 116], [102, 105, 110, 97, 108, 108, 121], [101, 110, 100, 116, 114, 121], [97, 110, 121]]
def isKeyB (s : ByteArray) : Bool := keyWords.any (fun k => s.toList == k)
def digB (c : UInt8) : Bool := decide (48 ≤ c.toNat) && decide (c.toNat ≤ 57)
def nameByteB (c : UInt8) : Bool := digB c || c.toNat == 95 || (decide (97 ≤ c.toNat) && decide (c.toNat ≤ 122))
/-- A name that is no key. -/
def isNameB (s : ByteArray) : Bool :=
  match s.data.toList with
  | [] => false
  | c :: r => decide (s.size ≤ 32) && !digB c && !isKeyB s && (c :: r).all nameByteB
/-- A value that is nothing. -/
def emptyV (v : T) : Bool := (v.k == 0) && (v.n == 0) && (v.s.size == 0) && (v.l.length == 0)
def loopIn (o : Int) (lp : Bool) : Bool := if o = 42 ∨ o = 43 ∨ o = 44 then true else if o = 48 then false else lp
end Go.Proofs.YtminmadaeaiihaaDoor
