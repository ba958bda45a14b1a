/- Contracts of the small methods of the reader of texts: what stands next, passing it, asking whether a list is open or there is room. -/
import Derived.Test.YtminmadaeaiihaaDoorOdd
import Derived.Test.YtminmadaeaiihaaDoorParse
import Derived.BigQuiet
namespace Go.Proofs.YtminmadaeaiihaaDoor
open Go.RowKit

/-- What a reader holds, but its text. -/
structure Rd where
  pos : Nat
  ov : Value
  sk : Nat
  md : Nat
  c0 : Value
  c1 : Value
  c2 : Value
  c3 : Value
theorem But.drewN {g : Nat} {a w : World} (h : But g a w) (n : Nat) : But g a (w.drewN n) := ⟨h.os, h.tape, h.output, h.size, h.block⟩
theorem below_drewN {B : Nat} {a w : World} (h : Below B a w) (n : Nat) : Below B a (w.drewN n) := ⟨h.os, h.tape, h.output, h.size, h.block⟩
/-- The byte that stands next; 0 at the end. -/
def nx : Bs → UInt8 | [] => 0 | c :: _ => c
theorem nx_end (s : ByteArray) : nx (s.data.toList.drop s.size) = 0 := by rw [List.drop_of_length_le (by simp)]; rfl
theorem nx_at (s : ByteArray) (j : Nat) (h : j < s.size) : nx (s.data.toList.drop j) = s[j] := by
  have h' : j < s.data.toList.length := by simpa using h
  rw [List.drop_eq_getElem_cons h']; rfl
theorem ret_u8 {a b : UInt8} (h : a = b) : Ending.returned (.int .u8 (a.toNat : Int)) = .returned (.int .u8 (b.toNat : Int)) := by rw [h]

theorem nx_hd {r : Bs} {n : Nat} (hn : 0 < n) : hd n r = ((nx r).toNat == n) := by
  cases r with
  | nil => simp [hd, nx]; omega
  | cons c q => rfl
theorem hd_lt {s : ByteArray} {j n : Nat} (h : hd n (s.data.toList.drop j) = true) : j < s.size := by
  rcases Nat.lt_or_ge j s.size with h1 | h1
  · exact h1
  · rw [List.drop_of_length_le (by simpa using h1)] at h; simp [hd] at h
theorem nx_isD (r : Bs) : isD (nx r) = hdD r := by cases r <;> rfl
theorem nx_drop {s : ByteArray} {j : Nat} (h : (nx (s.data.toList.drop j)).toNat ≠ 0) : j < s.size := by
  rcases Nat.lt_or_ge j s.size with h1 | h1
  · exact h1
  · rw [List.drop_of_length_le (by simpa using h1)] at h; exact absurd rfl h

theorem lcp_le : ∀ a b : Bs, lcp a b ≤ a.length ∧ lcp a b ≤ b.length
  | a :: r, b :: q => by
    rw [lcp]; have := lcp_le r q; split <;> simp <;> omega
  | [], b => by simp [lcp]
  | a :: r, [] => by simp [lcp]
theorem lcp_step {a b : ByteArray} {j : Nat} (ha : j < a.size) (hb : j < b.size) : lcp (a.data.toList.drop j) (b.data.toList.drop j) = if a[j] = b[j] then lcp (a.data.toList.drop (j + 1)) (b.data.toList.drop (j + 1)) + 1 else 0 := by
  have ha' : j < a.data.toList.length := by simpa using ha
  have hb' : j < b.data.toList.length := by simpa using hb
  rw [List.drop_eq_getElem_cons ha', List.drop_eq_getElem_cons hb', lcp]; rfl
theorem lcp_end {a b : ByteArray} {j : Nat} (h : a.size ≤ j ∨ b.size ≤ j) : lcp (a.data.toList.drop j) (b.data.toList.drop j) = 0 := by
  rcases h with h | h
  · rw [List.drop_of_length_le (l := a.data.toList) (by simpa using h)]; simp [lcp]
  · rw [List.drop_of_length_le (l := b.data.toList) (by simpa using h)]; cases a.data.toList.drop j <;> simp [lcp]

end Go.Proofs.YtminmadaeaiihaaDoor
