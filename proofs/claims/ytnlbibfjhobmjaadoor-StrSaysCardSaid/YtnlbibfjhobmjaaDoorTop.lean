/- A text that may not be too long: small words. -/
import Derived.Test.YtnlbibfjhobmjaaDoorShort
import Derived.Test.YtnlbibfjhobmjaaDoorRepM
namespace Go.Proofs.YtnlbibfjhobmjaaDoor
open Go.RowKit
set_option maxRecDepth 100000

theorem ext_head (s : ByteArray) (i : Nat) : (s.extract 0 i).data.toList = s.data.toList.take i := by
  simp
theorem ext_tail (s : ByteArray) (i : Nat) : (s.extract i s.size).data.toList = s.data.toList.drop i := by
  simp
  rw [List.take_of_length_le (by simp)]
theorem fits_true {n : Nat} {s : ByteArray} (h : n + s.size < 4096) : fits n s = true := by simp [fits, h]
theorem fits_false {n : Nat} {s : ByteArray} (h : ¬ n + s.size < 4096) : fits n s = false := by simp [fits]; omega
theorem len_list (s : ByteArray) : s.data.toList.length = s.size := by simp
theorem topS_big {l : Bs} (h : ¬ l.length < 4096) : topS l = ⟨#[]⟩ := if_neg h
theorem topC_big {l : Bs} (h : ¬ l.length < 4096) : topC l = 14 := if_neg h
theorem topS_small {l : Bs} (h : l.length < 4096) : topS l = ⟨l.toArray⟩ := if_pos h
theorem topC_small {l : Bs} (h : l.length < 4096) : topC l = 0 := if_pos h
theorem ret_two {a b : ByteArray} {c d : Int} (h : a = b) (h2 : c = d) : Ending.returned (.tuple #[.string a, .int .i64 c]) = .returned (.tuple #[.string b, .int .i64 d]) := by rw [h, h2]

end Go.Proofs.YtnlbibfjhobmjaaDoor
