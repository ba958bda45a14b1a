/- The contract of the reader's Strs. -/
import Derived.Test.YtemkikjcjhmlaaaGreatDoorM05
import Derived.Lib.BufferRead
import Derived.OwnWalk
namespace Go.Proofs.YtemkikjcjhmlaaaGreatDoor
open Go.RowKit
set_option maxRecDepth 100000

theorem Tryz.info_u8 : (Tryz.prog.info? 5).map (fun i => (i.zero, i.size, i.bytes)) = some (some (.int .u8 0), 1, 1) := by kernel_rfl

theorem But.grown {g : Nat} {w w' : World} (h : But g w w') : w.grownBy w' (some g) := ⟨h.os, h.tape, h.output, h.size, fun k hk hne => h.block k hk (fun e => hne (by rw [e]))⟩
/-- What is owned from block B on is owned yet, where only a block below B was written. -/
theorem owns_but {g B : Nat} {w w' : World} {e : TypeId} {size n : Nat} {v : Value} {xs : List Value} (h : w.ownsRow B e size v n xs) (hb : But g w w') (hg : g < B) : w'.ownsRow B e size v n xs := by
  refine h.kept hb.grown ?_
  cases ho : v.ownBlock with
  | none => exact .inl rfl
  | some k => right; have := (h.lt k ho).1; intro e; injection e with e; omega
theorem but_grown {g : Nat} {w w1 w2 : World} {v : Value} (h : But g w w1) (hg : w1.grownBy w2 v.ownBlock) (hv : ∀ k, v.ownBlock = some k → w.heap.size ≤ k) : But g w w2 :=
  ⟨hg.os.trans h.os, hg.tape.trans h.tape, hg.output.trans h.output, Nat.le_trans h.size hg.size, fun k hk hne => by
    refine (hg.block k (Nat.lt_of_lt_of_le hk h.size) (fun e => ?_)).trans (h.block k hk hne)
    have := hv k e.symm; omega⟩
theorem conv_own {w : World} {B : Nat} {v : Value} {l : Bs} (h : w.ownsRow B 5 1 v l.length (Lib.byteCells l)) : (convert 41 9 v).run Tryz.prog w = .ok (.string ⟨l.toArray⟩) w := by
  obtain ⟨_, ⟨rfl, hn⟩ | ⟨g, cap, cur, rfl, hB, hh, hnc, hcm, hcs, htk⟩⟩ := h
  · have hl : l = [] := List.eq_nil_of_length_eq_zero hn
    subst hl
    exact Lib.run_convert_nil_bytes w _ _ _ _ Tryz.underlying41 Tryz.underlying5 Tryz.underlying9
  · rw [Nat.mul_one] at htk
    exact run_convert_bytes_back w _ _ _ ⟨g, 0, none⟩ cap l Tryz.underlying41 Tryz.underlying5 Tryz.underlying9 (Lib.bytes_of_row hh htk)
theorem one_byte (w : World) (c : Value) (t : TypeId) : ∀ (j : Nat) (u : Value), [c][j]? = some u → (w.alloc (.cells #[c] t)).cell? ((⟨w.heap.size, 0, none⟩ : Addr).add j) = some u := by
  intro j u hj
  match j, hj with
  | 0, hj =>
    simp at hj; subst hj
    exact (cell_of_row _ _ 0 _ _ _ (heap_alloc_new w (.cells #[c] t))).trans rfl

def sOut (o : Option Bs) : ByteArray := match o with | some l => ⟨l.toArray⟩ | none => ⟨#[]⟩
theorem drop_at {s : ByteArray} {p : Nat} (h : p < s.size) : s.data.toList.drop p = nx (s.data.toList.drop p) :: s.data.toList.drop (p + 1) := by
  have h' : p < s.data.toList.length := by simpa using h
  rw [List.drop_eq_getElem_cons h']; rfl
theorem drop_end {s : ByteArray} {p : Nat} (h : ¬ p < s.size) : s.data.toList.drop p = [] := List.drop_of_length_le (by simp; omega)

def pre_ (acc : Bs) (q : Option Bs × Bs) : Option Bs × Bs := (q.1.map (acc ++ ·), q.2)
theorem pre_cons (acc : Bs) (c : UInt8) (q : Option Bs × Bs) : pre_ acc (q.1.map (c :: ·), q.2) = pre_ (acc ++ [c]) q := by
  unfold pre_
  cases q.1 <;> simp

/-- What a round of the reading finds. -/
theorem strOf_bad {s : ByteArray} {p : Nat} {c : Int} (hc : ((nx (s.data.toList.drop p)).toNat : Int) = c) (h : c < 32 ∨ 126 < c) : strOf (s.data.toList.drop p) = (none, s.data.toList.drop p) := by
  by_cases hp : p < s.size
  · have e := drop_at hp
    rw [e, strOf_cons, if_pos (by omega)]
  · rw [drop_end hp, strOf_nil]
theorem strOf_q {s : ByteArray} {p : Nat} (hp : p < s.size) (hc : ((nx (s.data.toList.drop p)).toNat : Int) = 34) : strOf (s.data.toList.drop p) = (some [], s.data.toList.drop (p + 1)) := by
  rw [drop_at hp, strOf_cons, if_neg (by omega), if_pos (by omega)]
theorem strOf_b {s : ByteArray} {p : Nat} (hp : p < s.size) (hc : ((nx (s.data.toList.drop p)).toNat : Int) = 92) {d : Int} (hd : ((nx (s.data.toList.drop (p + 1))).toNat : Int) = d) (h : d ≠ 34 ∧ d ≠ 92) : strOf (s.data.toList.drop p) = (none, s.data.toList.drop (p + 1)) := by
  rw [drop_at hp, strOf_cons, if_neg (by omega), if_neg (by omega), if_pos (by omega)]
  by_cases hp1 : p + 1 < s.size
  · rw [drop_at hp1]; simp only; rw [if_neg (by omega)]
  · rw [drop_end hp1]
theorem strOf_bb {s : ByteArray} {p : Nat} (hp : p < s.size) (hc : ((nx (s.data.toList.drop p)).toNat : Int) = 92) (hp1 : p + 1 < s.size) {d : Int} (hd : ((nx (s.data.toList.drop (p + 1))).toNat : Int) = d) (h : d = 34 ∨ d = 92) (acc : Bs) :
    pre_ acc (strOf (s.data.toList.drop p)) = pre_ (acc ++ [nx (s.data.toList.drop (p + 1))]) (strOf (s.data.toList.drop (p + 2))) := by
  have e : s.data.toList.drop p = nx (s.data.toList.drop p) :: nx (s.data.toList.drop (p + 1)) :: s.data.toList.drop (p + 2) := by rw [← drop_at hp1]; exact drop_at hp
  have hb : nx (s.data.toList.drop p) = 92 := UInt8.toNat_inj.1 (by show _ = 92; omega)
  rw [hb] at e
  rw [e, strOf_back (by omega), pre_cons]
theorem strOf_p {s : ByteArray} {p : Nat} (hp : p < s.size) {c : Int} (hc : ((nx (s.data.toList.drop p)).toNat : Int) = c) (h : 32 ≤ c ∧ c ≤ 126 ∧ c ≠ 34 ∧ c ≠ 92) (acc : Bs) :
    pre_ acc (strOf (s.data.toList.drop p)) = pre_ (acc ++ [nx (s.data.toList.drop p)]) (strOf (s.data.toList.drop (p + 1))) := by
  have e : strOf (s.data.toList.drop p) = strOf (nx (s.data.toList.drop p) :: s.data.toList.drop (p + 1)) := congrArg strOf (drop_at hp)
  rw [e, strOf_plain (by omega) (by omega) (by omega), pre_cons]
theorem byteCells_snoc (acc : Bs) (c : UInt8) {d : Int} (h : (c.toNat : Int) = d) : Lib.byteCells acc ++ [.int .u8 d] = Lib.byteCells (acc ++ [c]) := by subst h; simp [Lib.byteCells]

end Go.Proofs.YtemkikjcjhmlaaaGreatDoor
