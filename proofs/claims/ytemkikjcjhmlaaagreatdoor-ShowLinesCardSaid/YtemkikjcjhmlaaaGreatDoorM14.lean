/- The writer of package show: parts. -/
import Derived.Test.YtemkikjcjhmlaaaGreatDoorM13
import Derived.Test.YtemkikjcjhmlaaaGreatDoorM00
import Derived.Test.YtemkikjcjhmlaaaGreatDoorProg
import Derived.Below
import Derived.WalkKit
import Derived.ProofKit
import Derived.Lib.Hide
import Derived.Lib.ConvBytes
import Derived.Laws.IdiomStrings
import Derived.LoopTactic
import Derived.Deep.RegionWith
import Derived.Deep.DeepCutAuto
import Derived.Deep.QuietTactic
import Derived.BigQuiet
import Derived.Deep.RegionHeld3
import Derived.Lib.Builder
import Derived.Lib.UnsafeStr
import Derived.Lib.MakeNoZero
import Derived.Laws.Externs
import Derived.Laws.IdiomCopy
import Derived.Laws.BitsLemmas
import Derived.Shelf.Strings.Builder1
import Derived.Test.YtemkikjcjhmlaaaGreatDoorM09
namespace Go.Proofs.YtemkikjcjhmlaaaGreatDoor.Sh
open Go.RowKit
set_option maxRecDepth 100000

def parB (b : Bool) (x : List UInt8) : List UInt8 := if b = true then [40] ++ x ++ [41] else x
/-- What stands in brackets within another expression. -/
def looseN : Nd → Bool
  | .mk o _ _ v _ => if o = 1 then (decide (v.k = 0) || decide (v.k = 1)) && decide (v.n < 0) else decide (o = 19) || decide (o = 27) || decide (o = 28) || (decide (3 ≤ o) && decide (o ≤ 18))
mutual
/-- What begins with a digit. -/
def digN : Nd → Bool
  | .mk o _ _ v l => if o = 1 then decide (v.k = 0) && decide (0 ≤ v.n) else if 20 ≤ o ∧ o ≤ 23 then digH l else false
def digH : List Nd → Bool
  | [] => false
  | t :: _ => digN t
end
def okF : Flt → Bool
  | .ok => true
  | _ => false
/-- A name that a variable may have. -/
def nameB (s : ByteArray) : Bool := okF (vldF [.mk 2 0 s zV []] 3)
/-- The first j of xs, sep i behind the i-th. -/
def jn (sep : Nat → List UInt8) (xs : List (List UInt8)) : Nat → List UInt8
  | 0 => []
  | j + 1 => jn sep xs j ++ ((if j = 0 then [] else sep (j - 1)) ++ xs.getD j [])
def joinS (sep : List UInt8) (xs : List (List UInt8)) : List UInt8 := jn (fun _ => sep) xs xs.length
def sgT (o : Int) : List UInt8 :=
  if o = 5 then [43] else if o = 6 then [45] else if o = 7 then [42] else if o = 8 then [47] else if o = 9 then [37] else if o = 10 then [61, 61] else if o = 11 then [33, 61] else if o = 12 then [60] else if o = 13 then [60, 61] else if o = 14 then [62] else
  if o = 15 then [62, 61] else if o = 16 then [105, 110] else if o = 17 then [38, 38] else [124, 124]
/-- The name of a Prop or of a Call. -/
def nmT : Nd → List UInt8 → List UInt8
  | .mk o _ _ v _, x => if o = 1 ∧ v.k = 2 ∧ nameB v.s = true then v.s.data.toList else parB true x
/-- An expression that needs no brackets, out of its parts' texts (cs: of those that hold codes). -/
def combT (o : Int) (s : ByteArray) (v : T) (l : List Nd) (xs cs : List (List UInt8)) : List UInt8 :=
  let ps := List.zipWith (fun t x => parB (looseN t) x) l xs
  if o = 1 then tx v
  else if o = 2 then s.data.toList
  else if o = 3 then [45] ++ (match l, xs with | t :: _, x :: _ => parB (looseN t || digN t) x | _, _ => [])
  else if o = 4 then [33] ++ ps.getD 0 []
  else if o = 19 then jn (fun i => if i = 0 then [32, 63, 32] else [32, 124, 32]) ps ps.length
  else if o = 20 ∨ o = 21 then ps.getD 0 [] ++ [91] ++ joinS [46, 46] (xs.drop 1) ++ [93]
  else if o = 22 then ps.getD 0 [] ++ [46] ++ (match l, xs with | _ :: t :: _, _ :: x :: _ => nmT t x | _, _ => [])
  else if o = 23 then ps.getD 0 [] ++ [58] ++ (match l, xs with | _ :: t :: _, _ :: x :: _ => nmT t x | _, _ => []) ++ s.data.toList ++ [40] ++ joinS [44, 32] (xs.drop 2) ++ [41]
  else if o = 24 then s.data.toList ++ [40] ++ joinS [44, 32] xs ++ [41]
  else if o = 25 then [123] ++ joinS [44, 32] xs ++ [125]
  else if o = 26 then [64] ++ xs.getD 0 []
  else if o = 27 then joinS [32, 61, 32] xs
  else if o = 28 then [123] ++ joinS [44, 32] xs.dropLast ++ [125] ++ [32, 61, 32] ++ xs.getLastD []
  else if o = 29 then [96] ++ ps.getD 0 [] ++ [32, 33, 32] ++ cs.getD 1 [] ++ (if 2 < l.length then [32, 61, 62, 32] ++ ps.getD 2 [] else []) ++ [39]
  else jn (fun _ => [32] ++ sgT o ++ [32]) ps ps.length
mutual
/-- An expression as text. -/
def wT : Nd → List UInt8
  | .mk o _ s v l => combT o s v l (wAll l) (cAll l)
def wAll : List Nd → List (List UInt8)
  | [] => []
  | t :: r => wT t :: wAll r
/-- The codes of a node that holds some. -/
def cT : Nd → List UInt8
  | .mk _ _ _ _ l => match wAll l with | [] => [97, 110, 121] | xs => joinS [44, 32] xs
def cAll : List Nd → List (List UInt8)
  | [] => []
  | t :: r => cT t :: cAll r
end
theorem wAll_len : ∀ l, (wAll l).length = l.length
  | [] => rfl
  | _ :: r => by rw [wAll, List.length_cons, List.length_cons, wAll_len r]
theorem wAll_get : ∀ (l : List Nd) (i : Nat) (h : i < l.length), (wAll l).getD i [] = wT l[i]
  | _ :: _, 0, _ => by simp [wAll]
  | t :: r, i + 1, h => by rw [wAll]; simpa using wAll_get r i (by simpa using h)
theorem jn_mono (sep : Nat → List UInt8) (xs : List (List UInt8)) : ∀ i j, i ≤ j → (jn sep xs i).length ≤ (jn sep xs j).length
  | i, 0, h => by have : i = 0 := by omega
                  subst this; exact Nat.le_refl _
  | i, j + 1, h => by
    rcases Nat.lt_or_ge i (j + 1) with h1 | h1
    · have := jn_mono sep xs i j (by omega)
      rw [jn, List.length_append]; omega
    · have : i = j + 1 := by omega
      subst this; exact Nat.le_refl _
end Go.Proofs.YtemkikjcjhmlaaaGreatDoor.Sh
namespace Go.Proofs.YtemkikjcjhmlaaaGreatDoor.Sh
open Go.RowKit
set_option maxRecDepth 100000

theorem size_builder : (Tryz.prog.info? 43).map (·.size) = some 2 := by kernel_rfl
theorem lies_writer : liesAt Tryz.prog Tryz.prog.depth 45 (3 / Tryz.prog.cellsOf 45) 0 43 1 = true := by kernel_rfl
theorem info_byte : (Tryz.prog.info? 5).map (fun i => (i.zero, i.size, i.bytes)) = some (some (.int .u8 0), 1, 1) := by kernel_rfl
theorem cells_byte : Tryz.prog.cellsOf 5 = 1 := by kernel_rfl
theorem ltW {w : World} {g : Nat} {o : Obj} (h : w.heap[g]? = some o) : g < w.heap.size := by
  rcases Nat.lt_or_ge g w.heap.size with h1 | h1
  · exact h1
  · rw [Array.getElem?_eq_none h1] at h; cases h
theorem row3 {w : World} {b : Nat} {x y z : Value} {T : TypeId} (h : w.heap[b]? = some (.cells #[x, y, z] T (0, 0))) : w.cell? ⟨b, 0, none⟩ = some x ∧ w.cell? ⟨b, 1, none⟩ = some y ∧ w.cell? ⟨b, 2, none⟩ = some z ∧ ∀ o, w.frozen? ⟨b, o, none⟩ = false :=
  ⟨(cell_of_row _ _ 0 _ _ _ h).trans rfl, (cell_of_row _ _ 1 _ _ _ h).trans rfl, (cell_of_row _ _ 2 _ _ _ h).trans rfl, fun o => by simp [World.frozen?, h]⟩

/-- The writer in block b, k Blocks deep: it holds the text X. -/
def Wr (B b : Nat) (k : Int) (X : List UInt8) (w : World) : Prop :=
  B ≤ b ∧ ∃ a v, (a = .pointer none ∨ a = .pointer (some ⟨b, 0, none⟩)) ∧ w.heap[b]? = some (.cells #[a, v, .int .i64 k] 45 (0, 0)) ∧ w.ownsRow B 5 1 v X.length (Lib.byteCells X)
/-- Boxes and rows of other types than bytes, beside the writer, stay as they are. -/
def Kp (b : Nat) (w w' : World) : Prop := ∀ (Y : Nat) (cs : Array Value) (T : TypeId), T ≠ 5 → Y ≠ b → w.heap[Y]? = some (.cells cs T (0, 0)) → w'.heap[Y]? = some (.cells cs T (0, 0))
theorem Kp.refl (b : Nat) (w : World) : Kp b w w := fun _ _ _ _ _ h => h
theorem Kp.trans {b : Nat} {a w w' : World} (h : Kp b a w) (k : Kp b w w') : Kp b a w' := fun X cs T h1 h2 h3 => k X cs T h1 h2 (h X cs T h1 h2 h3)
theorem Kp.set {b : Nat} {a w : World} (h : Kp b a w) (o : Nat) (u : Value) : Kp b a (w.setCell ⟨b, o, none⟩ u) := fun X cs T h1 h2 h3 => (Below.heap_setCell _ _ _ _ h2).trans (h X cs T h1 h2 h3)
theorem Kp.of_below {b : Nat} {w w' : World} (h : Below w.heap.size w w') : Kp b w w' := fun _ _ _ _ _ h3 => (h.block _ (ltW h3)).trans h3
theorem Kp.alloc {b : Nat} {a w : World} (h : Kp b a w) (o : Obj) : Kp b a (w.alloc o) := h.trans (.of_below ((Below.refl _ w).alloc (Nat.le_refl _) o))
theorem own_not {w : World} {B n : Nat} {v : Value} {xs : List Value} {Y : Nat} {cs : Array Value} {T : TypeId} (ho : w.ownsRow B 5 1 v n xs) (hT : T ≠ 5) (h : w.heap[Y]? = some (.cells cs T (0, 0))) : some Y ≠ v.ownBlock := fun e => by
  rcases ho.2 with ⟨rfl, _⟩ | ⟨g, cap, cur, rfl, _, hgg, _⟩
  · cases e
  · simp only [Value.ownBlock, Option.some.injEq] at e
    subst e
    rw [h] at hgg
    simp only [Option.some.injEq, Obj.cells.injEq] at hgg
    exact hT hgg.2.1
theorem Kp.grown {b B n : Nat} {a w w' : World} {v : Value} {xs : List Value} (h : Kp b a w) (ho : w.ownsRow B 5 1 v n xs) (hg : w.grownBy w' v.ownBlock) : Kp b a w' := fun X cs T h1 h2 h3 => by
  have := h X cs T h1 h2 h3
  exact (hg.block X (ltW this) (own_not ho h1 this)).trans this
theorem own_set {w : World} {B n b o : Nat} {v u : Value} {xs : List Value} {cs : Array Value} {T : TypeId} (ho : w.ownsRow B 5 1 v n xs) (hT : T ≠ 5) (h : w.heap[b]? = some (.cells cs T (0, 0))) : (w.setCell ⟨b, o, none⟩ u).ownsRow B 5 1 v n xs := by
  refine ⟨ho.1, ?_⟩
  rcases ho.2 with h0 | ⟨g, cap, cur, hv, hg, hh, r⟩
  · exact .inl h0
  · refine .inr ⟨g, cap, cur, hv, hg, (Below.heap_setCell _ _ _ _ (fun e => own_not ho hT h ?_)).trans hh, r⟩
    rw [hv]; exact congrArg some e.symm
theorem own_below {w w' : World} {B n : Nat} {v : Value} {xs : List Value} (ho : w.ownsRow B 5 1 v n xs) (hb : Below w.heap.size w w') : w'.ownsRow B 5 1 v n xs := by
  refine ⟨ho.1, ?_⟩
  rcases ho.2 with h0 | ⟨g, cap, cur, hv, hg, hh, r⟩
  · exact .inl h0
  · exact .inr ⟨g, cap, cur, hv, hg, (hb.block _ (ltW hh)).trans hh, r⟩
theorem Wr.below {B b : Nat} {k : Int} {X : List UInt8} {w w' : World} (h : Wr B b k X w) (hb : Below w.heap.size w w') : Wr B b k X w' := by
  obtain ⟨h0, a, v, ha, hh, ho⟩ := h
  exact ⟨h0, a, v, ha, (hb.block _ (ltW hh)).trans hh, own_below ho hb⟩
theorem Wr.lt {B b : Nat} {k : Int} {X : List UInt8} {w : World} (h : Wr B b k X w) : b < w.heap.size := by
  obtain ⟨_, a, v, _, hh, _⟩ := h; exact ltW hh
theorem Wr.fresh (w : World) : Wr w.heap.size w.heap.size 0 [] (w.alloc (.cells #[.pointer none, .slice none 0 0, .int .i64 0] 45)) :=
  ⟨Nat.le_refl _, _, _, .inl rfl, heap_alloc_new w _, World.ownsRow_nil _ _ _ _⟩

set_option maxHeartbeats 1000000 in
theorem copy_used (b : Nat) (w : World) (h0 : w.cell? ⟨b, 0, none⟩ = some (.pointer (some ⟨b, 0, none⟩))) :
    Calls Tryz.prog 89 #[.pointer (some ⟨b, 0, none⟩)] w fun e w' => e = .returned (.tuple #[]) ∧ w' = w := by
  obtain ⟨j, hj, _⟩ := Option.map_eq_some_iff.1 size_builder
  go_enter Tryz.func89, Tryz.ntmps89
  go_wp2
  rw [Lib.run_neq_ptr_same w _ Tryz.underlying40 hj]
  go_wp2
  go_end0
  exact ⟨rfl, rfl⟩
set_option maxHeartbeats 1000000 in
theorem copy_fresh (b : Nat) (w : World) (h0 : w.cell? ⟨b, 0, none⟩ = some (.pointer none)) (hsh : w.shape? b = some (45, 3)) (hfz : w.frozen? ⟨b, 0, none⟩ = false) :
    Calls Tryz.prog 89 #[.pointer (some ⟨b, 0, none⟩)] w fun e w' => e = .returned (.tuple #[]) ∧ w' = w.setCell ⟨b, 0, none⟩ (.pointer (some ⟨b, 0, none⟩)) := by
  obtain ⟨j, hj, hjs⟩ := Option.map_eq_some_iff.1 size_builder
  go_enter Tryz.func89, Tryz.ntmps89
  go_wp2
  rw [Lib.run_to_unsafe w ⟨b, 0, none⟩ Tryz.underlying40 Tryz.underlying128 hj (by rw [hjs]; decide) hsh (Nat.zero_lt_succ 2)]
  simp only [Result.andThen]
  rw [Oper.upon_value]
  go_wp2
  rw [run_callFunc_extern Tryz.func103 (by kernel_rfl) (by kernel_rfl) (by kernel_rfl) (e := Extern.AbiNoEscape.same) (by kernel_rfl)]
  rw [Lib.run_noEscape]
  simp only [Result.andThen]
  rw [Oper.upon_value]
  go_wp2
  rw [Lib.run_from_unsafe w ⟨b, 0, none⟩ Tryz.underlying128 Tryz.underlying40 hj hsh lies_writer]
  simp only [Result.andThen]
  rw [Oper.upon_value]
  go_wp2
  go_end0
  exact ⟨rfl, rfl⟩
theorem copy_any (B b : Nat) (k : Int) (X : List UInt8) (w : World) (h : Wr B b k X w) :
    Calls Tryz.prog 89 #[.pointer (some ⟨b, 0, none⟩)] w fun e w' => e = .returned (.tuple #[]) ∧ (∃ v, w'.heap[b]? = some (.cells #[.pointer (some ⟨b, 0, none⟩), v, .int .i64 k] 45 (0, 0)) ∧ w'.ownsRow B 5 1 v X.length (Lib.byteCells X)) ∧ Below B w w' ∧ Kp b w w' := by
  obtain ⟨hB, a, v, ha, hh, ho⟩ := h
  obtain ⟨c0, _, _, hf⟩ := row3 hh
  rcases ha with rfl | rfl
  · refine (copy_fresh b w c0 (by simp [World.shape?, hh]) (hf 0)).mono ?_
    rintro e w' ⟨rfl, rfl⟩
    exact ⟨rfl, ⟨v, by simp [World.setCell, Array.getElem?_modify, hh], own_set ho (by decide) hh⟩, (Below.refl B w).setCell (p := ⟨b, 0, none⟩) hB _, (Kp.refl _ _).set _ _⟩
  · refine (copy_used b w c0).mono ?_
    rintro e w' ⟨rfl, rfl⟩
    exact ⟨rfl, ⟨v, hh, ho⟩, Below.refl B _, Kp.refl _ _⟩

set_option maxHeartbeats 2000000 in
theorem write_any (B b : Nat) (k : Int) (X : List UInt8) (s : ByteArray) (w : World) (h : Wr B b k X w) (hlen : X.length + s.size ≤ 70368744177664) (hBw : B ≤ w.heap.size) :
    Calls Tryz.prog 67 #[.pointer (some ⟨b, 0, none⟩), .string s] w fun e w' => e = .returned (.tuple #[.int .i64 s.size, .nilIface]) ∧ Wr B b k (X ++ s.data.toList) w' ∧ Below B w w' ∧ Kp b w w' := by
  obtain ⟨i0, hi, hz0, hz1, hz2⟩ := info_parts info_byte
  have HC := Lib.hid (copy_any B b k X w h)
  have hB := h.1
  clear h
  go_enter Tryz.func67, Tryz.ntmps67
  go_wp2_with (go_at_call 89; refine HC.out.mono ?_)
  rintro e w1 ⟨rfl, ⟨v, hbk, hown⟩, hb1, hk1⟩
  obtain ⟨c0, c1, c2, hcf⟩ := row3 hbk
  go_wp2_with (at_builtin; refine Lib.wpList_append_own_string _ rfl _ _ 41 9 rfl B 5 i0 Tryz.underlying41 Tryz.underlying9 hi hz0 hz1 hz2 _ _ _ rfl hown s rfl ?c3 ?c4 ?c5 ?_)
  case c3 => unfold maxLen; omega
  case c4 => omega
  case c5 => have := hb1.size; omega
  intro v' w2 hown' hgrow _
  have hb2 : w2.heap[b]? = some (.cells #[.pointer (some ⟨b, 0, none⟩), v, .int .i64 k] 45 (0, 0)) := (hgrow.block b (ltW hbk) (own_not hown (by decide) hbk)).trans hbk
  obtain ⟨d0, d1, d2, hdf⟩ := row3 hb2
  have f1 := hdf 1
  obtain ⟨ao, n', cap, rfl⟩ : ∃ ao n' cap, v' = .slice ao n' cap := by
    rcases hown'.2 with ⟨hv, _⟩ | ⟨g, cap, cur, hv, _⟩
    · exact ⟨_, _, _, hv⟩
    · exact ⟨_, _, _, hv⟩
  go_wp2
  go_ret2
  refine ⟨rfl, ⟨hB, .pointer (some ⟨b, 0, none⟩), .slice ao n' cap, .inr rfl, by simp [World.setCell, Array.getElem?_modify, hb2], ?_⟩, ?_, (hk1.grown hown hgrow).set _ _⟩
  · have := own_set (b := b) (o := 1) (u := .slice ao n' cap) hown' (by decide) hb2
    rw [Lib.strCells_eq, ← Lib.byteCells_append] at this
    rw [List.length_append, Array.length_toList]
    exact this
  · exact (hb1.grown hgrow (by have := hb1.size; omega) (fun k hk => (hown.lt k hk).1)).setCell (p := ⟨b, 1, none⟩) hB _

/-- What a function of the writer leaves. -/
def WPost (B b : Nat) (k : Int) (X : List UInt8) (w : World) (e : Ending) (w' : World) : Prop := e = .returned (.tuple #[]) ∧ Wr B b k X w' ∧ Below B w w' ∧ Kp b w w'
def flatB (ss : List ByteArray) : List UInt8 := ss.flatMap (·.data.toList)
theorem flatB_snoc (ss : List ByteArray) (j : Nat) (h : j < ss.length) : flatB (ss.take (j + 1)) = flatB (ss.take j) ++ ss[j].data.toList := by
  unfold flatB; rw [List.take_succ_eq_append_getElem h, List.flatMap_append]; simp
theorem flatB_le (ss : List ByteArray) (j : Nat) : (flatB (ss.take j)).length ≤ (flatB ss).length := by
  have h := congrArg (fun l => (flatB l).length) (List.take_append_drop j ss)
  simp only [flatB, List.flatMap_append, List.length_append] at h ⊢
  omega

set_option maxHeartbeats 2000000 in
theorem put_any (B b g c : Nat) (k : Int) (X : List UInt8) (ss : List ByteArray) (w : World) (h : Wr B b k X w) (hg : w.heap[g]? = some (.cells (ss.map Value.string).toArray 9 (0, 0))) (hgb : g ≠ b) (hss : ss.length ≤ 1000) (hlen : X.length + (flatB ss).length ≤ 70368744177664) (hBw : B ≤ w.heap.size) :
    Calls Tryz.prog 37 #[.pointer (some ⟨b, 0, none⟩), .slice (some ⟨g, 0, none⟩) ss.length c] w (WPost B b k (X ++ flatB ss) w) := by
  have H := Lib.hid h
  have HG := Lib.hid hg
  clear h hg
  have hsl : (ss.length : Int) ≤ 1000 := by omega
  go_enter Tryz.func37, Tryz.ntmps37
  go_wp2
  go_loopw [8] (fun i wr => ∃ j : Nat, j ≤ ss.length ∧ i = .int .i64 j ∧ Hid (Wr B b k (X ++ flatB (ss.take j)) wr) ∧ Hid (Below B w wr) ∧ Hid (Kp b w wr)) (fun i _ => ss.length - (intOf i).toNat)
  case atStart => exact ⟨0, Nat.zero_le _, rfl, Lib.hid (by simpa [flatB] using H.out), Lib.hid (Below.refl _ _), Lib.hid (Kp.refl _ _)⟩
  case round =>
    obtain ⟨j, hj, rfl, HW, HB, HK⟩ := hrel
    have hz := HB.out.size
    by_cases hlt : j < ss.length
    · have hgr := HK.out g _ _ (by decide) hgb HG.out
      have hc : wr.cell? ⟨g, j, none⟩ = some (.string ss[j]) := by
        rw [cell_of_row _ _ _ _ _ _ hgr]; simp [hlt]
      have hlw : (X ++ flatB (ss.take j)).length + ss[j].size ≤ 70368744177664 := by
        have h1 := flatB_le ss (j + 1)
        have hds : ss[j].data.toList.length = ss[j].size := Array.length_toList ..
        rw [flatB_snoc ss j hlt, List.length_append, hds] at h1
        rw [List.length_append]
        omega
      have HC := Lib.hid (write_any B b k _ ss[j] wr HW.out hlw (by omega))
      have HST := Lib.hid (show X ++ flatB (ss.take (j + 1)) = X ++ flatB (ss.take j) ++ ss[j].data.toList from by rw [flatB_snoc ss j hlt, List.append_assoc])
      obtain ⟨s, hs⟩ : ∃ s, s = ss[j] := ⟨_, rfl⟩
      rw [← hs] at hc HC HST
      clear hs hgr hlw
      go_wp2_with (go_at_call 67; refine HC.out.mono ?_; rintro e w2 ⟨rfl, h2, hb2, hk2⟩; have H2 := Lib.hid h2; have HB2 := Lib.hid (HB.out.trans hb2); have HK2 := Lib.hid (HK.out.trans hk2); clear h2 hb2 hk2)
      go_roundw
      case rel => exact ⟨j + 1, by omega, by go_num, by rw [HST.out]; exact H2, HB2, HK2⟩
      case measure => simp [intOf]; omega
    · have hje : j = ss.length := by omega
      have HF := Lib.hid (show X ++ flatB ss = X ++ flatB (ss.take j) from by rw [hje, List.take_length])
      go_wp2
      go_end0
      exact ⟨rfl, by rw [HF.out]; exact HW.out, HB.out, HK.out⟩
end Go.Proofs.YtemkikjcjhmlaaaGreatDoor.Sh
namespace Go.Proofs.YtemkikjcjhmlaaaGreatDoor.Sh
open Go.RowKit
set_option maxRecDepth 100000

set_option maxHeartbeats 1000000 in
theorem string_some (B b : Nat) (k : Int) (l : List UInt8) (w : World) (h : Wr B b k l w) (h0 : l ≠ []) :
    Calls Tryz.prog 12 #[.pointer (some ⟨b, 0, none⟩)] w fun e w' => e = .returned (.string ⟨l.toArray⟩) ∧ Below B w w' := by
  obtain ⟨hB, p, v, _, hbk, hown⟩ := h
  have hl0 : l.length ≠ 0 := by simpa using h0
  obtain ⟨g, cap, cur, rfl, hbg, hg, hnc, hcm, hcs, htake⟩ : ∃ g cap cur, v = .slice (some ⟨g, 0, none⟩) l.length cap ∧ B ≤ g ∧ w.heap[g]? = some (.cells cur 5 (0, 0)) ∧ l.length ≤ cap ∧ cap ≤ maxLen ∧ cur.size = cap * 1 ∧ cur.toList.take (l.length * 1) = Lib.byteCells l := by
    rcases hown.2 with ⟨_, hz⟩ | ⟨g, cap, cur, hv, r⟩
    · exact absurd hz hl0
    · exact ⟨g, cap, cur, hv, r⟩
  have c1 : w.drew.cell? ⟨b, 1, none⟩ = some (.slice (some ⟨g, 0, none⟩) l.length cap) := by
    have : w.drew.heap[b]? = some (.cells #[p, .slice (some ⟨g, 0, none⟩) l.length cap, .int .i64 k] 45 (0, 0)) := hbk
    rw [Lib.cell_of_heap this]; rfl
  have hSD : (Builtin.unsafeSliceData_ #[41] 58 #[.slice (some ⟨g, 0, none⟩) l.length cap]).run Tryz.prog w.drew = .ok (.pointer (some ⟨g, 0, none⟩)) w.drew :=
    Lib.run_unsafeSliceData_row _ _ _ _ _ _ (by omega)
  have hUS : (Builtin.unsafeString_ #[58, 3] 9 #[.pointer (some ⟨g, 0, none⟩), .int .i64 l.length]).run Tryz.prog w.drew = .ok (.string ⟨l.toArray⟩) (w.drew.freeze ⟨g, 0, none⟩ l.length) := by
    refine Lib.run_unsafeString_row w.drew 58 3 9 5 Tryz.underlying58 cells_byte g cur.size (by have hg' : w.drew.heap[g]? = some (.cells cur 5 (0, 0)) := hg; simp [World.shape?, hg']) l h0 (by omega) (by unfold maxLen at hcm; omega) ?_
    intro j x hx
    have := hown.cells (g := g) rfl j (.int .u8 x.toNat) (by simp [Lib.byteCells, hx])
    exact this
  clear hown
  go_enter Tryz.func12, Tryz.ntmps12
  go_wp2
  go_region
  all_goals (go_wp2; go_ret; exact ⟨rfl, Lib.below_freeze (Below.drew (Below.refl B w)) (p := ⟨g, 0, none⟩) hbg _⟩)

theorem string_none (W : World) (q : Option Addr) : (Builtin.unsafeString_ #[58, 3] 9 #[.pointer q, .int .i64 0]).run Tryz.prog W = .ok (.string .empty) W :=
  Lib.run_unsafeString_none W _ _ _ q

set_option maxHeartbeats 2000000 in
theorem string_nil (B b : Nat) (k : Int) (p : Value) (w : World) (hbk : w.heap[b]? = some (.cells #[p, .slice none 0 0, .int .i64 k] 45 (0, 0))) :
    Calls Tryz.prog 12 #[.pointer (some ⟨b, 0, none⟩)] w fun e w' => e = .returned (.string ⟨#[]⟩) ∧ Below B w w' := by
  have hUS := string_none
  have c1 : w.drew.cell? ⟨b, 1, none⟩ = some (.slice none 0 0) := by
    have : w.drew.heap[b]? = some (.cells #[p, .slice none 0 0, .int .i64 k] 45 (0, 0)) := hbk
    rw [Lib.cell_of_heap this]; rfl
  have hSD : (Builtin.unsafeSliceData_ #[41] 58 #[.slice none 0 0]).run Tryz.prog w.drew = .ok (.pointer none) w.drew := rfl
  go_enter Tryz.func12, Tryz.ntmps12
  go_wp2
  go_region
  all_goals (go_wp2; go_ret; exact ⟨rfl, Below.drew (Below.refl B w)⟩)

set_option maxHeartbeats 2000000 in
theorem string_noroom (B b g : Nat) (k : Int) (p : Value) (cur : Array Value) (w : World) (hBw : B ≤ w.heap.size) (hbk : w.heap[b]? = some (.cells #[p, .slice (some ⟨g, 0, none⟩) 0 0, .int .i64 k] 45 (0, 0))) (hg : w.heap[g]? = some (.cells cur 5 (0, 0))) :
    Calls Tryz.prog 12 #[.pointer (some ⟨b, 0, none⟩)] w fun e w' => e = .returned (.string ⟨#[]⟩) ∧ Below B w w' := by
  have hUS := string_none
  have hlt : b < w.heap.size := by
    rcases Nat.lt_or_ge b w.heap.size with h' | h'
    · exact h'
    · simp [Array.getElem?_eq_none h'] at hbk
  have c1 : w.drew.cell? ⟨b, 1, none⟩ = some (.slice (some ⟨g, 0, none⟩) 0 0) := by
    have : w.drew.heap[b]? = some (.cells #[p, .slice (some ⟨g, 0, none⟩) 0 0, .int .i64 k] 45 (0, 0)) := hbk
    rw [Lib.cell_of_heap this]; rfl
  have hSD : (Builtin.unsafeSliceData_ #[41] 58 #[.slice (some ⟨g, 0, none⟩) 0 0]).run Tryz.prog w.drew = .ok (.pointer (some ⟨w.drew.heap.size, 0, none⟩)) (w.drew.alloc (.view ⟨g, 0, none⟩ 5)) :=
    Lib.run_unsafeSliceData_zero w.drew _ _ 5 Tryz.underlying58 ⟨g, 0, none⟩ 0 (5, cur.size) (by have hg' : w.drew.heap[g]? = some (.cells cur 5 (0, 0)) := hg; simp [World.shape?, hg'])
  have c2 : (w.drew.alloc (.view ⟨g, 0, none⟩ 5)).cell? ⟨b, 1, none⟩ = some (.slice (some ⟨g, 0, none⟩) 0 0) := by
    have : (w.drew.alloc (.view ⟨g, 0, none⟩ 5)).heap[b]? = _ := (Lib.alloc_old w.drew _ b hlt).trans hbk
    rw [Lib.cell_of_heap this]; rfl
  have c3 : (w.alloc (.view ⟨g, 0, none⟩ 5)).drew.cell? ⟨b, 1, none⟩ = some (.slice (some ⟨g, 0, none⟩) 0 0) := c2
  have c0 : w.cell? ⟨b, 1, none⟩ = some (.slice (some ⟨g, 0, none⟩) 0 0) := c1
  go_enter Tryz.func12, Tryz.ntmps12
  go_wp2
  go_region
  all_goals (go_wp2; go_ret; exact ⟨rfl, (Below.drew (Below.refl B w)).alloc hBw _⟩)

set_option maxHeartbeats 2000000 in
theorem string_room (B b g cap : Nat) (k : Int) (p : Value) (w : World) (hc0 : cap ≠ 0) (hbk : w.heap[b]? = some (.cells #[p, .slice (some ⟨g, 0, none⟩) 0 cap, .int .i64 k] 45 (0, 0))) :
    Calls Tryz.prog 12 #[.pointer (some ⟨b, 0, none⟩)] w fun e w' => e = .returned (.string ⟨#[]⟩) ∧ Below B w w' := by
  have hUS := string_none
  have c1 : w.drew.cell? ⟨b, 1, none⟩ = some (.slice (some ⟨g, 0, none⟩) 0 cap) := by
    have : w.drew.heap[b]? = some (.cells #[p, .slice (some ⟨g, 0, none⟩) 0 cap, .int .i64 k] 45 (0, 0)) := hbk
    rw [Lib.cell_of_heap this]; rfl
  have hSD : (Builtin.unsafeSliceData_ #[41] 58 #[.slice (some ⟨g, 0, none⟩) 0 cap]).run Tryz.prog w.drew = .ok (.pointer (some ⟨g, 0, none⟩)) w.drew :=
    Lib.run_unsafeSliceData_row _ _ _ _ _ _ hc0
  clear hc0
  go_enter Tryz.func12, Tryz.ntmps12
  go_wp2
  go_region
  all_goals (go_wp2; go_ret; exact ⟨rfl, Below.drew (Below.refl B w)⟩)

theorem string_any (B b : Nat) (k : Int) (l : List UInt8) (w : World) (h : Wr B b k l w) (hBw : B ≤ w.heap.size) :
    Calls Tryz.prog 12 #[.pointer (some ⟨b, 0, none⟩)] w fun e w' => e = .returned (.string ⟨l.toArray⟩) ∧ Below B w w' := by
  cases l with
  | nil =>
    obtain ⟨hB, p, v, _, hbk, hown⟩ := h
    rcases hown.2 with ⟨rfl, _⟩ | ⟨g, cap, cur, rfl, hbg, hg, _, _, _, _⟩
    · exact string_nil B b k p w hbk
    · by_cases hc0 : cap = 0
      · subst hc0
        exact string_noroom B b g k p cur w hBw hbk hg
      · exact string_room B b g cap k p w hc0 hbk
  | cons x r => exact string_some B b k (x :: r) w h (by simp)
end Go.Proofs.YtemkikjcjhmlaaaGreatDoor.Sh
namespace Go.Proofs.YtemkikjcjhmlaaaGreatDoor.Sh
open Go.RowKit
set_option maxRecDepth 100000

/-- What the walks need of the program's variables: it stands wherever B's blocks and those below lie as they lay. -/
structure Ctx (ad : Nat → Addr) (eD eM eR eS : Value) (B : Nat) (w : World) : Prop where
  e : ∀ W, Below B w W → EnvS W eD eM eR eS
  s : ∀ W, Below B w W → Sn W ad
  g : ∀ W, Below B w W → ∀ i : Nat, 5 ≤ i → i ≤ 18 → W.cell? ⟨4, i, none⟩ = some (.string ⟨(sgT i).toArray⟩)
theorem Ctx.on {ad : Nat → Addr} {eD eM eR eS : Value} {B : Nat} {w w' : World} (h : Ctx ad eD eM eR eS B w) (hb : Below B w w') : Ctx ad eD eM eR eS B w' := ⟨fun W hw => h.e W (hb.trans hw), fun W hw => h.s W (hb.trans hw), fun W hw => h.g W (hb.trans hw)⟩
/-- show.writer.whole writes the text of t. -/
def WOk (ad : Nat → Addr) (eD eM eR eS : Value) (t : Nd) : Prop := ∀ (B b : Nat) (k : Int) (X : List UInt8) (w : World) (lo hi : Nat) (x : Value), NRep w lo hi t x → lo ≤ B → hi ≤ B → B ≤ w.heap.size → Wr B b k X w → Ctx ad eD eM eR eS B w → X.length + (wT t).length ≤ 70368744177664 →
  Calls Tryz.prog 36 #[.pointer (some ⟨b, 0, none⟩), x] w (WPost B b k (X ++ wT t) w)
theorem box8s (w2 : World) (g : Nat) (c0 c1 c2 c3 c4 c5 c6 c7 : Value) (t : TypeId) (h : w2.heap[g]? = some (.cells #[c0, c1, c2, c3, c4, c5, c6, c7] t (0, 0))) : w2.cell? ⟨g, 0, none⟩ = some c0 ∧ w2.cell? ⟨g, 1, none⟩ = some c1 ∧
    w2.cell? ⟨g, 2, none⟩ = some c2 ∧ w2.cell? ⟨g, 3, none⟩ = some c3 ∧ w2.cell? ⟨g, 4, none⟩ = some c4 ∧ w2.cell? ⟨g, 5, none⟩ = some c5 ∧ w2.cell? ⟨g, 6, none⟩ = some c6 ∧ w2.cell? ⟨g, 7, none⟩ = some c7 ∧ ∀ o, w2.frozen? ⟨g, o, none⟩ = false := box8_in _ _ _ _ _ _ _ _ _ _ _ h
/-- One text put. -/
theorem put1_any (B b : Nat) (k : Int) (X : List UInt8) (s : ByteArray) (W : World) (h : Wr B b k X W) (hlen : X.length + s.size ≤ 70368744177664) (hBw : B ≤ W.heap.size) :
    Calls Tryz.prog 37 #[.pointer (some ⟨b, 0, none⟩), .slice (some ⟨W.heap.size, 0, none⟩) 1 1] (W.alloc (.cells #[.string s] 9)) (WPost B b k (X ++ s.data.toList) W) := by
  have hb : Below W.heap.size W (W.alloc (.cells #[.string s] 9)) := (Below.refl _ W).alloc (Nat.le_refl _) _
  have hf : flatB [s] = s.data.toList := by simp [flatB]
  have := put_any B b W.heap.size 1 k X [s] _ (h.below hb) (heap_alloc_new W (.cells #[.string s] 9)) (by have := h.lt; omega) (by simp) (by rw [hf, Array.length_toList]; exact hlen) (by simp; omega)
  rw [hf] at this
  exact this.mono fun e w' ⟨h1, h2, h3, h4⟩ => ⟨h1, h2, (hb.mono hBw).trans h3, (Kp.of_below hb).trans h4⟩
/-- Two texts put. -/
theorem put2_any (B b : Nat) (k : Int) (X : List UInt8) (s s2 : ByteArray) (W : World) (h : Wr B b k X W) (hlen : X.length + s.size + s2.size ≤ 70368744177664) (hBw : B ≤ W.heap.size) :
    Calls Tryz.prog 37 #[.pointer (some ⟨b, 0, none⟩), .slice (some ⟨W.heap.size, 0, none⟩) 2 2] (W.alloc (.cells #[.string s, .string s2] 9)) (WPost B b k (X ++ (s.data.toList ++ s2.data.toList)) W) := by
  have hb : Below W.heap.size W (W.alloc (.cells #[.string s, .string s2] 9)) := (Below.refl _ W).alloc (Nat.le_refl _) _
  have hf : flatB [s, s2] = s.data.toList ++ s2.data.toList := by simp [flatB]
  have := put_any B b W.heap.size 2 k X [s, s2] _ (h.below hb) (heap_alloc_new W (.cells #[.string s, .string s2] 9)) (by have := h.lt; omega) (by simp) (by rw [hf, List.length_append, Array.length_toList, Array.length_toList]; show X.length + (s.size + s2.size) ≤ _; omega) (by simp; omega)
  rw [hf] at this
  exact this.mono fun e w' ⟨h1, h2, h3, h4⟩ => ⟨h1, h2, (hb.mono hBw).trans h3, (Kp.of_below hb).trans h4⟩

theorem rep_is {w : World} {lo hi : Nat} {v : T} {k m : Int} {z : ByteArray} {q : Option Addr} {ql qc : Nat} (h : Rep w lo hi v (.agg #[.int .i64 k, .int .i64 m, .string z, .slice q ql qc])) : v.k = k ∧ v.n = m ∧ v.s = z := by
  obtain ⟨kk, nn, ss, ll⟩ := v
  unfold Rep at h
  obtain ⟨p', cap', hv, _⟩ := h
  simp only [Value.agg.injEq, Array.mk.injEq, List.cons.injEq, and_true] at hv
  obtain ⟨h1, h2, h3, _⟩ := hv
  injection h1 with _ h1
  injection h2 with _ h2
  injection h3 with h3
  exact ⟨h1.symm, h2.symm, h3.symm⟩
set_option maxHeartbeats 1000000 in
theorem isLoose_any (t : Nd) (x : Value) (w : World) (lo hi : Nat) (hr : NRep w lo hi t x) :
    Calls Tryz.prog 60 #[x] w fun e w' => e = .returned (.bool (looseN t)) ∧ Below w.heap.size w w' := by
  obtain ⟨o, n, s, v, l⟩ := t
  obtain ⟨k, m, z, q, ql, qc, r, c, rfl, _, _, _, hv, _⟩ := hr.open
  obtain ⟨hk, hm, _⟩ := rep_is hv
  have HL := Lib.hid (show looseN (.mk o n s v l) = (if o = 1 then (decide (k = 0) || decide (k = 1)) && decide (m < 0) else decide (o = 19) || decide (o = 27) || decide (o = 28) || (decide (3 ≤ o) && decide (o ≤ 18))) from by rw [looseN, hk, hm])
  have HB := fun o : Obj => Lib.hid ((Below.refl w.heap.size w).alloc (Nat.le_refl _) o)
  clear hr hv hk hm
  by_cases h1 : o = 1
  · subst h1
    have HL1 := Lib.hid (show looseN (.mk 1 n s v l) = ((decide (k = 0) || decide (k = 1)) && decide (m < 0)) from by rw [HL.out]; rfl)
    clear HL
    have e : ∀ j : Int, ((k == j) = true ∧ k = j) ∨ ((k == j) = false ∧ ¬ k = j) := fun j => by by_cases hj : k = j <;> simp [hj]
    by_cases hm0 : m < 0
    · have hmd : decide (m < 0) = true := by simpa using hm0
      rcases e 0 with ⟨a, a'⟩ | ⟨a, a'⟩
      · go_enter Tryz.func60, Tryz.ntmps60
        go_wp2
        go_ret
        exact ⟨ret_bool (by rw [HL1.out]; simp [a', hm0]), (HB _).out⟩
      · rcases e 1 with ⟨b, b'⟩ | ⟨b, b'⟩
        · go_enter Tryz.func60, Tryz.ntmps60
          go_wp2
          go_ret
          exact ⟨ret_bool (by rw [HL1.out]; simp [b', hm0]), (HB _).out⟩
        · go_enter Tryz.func60, Tryz.ntmps60
          go_wp2
          go_ret
          exact ⟨ret_bool (by rw [HL1.out]; simp [a', b']), (HB _).out⟩
    · have hmd : decide (m < 0) = false := by simpa using hm0
      rcases e 0 with ⟨a, a'⟩ | ⟨a, a'⟩
      · go_enter Tryz.func60, Tryz.ntmps60
        go_wp2
        go_ret
        exact ⟨ret_bool (by rw [HL1.out]; simp [hm0]), (HB _).out⟩
      · rcases e 1 with ⟨b, b'⟩ | ⟨b, b'⟩
        · go_enter Tryz.func60, Tryz.ntmps60
          go_wp2
          go_ret
          exact ⟨ret_bool (by rw [HL1.out]; simp [hm0]), (HB _).out⟩
        · go_enter Tryz.func60, Tryz.ntmps60
          go_wp2
          go_ret
          exact ⟨ret_bool (by rw [HL1.out]; simp [hm0]), (HB _).out⟩
  · have h1b : (o == 1) = false := by simpa using h1
    have HL1 := Lib.hid (show looseN (.mk o n s v l) = (decide (o = 19) || decide (o = 27) || decide (o = 28) || (decide (3 ≤ o) && decide (o ≤ 18))) from by rw [HL.out, if_neg h1])
    clear HL
    have e : ∀ j : Int, ((o == j) = true ∧ o = j) ∨ ((o == j) = false ∧ ¬ o = j) := fun j => by by_cases hj : o = j <;> simp [hj]
    rcases e 19 with ⟨a, a'⟩ | ⟨a, a'⟩
    · go_enter Tryz.func60, Tryz.ntmps60
      go_wp2
      go_ret
      exact ⟨ret_bool (by rw [HL1.out]; simp [a']), (HB _).out⟩
    · rcases e 27 with ⟨b, b'⟩ | ⟨b, b'⟩
      · go_enter Tryz.func60, Tryz.ntmps60
        go_wp2
        go_ret
        exact ⟨ret_bool (by rw [HL1.out]; simp [b']), (HB _).out⟩
      · rcases e 28 with ⟨d, d'⟩ | ⟨d, d'⟩
        · go_enter Tryz.func60, Tryz.ntmps60
          go_wp2
          go_ret
          exact ⟨ret_bool (by rw [HL1.out]; simp [d']), (HB _).out⟩
        · by_cases f : 3 ≤ o
          · by_cases g : o ≤ 18
            · have f' : decide (3 ≤ o) = true := by simpa using f
              have g' : decide (o ≤ 18) = true := by simpa using g
              go_enter Tryz.func60, Tryz.ntmps60
              go_wp2
              go_ret
              exact ⟨ret_bool (by rw [HL1.out]; simp [f, g]), (HB _).out⟩
            · have f' : decide (3 ≤ o) = true := by simpa using f
              have g' : decide (o ≤ 18) = false := by simpa using g
              go_enter Tryz.func60, Tryz.ntmps60
              go_wp2
              go_ret
              exact ⟨ret_bool (by rw [HL1.out, g']; simp [a', b', d']), (HB _).out⟩
          · have f' : decide (3 ≤ o) = false := by simpa using f
            go_enter Tryz.func60, Tryz.ntmps60
            go_wp2
            go_ret
            exact ⟨ret_bool (by rw [HL1.out, f']; simp [a', b', d']), (HB _).out⟩

set_option maxHeartbeats 1000000 in
theorem bracket_any (ad : Nat → Addr) (eD eM eR eS : Value) (t : Nd) (hw : WOk ad eD eM eR eS t) (nd : Bool) (B b : Nat) (kk : Int) (X : List UInt8) (w : World) (lo hi : Nat) (x : Value) (hr : NRep w lo hi t x) (hlo : lo ≤ B) (hhi : hi ≤ B) (hBw : B ≤ w.heap.size) (h : Wr B b kk X w) (hc : Ctx ad eD eM eR eS B w) (hlen : X.length + (parB nd (wT t)).length ≤ 70368744177664) :
    Calls Tryz.prog 59 #[.pointer (some ⟨b, 0, none⟩), x, .bool nd] w (WPost B b kk (X ++ parB nd (wT t)) w) := by
  obtain ⟨o, n, s, k, m, z, q, ql, qc, r, lc, c, rfl⟩ := nrep_form hr
  obtain ⟨W1, hW1⟩ : ∃ W1, W1 = w.alloc (.cells #[.int .i64 o, .int .i64 n, .string s, .int .i64 k, .int .i64 m, .string z, .slice q ql qc, .slice r lc c] 33) := ⟨_, rfl⟩
  have hb0 : Below w.heap.size w W1 := hW1 ▸ (Below.refl w.heap.size w).alloc (Nat.le_refl _) _
  have HX : Hid (W1.heap[w.heap.size]? = some (.cells #[.int .i64 o, .int .i64 n, .string s, .int .i64 k, .int .i64 m, .string z, .slice q ql qc, .slice r lc c] 33 (0, 0))) := hW1 ▸ heap_alloc_new w _
  have HW := Lib.hid (h.below hb0)
  have hB1 : B ≤ W1.heap.size := Nat.le_trans hBw hb0.size
  have HB := Lib.hid (hb0.mono hBw)
  have HK : Hid (Kp b w W1) := Kp.of_below hb0
  have HR := Lib.hid (fun W (hb : Below B w W) => hr.below hb hhi)
  have HC := Lib.hid hc
  have HWO := Lib.hid hw
  have hgb : w.heap.size ≠ b := by have := h.lt; omega
  obtain ⟨g, hg⟩ : ∃ g, g = w.heap.size := ⟨_, rfl⟩
  rw [← hg] at HX hgb
  clear hr hw hc h hb0
  cases nd with
  | false =>
    have e : parB false (wT t) = wT t := rfl
    rw [e] at hlen
    obtain ⟨x0, x1, x2, x3, x4, x5, x6, x7, _⟩ := box8s _ g _ _ _ _ _ _ _ _ _ HX.out
    have HC1 := Lib.hid (HWO.out B b kk X W1 lo hi _ (HR.out _ HB.out) hlo hhi hB1 HW.out (HC.out.on HB.out) hlen)
    go_enter Tryz.func59, Tryz.ntmps59
    go_upto_region 1 with fail
    rw [← hW1, ← hg]
    clear hW1 hg
    go_wp2_with (go_at_call 36; refine HC1.out.mono ?_; rintro e w2 ⟨rfl, h2, hb2, hk2⟩; have H2 := Lib.hid h2; have HB2 := Lib.hid (HB.out.trans hb2); have HK2 := Lib.hid (HK.out.trans hk2); clear h2 hb2 hk2)
    go_end0
    exact ⟨rfl, H2.out, HB2.out, HK2.out⟩
  | true =>
    have e : parB true (wT t) = [40] ++ wT t ++ [41] := rfl
    have HE := Lib.hid (show X ++ parB true (wT t) = ((X ++ (⟨#[40]⟩ : ByteArray).data.toList) ++ wT t) ++ (⟨#[41]⟩ : ByteArray).data.toList from by rw [e]; simp)
    rw [e, List.length_append, List.length_append] at hlen
    simp only [List.length_singleton] at hlen
    have HP1 := Lib.hid (put1_any B b kk X ⟨#[40]⟩ W1 HW.out (by show X.length + 1 ≤ _; omega) hB1)
    go_enter Tryz.func59, Tryz.ntmps59
    go_upto_region 1 with fail
    rw [← hW1, ← hg]
    clear hW1 hg
    go_wp2_with (first
      | (go_at_call 37; (with_reducible refine HP1.out.mono ?_); rintro e w2 ⟨rfl, h2, hb2, hk2⟩; have HB2 := Lib.hid (HB.out.trans hb2); have HK2 := Lib.hid (HK.out.trans hk2); have hx2 := hk2 g _ _ (by decide) hgb HX.out; have HX2 := Lib.hid hx2; obtain ⟨x0, x1, x2, x3, x4, x5, x6, x7, _⟩ := box8s _ g _ _ _ _ _ _ _ _ _ hx2; have hs2 := Nat.le_trans hB1 hb2.size; have HC2 := Lib.hid (HWO.out B b kk _ w2 lo hi _ (HR.out _ HB2.out) hlo hhi hs2 h2 (HC.out.on HB2.out) (by rw [List.length_append]; show X.length + 1 + _ ≤ _; omega)); clear h2 hb2 hk2 hx2)
      | (go_at_call 36; refine HC2.out.mono ?_; rintro e w3 ⟨rfl, h3, hb3, hk3⟩; have HB3 := Lib.hid (HB2.out.trans hb3); have HK3 := Lib.hid (HK2.out.trans hk3); have hs3 := Nat.le_trans hs2 hb3.size; have HP3 := Lib.hid (put1_any B b kk _ ⟨#[41]⟩ w3 h3 (by rw [List.length_append, List.length_append]; show X.length + 1 + _ + 1 ≤ _; omega) hs3); clear h3 hb3 hk3)
      | (go_at_call 37; (with_reducible refine HP3.out.mono ?_); rintro e w4 ⟨rfl, h4, hb4, hk4⟩; have H4 := Lib.hid h4; have HB4 := Lib.hid (HB3.out.trans hb4); have HK4 := Lib.hid (HK3.out.trans hk4); clear h4 hb4 hk4))
    go_end0
    exact ⟨rfl, by rw [HE.out]; exact H4.out, HB4.out, HK4.out⟩
end Go.Proofs.YtemkikjcjhmlaaaGreatDoor.Sh
namespace Go.Proofs.YtemkikjcjhmlaaaGreatDoor.Sh
open Go.RowKit
set_option maxRecDepth 100000

set_option maxHeartbeats 2000000 in
theorem part_any (ad : Nat → Addr) (eD eM eR eS : Value) (t : Nd) (hw : WOk ad eD eM eR eS t) (B b : Nat) (kk : Int) (X : List UInt8) (w : World) (lo hi : Nat) (x : Value) (hr : NRep w lo hi t x) (hlo : lo ≤ B) (hhi : hi ≤ B) (hBw : B ≤ w.heap.size) (h : Wr B b kk X w) (hc : Ctx ad eD eM eR eS B w) (hlen : X.length + (parB (looseN t) (wT t)).length ≤ 70368744177664) :
    Calls Tryz.prog 62 #[.pointer (some ⟨b, 0, none⟩), x] w (WPost B b kk (X ++ parB (looseN t) (wT t)) w) := by
  obtain ⟨o, n, s, k, m, z, q, ql, qc, r, lc, c, rfl⟩ := nrep_form hr
  obtain ⟨W1, hW1⟩ : ∃ W1, W1 = w.alloc (.cells #[.int .i64 o, .int .i64 n, .string s, .int .i64 k, .int .i64 m, .string z, .slice q ql qc, .slice r lc c] 33) := ⟨_, rfl⟩
  have hb0 : Below w.heap.size w W1 := hW1 ▸ (Below.refl w.heap.size w).alloc (Nat.le_refl _) _
  have HX : Hid (W1.heap[w.heap.size]? = some (.cells #[.int .i64 o, .int .i64 n, .string s, .int .i64 k, .int .i64 m, .string z, .slice q ql qc, .slice r lc c] 33 (0, 0))) := hW1 ▸ heap_alloc_new w _
  have HW := Lib.hid (h.below hb0)
  have hB1 : B ≤ W1.heap.size := Nat.le_trans hBw hb0.size
  have HB := Lib.hid (hb0.mono hBw)
  have HK : Hid (Kp b w W1) := Kp.of_below hb0
  have HR := Lib.hid (fun W (hb : Below B w W) => hr.below hb hhi)
  have HC := Lib.hid hc
  have HWO := Lib.hid hw
  obtain ⟨g, hg⟩ : ∃ g, g = w.heap.size := ⟨_, rfl⟩
  rw [← hg] at HX
  have hgl : g < W1.heap.size := ltW HX.out
  clear hr hw hc h hb0
  obtain ⟨L, hL⟩ : ∃ L, L = looseN t := ⟨_, rfl⟩
  rw [← hL] at hlen ⊢
  have HLO := Lib.hid (fun W (hb : Below B w W) => by have := isLoose_any t _ W lo hi (HR.out W hb); rw [← hL] at this; exact this)
  have HL2 := Lib.hid (HLO.out W1.drew HB.out.drew)
  have hmx : Tryz.prog.follows .mixedOrders = true := by kernel_rfl
  clear hL
  obtain ⟨x0, x1, x2, x3, x4, x5, x6, x7, _⟩ := box8s _ g _ _ _ _ _ _ _ _ _ HX.out
  go_enter Tryz.func62, Tryz.ntmps62
  go_upto_region 1 with fail
  rw [← hW1, ← hg]
  clear hW1 hg
  go_region_with_o (first
    | (go_at_call 60; refine HL2.out.mono ?_; rintro e w2 ⟨rfl, hb2⟩; have hb12 : Below W1.heap.size W1 w2 := (Below.refl _ W1).drew.trans hb2; have HB2 := Lib.hid (HB.out.trans (hb12.mono hB1)); have HK2 := Lib.hid (HK.out.trans (Kp.of_below hb12)); obtain ⟨y0, y1, y2, y3, y4, y5, y6, y7, _⟩ := box8s _ g _ _ _ _ _ _ _ _ _ ((hb12.block _ hgl).trans HX.out); have HBR := Lib.hid (bracket_any ad eD eM eR eS t HWO.out L B b kk X w2 lo hi _ (HR.out _ HB2.out) hlo hhi (Nat.le_trans hB1 hb12.size) (HW.out.below hb12) (HC.out.on HB2.out) hlen); clear hb2 hb12)
    | (go_at_call 59; refine HBR.out.mono ?_; rintro e w3 ⟨rfl, h3, hb3, hk3⟩; have H3 := Lib.hid h3; have HB3 := Lib.hid (HB2.out.trans hb3); have HK3 := Lib.hid (HK2.out.trans hk3); clear h3 hb3 hk3))
  all_goals (go_wp2; go_end0; exact ⟨rfl, H3.out, HB3.out, HK3.out⟩)

set_option maxHeartbeats 1000000 in
theorem shIsName_any (ad : Nat → Addr) (s : ByteArray) (w : World) (hs : s.size ≤ 140737488355328) (hS : Sn w ad) :
    Calls Tryz.prog 88 #[.string s] w fun e w' => e = .returned (.bool (nameB s)) ∧ Below w.heap.size w w' := by
  have hr : NRep w 0 0 (.mk 2 0 s zV []) (.agg #[.int .i64 2, .int .i64 0, .string s, .int .i64 0, .int .i64 0, .string ⟨#[]⟩, .slice none 0 0, .slice none 0 0]) := by
    unfold NRep
    exact ⟨0, 0, ⟨#[]⟩, none, 0, 0, none, 0, rfl, by unfold I64; omega, by unfold I64; omega, hs, zV_rep _ _ _, Nat.le_refl _, by simp, NAll.nil _ _ _ _⟩
  have HE := Lib.hid (texpr_any ad _ _ w 0 0 hr (Nat.zero_le _) (Nat.zero_le _) hS)
  have HN := Lib.hid (show nameB s = okF (vldF [.mk 2 0 s zV []] 3) from rfl)
  generalize vldF [.mk 2 0 s zV []] 3 = F at HE HN
  clear hr hS
  cases F with
  | ok =>
    go_enter Tryz.func88, Tryz.ntmps88
    go_wp2_with (go_at_call 102; refine HE.out.mono ?_; rintro e w2 ⟨hb2, rfl⟩; have HB2 := Lib.hid hb2; clear hb2)
    go_ret
    exact ⟨ret_bool (by rw [HN.out]; rfl), HB2.out⟩
  | bare j =>
    go_enter Tryz.func88, Tryz.ntmps88
    go_wp2_with (go_at_call 102; refine HE.out.mono ?_; rintro e w2 ⟨hb2, he⟩; obtain rfl : e = .returned (.iface 146 (.pointer (some (ad j)))) := he; have HB2 := Lib.hid hb2; clear hb2)
    go_ret
    exact ⟨ret_bool (by rw [HN.out]; rfl), HB2.out⟩
  | at_ a j =>
    go_enter Tryz.func88, Tryz.ntmps88
    go_wp2_with (go_at_call 102; refine HE.out.mono ?_; rintro e w2 ⟨hb2, bk, rfl, _, _⟩; have HB2 := Lib.hid hb2; clear hb2)
    go_ret
    exact ⟨ret_bool (by rw [HN.out]; rfl), HB2.out⟩

set_option maxHeartbeats 2000000 in
theorem shName_any (ad : Nat → Addr) (eD eM eR eS : Value) (t : Nd) (hw : WOk ad eD eM eR eS t) (B b : Nat) (kk : Int) (X : List UInt8) (w : World) (lo hi : Nat) (x : Value) (hr : NRep w lo hi t x) (hlo : lo ≤ B) (hhi : hi ≤ B) (hBw : B ≤ w.heap.size) (h : Wr B b kk X w) (hc : Ctx ad eD eM eR eS B w) (hlen : X.length + (nmT t (wT t)).length ≤ 70368744177664) :
    Calls Tryz.prog 64 #[.pointer (some ⟨b, 0, none⟩), x] w (WPost B b kk (X ++ nmT t (wT t)) w) := by
  obtain ⟨o, n, s, k, m, z, q, ql, qc, r, lc, c, rfl⟩ := nrep_form hr
  have hvs : (t.o = o ∧ t.v.k = k ∧ t.v.s = z) ∧ z.size ≤ 140737488355328 := by
    obtain ⟨o', n', s', v, l⟩ := t
    obtain ⟨k', m', z', q', ql', qc', p', cap', hx, _, _, _, hv, _⟩ := hr.open
    simp only [Value.agg.injEq, Array.mk.injEq, List.cons.injEq, and_true] at hx
    obtain ⟨a1, a2, a3, a4, a5, a6, a7, a8⟩ := hx
    injection a1 with _ a1
    injection a4 with _ a4
    injection a6 with a6
    subst a1 a4 a6
    obtain ⟨h1, _, h3⟩ := rep_is hv
    refine ⟨⟨rfl, h1, h3⟩, ?_⟩
    obtain ⟨kv, nv, sv, lv⟩ := v
    unfold Rep at hv
    obtain ⟨_, _, hx, _, _, hsz, _⟩ := hv
    simp only [Value.agg.injEq, Array.mk.injEq, List.cons.injEq, and_true] at hx
    obtain ⟨_, _, h6, _⟩ := hx
    injection h6 with h6
    subst h6; exact hsz
  obtain ⟨⟨hto, htk, hts⟩, hzs⟩ := hvs
  have HNM := Lib.hid (show nmT t (wT t) = if o = 1 ∧ k = 2 ∧ nameB z = true then z.data.toList else parB true (wT t) from by
    obtain ⟨o', n', s', v, l⟩ := t
    show (if o' = 1 ∧ v.k = 2 ∧ nameB v.s = true then v.s.data.toList else parB true _) = _
    rw [show o' = o from hto, show v.k = k from htk, show v.s = z from hts])
  obtain ⟨W1, hW1⟩ : ∃ W1, W1 = w.alloc (.cells #[.int .i64 o, .int .i64 n, .string s, .int .i64 k, .int .i64 m, .string z, .slice q ql qc, .slice r lc c] 33) := ⟨_, rfl⟩
  have hb0 : Below w.heap.size w W1 := hW1 ▸ (Below.refl w.heap.size w).alloc (Nat.le_refl _) _
  have HX : Hid (W1.heap[w.heap.size]? = some (.cells #[.int .i64 o, .int .i64 n, .string s, .int .i64 k, .int .i64 m, .string z, .slice q ql qc, .slice r lc c] 33 (0, 0))) := hW1 ▸ heap_alloc_new w _
  have HW := Lib.hid (h.below hb0)
  have hB1 : B ≤ W1.heap.size := Nat.le_trans hBw hb0.size
  have HB := Lib.hid (hb0.mono hBw)
  have HK : Hid (Kp b w W1) := Kp.of_below hb0
  have HR := Lib.hid (fun W (hb : Below B w W) => hr.below hb hhi)
  have HC := Lib.hid hc
  have HWO := Lib.hid hw
  obtain ⟨g, hg⟩ : ∃ g, g = w.heap.size := ⟨_, rfl⟩
  rw [← hg] at HX
  have hgl : g < W1.heap.size := ltW HX.out
  clear hr hw hc h hb0 hto htk hts
  obtain ⟨x0, x1, x2, x3, x4, x5, x6, x7, _⟩ := box8s _ g _ _ _ _ _ _ _ _ _ HX.out
  have e : ∀ a j : Int, ((a == j) = true ∧ Hid (a = j)) ∨ ((a == j) = false ∧ Hid (¬ a = j)) := fun a j => by
    by_cases hj : a = j
    · exact .inl ⟨by simpa using hj, Lib.hid hj⟩
    · exact .inr ⟨by simpa using hj, Lib.hid hj⟩
  have HBR := Lib.hid (fun (W : World) (hb : Below B w W) (hs : B ≤ W.heap.size) (hx : Wr B b kk X W) (hl : X.length + (parB true (wT t)).length ≤ 70368744177664) => bracket_any ad eD eM eR eS t HWO.out true B b kk X W lo hi _ (HR.out _ hb) hlo hhi hs hx (HC.out.on hb) hl)
  rcases e o 1 with ⟨a, a'⟩ | ⟨a, a'⟩
  · rcases e k 2 with ⟨d, d'⟩ | ⟨d, d'⟩
    · have HIN := Lib.hid (shIsName_any ad z W1 hzs (HC.out.s _ HB.out))
      cases hn : nameB z with
      | true =>
        have HE := Lib.hid (show nmT t (wT t) = z.data.toList from by rw [HNM.out, if_pos ⟨a'.out, d'.out, hn⟩])
        rw [HE.out] at hlen
        rw [hn] at HIN
        go_enter Tryz.func64, Tryz.ntmps64
        go_upto_region 1 with fail
        rw [← hW1, ← hg]
        clear hW1 hg
        go_wp2_with (first
          | (go_at_call 88; refine HIN.out.mono ?_; rintro e w2 ⟨rfl, hb2⟩; have HB2 := Lib.hid (HB.out.trans (hb2.mono hB1)); have HK2 := Lib.hid (HK.out.trans (Kp.of_below hb2)); obtain ⟨y0, y1, y2, y3, y4, y5, y6, y7, _⟩ := box8s _ g _ _ _ _ _ _ _ _ _ ((hb2.block _ hgl).trans HX.out); have HP := Lib.hid (put1_any B b kk X z w2 (HW.out.below hb2) (by rw [Array.length_toList] at hlen; exact hlen) (Nat.le_trans hB1 hb2.size)); clear hb2)
          | (go_at_call 37; refine HP.out.mono ?_; rintro e w3 ⟨rfl, h3, hb3, hk3⟩; have H3 := Lib.hid h3; have HB3 := Lib.hid (HB2.out.trans hb3); have HK3 := Lib.hid (HK2.out.trans hk3); clear h3 hb3 hk3))
        go_end0
        exact ⟨rfl, by rw [HE.out]; exact H3.out, HB3.out, HK3.out⟩
      | false =>
        have HE := Lib.hid (show nmT t (wT t) = parB true (wT t) from by rw [HNM.out, if_neg (by rintro ⟨_, _, h3⟩; rw [hn] at h3; cases h3)])
        rw [HE.out] at hlen
        rw [hn] at HIN
        go_enter Tryz.func64, Tryz.ntmps64
        go_upto_region 1 with fail
        rw [← hW1, ← hg]
        clear hW1 hg
        go_wp2_with (first
          | (go_at_call 88; refine HIN.out.mono ?_; rintro e w2 ⟨rfl, hb2⟩; have HB2 := Lib.hid (HB.out.trans (hb2.mono hB1)); have HK2 := Lib.hid (HK.out.trans (Kp.of_below hb2)); obtain ⟨y0, y1, y2, y3, y4, y5, y6, y7, _⟩ := box8s _ g _ _ _ _ _ _ _ _ _ ((hb2.block _ hgl).trans HX.out); have HP := Lib.hid (HBR.out w2 HB2.out (Nat.le_trans hB1 hb2.size) (HW.out.below hb2) hlen); clear hb2)
          | (go_at_call 59; refine HP.out.mono ?_; rintro e w3 ⟨rfl, h3, hb3, hk3⟩; have H3 := Lib.hid h3; have HB3 := Lib.hid (HB2.out.trans hb3); have HK3 := Lib.hid (HK2.out.trans hk3); clear h3 hb3 hk3))
        go_end0
        exact ⟨rfl, by rw [HE.out]; exact H3.out, HB3.out, HK3.out⟩
    · have HE := Lib.hid (show nmT t (wT t) = parB true (wT t) from by rw [HNM.out, if_neg (by rintro ⟨_, h2, _⟩; exact d'.out h2)])
      rw [HE.out] at hlen
      have HP := Lib.hid (HBR.out W1 HB.out hB1 HW.out hlen)
      go_enter Tryz.func64, Tryz.ntmps64
      go_upto_region 1 with fail
      rw [← hW1, ← hg]
      clear hW1 hg
      go_wp2_with (go_at_call 59; refine HP.out.mono ?_; rintro e w3 ⟨rfl, h3, hb3, hk3⟩; have H3 := Lib.hid h3; have HB3 := Lib.hid (HB.out.trans hb3); have HK3 := Lib.hid (HK.out.trans hk3); clear h3 hb3 hk3)
      go_end0
      exact ⟨rfl, by rw [HE.out]; exact H3.out, HB3.out, HK3.out⟩
  · have HE := Lib.hid (show nmT t (wT t) = parB true (wT t) from by rw [HNM.out, if_neg (by rintro ⟨h1, _⟩; exact a'.out h1)])
    rw [HE.out] at hlen
    have HP := Lib.hid (HBR.out W1 HB.out hB1 HW.out hlen)
    go_enter Tryz.func64, Tryz.ntmps64
    go_upto_region 1 with fail
    rw [← hW1, ← hg]
    clear hW1 hg
    go_wp2_with (go_at_call 59; refine HP.out.mono ?_; rintro e w3 ⟨rfl, h3, hb3, hk3⟩; have H3 := Lib.hid h3; have HB3 := Lib.hid (HB.out.trans hb3); have HK3 := Lib.hid (HK.out.trans hk3); clear h3 hb3 hk3)
    go_end0
    exact ⟨rfl, by rw [HE.out]; exact H3.out, HB3.out, HK3.out⟩
end Go.Proofs.YtemkikjcjhmlaaaGreatDoor.Sh
namespace Go.Proofs.YtemkikjcjhmlaaaGreatDoor.Sh
open Go.RowKit
set_option maxRecDepth 100000

theorem jn_snoc (sep : Nat → List UInt8) (xs : List (List UInt8)) (j : Nat) : jn sep xs (j + 1) = jn sep xs j ++ ((if j = 0 then [] else sep (j - 1)) ++ xs.getD j []) := rfl
set_option maxHeartbeats 2000000 in
theorem shList_any (ad : Nat → Addr) (eD eM eR eS : Value) (l : List Nd) (hw : ∀ t ∈ l, WOk ad eD eM eR eS t) (sep : ByteArray) (B b : Nat) (kk : Int) (X : List UInt8) (w : World) (lo hi : Nat) (p : Option Addr) (cap : Nat) (hall : NAll w lo hi l p) (hlc : l.length ≤ 1000000) (hlo : lo ≤ B) (hhi : hi ≤ B) (hBw : B ≤ w.heap.size) (h : Wr B b kk X w) (hc : Ctx ad eD eM eR eS B w)
    (hlen : X.length + (joinS sep.data.toList (wAll l)).length ≤ 70368744177664) :
    Calls Tryz.prog 39 #[.pointer (some ⟨b, 0, none⟩), .slice p l.length cap, .string sep] w (WPost B b kk (X ++ joinS sep.data.toList (wAll l)) w) := by
  have HALL := Lib.hid (fun W (hb : Below B w W) => hall.below hb hhi)
  have HC := Lib.hid hc
  have HWO := Lib.hid hw
  have H := Lib.hid h
  have hgb := h.lt
  clear hall hc hw h
  have hll : (l.length : Int) ≤ 1000000 := by omega
  go_enter Tryz.func39, Tryz.ntmps39
  go_wp2
  go_loopw [10] (fun i wr => ∃ j : Nat, j ≤ l.length ∧ i = .int .i64 j ∧ Hid (Wr B b kk (X ++ jn (fun _ => sep.data.toList) (wAll l) j) wr) ∧ Hid (Below B w wr) ∧ Hid (Kp b w wr)) (fun i _ => l.length - (intOf i).toNat)
  case atStart => exact ⟨0, Nat.zero_le _, rfl, Lib.hid (by simpa [jn] using H.out), Lib.hid (Below.refl _ _), Lib.hid (Kp.refl _ _)⟩
  case round =>
    obtain ⟨j, hj, rfl, HW, HB, HK⟩ := hrel
    have hz := HB.out.size
    have hbr := HW.out.lt
    by_cases hlt : j < l.length
    · obtain ⟨bi, off, o, n, s, v, ll, k, m, z, q, ql, qc, r, c, hp, _, hbhi, hli, h0, h1, h2, h3, h4, h5, h6, h7, hrep⟩ := (HALL.out wr HB.out).item j hlt
      subst hp
      have hbw : bi < wr.heap.size := by omega
      have hBr : B ≤ wr.heap.size := by omega
      have HRP := Lib.hid (fun W (hb : Below B wr W) => hrep.below hb hhi)
      have HWT := Lib.hid (HWO.out _ (List.getElem_mem hlt))
      have HG := Lib.hid (wAll_get l j hlt)
      have hjm := jn_mono (fun _ => sep.data.toList) (wAll l) (j + 1) (wAll l).length (by rw [wAll_len]; exact hlt)
      have hjl : X.length + (jn (fun _ => sep.data.toList) (wAll l) (j + 1)).length ≤ 70368744177664 := by unfold joinS at hlen; omega
      rw [jn_snoc, HG.out, List.length_append, List.length_append] at hjl
      have HST := Lib.hid (show X ++ jn (fun _ => sep.data.toList) (wAll l) (j + 1) = (X ++ jn (fun _ => sep.data.toList) (wAll l) j) ++ ((if j = 0 then [] else sep.data.toList) ++ wT l[j]) from by rw [jn_snoc, HG.out, List.append_assoc])
      obtain ⟨Y, hY⟩ : ∃ Y, Y = X ++ jn (fun _ => sep.data.toList) (wAll l) j := ⟨_, rfl⟩
      have hYl : Y.length = X.length + (jn (fun _ => sep.data.toList) (wAll l) j).length := by rw [hY, List.length_append]
      rw [← hY] at HW HST
      obtain ⟨t, ht⟩ : ∃ t, t = l[j] := ⟨_, rfl⟩
      rw [← ht] at HWT HRP HST hjl
      obtain ⟨W1, hW1⟩ : ∃ W1, W1 = wr.alloc (.cells #[.int .i64 o, .int .i64 n, .string s, .int .i64 k, .int .i64 m, .string z, .slice q ql qc, .slice r ll.length c] 33) := ⟨_, rfl⟩
      have hb0 : Below wr.heap.size wr W1 := hW1 ▸ (Below.refl wr.heap.size wr).alloc (Nat.le_refl _) _
      have HX : Hid (W1.heap[wr.heap.size]? = some (.cells #[.int .i64 o, .int .i64 n, .string s, .int .i64 k, .int .i64 m, .string z, .slice q ql qc, .slice r ll.length c] 33 (0, 0))) := hW1 ▸ heap_alloc_new wr _
      have HW1 := Lib.hid (HW.out.below hb0)
      have hB1 : B ≤ W1.heap.size := Nat.le_trans hBr hb0.size
      have HB1 := Lib.hid (hb0.mono hBr)
      have HK1 : Hid (Kp b wr W1) := Kp.of_below hb0
      obtain ⟨g, hg⟩ : ∃ g, g = wr.heap.size := ⟨_, rfl⟩
      have hgb2 : g ≠ b := by omega
      rw [← hg] at HX
      clear hrep hli hjm hY ht HG hb0
      go_upto_if 16 with fail
      rw [← hW1, ← hg]
      clear hW1 hg h0 h1 h2 h3 h4 h5 h6 h7
      by_cases hj0 : j = 0
      · have hjb : decide ((0 : Int) < (j : Int)) = false := by simp; omega
        have HS := Lib.hid (show (if j = 0 then [] else sep.data.toList) ++ wT t = wT t from by rw [if_pos hj0]; rfl)
        rw [if_pos hj0] at hjl
        obtain ⟨x0, x1, x2, x3, x4, x5, x6, x7, _⟩ := box8s _ g _ _ _ _ _ _ _ _ _ HX.out
        have HC1 := Lib.hid (HWT.out B b kk Y W1 lo hi _ (HRP.out _ HB1.out) hlo hhi hB1 HW1.out ((HC.out.on HB.out).on HB1.out) (by simp only [List.length_nil] at hjl; omega))
        go_wp2_with (go_at_call 36; refine HC1.out.mono ?_; rintro e w2 ⟨rfl, h2, hb2, hk2⟩; have H2 := Lib.hid h2; have HB2 := Lib.hid (HB1.out.trans hb2); have HK2 := Lib.hid (HK1.out.trans hk2); clear h2 hb2 hk2)
        go_roundw
        case rel => exact ⟨j + 1, by omega, by go_num, by rw [HST.out, HS.out]; exact H2, Lib.hid (HB.out.trans HB2.out), Lib.hid (HK.out.trans HK2.out)⟩
        case measure => simp [intOf]; omega
      · have hjb : decide ((0 : Int) < (j : Int)) = true := by simp; omega
        have HS := Lib.hid (show (if j = 0 then [] else sep.data.toList) ++ wT t = sep.data.toList ++ wT t from by rw [if_neg hj0])
        have hds : sep.data.toList.length = sep.size := Array.length_toList ..
        rw [if_neg hj0, hds] at hjl
        have HP1 := Lib.hid (put1_any B b kk Y sep W1 HW1.out (by omega) hB1)
        go_wp2_with (first
          | (go_at_call 37; (with_reducible refine HP1.out.mono ?_); rintro e w2 ⟨rfl, h2, hb2, hk2⟩; have HB2 := Lib.hid (HB1.out.trans hb2); have HK2 := Lib.hid (HK1.out.trans hk2); have hx2 := hk2 g _ _ (by decide) hgb2 HX.out; obtain ⟨x0, x1, x2, x3, x4, x5, x6, x7, _⟩ := box8s _ g _ _ _ _ _ _ _ _ _ hx2; have HC2 := Lib.hid (HWT.out B b kk _ w2 lo hi _ (HRP.out _ HB2.out) hlo hhi (Nat.le_trans hB1 hb2.size) h2 ((HC.out.on HB.out).on HB2.out) (by rw [List.length_append, hds]; omega)); clear h2 hb2 hk2 hx2)
          | (go_at_call 36; refine HC2.out.mono ?_; rintro e w3 ⟨rfl, h3, hb3, hk3⟩; have H3 := Lib.hid h3; have HB3 := Lib.hid (HB2.out.trans hb3); have HK3 := Lib.hid (HK2.out.trans hk3); clear h3 hb3 hk3))
        go_roundw
        case rel => exact ⟨j + 1, by omega, by go_num, by rw [HST.out, HS.out, ← List.append_assoc]; exact H3, Lib.hid (HB.out.trans HB3.out), Lib.hid (HK.out.trans HK3.out)⟩
        case measure => simp [intOf]; omega
    · have hje : j = l.length := by omega
      have HF := Lib.hid (show X ++ joinS sep.data.toList (wAll l) = X ++ jn (fun _ => sep.data.toList) (wAll l) j from by rw [joinS, wAll_len, hje])
      go_wp2
      go_end0
      exact ⟨rfl, by rw [HF.out]; exact HW.out, HB.out, HK.out⟩
end Go.Proofs.YtemkikjcjhmlaaaGreatDoor.Sh
namespace Go.Proofs.YtemkikjcjhmlaaaGreatDoor.Sh
open Go.RowKit
set_option maxRecDepth 100000

def psA (l : List Nd) : List (List UInt8) := List.zipWith (fun t x => parB (looseN t) x) l (wAll l)
theorem psA_len (l : List Nd) : (psA l).length = l.length := by unfold psA; rw [List.length_zipWith, wAll_len, Nat.min_self]
theorem psA_get : ∀ (l : List Nd) (i : Nat) (h : i < l.length), (psA l).getD i [] = parB (looseN l[i]) (wT l[i])
  | t :: r, 0, _ => by simp [psA, wAll]
  | t :: r, i + 1, h => by
    have := psA_get r i (by simpa using h)
    unfold psA at this ⊢
    rw [wAll]; simpa using this
def btw (ss : List ByteArray) (i : Nat) : List UInt8 := (ss.getD i ByteArray.empty).data.toList
set_option maxHeartbeats 2000000 in
theorem shParts_any (ad : Nat → Addr) (eD eM eR eS : Value) (l : List Nd) (hw : ∀ t ∈ l, WOk ad eD eM eR eS t) (ss : List ByteArray) (gs cs B b : Nat) (kk : Int) (X : List UInt8) (w : World) (lo hi : Nat) (p : Option Addr) (cap : Nat) (hall : NAll w lo hi l p) (hlc : l.length ≤ 1000000) (hls : l.length ≤ ss.length + 1) (hlo : lo ≤ B) (hhi : hi ≤ B) (hBw : B ≤ w.heap.size) (h : Wr B b kk X w) (hc : Ctx ad eD eM eR eS B w)
    (hg : w.heap[gs]? = some (.cells (ss.map Value.string).toArray 9 (0, 0))) (hgsb : gs ≠ b) (hlen : X.length + (jn (btw ss) (psA l) l.length).length ≤ 70368744177664) :
    Calls Tryz.prog 63 #[.pointer (some ⟨b, 0, none⟩), .slice p l.length cap, .slice (some ⟨gs, 0, none⟩) ss.length cs] w (WPost B b kk (X ++ jn (btw ss) (psA l) l.length) w) := by
  have HALL := Lib.hid (fun W (hb : Below B w W) => hall.below hb hhi)
  have HC := Lib.hid hc
  have HWO := Lib.hid hw
  have H := Lib.hid h
  have HG := Lib.hid hg
  have hgb := h.lt
  clear hall hc hw h hg
  have hll : (l.length : Int) ≤ 1000000 := by omega
  go_enter Tryz.func63, Tryz.ntmps63
  go_wp2
  go_loopw [10] (fun i wr => ∃ j : Nat, j ≤ l.length ∧ i = .int .i64 j ∧ Hid (Wr B b kk (X ++ jn (btw ss) (psA l) j) wr) ∧ Hid (Below B w wr) ∧ Hid (Kp b w wr)) (fun i _ => l.length - (intOf i).toNat)
  case atStart => exact ⟨0, Nat.zero_le _, rfl, Lib.hid (by simpa [jn] using H.out), Lib.hid (Below.refl _ _), Lib.hid (Kp.refl _ _)⟩
  case round =>
    obtain ⟨j, hj, rfl, HW, HB, HK⟩ := hrel
    have hz := HB.out.size
    have hbr := HW.out.lt
    by_cases hlt : j < l.length
    · obtain ⟨bi, off, o, n, s, v, ll, k, m, z, q, ql, qc, r, c, hp, _, hbhi, hli, h0, h1, h2, h3, h4, h5, h6, h7, hrep⟩ := (HALL.out wr HB.out).item j hlt
      subst hp
      have hbw : bi < wr.heap.size := by omega
      have hBr : B ≤ wr.heap.size := by omega
      have HRP := Lib.hid (fun W (hb : Below B wr W) => hrep.below hb hhi)
      have HWT := Lib.hid (HWO.out _ (List.getElem_mem hlt))
      have HGT := Lib.hid (psA_get l j hlt)
      have hjm := jn_mono (btw ss) (psA l) (j + 1) l.length hlt
      have hjl : X.length + (jn (btw ss) (psA l) (j + 1)).length ≤ 70368744177664 := by omega
      rw [jn_snoc, HGT.out, List.length_append, List.length_append] at hjl
      have HST := Lib.hid (show X ++ jn (btw ss) (psA l) (j + 1) = (X ++ jn (btw ss) (psA l) j) ++ ((if j = 0 then [] else btw ss (j - 1)) ++ parB (looseN l[j]) (wT l[j])) from by rw [jn_snoc, HGT.out, List.append_assoc])
      obtain ⟨Y, hY⟩ : ∃ Y, Y = X ++ jn (btw ss) (psA l) j := ⟨_, rfl⟩
      have hYl : Y.length = X.length + (jn (btw ss) (psA l) j).length := by rw [hY, List.length_append]
      rw [← hY] at HW HST
      obtain ⟨t, ht⟩ : ∃ t, t = l[j] := ⟨_, rfl⟩
      rw [← ht] at HWT HRP HST hjl
      obtain ⟨W1, hW1⟩ : ∃ W1, W1 = wr.alloc (.cells #[.int .i64 o, .int .i64 n, .string s, .int .i64 k, .int .i64 m, .string z, .slice q ql qc, .slice r ll.length c] 33) := ⟨_, rfl⟩
      have hb0 : Below wr.heap.size wr W1 := hW1 ▸ (Below.refl wr.heap.size wr).alloc (Nat.le_refl _) _
      have HX : Hid (W1.heap[wr.heap.size]? = some (.cells #[.int .i64 o, .int .i64 n, .string s, .int .i64 k, .int .i64 m, .string z, .slice q ql qc, .slice r ll.length c] 33 (0, 0))) := hW1 ▸ heap_alloc_new wr _
      have HW1 := Lib.hid (HW.out.below hb0)
      have hB1 : B ≤ W1.heap.size := Nat.le_trans hBr hb0.size
      have HB1 := Lib.hid (hb0.mono hBr)
      have HK1 : Hid (Kp b wr W1) := Kp.of_below hb0
      have HGS := Lib.hid (HK1.out gs _ _ (by decide) hgsb (HK.out gs _ _ (by decide) hgsb HG.out))
      obtain ⟨g, hg⟩ : ∃ g, g = wr.heap.size := ⟨_, rfl⟩
      have hgb2 : g ≠ b := by omega
      rw [← hg] at HX
      clear hrep hli hjm hY ht HGT hb0
      go_upto_if 16 with fail
      rw [← hW1, ← hg]
      clear hW1 hg h0 h1 h2 h3 h4 h5 h6 h7
      by_cases hj0 : j = 0
      · have hjb : decide ((0 : Int) < (j : Int)) = false := by simp; omega
        have HS := Lib.hid (show (if j = 0 then [] else btw ss (j - 1)) ++ parB (looseN t) (wT t) = parB (looseN t) (wT t) from by rw [if_pos hj0]; rfl)
        rw [if_pos hj0] at hjl
        obtain ⟨x0, x1, x2, x3, x4, x5, x6, x7, _⟩ := box8s _ g _ _ _ _ _ _ _ _ _ HX.out
        have HC1 := Lib.hid (part_any ad eD eM eR eS t HWT.out B b kk Y W1 lo hi _ (HRP.out _ HB1.out) hlo hhi hB1 HW1.out ((HC.out.on HB.out).on HB1.out) (by simp only [List.length_nil] at hjl; omega))
        go_wp2_with (go_at_call 62; refine HC1.out.mono ?_; rintro e w2 ⟨rfl, h2, hb2, hk2⟩; have H2 := Lib.hid h2; have HB2 := Lib.hid (HB1.out.trans hb2); have HK2 := Lib.hid (HK1.out.trans hk2); clear h2 hb2 hk2)
        go_roundw
        case rel => exact ⟨j + 1, by omega, by go_num, by rw [HST.out, HS.out]; exact H2, Lib.hid (HB.out.trans HB2.out), Lib.hid (HK.out.trans HK2.out)⟩
        case measure => simp [intOf]; omega
      · obtain ⟨i, hi⟩ : ∃ i, j = i + 1 := ⟨j - 1, by omega⟩
        have hjb : decide ((0 : Int) < (j : Int)) = true := by simp; omega
        have hiss : i < ss.length := by omega
        have hsep : btw ss (j - 1) = ss[i].data.toList := by unfold btw; rw [hi]; simp [hiss]
        have HS := Lib.hid (show (if j = 0 then [] else btw ss (j - 1)) ++ parB (looseN t) (wT t) = ss[i].data.toList ++ parB (looseN t) (wT t) from by rw [if_neg hj0, hsep])
        have hds : ss[i].data.toList.length = ss[i].size := Array.length_toList ..
        rw [if_neg hj0, hsep, hds] at hjl
        have hcs : W1.cell? ⟨gs, i, none⟩ = some (.string ss[i]) := by rw [cell_of_row _ _ _ _ _ _ HGS.out]; simp [hiss]
        obtain ⟨sep, hse⟩ : ∃ sep, sep = ss[i] := ⟨_, rfl⟩
        rw [← hse] at HS hjl hcs hds
        have hji : (j : Int) = (i : Int) + 1 := by omega
        have hji2 : (j : Int) - 1 = (i : Int) := by omega
        have hil : (i : Int) < (ss.length : Int) := by omega
        have HP1 := Lib.hid (put1_any B b kk Y sep W1 HW1.out (by omega) hB1)
        clear hse hsep hi hji
        go_wp2_with (first
          | (go_at_call 37; (with_reducible refine HP1.out.mono ?_); rintro e w2 ⟨rfl, h2, hb2, hk2⟩; have HB2 := Lib.hid (HB1.out.trans hb2); have HK2 := Lib.hid (HK1.out.trans hk2); have hx2 := hk2 g _ _ (by decide) hgb2 HX.out; obtain ⟨x0, x1, x2, x3, x4, x5, x6, x7, _⟩ := box8s _ g _ _ _ _ _ _ _ _ _ hx2; have HC2 := Lib.hid (part_any ad eD eM eR eS t HWT.out B b kk _ w2 lo hi _ (HRP.out _ HB2.out) hlo hhi (Nat.le_trans hB1 hb2.size) h2 ((HC.out.on HB.out).on HB2.out) (by rw [List.length_append, hds]; omega)); clear h2 hb2 hk2 hx2)
          | (go_at_call 62; refine HC2.out.mono ?_; rintro e w3 ⟨rfl, h3, hb3, hk3⟩; have H3 := Lib.hid h3; have HB3 := Lib.hid (HB2.out.trans hb3); have HK3 := Lib.hid (HK2.out.trans hk3); clear h3 hb3 hk3))
        go_roundw
        case rel => exact ⟨j + 1, by omega, by go_num, by rw [HST.out, HS.out, ← List.append_assoc]; exact H3, Lib.hid (HB.out.trans HB3.out), Lib.hid (HK.out.trans HK3.out)⟩
        case measure => simp [intOf]; omega
    · have hje : j = l.length := by omega
      have HF := Lib.hid (show X ++ jn (btw ss) (psA l) l.length = X ++ jn (btw ss) (psA l) j from by rw [hje])
      go_wp2
      go_end0
      exact ⟨rfl, by rw [HF.out]; exact HW.out, HB.out, HK.out⟩
end Go.Proofs.YtemkikjcjhmlaaaGreatDoor.Sh
