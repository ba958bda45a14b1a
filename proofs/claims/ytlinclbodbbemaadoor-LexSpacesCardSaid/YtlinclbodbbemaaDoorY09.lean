/- Contracts of the small functions of the reader of words: what stands next, passing it, kinds of bytes, runs, digits, kinds of runs. The reader of words: what stands between words. Texts in the making (strings.Builder), in a namespace of their own: WriteByte, WriteString, String. -/
import Derived.Test.YtlinclbodbbemaaDoorY00
import Derived.Test.YtlinclbodbbemaaDoorY07
import Derived.WalkSpells
import Derived.Below
import Derived.WalkKit
import Derived.ProofKit
import Derived.Lib.Hide
import Derived.Lib.ConvBytes
import Derived.Laws.IdiomStrings
import Derived.LoopTactic
import Derived.Deep.RegionWith
import Derived.Deep.DeepCutAuto
import Derived.Deep.QuietTactic
import Derived.BigQuiet
import Derived.Deep.RegionHeld3
import Derived.Lib.Builder
import Derived.Lib.UnsafeStr
import Derived.Lib.MakeNoZero
import Derived.Laws.Externs
import Derived.Laws.IdiomCopy
import Derived.Laws.BitsLemmas
import Derived.Shelf.Strings.Builder1
namespace Go.Proofs.YtlinclbodbbemaaDoor
open Go.RowKit
set_option maxRecDepth 100000

/-- The reader of words stands in block g: at p, on line n. -/
def LR (w : World) (g : Nat) (s : ByteArray) (p n : Nat) : Prop := w.heap[g]? = some (.cells #[.string s, .int .i64 p, .int .i64 n] 68 (0, 0))
theorem LR.open {w : World} {g : Nat} {s : ByteArray} {p n : Nat} (h : LR w g s p n) : w.cell? ⟨g, 0, none⟩ = some (.string s) ∧ w.cell? ⟨g, 1, none⟩ = some (.int .i64 p) ∧ w.cell? ⟨g, 2, none⟩ = some (.int .i64 n) ∧ (∀ o, w.frozen? ⟨g, o, none⟩ = false) ∧ g < w.heap.size := by
  unfold LR at h
  exact ⟨(cell_of_row _ _ 0 _ _ _ h).trans rfl, (cell_of_row _ _ 1 _ _ _ h).trans rfl, (cell_of_row _ _ 2 _ _ _ h).trans rfl, fun o => by simp [World.frozen?, h], by
    rcases Nat.lt_or_ge g w.heap.size with h1 | h1
    · exact h1
    · rw [Array.getElem?_eq_none h1] at h; cases h⟩
theorem LR.lt {w : World} {g : Nat} {s : ByteArray} {p n : Nat} (h : LR w g s p n) : g < w.heap.size := h.open.2.2.2.2
theorem LR.drewN {w : World} {g : Nat} {s : ByteArray} {p n : Nat} (h : LR w g s p n) (m : Nat) : LR (w.drewN m) g s p n := h
theorem LR.alloc {w : World} {g : Nat} {s : ByteArray} {p n : Nat} (h : LR w g s p n) (o : Obj) : LR (w.alloc o) g s p n := (Below.heap_alloc w o g h.lt).trans h
theorem LR.setPos {w : World} {g : Nat} {s : ByteArray} {p n : Nat} (h : LR w g s p n) (p' : Nat) {q : Int} (hq : q = (p' : Int)) : LR (w.setCell ⟨g, 1, none⟩ (.int .i64 q)) g s p' n := by
  subst hq; unfold LR at h ⊢; simp [World.setCell, Array.getElem?_modify, h]
theorem LR.setLine {w : World} {g : Nat} {s : ByteArray} {p n : Nat} (h : LR w g s p n) (n' : Nat) {q : Int} (hq : q = (n' : Int)) : LR (w.setCell ⟨g, 2, none⟩ (.int .i64 q)) g s p n' := by
  subst hq; unfold LR at h ⊢; simp [World.setCell, Array.getElem?_modify, h]
theorem LR.other {w : World} {g : Nat} {s : ByteArray} {p n : Nat} (h : LR w g s p n) (a : Addr) (hp : a.block ≠ g) (u : Value) : LR (w.setCell a u) g s p n := by
  unfold LR at h ⊢; rw [Below.heap_setCell]; exact h; exact fun e => hp e.symm
theorem LR.rdPos {w : World} {g : Nat} {s : ByteArray} {p n : Nat} (h : LR w g s p n) : rdPos w g = p := by
  unfold Go.Proofs.YtlinclbodbbemaaDoor.rdPos; rw [h.open.2.1]; simp
theorem LR.but {w w' : World} {g h : Nat} {s : ByteArray} {p n : Nat} (hr : LR w g s p n) (hb : But h w w') (hne : g ≠ h) : LR w' g s p n := (hb.block g hr.lt hne).trans hr
theorem LR.below {w w' : World} {g : Nat} {s : ByteArray} {p n : Nat} (hr : LR w g s p n) (hb : Below w.heap.size w w') : LR w' g s p n := heap_old hr hb

set_option maxHeartbeats 400000 in
theorem lnext_any (s : ByteArray) (p n g : Nat) (w : World) (hx : LR w g s p n) (hp : p ≤ s.size) (c : Int) (hc : ((nx (s.data.toList.drop p)).toNat : Int) = c) :
    Calls Tryd.prog 64 #[.pointer (some ⟨g, 0, none⟩)] w fun e w' => e = .returned (.int .u8 c) ∧ ∃ m, w' = w.drewN m := by
  subst hc
  obtain ⟨h0, h1, h2, hf, hlt⟩ := hx.open
  clear hx
  by_cases he : p = s.size
  · have hE := Lib.hid (ret_u8 ((congrArg (fun j => nx (s.data.toList.drop j)) he).trans (nx_end s)))
    rw [he] at h1
    go_enter Tryd.func64, Tryd.ntmps64
    go_wp2_with (go_quiet (fail))
    go_ret
    exact ⟨hE.out.symm, _, rfl⟩
  · have hj : p < s.size := by omega
    have hE := Lib.hid (ret_u8 (nx_at s p hj))
    go_enter Tryd.func64, Tryd.ntmps64
    go_wp2_with (go_quiet (fail))
    go_ret
    exact ⟨hE.out.symm, _, World.drewN_drewN _ _ _⟩

set_option maxHeartbeats 400000 in
theorem lpass_yes (s : ByteArray) (p n g : Nat) (c : Int) (w : World) (hx : LR w g s p n) (hp : p < s.size) (hs : s.size ≤ 140737488355328) (hc : ((nx (s.data.toList.drop p)).toNat : Int) = c) :
    Calls Tryd.prog 66 #[.pointer (some ⟨g, 0, none⟩), .int .u8 c] w fun e w' => e = .returned (.bool true) ∧ LR w' g s (p + 1) n ∧ But g w w' := by
  have sN := Lib.hid (lnext_any s p n g w hx (by omega) c hc)
  have HX := Lib.hid hx; clear hx
  have HC := Lib.hid hc; clear hc
  go_enter Tryd.func66, Tryd.ntmps66
  go_wp2_with (go_at_call 64; refine sN.out.mono ?_; rintro e w2 ⟨rfl, m, rfl⟩; obtain ⟨h0, h1, h2, hf, hlt⟩ := (HX.out.drewN m).open)
  go_ret
  exact ⟨rfl, (HX.out.drewN m).setPos _ (by omega), ((But.refl _ _).drewN m).setCell _ _⟩
set_option maxHeartbeats 400000 in
theorem lpass_no (s : ByteArray) (p n g : Nat) (c d : Int) (w : World) (hx : LR w g s p n) (hp : p ≤ s.size) (hc : ((nx (s.data.toList.drop p)).toNat : Int) = d) (hcd : d ≠ c) :
    Calls Tryd.prog 66 #[.pointer (some ⟨g, 0, none⟩), .int .u8 c] w fun e w' => e = .returned (.bool false) ∧ ∃ m, w' = w.drewN m := by
  have sN := Lib.hid (lnext_any s p n g w hx hp d hc)
  clear hx hc
  go_enter Tryd.func66, Tryd.ntmps66
  go_wp2_with (go_at_call 64; refine sN.out.mono ?_; rintro e w2 ⟨rfl, m, rfl⟩)
  go_ret
  exact ⟨rfl, m, rfl⟩

theorem isS_iff {c : UInt8} : isS c = true ↔ 97 ≤ c.toNat ∧ c.toNat ≤ 122 := by unfold isS; simp
theorem isC_iff {c : UInt8} : isC c = true ↔ 65 ≤ c.toNat ∧ c.toNat ≤ 90 := by unfold isC; simp
set_option maxHeartbeats 400000 in
theorem lexDigit_any (b : UInt8) (c : Int) (hc : (b.toNat : Int) = c) (d : Bool) (hd : isD b = d) (w : World) :
    Calls Tryd.prog 67 #[.int .u8 c] w fun e w' => e = .returned (.bool d) ∧ w' = w := by
  subst hc hd
  have hb : b.toNat < 256 := b.toNat_lt
  go_enter Tryd.func67, Tryd.ntmps67
  go_wp2
  all_goals
    go_ret
    exact ⟨ret_bool (by rw [Bool.eq_iff_iff, isD_iff]; simp; omega), rfl⟩
set_option maxHeartbeats 400000 in
theorem lexSmall_any (b : UInt8) (c : Int) (hc : (b.toNat : Int) = c) (d : Bool) (hd : isS b = d) (w : World) :
    Calls Tryd.prog 73 #[.int .u8 c] w fun e w' => e = .returned (.bool d) ∧ w' = w := by
  subst hc hd
  have hb : b.toNat < 256 := b.toNat_lt
  go_enter Tryd.func73, Tryd.ntmps73
  go_wp2
  all_goals
    go_ret
    exact ⟨ret_bool (by rw [Bool.eq_iff_iff, isS_iff]; simp; omega), rfl⟩
set_option maxHeartbeats 400000 in
theorem lexCapital_any (b : UInt8) (c : Int) (hc : (b.toNat : Int) = c) (d : Bool) (hd : isC b = d) (w : World) :
    Calls Tryd.prog 71 #[.int .u8 c] w fun e w' => e = .returned (.bool d) ∧ w' = w := by
  subst hc hd
  have hb : b.toNat < 256 := b.toNat_lt
  go_enter Tryd.func71, Tryd.ntmps71
  go_wp2
  all_goals
    go_ret
    exact ⟨ret_bool (by rw [Bool.eq_iff_iff, isC_iff]; simp; omega), rfl⟩
set_option maxHeartbeats 1000000 in
theorem lexOfRun_any (b : UInt8) (c : Int) (hc : (b.toNat : Int) = c) (d : Bool) (hd : isR b = d) (w : World) :
    Calls Tryd.prog 97 #[.int .u8 c] w fun e w' => e = .returned (.bool d) ∧ w' = w := by
  subst hd
  have hR : isR b = (isS b || isC b || isD b || (b.toNat == 95)) := rfl
  have H95 := Lib.hid (show (b.toNat == 95) = (c == 95) from by rw [Bool.eq_iff_iff]; simp; omega)
  rw [hR]
  rcases hS : isS b
  · rcases hC : isC b
    · rcases hD : isD b
      · have sS := Lib.hid (fun w => lexSmall_any b c hc _ hS w)
        have sC := Lib.hid (fun w => lexCapital_any b c hc _ hC w)
        have sD := Lib.hid (fun w => lexDigit_any b c hc _ hD w)
        clear hS hC hD hc hR
        go_enter Tryd.func97, Tryd.ntmps97
        go_wp2_with (first
          | (go_at_call 73; refine (sS.out _).mono ?_; rintro e w2 ⟨rfl, rfl⟩)
          | (go_at_call 71; refine (sC.out _).mono ?_; rintro e w2 ⟨rfl, rfl⟩)
          | (go_at_call 67; refine (sD.out _).mono ?_; rintro e w2 ⟨rfl, rfl⟩))
        go_ret
        exact ⟨by rw [H95.out]; rfl, rfl⟩
      · have sS := Lib.hid (fun w => lexSmall_any b c hc _ hS w)
        have sC := Lib.hid (fun w => lexCapital_any b c hc _ hC w)
        have sD := Lib.hid (fun w => lexDigit_any b c hc _ hD w)
        clear hS hC hD hc hR
        go_enter Tryd.func97, Tryd.ntmps97
        go_wp2_with (first
          | (go_at_call 73; refine (sS.out _).mono ?_; rintro e w2 ⟨rfl, rfl⟩)
          | (go_at_call 71; refine (sC.out _).mono ?_; rintro e w2 ⟨rfl, rfl⟩)
          | (go_at_call 67; refine (sD.out _).mono ?_; rintro e w2 ⟨rfl, rfl⟩))
        go_ret
        exact ⟨rfl, rfl⟩
    · have sS := Lib.hid (fun w => lexSmall_any b c hc _ hS w)
      have sC := Lib.hid (fun w => lexCapital_any b c hc _ hC w)
      clear hS hC hc hR
      go_enter Tryd.func97, Tryd.ntmps97
      go_wp2_with (first
        | (go_at_call 73; refine (sS.out _).mono ?_; rintro e w2 ⟨rfl, rfl⟩)
        | (go_at_call 71; refine (sC.out _).mono ?_; rintro e w2 ⟨rfl, rfl⟩))
      go_ret
      exact ⟨rfl, rfl⟩
  · have sS := Lib.hid (fun w => lexSmall_any b c hc _ hS w)
    clear hS hc hR
    go_enter Tryd.func97, Tryd.ntmps97
    go_wp2_with (go_at_call 73; refine (sS.out _).mono ?_; rintro e w2 ⟨rfl, rfl⟩)
    go_ret
    exact ⟨rfl, rfl⟩

theorem list_nx {s : ByteArray} {p : Nat} (h : p < s.size) : nx (s.data.toList.drop p) = s[p] := nx_at s p h
theorem ba_ext {a b : ByteArray} (h : a.data.toList = b.data.toList) : a = b := by
  apply ByteArray.ext; apply Array.ext'; exact h
theorem ext_take (s : ByteArray) (p q : Nat) : (s.extract p q).data.toList = (s.data.toList.drop p).take (q - p) := by
  have h : (s.extract p q).data = s.data.extract p q := by simp
  rw [h]; simp
theorem runB_step {s : ByteArray} {p : Nat} (h : p < s.size) : runB (s.data.toList.drop p) = if isR (nx (s.data.toList.drop p)) then nx (s.data.toList.drop p) :: runB (s.data.toList.drop (p + 1)) else [] := by
  have e := congrArg runB (drop_at h)
  rw [e, runB]
theorem runB_take {s : ByteArray} {p : Nat} : (s.data.toList.drop p).take (runB (s.data.toList.drop p)).length = runB (s.data.toList.drop p) := by
  have h := runB_pre (s.data.toList.drop p)
  generalize runB (s.data.toList.drop p) = d at *
  rw [← h]; simp
theorem nx0_R {r : Bs} (h : isR (nx r) = true) : (nx r).toNat ≠ 0 := by
  intro e
  unfold isR isS isC isD at h
  rw [e] at h
  simp at h

def RunPost (s : ByteArray) (p n g : Nat) (w : World) (e : Ending) (w' : World) : Prop :=
  e = .returned (.string ⟨(runB (s.data.toList.drop p)).toArray⟩) ∧ LR w' g s (p + (runB (s.data.toList.drop p)).length) n ∧ But g w w'

set_option maxHeartbeats 2000000 in
theorem run_any (s : ByteArray) (p n g : Nat) (w : World) (hx : LR w g s p n) (hp : p ≤ s.size) (hs : s.size ≤ 140737488355328) :
    Calls Tryd.prog 68 #[.pointer (some ⟨g, 0, none⟩)] w (RunPost s p n g w) := by
  obtain ⟨h0, h1, h2, hf, hlt⟩ := hx.open
  have HX := Lib.hid hx; clear hx
  have hsl : s.data.toList.length = s.size := by simp
  have HSL := Lib.hid hsl; clear hsl
  go_enter Tryd.func68, Tryd.ntmps68
  go_wp2
  clear h0 h1 h2 hf
  go_loopw [] (fun wr => ∃ q : Nat, p ≤ q ∧ q ≤ s.size ∧ Hid (runB (s.data.toList.drop p) = (s.data.toList.drop p).take (q - p) ++ runB (s.data.toList.drop q)) ∧ Hid (LR wr g s q n) ∧ Hid (But g w wr)) (fun wr => s.size - rdPos wr g)
  case atStart => exact ⟨p, Nat.le_refl _, hp, Lib.hid (by simp), HX, Lib.hid (But.refl _ _)⟩
  case round =>
    obtain ⟨q, hpq, hq, hrun, hxr, hbr⟩ := hrel
    obtain ⟨c, hc⟩ : ∃ c : Int, ((nx (s.data.toList.drop q)).toNat : Int) = c := ⟨_, rfl⟩
    have sN := Lib.hid (lnext_any s q n g wr hxr.out hq c hc)
    rcases hR : isR (nx (s.data.toList.drop q))
    · have sR := Lib.hid (fun w => lexOfRun_any _ c hc _ hR w)
      have hE : runB (s.data.toList.drop q) = [] := by
        by_cases hqs : q < s.size
        · rw [runB_step hqs, hR]; rfl
        · rw [drop_end hqs]; rfl
      have hE2 := hrun.out
      rw [hE, List.append_nil] at hE2
      have HE := Lib.hid hE2
      have HL := Lib.hid (show (runB (s.data.toList.drop p)).length = q - p from by rw [hE2]; simp; omega)
      clear hE hE2 hc hR
      obtain ⟨h0, h1, h2, hf, hlt⟩ := hxr.out.open
      go_wp2_with (first
        | (go_at_call 64; refine sN.out.mono ?_; rintro e w2 ⟨rfl, m, rfl⟩)
        | (go_at_call 97; refine (sR.out _).mono ?_; rintro e w2 ⟨rfl, rfl⟩)
        | go_quiet (fail))
      go_ret
      refine ⟨?_, ?_, ?_⟩
      · rw [HE.out]; exact congrArg (fun b => Ending.returned (Value.string b)) (ba_ext (a := s.extract p q) (b := ⟨((s.data.toList.drop p).take (q - p)).toArray⟩) (by rw [ext_take]))
      · rw [HL.out, show p + (q - p) = q by omega]; exact (hxr.out.drewN m).drewN _
      · exact (hbr.out.drewN m).drewN _
    · have sR := Lib.hid (fun w => lexOfRun_any _ c hc _ hR w)
      have hqs : q < s.size := nx_drop (nx0_R hR)
      have hE2 := hrun.out
      rw [runB_step hqs, hR, if_pos rfl] at hE2
      have HE := Lib.hid hE2
      have HRP := Lib.hid hxr.out.rdPos
      clear hE2 hc hR
      go_wp2_with (first
        | (go_at_call 64; refine sN.out.mono ?_; rintro e w2 ⟨rfl, m, rfl⟩; obtain ⟨h0, h1, h2, hf, hlt⟩ := (hxr.out.drewN m).open)
        | (go_at_call 97; refine (sR.out _).mono ?_; rintro e w2 ⟨rfl, rfl⟩))
      go_roundw
      case measure => rw [HRP.out, ((hxr.out.drewN m).setPos (q + 1) (q := (q : Int) + 1) (by simp)).rdPos]; omega
      case rel =>
        refine ⟨q + 1, by omega, by omega, Lib.hid ?_, Lib.hid ((hxr.out.drewN m).setPos _ (by simp)), Lib.hid ((hbr.out.drewN m).setCell _ _)⟩
        refine HE.out.trans ?_
        have e : (s.data.toList.drop p).take (q + 1 - p) = (s.data.toList.drop p).take (q - p) ++ [nx (s.data.toList.drop q)] := by
          have hl := HSL.out
          rw [show q + 1 - p = (q - p) + 1 by omega, List.take_add_one]
          congr 1
          rw [List.getElem?_drop, show p + (q - p) = q by omega, List.getElem?_eq_getElem (by omega), nx_at s q hqs]
          rfl
        rw [e, List.append_assoc]; rfl

theorem run_val (s : ByteArray) (p n g : Nat) (w : World) (hx : LR w g s p n) (hp : p ≤ s.size) (hs : s.size ≤ 140737488355328) (d : Bs) (hd : runB (s.data.toList.drop p) = d) :
    Calls Tryd.prog 68 #[.pointer (some ⟨g, 0, none⟩)] w fun e w' => e = .returned (.string ⟨d.toArray⟩) ∧ LR w' g s (p + d.length) n ∧ But g w w' := by
  subst hd; exact run_any s p n g w hx hp hs

end Go.Proofs.YtlinclbodbbemaaDoor

namespace Go.Proofs.YtlinclbodbbemaaDoor
open Go.RowKit
set_option maxRecDepth 100000

theorem skipL_step {s : ByteArray} {n p : Nat} (h : p < s.size) : skipL n (s.data.toList.drop p) = if (nx (s.data.toList.drop p)).toNat = 10 then skipL (n + 1) (s.data.toList.drop (p + 1)) else if (nx (s.data.toList.drop p)).toNat = 32 then skipL n (s.data.toList.drop (p + 1)) else (n, s.data.toList.drop p) := by
  have e := congrArg (skipL n) (drop_at h)
  rw [e, skipL, ← drop_at h]
def LBegPost (s : ByteArray) (n p g : Nat) (w : World) (e : Ending) (w' : World) : Prop :=
  ∃ n' p', p' ≤ s.size ∧ n' ≤ n + (p' - p) ∧ p ≤ p' ∧ skipL n (s.data.toList.drop p) = (n', s.data.toList.drop p') ∧ e = .returned (.bool (decide (p' < s.size))) ∧ LR w' g s p' n' ∧ But g w w'

set_option maxHeartbeats 4000000 in
theorem begins_any (s : ByteArray) (p0 n0 g : Nat) (w : World) (hx : LR w g s p0 n0) (hp : p0 ≤ s.size) (hs : s.size ≤ 140737488355328) (hn0 : n0 ≤ 140737488355328) :
    Calls Tryd.prog 40 #[.pointer (some ⟨g, 0, none⟩)] w (LBegPost s n0 p0 g w) := by
  have HX := Lib.hid hx; clear hx
  go_enter Tryd.func40, Tryd.ntmps40
  go_wp2
  go_loopw [] (fun wr => ∃ p n : Nat, p0 ≤ p ∧ p ≤ s.size ∧ n ≤ n0 + (p - p0) ∧ Hid (skipL n0 (s.data.toList.drop p0) = skipL n (s.data.toList.drop p)) ∧ Hid (LR wr g s p n) ∧ Hid (But g w wr)) (fun wr => s.size - rdPos wr g)
  case atStart => exact ⟨p0, n0, Nat.le_refl _, hp, by omega, Lib.hid rfl, HX, Lib.hid (But.refl _ _)⟩
  case round =>
    obtain ⟨p, n, hpp, hps, hnn, hsk, hxr, hbr⟩ := hrel
    obtain ⟨h0, h1, h2, hf, hlt⟩ := hxr.out.open
    have hf1 := hf 1; have hf2 := hf 2
    clear hf
    have HRP := Lib.hid hxr.out.rdPos
    by_cases hlt2 : p < s.size
    · obtain ⟨c, hc⟩ : ∃ c : Int, ((nx (s.data.toList.drop p)).toNat : Int) = c := ⟨_, rfl⟩
      have hst := hsk.out.trans (skipL_step hlt2)
      have sN := fun m => Lib.hid (lnext_any s p n g (wr.drewN m) (hxr.out.drewN m) (by omega) c hc)
      have hcN : (nx (s.data.toList.drop p)).toNat = c.toNat := by omega
      rw [hcN] at hst
      clear hcN
      by_cases h10 : c = 10
      · subst h10
        have HE := Lib.hid (show skipL n0 (s.data.toList.drop p0) = skipL (n + 1) (s.data.toList.drop (p + 1)) from hst)
        clear hst hc
        go_wp2_with (first
          | (go_at_call 64; refine (sN _).out.mono ?_; rintro e w3 ⟨rfl, m, hw3⟩; have HX3 := Lib.hid (show LR w3 g s p n from by rw [hw3]; exact (hxr.out.drewN _).drewN m); have HB3 := Lib.hid (show But g w w3 from by rw [hw3]; exact (hbr.out.drewN _).drewN m); clear hw3; obtain ⟨k0, k1, k2, kf, klt⟩ := HX3.out.open; have kf1 := kf 1; have kf2 := kf 2; clear kf)
          | go_quiet (fail))
        go_roundw
        case measure => rw [HRP.out, ((HX3.out.setLine (n + 1) (q := (n : Int) + 1) (by simp)).setPos (p + 1) (q := (p : Int) + 1) (by simp)).rdPos]; omega
        case rel => exact ⟨p + 1, n + 1, by omega, by omega, by omega, HE, Lib.hid ((HX3.out.setLine (n + 1) (q := (n : Int) + 1) (by simp)).setPos (p + 1) (q := (p : Int) + 1) (by simp)), Lib.hid ((HB3.out.setCell _ _).setCell _ _)⟩
      · by_cases h32 : c = 32
        · subst h32
          have HE := Lib.hid (show skipL n0 (s.data.toList.drop p0) = skipL n (s.data.toList.drop (p + 1)) from hst)
          clear hst hc
          go_wp2_with (first
            | (go_at_call 64; refine (sN _).out.mono ?_; rintro e w3 ⟨rfl, m, hw3⟩; have HX3 := Lib.hid (show LR w3 g s p n from by rw [hw3]; exact (hxr.out.drewN _).drewN m); have HB3 := Lib.hid (show But g w w3 from by rw [hw3]; exact (hbr.out.drewN _).drewN m); clear hw3; obtain ⟨k0, k1, k2, kf, klt⟩ := HX3.out.open; have kf1 := kf 1; have kf2 := kf 2; clear kf)
            | go_quiet (fail))
          go_roundw
          case measure => rw [HRP.out, (HX3.out.setPos (p + 1) (q := (p : Int) + 1) (by simp)).rdPos]; omega
          case rel => exact ⟨p + 1, n, by omega, by omega, by omega, HE, Lib.hid (HX3.out.setPos (p + 1) (q := (p : Int) + 1) (by simp)), Lib.hid (HB3.out.setCell _ _)⟩
        · have HE := Lib.hid (show skipL n0 (s.data.toList.drop p0) = (n, s.data.toList.drop p) from by rw [hst, if_neg (by omega), if_neg (by omega)])
          have hd : decide (p < s.size) = true := by simpa using hlt2
          have HD := Lib.hid hd
          clear hst hc hd
          go_wp2_with (first
            | (go_at_call 64; refine (sN _).out.mono ?_; rintro e w3 ⟨rfl, m, hw3⟩; have HX3 := Lib.hid (show LR w3 g s p n from by rw [hw3]; exact (hxr.out.drewN _).drewN m); have HB3 := Lib.hid (show But g w w3 from by rw [hw3]; exact (hbr.out.drewN _).drewN m); clear hw3)
            | go_quiet (fail))
          go_ret
          exact ⟨n, p, hps, hnn, hpp, HE.out, by rw [HD.out]; rfl, HX3.out, HB3.out⟩
    · have hpe : p = s.size := by omega
      have HE := Lib.hid (show skipL n0 (s.data.toList.drop p0) = (n, s.data.toList.drop p) from by rw [hsk.out, drop_end hlt2]; rfl)
      have hd : decide (p < s.size) = false := by simpa using hlt2
      have HD := Lib.hid hd
      clear hd
      go_wp2_with (go_quiet (fail))
      go_ret
      exact ⟨n, p, hps, hnn, hpp, HE.out, by rw [HD.out]; rfl, hxr.out.drewN _, hbr.out.drewN _⟩

end Go.Proofs.YtlinclbodbbemaaDoor

namespace Go.Proofs.YtlinclbodbbemaaDoor.Bd
open Go.RowKit
set_option maxRecDepth 100000

theorem size_builder : (Tryd.prog.info? 77).map (·.size) = some 2 := by kernel_rfl
theorem lies_builder : liesAt Tryd.prog Tryd.prog.depth 77 (2 / Tryd.prog.cellsOf 77) 0 77 1 = true := by kernel_rfl
theorem info_byte : (Tryd.prog.info? 5).map (fun i => (i.zero, i.size, i.bytes)) = some (some (.int .u8 0), 1, 1) := by kernel_rfl
theorem cells_byte : Tryd.prog.cellsOf 5 = 1 := by kernel_rfl

set_option maxHeartbeats 1000000 in
theorem copy_used (b : Nat) (w : World) (h0 : w.cell? ⟨b, 0, none⟩ = some (.pointer (some ⟨b, 0, none⟩))) :
    Calls Tryd.prog 76 #[.pointer (some ⟨b, 0, none⟩)] w fun e w' => e = .returned (.tuple #[]) ∧ w' = w := by
  obtain ⟨j, hj, _⟩ := Option.map_eq_some_iff.1 size_builder
  go_enter Tryd.func76, Tryd.ntmps76
  go_wp2
  rw [Lib.run_neq_ptr_same w _ Tryd.underlying74 hj]
  go_wp2
  go_end0
  exact ⟨rfl, rfl⟩

set_option maxHeartbeats 1000000 in
theorem copy_fresh (b : Nat) (w : World) (h0 : w.cell? ⟨b, 0, none⟩ = some (.pointer none)) (hsh : w.shape? b = some (77, 2)) (hfz : w.frozen? ⟨b, 0, none⟩ = false) :
    Calls Tryd.prog 76 #[.pointer (some ⟨b, 0, none⟩)] w fun e w' => e = .returned (.tuple #[]) ∧ w' = w.setCell ⟨b, 0, none⟩ (.pointer (some ⟨b, 0, none⟩)) := by
  obtain ⟨j, hj, hjs⟩ := Option.map_eq_some_iff.1 size_builder
  go_enter Tryd.func76, Tryd.ntmps76
  go_wp2
  rw [Lib.run_to_unsafe w ⟨b, 0, none⟩ Tryd.underlying74 Tryd.underlying132 hj (by rw [hjs]; decide) hsh (Nat.zero_lt_succ 1)]
  simp only [Result.andThen]
  rw [Oper.upon_value]
  go_wp2
  rw [run_callFunc_extern Tryd.func101 (by kernel_rfl) (by kernel_rfl) (by kernel_rfl) (e := Extern.AbiNoEscape.same) (by kernel_rfl)]
  rw [Lib.run_noEscape]
  simp only [Result.andThen]
  rw [Oper.upon_value]
  go_wp2
  rw [Lib.run_from_unsafe w ⟨b, 0, none⟩ Tryd.underlying132 Tryd.underlying74 hj hsh lies_builder]
  simp only [Result.andThen]
  rw [Oper.upon_value]
  go_wp2
  go_end0
  exact ⟨rfl, rfl⟩

/-- A text in the making in block b: it holds the bytes bs. -/
abbrev Mk (B b : Nat) (bs : List Value) (w : World) : Prop := Lib.IsBuilder 77 5 B b bs w

/-- Boxes of other types, beside b, stay as they are. -/
def KeepT (b : Nat) (w w' : World) : Prop := ∀ (X : Nat) (cs : Array Value) (T : TypeId), T ≠ 5 → X ≠ b → w.heap[X]? = some (.cells cs T (0, 0)) → w'.heap[X]? = some (.cells cs T (0, 0))
theorem KeepT.refl (b : Nat) (w : World) : KeepT b w w := fun _ _ _ _ _ h => h
theorem KeepT.trans {b : Nat} {a w w' : World} (h : KeepT b a w) (k : KeepT b w w') : KeepT b a w' := fun X cs T h1 h2 h3 => k X cs T h1 h2 (h X cs T h1 h2 h3)
theorem KeepT.set {b : Nat} {a w : World} (h : KeepT b a w) (o : Nat) (u : Value) : KeepT b a (w.setCell ⟨b, o, none⟩ u) := fun X cs T h1 h2 h3 => (Below.heap_setCell _ _ _ _ h2).trans (h X cs T h1 h2 h3)
theorem KeepT.alloc {b : Nat} {a w : World} (h : KeepT b a w) (o : Obj) : KeepT b a (w.alloc o) := fun X cs T h1 h2 h3 => by
  have := h X cs T h1 h2 h3
  refine (Below.heap_alloc w o X ?_).trans this
  rcases Nat.lt_or_ge X w.heap.size with h' | h'
  · exact h'
  · rw [Array.getElem?_eq_none h'] at this; cases this
theorem KeepT.grown {b B n : Nat} {a w w' : World} {v : Value} {xs : List Value} (h : KeepT b a w) (ho : w.ownsRow B 5 1 v n xs) (hg : w.grownBy w' v.ownBlock) : KeepT b a w' := fun X cs T h1 h2 h3 => by
  have := h X cs T h1 h2 h3
  have hX : X < w.heap.size := by
    rcases Nat.lt_or_ge X w.heap.size with h' | h'
    · exact h'
    · rw [Array.getElem?_eq_none h'] at this; cases this
  refine (hg.block X hX (fun e => ?_)).trans this
  rcases ho.2 with ⟨rfl, _⟩ | ⟨g, cap, cur, rfl, _, hgg, _⟩
  · cases e
  · simp only [Value.ownBlock, Option.some.injEq] at e
    subst e
    rw [this] at hgg
    simp only [Option.some.injEq, Obj.cells.injEq] at hgg
    exact h1 hgg.2.1

theorem copy_any (B b : Nat) (bs : List Value) (w : World) (h : Mk B b bs w) :
    Calls Tryd.prog 76 #[.pointer (some ⟨b, 0, none⟩)] w fun e w' => e = .returned (.tuple #[]) ∧ (Lib.BuilderAt 77 5 B b (.pointer (some ⟨b, 0, none⟩)) bs w' ∧ Below B w w' ∧ KeepT b w w') := by
  rcases h with h | h
  · refine (copy_fresh b w h.cell0 h.shape h.frozen0).mono ?_
    rintro e w' ⟨rfl, rfl⟩
    exact ⟨rfl, h.used _, (Below.refl B w).setCell (p := ⟨b, 0, none⟩) h.1 _, (KeepT.refl _ _).set _ _⟩
  · refine (copy_used b w h.cell0).mono ?_
    rintro e w' ⟨rfl, rfl⟩
    exact ⟨rfl, h, Below.refl B _, KeepT.refl _ _⟩

set_option maxHeartbeats 2000000 in
theorem write_any (B b : Nat) (bs : List Value) (s : ByteArray) (w : World) (h : Mk B b bs w) (hlen : bs.length + s.size ≤ 140737488355328) (hBw : B ≤ w.heap.size) :
    Calls Tryd.prog 43 #[.pointer (some ⟨b, 0, none⟩), .string s] w fun e w' => e = .returned (.tuple #[.int .i64 s.size, .nilIface]) ∧ (Lib.BuilderAt 77 5 B b (.pointer (some ⟨b, 0, none⟩)) (bs ++ Lib.strCells s) w' ∧ Below B w w' ∧ KeepT b w w') := by
  obtain ⟨i0, hi, hz0, hz1, hz2⟩ := info_parts info_byte
  go_enter Tryd.func43, Tryd.ntmps43
  go_wp2_with (go_at_call 76; refine (copy_any B b bs _ h).mono ?_)
  rintro e w1 ⟨rfl, h1, hb1, hk1⟩
  obtain ⟨hB, v, hbk, hown, hne⟩ := h1
  have c0 : w1.cell? ⟨b, 0, none⟩ = some (.pointer (some ⟨b, 0, none⟩)) := by rw [Lib.cell_of_heap hbk]; rfl
  have c1 : w1.cell? ⟨b, 1, none⟩ = some v := by rw [Lib.cell_of_heap hbk]; rfl
  go_wp2_with (at_builtin; refine Lib.wpList_append_own_string _ rfl _ _ 75 9 rfl B 5 i0 Tryd.underlying75 Tryd.underlying9 hi hz0 hz1 hz2 _ _ _ rfl hown s rfl ?c3 ?c4 ?c5 ?_)
  case c3 => unfold maxLen; omega
  case c4 => omega
  case c5 => have := hb1.size; omega
  intro v' w2 hown' hgrow _
  have hlt : b < w1.heap.size := by
    rcases Nat.lt_or_ge b w1.heap.size with h' | h'
    · exact h'
    · simp [Array.getElem?_eq_none h'] at hbk
  have hb2 : w2.heap[b]? = some (.cells #[.pointer (some ⟨b, 0, none⟩), v] 77 (0, 0)) := by
    rw [hgrow.block b hlt (fun e => hne e.symm)]
    exact hbk
  have d0 : w2.cell? ⟨b, 0, none⟩ = some (.pointer (some ⟨b, 0, none⟩)) := by rw [Lib.cell_of_heap hb2]; rfl
  have d1 : w2.cell? ⟨b, 1, none⟩ = some v := by rw [Lib.cell_of_heap hb2]; rfl
  have f1 : w2.frozen? ⟨b, 1, none⟩ = false := Lib.frozen_of_heap hb2 1
  obtain ⟨ao, n', cap, rfl⟩ : ∃ ao n' cap, v' = .slice ao n' cap := by
    rcases hown'.2 with ⟨hv, _⟩ | ⟨g, cap, cur, hv, _⟩
    · exact ⟨_, _, _, hv⟩
    · exact ⟨_, _, _, hv⟩
  go_wp2
  go_ret2
  refine ⟨rfl, ?_, ?_, (hk1.grown hown hgrow).set _ _⟩
  · exact Lib.BuilderAt.put (T := 77) (e := 5) hB hb2 (bs' := bs ++ Lib.strCells s) (by simpa [Lib.strCells_length] using hown') (by decide)
  · exact (hb1.grown hgrow (by have := hb1.size; omega) (fun k hk => (hown.lt k hk).1)).setCell (p := ⟨b, 1, none⟩) hB _

set_option maxHeartbeats 1000000 in
theorem string_some (B b : Nat) (l : List UInt8) (w : World) (h : Mk B b (Lib.byteCells l) w) (h0 : l ≠ []) :
    Calls Tryd.prog 45 #[.pointer (some ⟨b, 0, none⟩)] w fun e w' => e = .returned (.string ⟨l.toArray⟩) ∧ Below B w w' := by
  obtain ⟨p, hB, v, hbk, hown, hne⟩ : ∃ p, Lib.BuilderAt 77 5 B b p (Lib.byteCells l) w := by
    rcases h with h | h
    · exact ⟨_, h⟩
    · exact ⟨_, h⟩
  have hl0 : l.length ≠ 0 := by simpa using h0
  rw [Lib.byteCells_length] at hown
  obtain ⟨g, cap, cur, rfl, hbg, hg, hnc, hcm, hcs, htake⟩ : ∃ g cap cur, v = .slice (some ⟨g, 0, none⟩) l.length cap ∧ B ≤ g ∧ w.heap[g]? = some (.cells cur 5 (0, 0)) ∧ l.length ≤ cap ∧ cap ≤ maxLen ∧ cur.size = cap * 1 ∧ cur.toList.take (l.length * 1) = Lib.byteCells l := by
    rcases hown.2 with ⟨_, hz⟩ | ⟨g, cap, cur, hv, r⟩
    · exact absurd hz hl0
    · exact ⟨g, cap, cur, hv, r⟩
  have c1 : w.drew.cell? ⟨b, 1, none⟩ = some (.slice (some ⟨g, 0, none⟩) l.length cap) := by
    have : w.drew.heap[b]? = some (.cells #[p, .slice (some ⟨g, 0, none⟩) l.length cap] 77 (0, 0)) := hbk
    rw [Lib.cell_of_heap this]; rfl
  have hSD : (Builtin.unsafeSliceData_ #[75] 110 #[.slice (some ⟨g, 0, none⟩) l.length cap]).run Tryd.prog w.drew = .ok (.pointer (some ⟨g, 0, none⟩)) w.drew :=
    Lib.run_unsafeSliceData_row _ _ _ _ _ _ (by omega)
  have hUS : (Builtin.unsafeString_ #[110, 3] 9 #[.pointer (some ⟨g, 0, none⟩), .int .i64 l.length]).run Tryd.prog w.drew = .ok (.string ⟨l.toArray⟩) (w.drew.freeze ⟨g, 0, none⟩ l.length) := by
    refine Lib.run_unsafeString_row w.drew 110 3 9 5 Tryd.underlying110 cells_byte g cur.size (by have hg' : w.drew.heap[g]? = some (.cells cur 5 (0, 0)) := hg; simp [World.shape?, hg']) l h0 (by omega) (by unfold maxLen at hcm; omega) ?_
    intro j x hx
    have := hown.cells (g := g) rfl j (.int .u8 x.toNat) (by simp [Lib.byteCells, hx])
    exact this
  clear h hown
  go_enter Tryd.func45, Tryd.ntmps45
  go_wp2
  go_region
  all_goals (go_wp2; go_ret; exact ⟨rfl, Lib.below_freeze (Below.drew (Below.refl B w)) (p := ⟨g, 0, none⟩) hbg _⟩)

theorem string_none (W : World) (q : Option Addr) : (Builtin.unsafeString_ #[110, 3] 9 #[.pointer q, .int .i64 0]).run Tryd.prog W = .ok (.string .empty) W :=
  Lib.run_unsafeString_none W _ _ _ q

set_option maxHeartbeats 2000000 in
theorem string_nil (B b : Nat) (p : Value) (w : World) (hbk : w.heap[b]? = some (.cells #[p, .slice none 0 0] 77 (0, 0))) :
    Calls Tryd.prog 45 #[.pointer (some ⟨b, 0, none⟩)] w fun e w' => e = .returned (.string ⟨#[]⟩) ∧ Below B w w' := by
  have hUS := string_none
  have c1 : w.drew.cell? ⟨b, 1, none⟩ = some (.slice none 0 0) := by
    have : w.drew.heap[b]? = some (.cells #[p, .slice none 0 0] 77 (0, 0)) := hbk
    rw [Lib.cell_of_heap this]; rfl
  have hSD : (Builtin.unsafeSliceData_ #[75] 110 #[.slice none 0 0]).run Tryd.prog w.drew = .ok (.pointer none) w.drew := rfl
  go_enter Tryd.func45, Tryd.ntmps45
  go_wp2
  go_region
  all_goals (go_wp2; go_ret; exact ⟨rfl, Below.drew (Below.refl B w)⟩)

set_option maxHeartbeats 2000000 in
theorem string_noroom (B b g : Nat) (p : Value) (cur : Array Value) (w : World) (hBw : B ≤ w.heap.size) (hbk : w.heap[b]? = some (.cells #[p, .slice (some ⟨g, 0, none⟩) 0 0] 77 (0, 0))) (hg : w.heap[g]? = some (.cells cur 5 (0, 0))) :
    Calls Tryd.prog 45 #[.pointer (some ⟨b, 0, none⟩)] w fun e w' => e = .returned (.string ⟨#[]⟩) ∧ Below B w w' := by
  have hUS := string_none
  have hlt : b < w.heap.size := by
    rcases Nat.lt_or_ge b w.heap.size with h' | h'
    · exact h'
    · simp [Array.getElem?_eq_none h'] at hbk
  have c1 : w.drew.cell? ⟨b, 1, none⟩ = some (.slice (some ⟨g, 0, none⟩) 0 0) := by
    have : w.drew.heap[b]? = some (.cells #[p, .slice (some ⟨g, 0, none⟩) 0 0] 77 (0, 0)) := hbk
    rw [Lib.cell_of_heap this]; rfl
  have hSD : (Builtin.unsafeSliceData_ #[75] 110 #[.slice (some ⟨g, 0, none⟩) 0 0]).run Tryd.prog w.drew = .ok (.pointer (some ⟨w.drew.heap.size, 0, none⟩)) (w.drew.alloc (.view ⟨g, 0, none⟩ 5)) :=
    Lib.run_unsafeSliceData_zero w.drew _ _ 5 Tryd.underlying110 ⟨g, 0, none⟩ 0 (5, cur.size) (by have hg' : w.drew.heap[g]? = some (.cells cur 5 (0, 0)) := hg; simp [World.shape?, hg'])
  have c2 : (w.drew.alloc (.view ⟨g, 0, none⟩ 5)).cell? ⟨b, 1, none⟩ = some (.slice (some ⟨g, 0, none⟩) 0 0) := by
    have : (w.drew.alloc (.view ⟨g, 0, none⟩ 5)).heap[b]? = _ := (Lib.alloc_old w.drew _ b hlt).trans hbk
    rw [Lib.cell_of_heap this]; rfl
  have c3 : (w.alloc (.view ⟨g, 0, none⟩ 5)).drew.cell? ⟨b, 1, none⟩ = some (.slice (some ⟨g, 0, none⟩) 0 0) := c2
  have c0 : w.cell? ⟨b, 1, none⟩ = some (.slice (some ⟨g, 0, none⟩) 0 0) := c1
  go_enter Tryd.func45, Tryd.ntmps45
  go_wp2
  go_region
  all_goals (go_wp2; go_ret; exact ⟨rfl, (Below.drew (Below.refl B w)).alloc hBw _⟩)

set_option maxHeartbeats 2000000 in
theorem string_room (B b g cap : Nat) (p : Value) (w : World) (hc0 : cap ≠ 0) (hbk : w.heap[b]? = some (.cells #[p, .slice (some ⟨g, 0, none⟩) 0 cap] 77 (0, 0))) :
    Calls Tryd.prog 45 #[.pointer (some ⟨b, 0, none⟩)] w fun e w' => e = .returned (.string ⟨#[]⟩) ∧ Below B w w' := by
  have hUS := string_none
  have c1 : w.drew.cell? ⟨b, 1, none⟩ = some (.slice (some ⟨g, 0, none⟩) 0 cap) := by
    have : w.drew.heap[b]? = some (.cells #[p, .slice (some ⟨g, 0, none⟩) 0 cap] 77 (0, 0)) := hbk
    rw [Lib.cell_of_heap this]; rfl
  have hSD : (Builtin.unsafeSliceData_ #[75] 110 #[.slice (some ⟨g, 0, none⟩) 0 cap]).run Tryd.prog w.drew = .ok (.pointer (some ⟨g, 0, none⟩)) w.drew :=
    Lib.run_unsafeSliceData_row _ _ _ _ _ _ hc0
  clear hc0
  go_enter Tryd.func45, Tryd.ntmps45
  go_wp2
  go_region
  all_goals (go_wp2; go_ret; exact ⟨rfl, Below.drew (Below.refl B w)⟩)

theorem string_any (B b : Nat) (l : List UInt8) (w : World) (h : Mk B b (Lib.byteCells l) w) (hBw : B ≤ w.heap.size) :
    Calls Tryd.prog 45 #[.pointer (some ⟨b, 0, none⟩)] w fun e w' => e = .returned (.string ⟨l.toArray⟩) ∧ Below B w w' := by
  cases l with
  | nil =>
    obtain ⟨p, hB, v, hbk, hown, hne⟩ : ∃ p, Lib.BuilderAt 77 5 B b p [] w := by
      rcases h with h | h
      · exact ⟨_, h⟩
      · exact ⟨_, h⟩
    rcases hown.2 with ⟨rfl, _⟩ | ⟨g, cap, cur, rfl, hbg, hg, _, _, _, _⟩
    · exact string_nil B b p w hbk
    · by_cases hc0 : cap = 0
      · subst hc0
        exact string_noroom B b g p cur w hBw hbk hg
      · exact string_room B b g cap p w hc0 hbk
  | cons x r => exact string_some B b (x :: r) w h (by simp)

set_option maxHeartbeats 2000000 in
theorem wbyte_any (B b : Nat) (bs : List Value) (c : Int) (w : World) (h : Mk B b bs w) (hlen : bs.length + 1 ≤ 140737488355328) (hBw : B ≤ w.heap.size) :
    Calls Tryd.prog 42 #[.pointer (some ⟨b, 0, none⟩), .int .u8 c] w fun e w' => e = .returned .nilIface ∧ (Lib.BuilderAt 77 5 B b (.pointer (some ⟨b, 0, none⟩)) (bs ++ [.int .u8 c]) w' ∧ Below B w w' ∧ KeepT b w w') := by
  obtain ⟨i0, hi, hz0, hz1, hz2⟩ := info_parts info_byte
  go_enter Tryd.func42, Tryd.ntmps42
  go_wp2_with (go_at_call 76; refine (copy_any B b bs _ h).mono ?_)
  rintro e w1 ⟨rfl, h1, hb1, hk1⟩
  obtain ⟨hB, v, hbk, hown, hne⟩ := h1
  have c0 : w1.cell? ⟨b, 0, none⟩ = some (.pointer (some ⟨b, 0, none⟩)) := by rw [Lib.cell_of_heap hbk]; rfl
  have c1 : w1.cell? ⟨b, 1, none⟩ = some v := by rw [Lib.cell_of_heap hbk]; rfl
  have hlt : b < w1.heap.size := by
    rcases Nat.lt_or_ge b w1.heap.size with h' | h'
    · exact h'
    · simp [Array.getElem?_eq_none h'] at hbk
  go_wp2_with (at_builtin; refine wpList_append_own _ rfl (.tmp 11) (.tmp 13) 75 rfl B 5 i0 (.int .u8 0) 1 1 Tryd.underlying75 hi hz0 hz1 hz2 rfl (by decide) _ bs.length bs rfl (hown.alloc _) ⟨w1.heap.size, 0, none⟩ 1 1 [_] rfl rfl (one_byte w1 _ _) (by intro u hu; simp at hu; subst hu; rfl) (by unfold maxLen; omega) (by omega) (by have := hb1.size; simp; omega) ?_)
  intro v' w2 hown' hgrow _
  have hb2 : w2.heap[b]? = some (.cells #[.pointer (some ⟨b, 0, none⟩), v] 77 (0, 0)) := by
    rw [hgrow.block b (by simp; omega) (fun e => hne e.symm)]
    exact (Below.heap_alloc w1 _ b hlt).trans hbk
  have d0 : w2.cell? ⟨b, 0, none⟩ = some (.pointer (some ⟨b, 0, none⟩)) := by rw [Lib.cell_of_heap hb2]; rfl
  have d1 : w2.cell? ⟨b, 1, none⟩ = some v := by rw [Lib.cell_of_heap hb2]; rfl
  have f1 : w2.frozen? ⟨b, 1, none⟩ = false := Lib.frozen_of_heap hb2 1
  obtain ⟨ao, n', cap, rfl⟩ : ∃ ao n' cap, v' = .slice ao n' cap := by
    rcases hown'.2 with ⟨hv, _⟩ | ⟨g, cap, cur, hv, _⟩
    · exact ⟨_, _, _, hv⟩
    · exact ⟨_, _, _, hv⟩
  go_wp2
  go_ret
  refine ⟨rfl, ?_, ?_, ((hk1.alloc _).grown (hown.alloc _) hgrow).set _ _⟩
  · exact Lib.BuilderAt.put (T := 77) (e := 5) hB hb2 (bs' := bs ++ [.int .u8 c]) (by simpa using hown') (by decide)
  · exact ((hb1.alloc (by have := hb1.size; omega) _).grown hgrow (by have := hb1.size; simp; omega) (fun k hk => (hown.lt k hk).1)).setCell (p := ⟨b, 1, none⟩) hB _

end Go.Proofs.YtlinclbodbbemaaDoor.Bd
