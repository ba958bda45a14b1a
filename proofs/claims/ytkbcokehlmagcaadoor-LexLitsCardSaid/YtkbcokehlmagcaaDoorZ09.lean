/- Contracts of the small functions of the reader of words: what stands next, passing it, kinds of bytes, runs, digits, kinds of runs. The reader of words: what stands between words. -/
import Derived.Test.YtkbcokehlmagcaaDoorZ00
import Derived.Test.YtkbcokehlmagcaaDoorZ07
import Derived.WalkSpells
namespace Go.Proofs.YtkbcokehlmagcaaDoor
open Go.RowKit
set_option maxRecDepth 100000

/-- The reader of words stands in block g: at p, on line n. -/
def LR (w : World) (g : Nat) (s : ByteArray) (p n : Nat) : Prop := w.heap[g]? = some (.cells #[.string s, .int .i64 p, .int .i64 n] 50 (0, 0))
theorem LR.open {w : World} {g : Nat} {s : ByteArray} {p n : Nat} (h : LR w g s p n) : w.cell? ⟨g, 0, none⟩ = some (.string s) ∧ w.cell? ⟨g, 1, none⟩ = some (.int .i64 p) ∧ w.cell? ⟨g, 2, none⟩ = some (.int .i64 n) ∧ (∀ o, w.frozen? ⟨g, o, none⟩ = false) ∧ g < w.heap.size := by
  unfold LR at h
  exact ⟨(cell_of_row _ _ 0 _ _ _ h).trans rfl, (cell_of_row _ _ 1 _ _ _ h).trans rfl, (cell_of_row _ _ 2 _ _ _ h).trans rfl, fun o => by simp [World.frozen?, h], by
    rcases Nat.lt_or_ge g w.heap.size with h1 | h1
    · exact h1
    · rw [Array.getElem?_eq_none h1] at h; cases h⟩
theorem LR.lt {w : World} {g : Nat} {s : ByteArray} {p n : Nat} (h : LR w g s p n) : g < w.heap.size := h.open.2.2.2.2
theorem LR.drewN {w : World} {g : Nat} {s : ByteArray} {p n : Nat} (h : LR w g s p n) (m : Nat) : LR (w.drewN m) g s p n := h
theorem LR.alloc {w : World} {g : Nat} {s : ByteArray} {p n : Nat} (h : LR w g s p n) (o : Obj) : LR (w.alloc o) g s p n := (Below.heap_alloc w o g h.lt).trans h
theorem LR.setPos {w : World} {g : Nat} {s : ByteArray} {p n : Nat} (h : LR w g s p n) (p' : Nat) {q : Int} (hq : q = (p' : Int)) : LR (w.setCell ⟨g, 1, none⟩ (.int .i64 q)) g s p' n := by
  subst hq; unfold LR at h ⊢; simp [World.setCell, Array.getElem?_modify, h]
theorem LR.setLine {w : World} {g : Nat} {s : ByteArray} {p n : Nat} (h : LR w g s p n) (n' : Nat) {q : Int} (hq : q = (n' : Int)) : LR (w.setCell ⟨g, 2, none⟩ (.int .i64 q)) g s p n' := by
  subst hq; unfold LR at h ⊢; simp [World.setCell, Array.getElem?_modify, h]
theorem LR.other {w : World} {g : Nat} {s : ByteArray} {p n : Nat} (h : LR w g s p n) (a : Addr) (hp : a.block ≠ g) (u : Value) : LR (w.setCell a u) g s p n := by
  unfold LR at h ⊢; rw [Below.heap_setCell]; exact h; exact fun e => hp e.symm
theorem LR.rdPos {w : World} {g : Nat} {s : ByteArray} {p n : Nat} (h : LR w g s p n) : rdPos w g = p := by
  unfold Go.Proofs.YtkbcokehlmagcaaDoor.rdPos; rw [h.open.2.1]; simp
theorem LR.but {w w' : World} {g h : Nat} {s : ByteArray} {p n : Nat} (hr : LR w g s p n) (hb : But h w w') (hne : g ≠ h) : LR w' g s p n := (hb.block g hr.lt hne).trans hr
theorem LR.below {w w' : World} {g : Nat} {s : ByteArray} {p n : Nat} (hr : LR w g s p n) (hb : Below w.heap.size w w') : LR w' g s p n := heap_old hr hb

set_option maxHeartbeats 400000 in
theorem lnext_any (s : ByteArray) (p n g : Nat) (w : World) (hx : LR w g s p n) (hp : p ≤ s.size) (c : Int) (hc : ((nx (s.data.toList.drop p)).toNat : Int) = c) :
    Calls Tryd.prog 32 #[.pointer (some ⟨g, 0, none⟩)] w fun e w' => e = .returned (.int .u8 c) ∧ ∃ m, w' = w.drewN m := by
  subst hc
  obtain ⟨h0, h1, h2, hf, hlt⟩ := hx.open
  clear hx
  by_cases he : p = s.size
  · have hE := Lib.hid (ret_u8 ((congrArg (fun j => nx (s.data.toList.drop j)) he).trans (nx_end s)))
    rw [he] at h1
    go_enter Tryd.func32, Tryd.ntmps32
    go_wp2_with (go_quiet (fail))
    go_ret
    exact ⟨hE.out.symm, _, rfl⟩
  · have hj : p < s.size := by omega
    have hE := Lib.hid (ret_u8 (nx_at s p hj))
    go_enter Tryd.func32, Tryd.ntmps32
    go_wp2_with (go_quiet (fail))
    go_ret
    exact ⟨hE.out.symm, _, World.drewN_drewN _ _ _⟩

set_option maxHeartbeats 400000 in
theorem lpass_yes (s : ByteArray) (p n g : Nat) (c : Int) (w : World) (hx : LR w g s p n) (hp : p < s.size) (hs : s.size ≤ 140737488355328) (hc : ((nx (s.data.toList.drop p)).toNat : Int) = c) :
    Calls Tryd.prog 34 #[.pointer (some ⟨g, 0, none⟩), .int .u8 c] w fun e w' => e = .returned (.bool true) ∧ LR w' g s (p + 1) n ∧ But g w w' := by
  have sN := Lib.hid (lnext_any s p n g w hx (by omega) c hc)
  have HX := Lib.hid hx; clear hx
  have HC := Lib.hid hc; clear hc
  go_enter Tryd.func34, Tryd.ntmps34
  go_wp2_with (go_at_call 32; refine sN.out.mono ?_; rintro e w2 ⟨rfl, m, rfl⟩; obtain ⟨h0, h1, h2, hf, hlt⟩ := (HX.out.drewN m).open)
  go_ret
  exact ⟨rfl, (HX.out.drewN m).setPos _ (by omega), ((But.refl _ _).drewN m).setCell _ _⟩
set_option maxHeartbeats 400000 in
theorem lpass_no (s : ByteArray) (p n g : Nat) (c d : Int) (w : World) (hx : LR w g s p n) (hp : p ≤ s.size) (hc : ((nx (s.data.toList.drop p)).toNat : Int) = d) (hcd : d ≠ c) :
    Calls Tryd.prog 34 #[.pointer (some ⟨g, 0, none⟩), .int .u8 c] w fun e w' => e = .returned (.bool false) ∧ ∃ m, w' = w.drewN m := by
  have sN := Lib.hid (lnext_any s p n g w hx hp d hc)
  clear hx hc
  go_enter Tryd.func34, Tryd.ntmps34
  go_wp2_with (go_at_call 32; refine sN.out.mono ?_; rintro e w2 ⟨rfl, m, rfl⟩)
  go_ret
  exact ⟨rfl, m, rfl⟩

theorem isS_iff {c : UInt8} : isS c = true ↔ 97 ≤ c.toNat ∧ c.toNat ≤ 122 := by unfold isS; simp
theorem isC_iff {c : UInt8} : isC c = true ↔ 65 ≤ c.toNat ∧ c.toNat ≤ 90 := by unfold isC; simp
set_option maxHeartbeats 400000 in
theorem lexDigit_any (b : UInt8) (c : Int) (hc : (b.toNat : Int) = c) (d : Bool) (hd : isD b = d) (w : World) :
    Calls Tryd.prog 35 #[.int .u8 c] w fun e w' => e = .returned (.bool d) ∧ w' = w := by
  subst hc hd
  have hb : b.toNat < 256 := b.toNat_lt
  go_enter Tryd.func35, Tryd.ntmps35
  go_wp2
  all_goals
    go_ret
    exact ⟨ret_bool (by rw [Bool.eq_iff_iff, isD_iff]; simp; omega), rfl⟩
set_option maxHeartbeats 400000 in
theorem lexSmall_any (b : UInt8) (c : Int) (hc : (b.toNat : Int) = c) (d : Bool) (hd : isS b = d) (w : World) :
    Calls Tryd.prog 41 #[.int .u8 c] w fun e w' => e = .returned (.bool d) ∧ w' = w := by
  subst hc hd
  have hb : b.toNat < 256 := b.toNat_lt
  go_enter Tryd.func41, Tryd.ntmps41
  go_wp2
  all_goals
    go_ret
    exact ⟨ret_bool (by rw [Bool.eq_iff_iff, isS_iff]; simp; omega), rfl⟩
set_option maxHeartbeats 400000 in
theorem lexCapital_any (b : UInt8) (c : Int) (hc : (b.toNat : Int) = c) (d : Bool) (hd : isC b = d) (w : World) :
    Calls Tryd.prog 39 #[.int .u8 c] w fun e w' => e = .returned (.bool d) ∧ w' = w := by
  subst hc hd
  have hb : b.toNat < 256 := b.toNat_lt
  go_enter Tryd.func39, Tryd.ntmps39
  go_wp2
  all_goals
    go_ret
    exact ⟨ret_bool (by rw [Bool.eq_iff_iff, isC_iff]; simp; omega), rfl⟩
set_option maxHeartbeats 1000000 in
theorem lexOfRun_any (b : UInt8) (c : Int) (hc : (b.toNat : Int) = c) (d : Bool) (hd : isR b = d) (w : World) :
    Calls Tryd.prog 52 #[.int .u8 c] w fun e w' => e = .returned (.bool d) ∧ w' = w := by
  subst hd
  have hR : isR b = (isS b || isC b || isD b || (b.toNat == 95)) := rfl
  have H95 := Lib.hid (show (b.toNat == 95) = (c == 95) from by rw [Bool.eq_iff_iff]; simp; omega)
  rw [hR]
  rcases hS : isS b
  · rcases hC : isC b
    · rcases hD : isD b
      · have sS := Lib.hid (fun w => lexSmall_any b c hc _ hS w)
        have sC := Lib.hid (fun w => lexCapital_any b c hc _ hC w)
        have sD := Lib.hid (fun w => lexDigit_any b c hc _ hD w)
        clear hS hC hD hc hR
        go_enter Tryd.func52, Tryd.ntmps52
        go_wp2_with (first
          | (go_at_call 41; refine (sS.out _).mono ?_; rintro e w2 ⟨rfl, rfl⟩)
          | (go_at_call 39; refine (sC.out _).mono ?_; rintro e w2 ⟨rfl, rfl⟩)
          | (go_at_call 35; refine (sD.out _).mono ?_; rintro e w2 ⟨rfl, rfl⟩))
        go_ret
        exact ⟨by rw [H95.out]; rfl, rfl⟩
      · have sS := Lib.hid (fun w => lexSmall_any b c hc _ hS w)
        have sC := Lib.hid (fun w => lexCapital_any b c hc _ hC w)
        have sD := Lib.hid (fun w => lexDigit_any b c hc _ hD w)
        clear hS hC hD hc hR
        go_enter Tryd.func52, Tryd.ntmps52
        go_wp2_with (first
          | (go_at_call 41; refine (sS.out _).mono ?_; rintro e w2 ⟨rfl, rfl⟩)
          | (go_at_call 39; refine (sC.out _).mono ?_; rintro e w2 ⟨rfl, rfl⟩)
          | (go_at_call 35; refine (sD.out _).mono ?_; rintro e w2 ⟨rfl, rfl⟩))
        go_ret
        exact ⟨rfl, rfl⟩
    · have sS := Lib.hid (fun w => lexSmall_any b c hc _ hS w)
      have sC := Lib.hid (fun w => lexCapital_any b c hc _ hC w)
      clear hS hC hc hR
      go_enter Tryd.func52, Tryd.ntmps52
      go_wp2_with (first
        | (go_at_call 41; refine (sS.out _).mono ?_; rintro e w2 ⟨rfl, rfl⟩)
        | (go_at_call 39; refine (sC.out _).mono ?_; rintro e w2 ⟨rfl, rfl⟩))
      go_ret
      exact ⟨rfl, rfl⟩
  · have sS := Lib.hid (fun w => lexSmall_any b c hc _ hS w)
    clear hS hc hR
    go_enter Tryd.func52, Tryd.ntmps52
    go_wp2_with (go_at_call 41; refine (sS.out _).mono ?_; rintro e w2 ⟨rfl, rfl⟩)
    go_ret
    exact ⟨rfl, rfl⟩

theorem list_nx {s : ByteArray} {p : Nat} (h : p < s.size) : nx (s.data.toList.drop p) = s[p] := nx_at s p h
theorem ba_ext {a b : ByteArray} (h : a.data.toList = b.data.toList) : a = b := by
  apply ByteArray.ext; apply Array.ext'; exact h
theorem ext_take (s : ByteArray) (p q : Nat) : (s.extract p q).data.toList = (s.data.toList.drop p).take (q - p) := by
  have h : (s.extract p q).data = s.data.extract p q := by simp
  rw [h]; simp
theorem runB_step {s : ByteArray} {p : Nat} (h : p < s.size) : runB (s.data.toList.drop p) = if isR (nx (s.data.toList.drop p)) then nx (s.data.toList.drop p) :: runB (s.data.toList.drop (p + 1)) else [] := by
  have e := congrArg runB (drop_at h)
  rw [e, runB]
theorem runB_take {s : ByteArray} {p : Nat} : (s.data.toList.drop p).take (runB (s.data.toList.drop p)).length = runB (s.data.toList.drop p) := by
  have h := runB_pre (s.data.toList.drop p)
  generalize runB (s.data.toList.drop p) = d at *
  rw [← h]; simp
theorem nx0_R {r : Bs} (h : isR (nx r) = true) : (nx r).toNat ≠ 0 := by
  intro e
  unfold isR isS isC isD at h
  rw [e] at h
  simp at h

def RunPost (s : ByteArray) (p n g : Nat) (w : World) (e : Ending) (w' : World) : Prop :=
  e = .returned (.string ⟨(runB (s.data.toList.drop p)).toArray⟩) ∧ LR w' g s (p + (runB (s.data.toList.drop p)).length) n ∧ But g w w'

set_option maxHeartbeats 2000000 in
theorem run_any (s : ByteArray) (p n g : Nat) (w : World) (hx : LR w g s p n) (hp : p ≤ s.size) (hs : s.size ≤ 140737488355328) :
    Calls Tryd.prog 36 #[.pointer (some ⟨g, 0, none⟩)] w (RunPost s p n g w) := by
  obtain ⟨h0, h1, h2, hf, hlt⟩ := hx.open
  have HX := Lib.hid hx; clear hx
  have hsl : s.data.toList.length = s.size := by simp
  have HSL := Lib.hid hsl; clear hsl
  go_enter Tryd.func36, Tryd.ntmps36
  go_wp2
  clear h0 h1 h2 hf
  go_loopw [] (fun wr => ∃ q : Nat, p ≤ q ∧ q ≤ s.size ∧ Hid (runB (s.data.toList.drop p) = (s.data.toList.drop p).take (q - p) ++ runB (s.data.toList.drop q)) ∧ Hid (LR wr g s q n) ∧ Hid (But g w wr)) (fun wr => s.size - rdPos wr g)
  case atStart => exact ⟨p, Nat.le_refl _, hp, Lib.hid (by simp), HX, Lib.hid (But.refl _ _)⟩
  case round =>
    obtain ⟨q, hpq, hq, hrun, hxr, hbr⟩ := hrel
    obtain ⟨c, hc⟩ : ∃ c : Int, ((nx (s.data.toList.drop q)).toNat : Int) = c := ⟨_, rfl⟩
    have sN := Lib.hid (lnext_any s q n g wr hxr.out hq c hc)
    rcases hR : isR (nx (s.data.toList.drop q))
    · have sR := Lib.hid (fun w => lexOfRun_any _ c hc _ hR w)
      have hE : runB (s.data.toList.drop q) = [] := by
        by_cases hqs : q < s.size
        · rw [runB_step hqs, hR]; rfl
        · rw [drop_end hqs]; rfl
      have hE2 := hrun.out
      rw [hE, List.append_nil] at hE2
      have HE := Lib.hid hE2
      have HL := Lib.hid (show (runB (s.data.toList.drop p)).length = q - p from by rw [hE2]; simp; omega)
      clear hE hE2 hc hR
      obtain ⟨h0, h1, h2, hf, hlt⟩ := hxr.out.open
      go_wp2_with (first
        | (go_at_call 32; refine sN.out.mono ?_; rintro e w2 ⟨rfl, m, rfl⟩)
        | (go_at_call 52; refine (sR.out _).mono ?_; rintro e w2 ⟨rfl, rfl⟩)
        | go_quiet (fail))
      go_ret
      refine ⟨?_, ?_, ?_⟩
      · rw [HE.out]; exact congrArg (fun b => Ending.returned (Value.string b)) (ba_ext (a := s.extract p q) (b := ⟨((s.data.toList.drop p).take (q - p)).toArray⟩) (by rw [ext_take]))
      · rw [HL.out, show p + (q - p) = q by omega]; exact (hxr.out.drewN m).drewN _
      · exact (hbr.out.drewN m).drewN _
    · have sR := Lib.hid (fun w => lexOfRun_any _ c hc _ hR w)
      have hqs : q < s.size := nx_drop (nx0_R hR)
      have hE2 := hrun.out
      rw [runB_step hqs, hR, if_pos rfl] at hE2
      have HE := Lib.hid hE2
      have HRP := Lib.hid hxr.out.rdPos
      clear hE2 hc hR
      go_wp2_with (first
        | (go_at_call 32; refine sN.out.mono ?_; rintro e w2 ⟨rfl, m, rfl⟩; obtain ⟨h0, h1, h2, hf, hlt⟩ := (hxr.out.drewN m).open)
        | (go_at_call 52; refine (sR.out _).mono ?_; rintro e w2 ⟨rfl, rfl⟩))
      go_roundw
      case measure => rw [HRP.out, ((hxr.out.drewN m).setPos (q + 1) (q := (q : Int) + 1) (by simp)).rdPos]; omega
      case rel =>
        refine ⟨q + 1, by omega, by omega, Lib.hid ?_, Lib.hid ((hxr.out.drewN m).setPos _ (by simp)), Lib.hid ((hbr.out.drewN m).setCell _ _)⟩
        refine HE.out.trans ?_
        have e : (s.data.toList.drop p).take (q + 1 - p) = (s.data.toList.drop p).take (q - p) ++ [nx (s.data.toList.drop q)] := by
          have hl := HSL.out
          rw [show q + 1 - p = (q - p) + 1 by omega, List.take_add_one]
          congr 1
          rw [List.getElem?_drop, show p + (q - p) = q by omega, List.getElem?_eq_getElem (by omega), nx_at s q hqs]
          rfl
        rw [e, List.append_assoc]; rfl

theorem run_val (s : ByteArray) (p n g : Nat) (w : World) (hx : LR w g s p n) (hp : p ≤ s.size) (hs : s.size ≤ 140737488355328) (d : Bs) (hd : runB (s.data.toList.drop p) = d) :
    Calls Tryd.prog 36 #[.pointer (some ⟨g, 0, none⟩)] w fun e w' => e = .returned (.string ⟨d.toArray⟩) ∧ LR w' g s (p + d.length) n ∧ But g w w' := by
  subst hd; exact run_any s p n g w hx hp hs

end Go.Proofs.YtkbcokehlmagcaaDoor

namespace Go.Proofs.YtkbcokehlmagcaaDoor
open Go.RowKit
set_option maxRecDepth 100000

theorem skipL_step {s : ByteArray} {n p : Nat} (h : p < s.size) : skipL n (s.data.toList.drop p) = if (nx (s.data.toList.drop p)).toNat = 10 then skipL (n + 1) (s.data.toList.drop (p + 1)) else if (nx (s.data.toList.drop p)).toNat = 32 then skipL n (s.data.toList.drop (p + 1)) else (n, s.data.toList.drop p) := by
  have e := congrArg (skipL n) (drop_at h)
  rw [e, skipL, ← drop_at h]
def LBegPost (s : ByteArray) (n p g : Nat) (w : World) (e : Ending) (w' : World) : Prop :=
  ∃ n' p', p' ≤ s.size ∧ n' ≤ n + (p' - p) ∧ p ≤ p' ∧ skipL n (s.data.toList.drop p) = (n', s.data.toList.drop p') ∧ e = .returned (.bool (decide (p' < s.size))) ∧ LR w' g s p' n' ∧ But g w w'

set_option maxHeartbeats 4000000 in
theorem begins_any (s : ByteArray) (p0 n0 g : Nat) (w : World) (hx : LR w g s p0 n0) (hp : p0 ≤ s.size) (hs : s.size ≤ 140737488355328) (hn0 : n0 ≤ 140737488355328) :
    Calls Tryd.prog 19 #[.pointer (some ⟨g, 0, none⟩)] w (LBegPost s n0 p0 g w) := by
  have HX := Lib.hid hx; clear hx
  go_enter Tryd.func19, Tryd.ntmps19
  go_wp2
  go_loopw [] (fun wr => ∃ p n : Nat, p0 ≤ p ∧ p ≤ s.size ∧ n ≤ n0 + (p - p0) ∧ Hid (skipL n0 (s.data.toList.drop p0) = skipL n (s.data.toList.drop p)) ∧ Hid (LR wr g s p n) ∧ Hid (But g w wr)) (fun wr => s.size - rdPos wr g)
  case atStart => exact ⟨p0, n0, Nat.le_refl _, hp, by omega, Lib.hid rfl, HX, Lib.hid (But.refl _ _)⟩
  case round =>
    obtain ⟨p, n, hpp, hps, hnn, hsk, hxr, hbr⟩ := hrel
    obtain ⟨h0, h1, h2, hf, hlt⟩ := hxr.out.open
    have hf1 := hf 1; have hf2 := hf 2
    clear hf
    have HRP := Lib.hid hxr.out.rdPos
    by_cases hlt2 : p < s.size
    · obtain ⟨c, hc⟩ : ∃ c : Int, ((nx (s.data.toList.drop p)).toNat : Int) = c := ⟨_, rfl⟩
      have hst := hsk.out.trans (skipL_step hlt2)
      have sN := fun m => Lib.hid (lnext_any s p n g (wr.drewN m) (hxr.out.drewN m) (by omega) c hc)
      have hcN : (nx (s.data.toList.drop p)).toNat = c.toNat := by omega
      rw [hcN] at hst
      clear hcN
      by_cases h10 : c = 10
      · subst h10
        have HE := Lib.hid (show skipL n0 (s.data.toList.drop p0) = skipL (n + 1) (s.data.toList.drop (p + 1)) from hst)
        clear hst hc
        go_wp2_with (first
          | (go_at_call 32; refine (sN _).out.mono ?_; rintro e w3 ⟨rfl, m, hw3⟩; have HX3 := Lib.hid (show LR w3 g s p n from by rw [hw3]; exact (hxr.out.drewN _).drewN m); have HB3 := Lib.hid (show But g w w3 from by rw [hw3]; exact (hbr.out.drewN _).drewN m); clear hw3; obtain ⟨k0, k1, k2, kf, klt⟩ := HX3.out.open; have kf1 := kf 1; have kf2 := kf 2; clear kf)
          | go_quiet (fail))
        go_roundw
        case measure => rw [HRP.out, ((HX3.out.setLine (n + 1) (q := (n : Int) + 1) (by simp)).setPos (p + 1) (q := (p : Int) + 1) (by simp)).rdPos]; omega
        case rel => exact ⟨p + 1, n + 1, by omega, by omega, by omega, HE, Lib.hid ((HX3.out.setLine (n + 1) (q := (n : Int) + 1) (by simp)).setPos (p + 1) (q := (p : Int) + 1) (by simp)), Lib.hid ((HB3.out.setCell _ _).setCell _ _)⟩
      · by_cases h32 : c = 32
        · subst h32
          have HE := Lib.hid (show skipL n0 (s.data.toList.drop p0) = skipL n (s.data.toList.drop (p + 1)) from hst)
          clear hst hc
          go_wp2_with (first
            | (go_at_call 32; refine (sN _).out.mono ?_; rintro e w3 ⟨rfl, m, hw3⟩; have HX3 := Lib.hid (show LR w3 g s p n from by rw [hw3]; exact (hxr.out.drewN _).drewN m); have HB3 := Lib.hid (show But g w w3 from by rw [hw3]; exact (hbr.out.drewN _).drewN m); clear hw3; obtain ⟨k0, k1, k2, kf, klt⟩ := HX3.out.open; have kf1 := kf 1; have kf2 := kf 2; clear kf)
            | go_quiet (fail))
          go_roundw
          case measure => rw [HRP.out, (HX3.out.setPos (p + 1) (q := (p : Int) + 1) (by simp)).rdPos]; omega
          case rel => exact ⟨p + 1, n, by omega, by omega, by omega, HE, Lib.hid (HX3.out.setPos (p + 1) (q := (p : Int) + 1) (by simp)), Lib.hid (HB3.out.setCell _ _)⟩
        · have HE := Lib.hid (show skipL n0 (s.data.toList.drop p0) = (n, s.data.toList.drop p) from by rw [hst, if_neg (by omega), if_neg (by omega)])
          have hd : decide (p < s.size) = true := by simpa using hlt2
          have HD := Lib.hid hd
          clear hst hc hd
          go_wp2_with (first
            | (go_at_call 32; refine (sN _).out.mono ?_; rintro e w3 ⟨rfl, m, hw3⟩; have HX3 := Lib.hid (show LR w3 g s p n from by rw [hw3]; exact (hxr.out.drewN _).drewN m); have HB3 := Lib.hid (show But g w w3 from by rw [hw3]; exact (hbr.out.drewN _).drewN m); clear hw3)
            | go_quiet (fail))
          go_ret
          exact ⟨n, p, hps, hnn, hpp, HE.out, by rw [HD.out]; rfl, HX3.out, HB3.out⟩
    · have hpe : p = s.size := by omega
      have HE := Lib.hid (show skipL n0 (s.data.toList.drop p0) = (n, s.data.toList.drop p) from by rw [hsk.out, drop_end hlt2]; rfl)
      have hd : decide (p < s.size) = false := by simpa using hlt2
      have HD := Lib.hid hd
      clear hd
      go_wp2_with (go_quiet (fail))
      go_ret
      exact ⟨n, p, hps, hnn, hpp, HE.out, by rw [HD.out]; rfl, hxr.out.drewN _, hbr.out.drewN _⟩

end Go.Proofs.YtkbcokehlmagcaaDoor
