/- seq.Find and seq.With. -/
import Derived.Test.YtjipchloebbldaaLawSeqSays
import Derived.Test.YtjipchloebbldaaMore
namespace Go.Proofs.Ytjipchloebbldaa
open Go.RowKit
set_option maxRecDepth 100000

/-- How many stand ahead of the first that is the same; all, if there is none. -/
def fnd (t : T) : List T → Nat
  | [] => 0
  | x :: r => if sameB x t = true then 0 else fnd t r + 1
theorem fnd_le (t : T) : ∀ l, fnd t l ≤ l.length
  | [] => by simp [fnd]
  | x :: r => by have := fnd_le t r; simp only [fnd, List.length_cons]; split <;> omega
theorem fnd_drop (t : T) (l : List T) (j : Nat) (h : j < l.length) : fnd t (l.drop j) = if sameB l[j] t = true then 0 else fnd t (l.drop (j + 1)) + 1 := by
  rw [List.drop_eq_getElem_cons h, fnd]
def idxS (l : List T) (t : T) : Int := if fnd t l = l.length then -1 else (fnd t l : Int)
def findS (l : List T) (t : T) : Int := if fnd t l = l.length then 0 else (fnd t l : Int) + 1
def withS (c : List T → Int) (l : List T) (t : T) : List T × Int := if 0 < findS l t then madeS (c l) l else catS c l [t]

set_option maxHeartbeats 1000000 in
theorem findf_any (x t : T) (w : World) (g lo hi : Nat) (xk xn : Int) (xs : ByteArray) (xp : Option Addr) (xl xc : Nat) (vk vn : Int) (vs : ByteArray) (vp : Option Addr) (vl vc : Nat) (hx : Rep w lo hi x (.agg #[.int .i64 xk, .int .i64 xn, .string xs, .slice xp xl xc])) (ht : Rep w lo hi t (.agg #[.int .i64 vk, .int .i64 vn, .string vs, .slice vp vl vc])) (hhi : hi ≤ w.heap.size) (hg : w.heap[g]? = some (bx vk vn vs vp vl vc)) :
    Calls Try.prog 52 #[.agg #[.int .i64 xk, .int .i64 xn, .string xs, .slice xp xl xc], .pointer (some ⟨g, 0, none⟩)] w fun e w' => e = .returned (.bool (sameB x t)) ∧ Below w.heap.size w w' := by
  have hlt := heap_lt hg
  have HX := Lib.hid hx
  have HT := Lib.hid ht
  obtain ⟨hx0, hx1, hx2, hx3, _⟩ := box4_in _ g _ _ _ _ _ hg
  have HB := Lib.hid ((Below.refl w.heap.size w).alloc (Nat.le_refl _) (.cells #[.int .i64 xk, .int .i64 xn, .string xs, .slice xp xl xc] 24))
  clear hx ht hg
  go_enter Try.func52, Try.ntmps52
  go_wp2_with (go_at_call 35; refine (same_any x t _ lo hi lo hi _ _ (HX.out.alloc hhi _) (by simp; omega) (HT.out.alloc hhi _) (by simp; omega)).mono ?_; rintro e w2 ⟨rfl, hb2⟩)
  go_ret
  exact ⟨rfl, HB.out.trans (hb2.mono (by simp))⟩

set_option maxHeartbeats 2000000 in
theorem indexFunc_any (l : List T) (p : Option Addr) (cap : Nat) (t : T) (w : World) (g lo hi : Nat) (vk vn : Int) (vs : ByteArray) (vp : Option Addr) (vl vc : Nat) (hall : RepAll w lo hi l p) (ht : Rep w lo hi t (.agg #[.int .i64 vk, .int .i64 vn, .string vs, .slice vp vl vc])) (hhi : hi ≤ w.heap.size) (hg : w.heap[g]? = some (bx vk vn vs vp vl vc)) (hl : l.length ≤ 1000000) :
    Calls Try.prog 51 #[.slice p l.length cap, .func (.func 52) #[] #[.pointer (some ⟨g, 0, none⟩)]] w fun e w' => e = .returned (.int .i64 (idxS l t)) ∧ Below w.heap.size w w' := by
  have HALL := Lib.hid hall
  have HT := Lib.hid ht
  have HG := Lib.hid hg
  have hlt := heap_lt hg
  have hfl := Lib.hid (fnd_le t l)
  clear hall ht hg
  go_enter Try.func51, Try.ntmps51
  go_wp2
  go_loopw [8] (fun i wr => ∃ j : Nat, j ≤ l.length ∧ i = .int .i64 j ∧ Hid (fnd t l = j + fnd t (l.drop j)) ∧ Below w.heap.size w wr) (fun i _ => l.length - (intOf i).toNat)
  case atStart => exact ⟨0, Nat.zero_le _, rfl, by show _ = _; simp, Below.refl _ _⟩
  case round =>
    obtain ⟨j, hj, rfl, HO, hbr⟩ := hrel
    have hz := hbr.size
    by_cases hlj : j < l.length
    · obtain ⟨b, off, k1, n1, s1, l1, q1, cc1, rfl, _, hbhi, hli, h0, h1, h2, h3, hrep⟩ := (HALL.out.below hbr hhi).item j hlj
      have hA0 := fnd_drop t l j hlj
      have HLI := Lib.hid hli
      rw [hli] at hA0 hrep
      have hA := Lib.hid hA0
      clear hA0 hli
      go_wp2_with (go_at_call 52; refine (findf_any _ t _ g lo hi _ _ _ _ _ _ _ _ _ _ _ _ hrep (HT.out.below hbr hhi) (by omega) ((hbr.block _ hlt).trans HG.out)).mono ?_; rintro e w2 ⟨rfl, hb2⟩)
      · have h : sameB (T.mk k1 n1 s1 l1) t = true := by assumption
        go_ret
        refine ⟨ret_int ?_, hbr.trans (hb2.mono hz)⟩
        have e := HO.out
        rw [hA.out, if_pos h] at e
        unfold idxS
        rw [if_neg (by omega), e]; simp
      · have h : sameB (T.mk k1 n1 s1 l1) t = false := by assumption
        go_roundw
        case rel =>
          refine ⟨j + 1, by omega, by go_num, ?_, hbr.trans (hb2.mono hz)⟩
          show _ = _
          rw [HO.out, hA.out, if_neg (by rw [h]; simp)]; omega
        case measure => simp [intOf]; omega
    · have hjl : j = l.length := by omega
      subst hjl
      go_wp2
      go_ret
      refine ⟨ret_int ?_, hbr⟩
      have e := HO.out
      rw [List.drop_length] at e
      unfold idxS
      rw [if_pos (by simpa [fnd] using e)]

set_option maxHeartbeats 1000000 in
theorem find_any (l : List T) (p : Option Addr) (cap : Nat) (t : T) (w : World) (lo hi : Nat) (vk vn : Int) (vs : ByteArray) (vp : Option Addr) (vl vc : Nat) (hall : RepAll w lo hi l p) (ht : Rep w lo hi t (.agg #[.int .i64 vk, .int .i64 vn, .string vs, .slice vp vl vc])) (hhi : hi ≤ w.heap.size) (hl : l.length ≤ 1000000) :
    Calls Try.prog 31 #[.slice p l.length cap, .agg #[.int .i64 vk, .int .i64 vn, .string vs, .slice vp vl vc]] w fun e w' => e = .returned (.int .i64 (findS l t)) ∧ Below w.heap.size w w' := by
  have HC := Lib.hid (indexFunc_any l p cap t (w.alloc (.cells #[.int .i64 vk, .int .i64 vn, .string vs, .slice vp vl vc] 24)) w.heap.size lo hi vk vn vs vp vl vc (hall.alloc hhi _) (ht.alloc hhi _) (by simp; omega) (heap_alloc_new w _) hl)
  have HB := Lib.hid ((Below.refl w.heap.size w).alloc (Nat.le_refl _) (.cells #[.int .i64 vk, .int .i64 vn, .string vs, .slice vp vl vc] 24))
  have hfl := fnd_le t l
  obtain ⟨X, hX⟩ : ∃ X, X = idxS l t := ⟨_, rfl⟩
  have hXb : -1 ≤ X ∧ X ≤ 1000000 := by rw [hX]; unfold idxS; split <;> omega
  obtain ⟨hX1, hX2⟩ := hXb
  have hXF : Hid (findS l t = X + 1) := by show _ = _; rw [hX]; unfold findS idxS; split <;> omega
  rw [← hX] at HC
  clear hall ht hX hfl
  go_enter Try.func31, Try.ntmps31
  go_wp2_with (go_at_call 51; (with_reducible refine HC.out.mono ?_); rintro e w2 ⟨rfl, hb2⟩)
  go_ret
  exact ⟨ret_int hXF.out.symm, HB.out.trans (hb2.mono (by simp))⟩

set_option maxHeartbeats 2000000 in
theorem with_any (l : List T) (p : Option Addr) (cap : Nat) (t : T) (v : Value) (w : World) (ha : RepAll w 0 w.heap.size l p) (hca : l.length ≤ cap) (hv : Rep w 0 w.heap.size t v) (hsz : szAll l + sz t ≤ 900000) :
    Calls Try.prog 30 #[.slice p l.length cap, v] w (Ans 0 w (withS vfit l t)) := by
  have hlen := len_le_sz l
  have htp := sz_pos t
  obtain ⟨vk, vn, vs, vp, vl, vc, rfl⟩ := rep_form hv
  have HS0 := Lib.hid ((St.mk (W := w) (L := [(l, p)]) (B := []) (V := [(t, .agg #[.int .i64 vk, .int .i64 vn, .string vs, .slice vp vl vc])]) (fun x hx => by simp at hx; subst hx; exact ha) (fun x hx => by simp at hx) (fun x hx => by simp at hx; subst hx; exact hv)).alloc #[.int .i64 vk, .int .i64 vn, .string vs, .slice vp vl vc] 24)
  have HB0 := Lib.hid ((Below.refl w.heap.size w).alloc (Nat.le_refl _) (.cells #[.int .i64 vk, .int .i64 vn, .string vs, .slice vp vl vc] 24))
  have HC := Lib.hid (find_any l p cap t (w.alloc (.cells #[.int .i64 vk, .int .i64 vn, .string vs, .slice vp vl vc] 24)) 0 _ vk vn vs vp vl vc (HS0.out.all (l, p) (by simp)) (HS0.out.val (t, _) (by simp)) (Nat.le_refl _) (by omega))
  obtain ⟨X, hX⟩ : ∃ X, X = findS l t := ⟨_, rfl⟩
  rw [← hX] at HC
  clear ha hv
  by_cases hp : 0 < X
  · have HS : Hid (withS vfit l t = madeS (vfit l) l) := by show _ = _; unfold withS; rw [← hX, if_pos hp]
    rw [HS.out]
    clear hX HS
    have HK := Lib.hid (fun (W : World) (hall : RepAll W 0 W.heap.size l p) => checked_any l W 0 W.heap.size p cap hall hca (by omega) (Nat.le_refl _) (by omega))
    obtain ⟨R, hR⟩ : ∃ R, R = madeS (vfit l) l := ⟨_, rfl⟩
    rw [← hR] at HK ⊢
    clear hR
    go_enter Try.func30, Try.ntmps30
    go_wp2_with (first
      | (go_at_call 31; (with_reducible refine HC.out.mono ?_); rintro e w2 ⟨rfl, hb⟩; have HS2 := Lib.hid (HS0.out.step hb); have HB2 := Lib.hid (HB0.out.trans (hb.mono HB0.out.size)); clear hb)
      | (go_at_call 45; (with_reducible refine (HK.out _ (HS2.out.all (l, p) (by simp))).mono ?_); rintro e w3 h3; have H3 := Lib.hid (h3.of_below HB2.out (Nat.zero_le _)); clear h3; obtain ⟨p3, cap3, rfl, h3⟩ := H3.out))
    go_ret2
    exact ⟨p3, cap3, rfl, h3⟩
  · have HS : Hid (withS vfit l t = catS vfit l [t]) := by show _ = _; unfold withS; rw [← hX, if_neg hp]
    rw [HS.out]
    clear hX HS
    have HK := Lib.hid (fun (W : World) (g : Nat) (hall : RepAll W 0 W.heap.size l p) (hall2 : RepAll W 0 W.heap.size [t] (some ⟨g, 0, none⟩)) => cat_any l [t] p (some ⟨g, 0, none⟩) cap 1 W 0 hall hca hall2 (Nat.le_refl _) (Nat.zero_le _) (by rw [szAll_append]; simp only [szAll]; omega))
    obtain ⟨R, hR⟩ : ∃ R, R = catS vfit l [t] := ⟨_, rfl⟩
    have hR2 : R = madeS (vfit (l ++ [t])) (l ++ [t]) := hR
    rw [← hR]
    rw [← hR2] at HK
    clear hR hR2
    go_enter Try.func30, Try.ntmps30
    go_wp2_with (first
      | (go_at_call 31; (with_reducible refine HC.out.mono ?_); rintro e w2 ⟨rfl, hb⟩; have HS2 := Lib.hid (HS0.out.step hb); have HB2 := Lib.hid (HB0.out.trans (hb.mono HB0.out.size)); clear hb; obtain ⟨hx0, hx1, hx2, hx3, hxf⟩ := box4_in w2 w.heap.size _ _ _ _ _ (HS2.out.box (w.heap.size, bx vk vn vs vp vl vc) (by simp)); clear hxf)
      | (go_at_call 22; have HS3 := Lib.hid (HS2.out.alloc #[.int .i64 vk, .int .i64 vn, .string vs, .slice vp vl vc] 24); have HB3 := Lib.hid (HB2.out.alloc HB2.out.size (.cells #[.int .i64 vk, .int .i64 vn, .string vs, .slice vp vl vc] 24)); (refine (HK.out _ w2.heap.size (HS3.out.all (l, p) (by simp)) (repAll_box (heap_alloc_new w2 _) (HS3.out.val (t, _) (by simp)) (Nat.zero_le _) (Nat.le_refl _))).mono ?_); rintro e w3 h3; have H3 := Lib.hid (h3.of_below HB3.out (Nat.zero_le _)); clear h3; obtain ⟨p3, cap3, rfl, h3⟩ := H3.out))
    go_ret2
    exact ⟨p3, cap3, rfl, h3⟩
end Go.Proofs.Ytjipchloebbldaa
