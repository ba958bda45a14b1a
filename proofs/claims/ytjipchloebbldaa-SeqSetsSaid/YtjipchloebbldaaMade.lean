/- The calls of package seq that make a list: Get, Cut, Cat, Delete, and what the others share. -/
import Derived.Test.YtjipchloebbldaaChk
import Derived.Deep.RegionHeld3
import Derived.Deep.DeepCutAuto
namespace Go.Proofs.Ytjipchloebbldaa
open Go.RowKit
set_option maxRecDepth 100000

theorem len_le_sz : ∀ l : List T, (l.length : Int) ≤ szAll l
  | [] => by simp [szAll]
  | x :: r => by have := sz_pos x; have := len_le_sz r; simp only [szAll, List.length_cons]; omega
theorem szAll_drop_le (l : List T) (i : Nat) : szAll (l.drop i) ≤ szAll l := by
  have h := szAll_append (l.take i) (l.drop i)
  rw [List.take_append_drop] at h
  have := szAll_nonneg (l.take i); omega
theorem RepAll.take {w : World} {lo hi : Nat} : ∀ {l : List T} {p : Option Addr} (_ : RepAll w lo hi l p) (k : Nat), RepAll w lo hi (l.take k) p
  | _, _, _, 0 => by rw [List.take_zero]; unfold RepAll; trivial
  | [], _, _, _ + 1 => by rw [List.take_nil]; unfold RepAll; trivial
  | t :: r, p, h, k + 1 => by
    unfold RepAll at h
    obtain ⟨a, c0, c1, c2, c3, hp, hl, hb, h0, h1, h2, h3, ht, hr⟩ := h
    rw [List.take_succ_cons]; unfold RepAll
    exact ⟨a, c0, c1, c2, c3, hp, hl, hb, h0, h1, h2, h3, ht, hr.take k⟩
theorem RepAll.drop {w : World} {lo hi : Nat} : ∀ {l : List T} {p : Option Addr} (_ : RepAll w lo hi l p) (k : Nat), RepAll w lo hi (l.drop k) (p.map (·.add (k * 4)))
  | l, p, h, 0 => by
    rw [List.drop_zero, Nat.zero_mul]
    cases p with
    | none => exact h
    | some a => exact h
  | [], _, _, _ + 1 => by rw [List.drop_nil]; unfold RepAll; trivial
  | t :: r, p, h, k + 1 => by
    unfold RepAll at h
    obtain ⟨a, c0, c1, c2, c3, hp, hl, hb, h0, h1, h2, h3, ht, hr⟩ := h
    subst hp
    have h' := hr.drop k
    rw [List.drop_succ_cons]
    simp only [Option.map_some, add_add] at h' ⊢
    rw [show (k + 1) * 4 = 4 + k * 4 by omega]
    exact h'
/-- l[:k], l[k:], l[j:k] of a list of values. -/
theorem slice_head (p : Option Addr) (n cap k : Nat) (h : k ≤ cap) (W : World) : (Instr.sliceAt 22 (.slice p n cap) none (some (.int .i64 (k : Int))) none).run Try.prog W = .ok (.slice p k cap) W := by
  have h2 : (k : Int) ≤ (cap : Int) := by omega
  have ht := Try.underlying22
  simp only [Instr.sliceAt, Instr.slice, run_underlying ht, Instr.sliceBounds, Instr.sliceBound, asIntOf, Sem.run_bind, Sem.run_pure, Result.andThen]
  simp [go_sem, h2]
theorem slice_tail (p : Option Addr) (n cap k : Nat) (h : k ≤ n) (hc : n ≤ cap) (w : World) (lo hi : Nat) (l : List T) (hr : RepAll w lo hi l p) (hn : n = l.length) : ∃ q, (∀ W : World, (Instr.sliceAt 22 (.slice p n cap) (some (.int .i64 (k : Int))) none none).run Try.prog W = .ok (.slice q (n - k) (cap - k)) W) ∧ RepAll w lo hi (l.drop k) q := by
  have h2 : (k : Int) ≤ (n : Int) := by omega
  have ht := Try.underlying22
  refine ⟨if cap = k then p else p.map (·.add (k * 4)), fun W => ?_, ?_⟩
  · simp only [Instr.sliceAt, Instr.slice, run_underlying ht, Instr.sliceBounds, Instr.sliceBound, asIntOf, Sem.run_bind, Sem.run_pure, Result.andThen]
    simp [go_sem, h2]
  · by_cases hk : cap = k
    · rw [List.drop_of_length_le (by omega)]; unfold RepAll; trivial
    · rw [if_neg hk]; exact hr.drop k
theorem slice_mid (p : Option Addr) (n cap j k : Nat) (h : j ≤ k) (hk : k ≤ n) (hc : n ≤ cap) (w : World) (lo hi : Nat) (l : List T) (hr : RepAll w lo hi l p) (hn : n = l.length) : ∃ q, (∀ W : World, (Instr.sliceAt 22 (.slice p n cap) (some (.int .i64 (j : Int))) (some (.int .i64 (k : Int))) none).run Try.prog W = .ok (.slice q (k - j) (cap - j)) W) ∧ RepAll w lo hi ((l.take k).drop j) q := by
  have h2 : (k : Int) ≤ (cap : Int) := by omega
  have h3 : (j : Int) ≤ (k : Int) := by omega
  have ht := Try.underlying22
  refine ⟨if cap = j then p else p.map (·.add (j * 4)), fun W => ?_, ?_⟩
  · simp only [Instr.sliceAt, Instr.slice, run_underlying ht, Instr.sliceBounds, Instr.sliceBound, asIntOf, Sem.run_bind, Sem.run_pure, Result.andThen]
    simp [go_sem, h2, h3]
  · by_cases hk2 : cap = j
    · rw [List.drop_of_length_le (by rw [List.length_take]; omega)]; unfold RepAll; trivial
    · rw [if_neg hk2]; exact (hr.take k).drop j

/-- These items, in some row from lo on. -/
def Glued (lo : Nat) (w : World) (l : List T) (e : Ending) (w' : World) : Prop := ∃ p cap, e = .returned (.slice p l.length cap) ∧ l.length ≤ cap ∧ RepAll w' lo w'.heap.size l p ∧ Below w.heap.size w w'
theorem concat2_any (a b : List T) (pa pb : Option Addr) (ca cb : Nat) (w : World) (lo hi ba : Nat) (hb : w.heap[ba]? = some (.cells #[.slice pa a.length ca, .slice pb b.length cb] 22 (0, 0))) (ha : RepAll w lo hi a pa) (hca : a.length ≤ ca) (hbb : RepAll w lo hi b pb) (hcb : b.length ≤ cb)
    (hhi : hi ≤ w.heap.size) (hlo : lo ≤ w.heap.size) (hlen : (a ++ b).length ≤ 1000000) :
    Calls Try.prog 48 #[.slice (some ⟨ba, 0, none⟩) 2 2] w (Glued lo w (a ++ b)) := by
  have hf : flat [(a, pa, ca), (b, pb, cb)] = a ++ b := by simp [flat]
  have h := concat_any [(a, pa, ca), (b, pb, cb)] w lo hi ba 2 (fun k hk => by
    match k, hk with
    | 0, _ => exact ⟨(cell_of_row _ _ 0 _ _ _ hb).trans rfl, ha, hca⟩
    | 1, _ => exact ⟨(cell_of_row _ _ 1 _ _ _ hb).trans rfl, hbb, hcb⟩) (heap_lt hb) hhi hlo (by rw [hf]; exact hlen) (by simp)
  rw [hf] at h
  exact h
theorem concat3_any (a b c : List T) (pa pb pc : Option Addr) (ca cb cc : Nat) (w : World) (lo hi ba : Nat) (hb : w.heap[ba]? = some (.cells #[.slice pa a.length ca, .slice pb b.length cb, .slice pc c.length cc] 22 (0, 0))) (ha : RepAll w lo hi a pa) (hca : a.length ≤ ca) (hbb : RepAll w lo hi b pb) (hcb : b.length ≤ cb) (hrc : RepAll w lo hi c pc) (hcc : c.length ≤ cc)
    (hhi : hi ≤ w.heap.size) (hlo : lo ≤ w.heap.size) (hlen : (a ++ b ++ c).length ≤ 1000000) :
    Calls Try.prog 48 #[.slice (some ⟨ba, 0, none⟩) 3 3] w (Glued lo w (a ++ b ++ c)) := by
  have hf : flat [(a, pa, ca), (b, pb, cb), (c, pc, cc)] = a ++ b ++ c := by simp [flat]
  have h := concat_any [(a, pa, ca), (b, pb, cb), (c, pc, cc)] w lo hi ba 3 (fun k hk => by
    match k, hk with
    | 0, _ => exact ⟨(cell_of_row _ _ 0 _ _ _ hb).trans rfl, ha, hca⟩
    | 1, _ => exact ⟨(cell_of_row _ _ 1 _ _ _ hb).trans rfl, hbb, hcb⟩
    | 2, _ => exact ⟨(cell_of_row _ _ 2 _ _ _ hb).trans rfl, hrc, hcc⟩) (heap_lt hb) hhi hlo (by rw [hf]; exact hlen) (by simp)
  rw [hf] at h
  exact h
theorem Ans.of_below {lo lo' : Nat} {w w2 w' : World} {r : List T × Int} {e : Ending} (h : Ans lo w2 r e w') (hb : Below w.heap.size w w2) (hlo : lo' ≤ lo) : Ans lo' w r e w' := by
  obtain ⟨p, cap, rfl, h1, h2, h3⟩ := h
  exact ⟨p, cap, rfl, h1, h2.keep hlo (Nat.le_refl _) (fun _ _ _ => rfl), hb.trans (h3.mono hb.size)⟩
/-- checked, behind rows put together: as a tail of the calls. -/
theorem checked_glued (l : List T) (w w2 : World) (lo : Nat) (p : Option Addr) (cap : Nat) (hall : RepAll w2 lo w2.heap.size l p) (hlc : l.length ≤ cap) (hsz : szAll l ≤ 900000) (hb : Below w.heap.size w w2) :
    Calls Try.prog 45 #[.slice p l.length cap] w2 (Ans w.heap.size w (madeS (vfit l) l)) := by
  have := len_le_sz l
  exact (checked_any l w2 lo w2.heap.size p cap hall hlc (by omega) (Nat.le_refl _) hsz).mono fun e w' h => h.of_below hb hb.size

theorem checked_tail (l : List T) (w : World) (lo : Nat) (hsz : szAll l ≤ 900000) (R : List T × Int) (hR : R = madeS (vfit l) l) : ∀ w2 p cap, RepAll w2 lo w2.heap.size l p → l.length ≤ cap → Below w.heap.size w w2 →
    Calls Try.prog 45 #[.slice p l.length cap] w2 (fun e w' => Ans w.heap.size w R e w' ∧ Below w2.heap.size w2 w') := fun w2 p cap h1 h2 h3 => by
  rw [hR]
  have := len_le_sz l
  exact (checked_any l w2 lo w2.heap.size p cap h1 h2 (by omega) (Nat.le_refl _) hsz).mono fun e w' h => ⟨h.of_below h3 h3.size, by obtain ⟨_, _, _, _, _, h⟩ := h; exact h⟩

set_option maxHeartbeats 1000000 in
theorem cat_any (a b : List T) (pa pb : Option Addr) (ca cb : Nat) (w : World) (lo : Nat) (ha : RepAll w lo w.heap.size a pa) (hca : a.length ≤ ca) (hb : RepAll w lo w.heap.size b pb) (hcb : b.length ≤ cb) (hlo : lo ≤ w.heap.size) (hsz : szAll (a ++ b) ≤ 900000) :
    Calls Try.prog 22 #[.slice pa a.length ca, .slice pb b.length cb] w (Ans w.heap.size w (madeS (vfit (a ++ b)) (a ++ b))) := by
  have hlen := len_le_sz (a ++ b)
  have HC := Lib.hid (concat2_any a b pa pb ca cb (w.alloc (.cells #[.slice pa a.length ca, .slice pb b.length cb] 22)) lo w.heap.size w.heap.size (heap_alloc_new w _) (ha.alloc (Nat.le_refl _) _) hca (hb.alloc (Nat.le_refl _) _) hcb (by simp) (by simp; omega) (by omega))
  obtain ⟨R, hR⟩ : ∃ R, R = madeS (vfit (a ++ b)) (a ++ b) := ⟨_, rfl⟩
  rw [← hR]
  have HK := Lib.hid (checked_tail (a ++ b) w lo hsz R hR)
  clear ha hb hR hsz
  generalize a ++ b = L at *
  go_enter Try.func22, Try.ntmps22
  go_wp2_with (first
    | (go_at_call 48; (with_reducible refine HC.out.mono ?_); rintro e w2 ⟨p2, cap2, rfl, h21, h22, hb2⟩; have H22 := Lib.hid h22; have HB2 := Lib.hid (((Below.refl w.heap.size w).alloc (Nat.le_refl _) (.cells #[.slice pa a.length ca, .slice pb b.length cb] 22)).trans (hb2.mono (by simp))); clear h22 hb2)
    | (go_at_call 45; (with_reducible refine (HK.out _ _ _ H22.out h21 HB2.out).mono ?_); rintro e w3 ⟨⟨p3, cap3, rfl, h3⟩, _⟩; have H3 := Lib.hid h3; clear h3))
  go_ret2
  exact ⟨p3, cap3, rfl, H3.out⟩

/-- The answers of the calls, as plain data: c tells the code of a list that is made. -/
def cutS (c : List T → Int) (l : List T) (i j : Int) : List T × Int := if j < i then ([], 0) else if hasB l.length i = true ∧ hasB l.length j = true then madeS (c ((l.take j.toNat).drop (i.toNat - 1))) ((l.take j.toNat).drop (i.toNat - 1)) else ([], 10)
def delS (c : List T → Int) (l : List T) (i : Int) : List T × Int := if hasB l.length i = true then madeS (c (l.take (i.toNat - 1) ++ l.drop i.toNat)) (l.take (i.toNat - 1) ++ l.drop i.toNat) else ([], 10)
def putS (c : List T → Int) (l : List T) (i : Int) (v : T) : List T × Int := if hasB l.length i = true then madeS (c (l.take (i.toNat - 1) ++ [v] ++ l.drop i.toNat)) (l.take (i.toNat - 1) ++ [v] ++ l.drop i.toNat) else ([], 10)
/-- Ahead of which index a new item stands. -/
def insAt (n : Nat) (i : Int) : Nat := if i < 1 then 0 else if (n : Int) < i then n else i.toNat - 1
def insS (c : List T → Int) (l : List T) (v : T) (i : Int) : List T × Int := madeS (c (l.take (insAt l.length i) ++ [v] ++ l.drop (insAt l.length i))) (l.take (insAt l.length i) ++ [v] ++ l.drop (insAt l.length i))
def catS (c : List T → Int) (a b : List T) : List T × Int := madeS (c (a ++ b)) (a ++ b)
theorem hasB_iff {n : Nat} {i : Int} : hasB n i = true ↔ 1 ≤ i ∧ i ≤ n := by simp [hasB]

set_option maxHeartbeats 1000000 in
theorem cut_any (l : List T) (p : Option Addr) (cap : Nat) (i j : Int) (w : World) (lo : Nat) (ha : RepAll w lo w.heap.size l p) (hca : l.length ≤ cap) (hi : I64 i) (hj : I64 j) (hsz : szAll l ≤ 900000) :
    Calls Try.prog 14 #[.slice p l.length cap, .int .i64 i, .int .i64 j] w (Ans w.heap.size w (cutS vfit l i j)) := by
  have hlen := len_le_sz l
  by_cases hij : j < i
  · have HS : Hid (cutS vfit l i j = ([], 0)) := by show _ = _; unfold cutS; rw [if_pos hij]
    clear ha
    go_enter Try.func14, Try.ntmps14
    go_wp2
    go_ret2
    rw [HS.out]
    exact ans_none 0 (Below.refl _ _)
  · by_cases hh : hasB l.length i = true ∧ hasB l.length j = true
    · obtain ⟨hhi, hhj⟩ := hh
      obtain ⟨i1, i2⟩ := hasB_iff.1 hhi
      obtain ⟨j1, j2⟩ := hasB_iff.1 hhj
      obtain ⟨k, rfl⟩ : ∃ k : Nat, i = (k : Int) + 1 := ⟨(i - 1).toNat, by omega⟩
      obtain ⟨m, rfl⟩ : ∃ m : Nat, j = (m : Int) := ⟨j.toNat, by omega⟩
      have hL : (l.take ((m : Int).toNat)).drop (((k : Int) + 1).toNat - 1) = (l.take m).drop k := by rw [show ((m : Int)).toNat = m by omega, show ((k : Int) + 1).toNat - 1 = k by omega]
      have hLl : ((l.take m).drop k).length = m - k := by rw [List.length_drop, List.length_take]; omega
      have hLs : szAll ((l.take m).drop k) ≤ 900000 := by have := szAll_drop_le (l.take m) k; have := szAll_take_le l m; omega
      have HS : Hid (cutS vfit l ((k : Int) + 1) m = madeS (vfit ((l.take m).drop k)) ((l.take m).drop k)) := by show _ = _; unfold cutS; rw [if_neg hij, if_pos ⟨hhi, hhj⟩, hL]
      obtain ⟨q, hq, hqr⟩ := slice_mid p l.length cap k m (by omega) (by omega) hca w lo w.heap.size l ha rfl
      obtain ⟨R, hR⟩ : ∃ R, R = madeS (vfit ((l.take m).drop k)) ((l.take m).drop k) := ⟨_, rfl⟩
      have HK := Lib.hid (checked_tail ((l.take m).drop k) w lo hLs R hR)
      rw [HS.out, ← hR]
      clear ha hR HS
      have HQ := Lib.hid hqr; clear hqr
      generalize (l.take m).drop k = L at *
      rw [hLl] at HK
      have hcap : m - k ≤ cap - k := by omega
      go_enter Try.func14, Try.ntmps14
      go_wp2_with (first
        | (go_at_call 43; (with_reducible refine (has_any l p cap _ _ (by omega)).mono ?_); rintro e w1 ⟨rfl, rfl⟩)
        | (go_at_call 45; (with_reducible refine (HK.out _ _ _ HQ.out hcap (Below.refl _ _)).mono ?_); rintro e w3 ⟨⟨p3, cap3, rfl, h3⟩, _⟩; have H3 := Lib.hid h3; clear h3))
      go_ret2
      exact ⟨p3, cap3, rfl, H3.out⟩
    · have HS : Hid (cutS vfit l i j = ([], 10)) := by show _ = _; unfold cutS; rw [if_neg hij, if_neg hh]
      clear ha
      rcases Bool.eq_false_or_eq_true (hasB l.length i) with h1 | h1
      · have h2 : hasB l.length j = false := by cases h : hasB l.length j with
          | false => rfl
          | true => exact absurd ⟨h1, h⟩ hh
        go_enter Try.func14, Try.ntmps14
        go_wp2_with (go_at_call 43; (with_reducible refine (has_any l p cap _ _ (by omega)).mono ?_); rintro e w1 ⟨rfl, rfl⟩)
        go_ret2
        rw [HS.out]
        exact ans_none 10 (Below.refl _ _)
      · go_enter Try.func14, Try.ntmps14
        go_wp2_with (go_at_call 43; (with_reducible refine (has_any l p cap _ _ (by omega)).mono ?_); rintro e w1 ⟨rfl, rfl⟩)
        go_ret2
        rw [HS.out]
        exact ans_none 10 (Below.refl _ _)
end Go.Proofs.Ytjipchloebbldaa
