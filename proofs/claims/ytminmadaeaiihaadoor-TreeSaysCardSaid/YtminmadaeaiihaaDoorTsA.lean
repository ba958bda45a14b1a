/- TreeSays: how many nodes, how deep, the variables, whether two are the same, a copy. -/
import Derived.Test.YtminmadaeaiihaaDoorOdd2
import Derived.Test.YtminmadaeaiihaaDoorNt
import Derived.Handy
import Derived.Test.YtminmadaeaiihaaDoorRo6
import Derived.Test.YtminmadaeaiihaaDoorRt
import Derived.Test.YtminmadaeaiihaaDoorCopy
import Derived.Test.YtminmadaeaiihaaDoorTm
import Derived.Deep.RegionHeld3
import Derived.Test.YtminmadaeaiihaaDoorSameV
import Derived.Test.YtminmadaeaiihaaDoorTh2
import Derived.RangeFuncCalls
import Derived.OrdersIn
import Derived.OwnWalkIn
import Derived.BigQuiet
import Derived.Deep.QuietTactic
import Derived.Deep.RegionLaw
import Derived.Deep.DeepCutAuto
import Derived.Test.YtminmadaeaiihaaDoorRise
import Derived.Lib.SlicesCompact
import Derived.Lib.Bytealg
import Derived.Test.YtminmadaeaiihaaDoorTc
import Derived.RangeFuncNested
import Derived.RangeFuncLeaves
import Derived.Below
import Derived.Test.YtminmadaeaiihaaDoorHandsK
import Derived.Test.YtminmadaeaiihaaDoorShelf
import Derived.Lib.OwnBridge
import Derived.Sort.OwnSorted
import Derived.Sort.CutIn
import Derived.Deep.DeepMust
import Derived.KernelRfl
namespace Go.Proofs.YtminmadaeaiihaaDoor
open Go.RowKit

mutual
/-- How many are left of so many items; below 0: more. -/
def fewT : T → Int → Int → Int
  | .mk _ _ s l, left, deep => if left - 1 - (s.size : Int) / 16 < 0 ∨ 60 < deep then -1 else fewAll l (left - 1 - (s.size : Int) / 16) (deep + 1)
def fewAll : List T → Int → Int → Int
  | [], left, _ => left
  | t :: r, left, deep => if fewT t left deep < 0 then -1 else fewAll r (fewT t left deep) deep
end
theorem fewAll_drop (l : List T) (j : Nat) (h : j < l.length) (y d : Int) : fewAll (l.drop j) y d = if fewT l[j] y d < 0 then -1 else fewAll (l.drop (j + 1)) (fewT l[j] y d) d := by
  rw [List.drop_eq_getElem_cons h, fewAll]
theorem few_le : ∀ (t : T) (y d : Int), 0 ≤ y → fewT t y d ≤ y := by
  refine T.ind_ (fun k n s l ih y d hy => ?_)
  have hall : ∀ (l : List T), (∀ t ∈ l, ∀ (y d : Int), 0 ≤ y → fewT t y d ≤ y) → ∀ (y d : Int), 0 ≤ y → fewAll l y d ≤ y := by
    intro l
    induction l with
    | nil => intro _ y d _; rw [fewAll]; omega
    | cons x r ihr =>
      intro h y d hy
      rw [fewAll]
      have h1 := h x (by simp) y d hy
      split
      · omega
      · have h2 := ihr (fun t ht => h t (by simp [ht])) (fewT x y d) d (by omega)
        omega
  rw [fewT]
  split
  · omega
  · have := hall l ih (y - 1 - (s.size : Int) / 16) (d + 1) (by omega)
    omega

def FewAt (t : T) : Prop := ∀ (w : World) (lo hi : Nat) (v : Value) (y d : Int), Rep w lo hi t v → hi ≤ w.heap.size → 0 ≤ y → y ≤ 6000 → 0 ≤ d → d ≤ 61 →
  Calls Tryd.prog 76 #[v, .int .i64 y, .int .i64 d] w fun e w' => e = .returned (.int .i64 (fewT t y d)) ∧ Below w.heap.size w w'

set_option maxHeartbeats 1000000 in
theorem few_any : ∀ t, FewAt t := by
  refine T.ind_ (fun k n s l ih w lo hi v y d hr hhi hy0 hy1 hd0 hd1 => ?_)
  unfold Rep at hr
  obtain ⟨p, cap, rfl, hk, hn, hs, hlc, hcap, hall⟩ := hr
  have H := Lib.hid ih; clear ih
  have HALL := Lib.hid hall; clear hall
  by_cases hc : y - 1 - (s.size : Int) / 16 < 0
  · have hO := Lib.hid (show fewT (.mk k n s l) y d = -1 from by rw [fewT, if_pos (Or.inl hc)])
    go_enter Tryd.func76, Tryd.ntmps76
    go_wp2
    all_goals
      go_ret
      exact ⟨ret_int hO.out.symm, by go_grown⟩
  by_cases hd : 60 < d
  · have hO := Lib.hid (show fewT (.mk k n s l) y d = -1 from by rw [fewT, if_pos (Or.inr hd)])
    go_enter Tryd.func76, Tryd.ntmps76
    go_wp2
    all_goals
      go_ret
      exact ⟨ret_int hO.out.symm, by go_grown⟩
  have hO := Lib.hid (show fewT (.mk k n s l) y d = fewAll l (y - 1 - (s.size : Int) / 16) (d + 1) from by rw [fewT, if_neg (by omega)])
  have hq : y - 1 - (s.size : Int) / 16 ≤ 6000 := by omega
  go_enter Tryd.func76, Tryd.ntmps76
  go_wp2
  have hb4 := (box4 w (.int .i64 k) (.int .i64 n) (.string s) (.slice p l.length cap) 38).2.2.2
  generalize hW1 : w.alloc (.cells #[.int .i64 k, .int .i64 n, .string s, .slice p l.length cap] 38) = W1 at hb4
  have hWb : Below w.heap.size w W1 := by subst hW1; exact (Below.refl _ _).alloc (Nat.le_refl _) _
  have hWs : W1.heap.size = w.heap.size + 1 := by subst hW1; simp
  clear hW1
  go_loopw [1, 7] (fun o i wr => ∃ (j : Nat) (x : Int), j ≤ l.length ∧ i = .int .i64 j ∧ o = .int .i64 x ∧ 0 ≤ x ∧ x ≤ 6000 ∧ Hid (fewAll l (y - 1 - (s.size : Int) / 16) (d + 1) = fewAll (l.drop j) x (d + 1)) ∧ Below W1.heap.size W1 wr) (fun _ i _ => l.length - (intOf i).toNat)
  case atStart => exact ⟨0, _, Nat.zero_le _, rfl, rfl, by omega, hq, rfl, Below.refl _ _⟩
  case round =>
    obtain ⟨j, x, hj, rfl, rfl, hx0, hx1, HO, hbr⟩ := hrel
    have hbox : wr.cell? ⟨w.heap.size, 3, none⟩ = some (.slice p l.length cap) := (hbr.cell (p := ⟨w.heap.size, 3, none⟩) (by rw [hWs]; exact Nat.lt_succ_self _)).trans hb4
    have hz := hbr.size
    by_cases hlt : j < l.length
    · obtain ⟨b, off, k1, n1, s1, l1, q1, cc1, rfl, _, hbhi, hli, h0, h1, h2, h3, hrep⟩ := (HALL.out.below (hWb.trans (hbr.mono (by omega))) hhi).item j hlt
      have hA0 := fewAll_drop l j hlt x (d + 1)
      rw [hli] at hA0
      have hAA := Lib.hid (HO.out.trans hA0); clear hA0
      have hlj : l[j] ∈ l := List.getElem_mem hlt
      rw [hli] at hlj hrep
      have hle := few_le (.mk k1 n1 s1 l1) x (d + 1) hx0
      have hWb2 := Lib.hid hWb
      clear hli HO hWb
      go_wp2_with (go_at_call 76; refine (H.out _ hlj _ lo hi _ x (d + 1) hrep (by omega) hx0 hx1 (by omega) (by omega)).mono ?_; rintro e w2 ⟨rfl, hb2⟩; obtain ⟨hc2, hf2⟩ := below_bcell hb2)
      · have h : fewT (.mk k1 n1 s1 l1) x (d + 1) < 0 := by assumption
        go_ret
        refine ⟨ret_int ?_, ?_⟩
        · rw [hO.out, hAA.out, if_pos h]
        · exact hWb2.out.trans ((hbr.trans (hb2.mono hz)).mono (by omega))
      · have h : 0 ≤ fewT (.mk k1 n1 s1 l1) x (d + 1) := by omega
        go_roundw
        case rel =>
          refine ⟨j + 1, _, by omega, by go_num, rfl, h, by omega, ?_, hbr.trans (hb2.mono hz)⟩
          show _ = _
          rw [hAA.out, if_neg (by omega)]
        case measure => simp [intOf]; omega
    · have hjl : j = l.length := by omega
      subst hjl
      go_wp2
      go_ret
      refine ⟨ret_int ?_, hWb.trans (hbr.mono (by omega))⟩
      rw [hO.out, HO.out, List.drop_length, fewAll]

mutual
/-- How many nodes are left of so many; below 0: more. -/
def ndN : Nd → Int → Int → Int
  | .mk _ _ s v l, left, deep => if left - 1 - (s.size : Int) / 16 < 0 ∨ 60 < deep then -1 else if fewT v (left - 1 - (s.size : Int) / 16) 0 < 0 then -1 else if ndAll l (fewT v (left - 1 - (s.size : Int) / 16) 0) (deep + 1) < 0 then -1 else ndAll l (fewT v (left - 1 - (s.size : Int) / 16) 0) (deep + 1)
def ndAll : List Nd → Int → Int → Int
  | [], left, _ => left
  | t :: r, left, deep => if ndN t left deep < 0 then -1 else ndAll r (ndN t left deep) deep
end
theorem ndAll_drop (l : List Nd) (j : Nat) (h : j < l.length) (y d : Int) : ndAll (l.drop j) y d = if ndN l[j] y d < 0 then -1 else ndAll (l.drop (j + 1)) (ndN l[j] y d) d := by
  rw [List.drop_eq_getElem_cons h, ndAll]
/-- What is left, with what was counted, is no more than there was. -/
theorem ndAll_cnt_of (l : List Nd) (H : ∀ t ∈ l, ∀ (y d : Int), 0 ≤ y → 0 ≤ ndN t y d → ndN t y d + (cnt t : Int) ≤ y) : ∀ (y d : Int), 0 ≤ y → 0 ≤ ndAll l y d → ndAll l y d + (cntAll l : Int) ≤ y := by
  induction l with
  | nil => intro y d _ _; rw [ndAll, cntAll]; omega
  | cons x r ihr =>
    intro y d hy h
    rw [ndAll] at h ⊢
    by_cases hx : ndN x y d < 0
    · rw [if_pos hx] at h; omega
    · rw [if_neg hx] at h ⊢
      have h1 := H x (by simp) y d hy (by omega)
      have h2 := ihr (fun t ht => H t (by simp [ht])) (ndN x y d) d (by omega) h
      rw [cntAll]; omega
theorem ndN_cnt : ∀ (t : Nd) (y d : Int), 0 ≤ y → 0 ≤ ndN t y d → ndN t y d + (cnt t : Int) ≤ y := by
  refine Nd.ind_ (fun o n s v l ih y d hy h => ?_)
  rw [ndN] at h ⊢
  by_cases h1 : y - 1 - (s.size : Int) / 16 < 0 ∨ 60 < d
  · rw [if_pos h1] at h; omega
  rw [if_neg h1] at h ⊢
  have hf := few_le v (y - 1 - (s.size : Int) / 16) 0 (by omega)
  by_cases h2 : fewT v (y - 1 - (s.size : Int) / 16) 0 < 0
  · rw [if_pos h2] at h; omega
  rw [if_neg h2] at h ⊢
  by_cases h3 : ndAll l (fewT v (y - 1 - (s.size : Int) / 16) 0) (d + 1) < 0
  · rw [if_pos h3] at h; omega
  rw [if_neg h3] at h ⊢
  have h4 := ndAll_cnt_of l ih _ (d + 1) (by omega) h
  rw [cnt]; omega
theorem ndAll_cnt (l : List Nd) (y d : Int) (hy : 0 ≤ y) (h : 0 ≤ ndAll l y d) : ndAll l y d + (cntAll l : Int) ≤ y := ndAll_cnt_of l (fun t _ => ndN_cnt t) y d hy h
theorem ndAll_neg : ∀ (l : List Nd) (y d : Int), ndAll l y d < 0 → 0 ≤ y → ndAll l y d = -1
  | [], y, d, h, hy => by rw [ndAll] at h; omega
  | x :: r, y, d, h, hy => by
    rw [ndAll] at h ⊢
    by_cases hx : ndN x y d < 0
    · rw [if_pos hx]
    · rw [if_neg hx] at h ⊢; exact ndAll_neg r _ d h (by omega)

theorem ndN_b1 {o n : Int} {s : ByteArray} {v : T} {l : List Nd} {x d : Int} (h : x - 1 - (s.size : Int) / 16 < 0 ∨ 60 < d) : ndN (.mk o n s v l) x d = -1 := by rw [ndN, if_pos h]
theorem ndN_b2 {o n : Int} {s : ByteArray} {v : T} {l : List Nd} {x d : Int} (h1 : ¬ (x - 1 - (s.size : Int) / 16 < 0 ∨ 60 < d)) (h : fewT v (x - 1 - (s.size : Int) / 16) 0 < 0) : ndN (.mk o n s v l) x d = -1 := by rw [ndN, if_neg h1, if_pos h]
theorem ndN_b3 {o n : Int} {s : ByteArray} {v : T} {l : List Nd} {x d : Int} (h1 : ¬ (x - 1 - (s.size : Int) / 16 < 0 ∨ 60 < d)) (h2 : ¬ fewT v (x - 1 - (s.size : Int) / 16) 0 < 0) (h : ndAll l (fewT v (x - 1 - (s.size : Int) / 16) 0) (d + 1) < 0) : ndN (.mk o n s v l) x d = -1 := by rw [ndN, if_neg h1, if_neg h2, if_pos h]
theorem ndN_ok {o n : Int} {s : ByteArray} {v : T} {l : List Nd} {x d : Int} (h1 : ¬ (x - 1 - (s.size : Int) / 16 < 0 ∨ 60 < d)) (h2 : ¬ fewT v (x - 1 - (s.size : Int) / 16) 0 < 0) (h : ¬ ndAll l (fewT v (x - 1 - (s.size : Int) / 16) 0) (d + 1) < 0) : ndN (.mk o n s v l) x d = ndAll l (fewT v (x - 1 - (s.size : Int) / 16) 0) (d + 1) := by rw [ndN, if_neg h1, if_neg h2, if_neg h]

def NdsOk (L : List Nd) : Prop := ∀ (w : World) (lo hi : Nat) (p : Option Addr) (cap : Nat) (y d : Int), NAll w lo hi L p → L.length ≤ cap → L.length * 112 ≤ 140737488355328 → hi ≤ w.heap.size → 0 ≤ y → y ≤ 6000 → 0 ≤ d → d ≤ 61 →
  Calls Tryd.prog 48 #[.slice p L.length cap, .int .i64 y, .int .i64 d] w fun e w' => e = .returned (.int .i64 (ndAll L y d)) ∧ Below w.heap.size w w'

set_option maxHeartbeats 1000000 in
theorem nds_of (L : List Nd) (ih : ∀ t ∈ L, NdsOk t.l) : NdsOk L := by
  intro w lo hi p cap y d hall hlc hcap hhi hy0 hy1 hd0 hd1
  have HIH := Lib.hid ih
  have HALL := Lib.hid hall
  clear ih hall
  go_enter Tryd.func48, Tryd.ntmps48
  go_wp2
  go_loopw [1, 7] (fun o i wr => ∃ (j : Nat) (x : Int), j ≤ L.length ∧ i = .int .i64 j ∧ o = .int .i64 x ∧ 0 ≤ x ∧ x ≤ 6000 ∧ Hid (ndAll L y d = ndAll (L.drop j) x d) ∧ Hid (Below w.heap.size w wr)) (fun _ i _ => L.length - (intOf i).toNat)
  case atStart => exact ⟨0, _, Nat.zero_le _, rfl, rfl, hy0, hy1, rfl, Below.refl _ _⟩
  case round =>
    obtain ⟨j, x, hj, rfl, rfl, hx0, hx1, HO, HBR⟩ := hrel
    have hz := HBR.out.size
    by_cases hlt : j < L.length
    · obtain ⟨b, off, o, n, s, v, ll, k, m, z, q, ql, qc, r, c, hp, _, hbhi, hli, h0, h1, h2, h3, h4, h5, h6, h7, hrep⟩ := (HALL.out.below HBR.out hhi).item j hlt
      have hA0 := ndAll_drop L j hlt x d
      have hih := HIH.out _ (List.getElem_mem hlt)
      rw [hli] at hA0 hrep hih
      simp only [Nd.l] at hih
      have hAA := Lib.hid (HO.out.trans hA0)
      obtain ⟨_, _, e1, erep, e2, e3, e4⟩ := hrep.parts
      have hbw : b < wr.heap.size := by omega
      subst hp
      clear hA0 hli HO hrep
      by_cases hc : x - 1 - (s.size : Int) / 16 < 0
      · have HF := Lib.hid (show ndAll L y d = -1 from by rw [hAA.out, ndN_b1 (.inl hc)]; rfl)
        clear hih erep e4 hAA
        go_wp2
        all_goals
          go_ret
          exact ⟨ret_int HF.out.symm, HBR.out⟩
      by_cases hd : 60 < d
      · have HF := Lib.hid (show ndAll L y d = -1 from by rw [hAA.out, ndN_b1 (.inr hd)]; rfl)
        clear hih erep e4 hAA
        go_wp2
        all_goals
          go_ret
          exact ⟨ret_int HF.out.symm, HBR.out⟩
      obtain ⟨y1, hy1e⟩ : ∃ y1, y1 = x - 1 - (s.size : Int) / 16 := ⟨_, rfl⟩
      have hle := few_le v y1 0 (by omega)
      have HV := Lib.hid (few_any v wr lo hi _ y1 0 erep (by omega) (by omega) (by omega) (by omega) (by omega))
      by_cases hf : fewT v y1 0 < 0
      · have HF := Lib.hid (show ndAll L y d = -1 from by rw [hAA.out, ndN_b2 (by omega) (hy1e ▸ hf)]; rfl)
        clear hih erep e4 hAA
        rw [hy1e] at HV hf
        go_wp2_with (go_at_call 76; refine HV.out.mono ?_; rintro e w2 ⟨rfl, hb2⟩; have HB2 := Lib.hid (HBR.out.trans (hb2.mono hz)); clear hb2)
        go_ret
        exact ⟨ret_int HF.out.symm, HB2.out⟩
      obtain ⟨y2, hy2e⟩ : ∃ y2, y2 = fewT v y1 0 := ⟨_, rfl⟩
      have HN := Lib.hid (fun (w2 : World) (hb2 : Below wr.heap.size wr w2) => hih w2 lo hi r c y2 (d + 1) (e4.below hb2 (by omega)) e2 e3 (by have := hb2.size; omega) (by omega) (by omega) (by omega) (by omega))
      by_cases hn : ndAll ll y2 (d + 1) < 0
      · have HF := Lib.hid (show ndAll L y d = -1 from by rw [hAA.out, ndN_b3 (by omega) (hy1e ▸ hf) (by rw [← hy1e, ← hy2e]; exact hn)]; rfl)
        clear hih erep e4 hAA
        rw [hy1e] at HV
        rw [hy1e] at hy2e
        rw [hy2e] at HN hn
        rw [hy1e] at hf
        go_wp2_with (first
          | (go_at_call 76; refine HV.out.mono ?_; rintro e w2 ⟨rfl, hb2⟩; have HB2 := Lib.hid (HBR.out.trans (hb2.mono hz)); have HN2 := Lib.hid (HN.out _ hb2); have h7w := (hb2.cell (p := ⟨b, off + j * 8 + 7, none⟩) hbw).trans h7; clear hb2)
          | (go_at_call 48; refine HN2.out.mono ?_; rintro e w3 ⟨rfl, hb3⟩; have HB3 := Lib.hid (HB2.out.trans (hb3.mono HB2.out.size)); clear hb3))
        go_ret
        exact ⟨ret_int HF.out.symm, HB3.out⟩
      · have hcn := ndAll_cnt ll y2 (d + 1) (by omega) (by omega)
        obtain ⟨y3, hy3e⟩ : ∃ y3, y3 = ndAll ll y2 (d + 1) := ⟨_, rfl⟩
        have HF := Lib.hid (show ndAll L y d = ndAll (L.drop (j + 1)) y3 d from by rw [hAA.out, ndN_ok (by omega) (hy1e ▸ hf) (by rw [← hy1e, ← hy2e]; exact hn), ← hy1e, ← hy2e, ← hy3e, if_neg (by rw [hy3e]; exact hn)])
        rw [← hy3e] at hn hcn
        have HN' := Lib.hid (fun w2 hb2 => by have := HN.out w2 hb2; rw [← hy3e] at this; exact this)
        have HV' := Lib.hid (by have := HV.out; rw [← hy2e] at this; rw [hy1e] at this; exact this)
        have hy2f : ¬ y2 < 0 := by omega
        have hy3b : y3 ≤ 6000 := by omega
        clear hih erep e4 hAA HN HV hy1e hy2e hy3e hf hcn
        go_wp2_with (first
          | (go_at_call 76; refine HV'.out.mono ?_; rintro e w2 ⟨rfl, hb2⟩; have HB2 := Lib.hid (HBR.out.trans (hb2.mono hz)); have HN2 := Lib.hid (HN'.out _ hb2); have h7w := (hb2.cell (p := ⟨b, off + j * 8 + 7, none⟩) hbw).trans h7; clear hb2)
          | (go_at_call 48; refine HN2.out.mono ?_; rintro e w3 ⟨rfl, hb3⟩; have HB3 := Lib.hid (HB2.out.trans (hb3.mono HB2.out.size)); clear hb3))
        go_roundw
        case rel => exact ⟨j + 1, y3, by omega, by go_num, rfl, by omega, hy3b, HF, HB3⟩
        case measure => simp [intOf]; omega
    · have hjl : j = L.length := by omega
      have HF := Lib.hid (show ndAll L y d = x from by rw [HO.out, hjl, List.drop_length, ndAll])
      go_wp2
      go_ret
      exact ⟨ret_int HF.out.symm, HBR.out⟩
theorem nds_any (L : List Nd) : NdsOk L := by
  have key : ∀ t : Nd, NdsOk t.l := Nd.ind_ (fun o n s v l ih => nds_of l ih)
  exact nds_of L (fun t _ => key t)

set_option maxHeartbeats 400000 in
theorem wNodes_any (L : List Nd) (most : Int) (hm0 : 0 ≤ most) (hm1 : most ≤ 6000) (w : World) (lo hi : Nat) (p : Option Addr) (cap : Nat) (hall : NAll w lo hi L p) (hlc : L.length ≤ cap) (hcap : L.length * 112 ≤ 140737488355328) (hhi : hi ≤ w.heap.size) :
    Calls Tryd.prog 30 #[.slice p L.length cap, .int .i64 most] w fun e w' => e = .returned (.bool (decide (0 ≤ ndAll L most 0))) ∧ Below w.heap.size w w' := by
  have HC := Lib.hid (nds_any L w lo hi p cap most 0 hall hlc hcap hhi hm0 hm1 (by omega) (by omega))
  clear hall
  go_enter Tryd.func30, Tryd.ntmps30
  go_wp2_with (go_at_call 48; refine HC.out.mono ?_; rintro e w2 ⟨rfl, hb2⟩)
  go_ret
  exact ⟨rfl, hb2⟩
end Go.Proofs.YtminmadaeaiihaaDoor
namespace Go.Proofs.YtminmadaeaiihaaDoor
open Go.RowKit
set_option maxRecDepth 100000

/-- A fault of the whole, as the document's words lay it. -/
def fltR : Flt → Value
  | .ok => fv 0
  | .bare k => fv (101 + k)
  | .at_ n k => fp (101 + k) n
structure VB (w W : World) (g : Nat) : Prop where
  bel : Below w.heap.size w W
  flt : W.heap[g]? = some (.cells #[.int .i64 0, .bool false, .int .i64 0, .int .i64 0, .int .i64 0, .string ⟨#[]⟩, .slice none 0 0] 53 (0, 0))
theorem VB.step {w W W' : World} {g : Nat} (h : VB w W g) (hb : Below W.heap.size W W') : VB w W' g := ⟨h.bel.trans (hb.mono h.bel.size), heap_old h.flt hb⟩
theorem fR_open (F : Option (Int × Nat)) : ∃ f0 f1 f2, fR F = .agg #[.int .i64 f0, .bool f1, .int .i64 f2, .int .i64 0, .int .i64 0, .string ByteArray.empty, .slice none 0 0] ∧ ((F = none ∧ f0 = 0) ∨ (f0 ≠ 0 ∧ ∃ fl fk, F = some (fl, fk))) := by
  cases F with
  | none => exact ⟨_, _, _, rfl, .inl ⟨rfl, rfl⟩⟩
  | some f => exact ⟨_, _, _, rfl, .inr ⟨by omega, f.1, f.2, rfl⟩⟩

set_option maxHeartbeats 1000000 in
theorem rvalid7_any (L : List Nd) (w : World) (lo hi : Nat) (p : Option Addr) (cap : Nat) (hall : NAll w lo hi L p) (hlc : L.length ≤ cap) (hcap : L.length * 112 ≤ 140737488355328) (hhi : hi ≤ w.heap.size) (hcn : cntAll L ≤ 1000000) :
    Calls Tryd.prog 31 #[.slice p L.length cap] w fun e w' => e = .returned (fltR (vldF L 0)) ∧ Below w.heap.size w w' := by
  have HALL := Lib.hid hall
  have hll := len_cnt L
  have HV := Lib.hid (show VB w (w.alloc (.cells #[.int .i64 0, .bool false, .int .i64 0, .int .i64 0, .int .i64 0, .string ⟨#[]⟩, .slice none 0 0] 53)) w.heap.size from ⟨(Below.refl _ _).alloc (Nat.le_refl _) _, heap_alloc_new w _⟩)
  have HTM := Lib.hid (fun (W : World) (hb : Below w.heap.size w W) => rtooMany_any L W lo hi p cap (hall.below hb hhi) hlc hcap (by have := hb.size; omega))
  have HDP := Lib.hid (fun (W : World) (hb : Below w.heap.size w W) => rdeep_any L W lo hi p cap (hall.below hb hhi) (by have := hb.size; omega) (by omega))
  obtain ⟨W1, hW1⟩ : ∃ W1, w.alloc (.cells #[.int .i64 0, .bool false, .int .i64 0, .int .i64 0, .int .i64 0, .string ⟨#[]⟩, .slice none 0 0] 53) = W1 := ⟨_, rfl⟩
  rw [hW1] at HV
  have hdl := dpNAll_le L
  clear hall
  by_cases h1 : 4096 < cntAll L
  · have HF := Lib.hid (show fltR (vldF L 0) = fv 104 from by unfold vldF; rw [if_pos h1]; rfl)
    have HM1 := Lib.hid (by have := HTM.out W1 HV.out.bel; rw [decide_eq_true h1] at this; exact this)
    clear h1 HTM HDP
    go_enter Tryd.func31, Tryd.ntmps31
    go_wp2_with (first
      | (go_at_call 49; refine HM1.out.mono ?_; rintro e w2 ⟨rfl, rfl⟩)
      | (go_at_call 50; refine (bare_any _ _).mono ?_; unfold fv; rintro e w3 ⟨rfl, hb3⟩; have HV3 := Lib.hid (HV.out.step hb3); obtain ⟨r0, r1, r2, r3, r4, r5, r6, hxf⟩ := box7_in _ _ _ _ _ _ _ _ _ _ HV3.out.flt; have hxf0 := hxf 0; have hxf1 := hxf 1; have hxf2 := hxf 2; have hxf3 := hxf 3; have hxf4 := hxf 4; have hxf5 := hxf 5; have hxf6 := hxf 6; clear hxf hb3))
    refine bodyPost_ret (v := fv 104) (by unfold fv; simp [results, Tryd.results31, go_sem, r0, r1, r2, r3, r4, r5, r6]) rfl ?_
    exact ⟨by rw [HF.out], below_set7 HV3.out.bel (Nat.le_refl _) _ _ _ _ _ _ _⟩
  have HM1 := Lib.hid (by have := HTM.out W1 HV.out.bel; rw [decide_eq_false h1] at this; exact this)
  have HD1 := Lib.hid (HDP.out W1 HV.out.bel)
  by_cases h2 : 40 < dpNAll L
  · have HF := Lib.hid (show fltR (vldF L 0) = fv 112 from by unfold vldF; rw [if_neg h1, if_pos h2]; rfl)
    have h2i : (40 : Int) < (dpNAll L : Int) := by omega
    clear h1 HTM HDP h2 hdl
    go_enter Tryd.func31, Tryd.ntmps31
    go_wp2_with (first
      | (go_at_call 49; refine HM1.out.mono ?_; rintro e w2 ⟨rfl, rfl⟩)
      | (go_at_call 11; refine HD1.out.mono ?_; rintro e w2 ⟨rfl, rfl⟩)
      | (go_at_call 50; refine (bare_any _ _).mono ?_; unfold fv; rintro e w3 ⟨rfl, hb3⟩; have HV3 := Lib.hid (HV.out.step hb3); obtain ⟨r0, r1, r2, r3, r4, r5, r6, hxf⟩ := box7_in _ _ _ _ _ _ _ _ _ _ HV3.out.flt; have hxf0 := hxf 0; have hxf1 := hxf 1; have hxf2 := hxf 2; have hxf3 := hxf 3; have hxf4 := hxf 4; have hxf5 := hxf 5; have hxf6 := hxf 6; clear hxf hb3))
    refine bodyPost_ret (v := fv 112) (by unfold fv; simp [results, Tryd.results31, go_sem, r0, r1, r2, r3, r4, r5, r6]) rfl ?_
    exact ⟨by rw [HF.out], below_set7 HV3.out.bel (Nat.le_refl _) _ _ _ _ _ _ _⟩
  have HF := Lib.hid (show vldF L 0 = firstF L 0 from by unfold vldF; rw [if_neg h1, if_neg h2])
  have h2i : ¬ (40 : Int) < (dpNAll L : Int) := by omega
  clear h1 HTM HDP h2 hdl
  go_enter Tryd.func31, Tryd.ntmps31
  go_wp2_with (first
    | (go_at_call 49; refine HM1.out.mono ?_; rintro e w2 ⟨rfl, rfl⟩)
    | (go_at_call 11; refine HD1.out.mono ?_; rintro e w2 ⟨rfl, rfl⟩))
  clear h2i HM1 HD1
  go_loopw [3] (fun i wr => ∃ j : Nat, j ≤ L.length ∧ i = .int .i64 j ∧ Hid (VB w wr w.heap.size) ∧ Hid (firstF (L.drop j) 0 = firstF L 0)) (fun i _ => L.length - (intOf i).toNat)
  case atStart => exact ⟨0, Nat.zero_le _, rfl, HV, Lib.hid rfl⟩
  case round =>
    obtain ⟨j, hj, rfl, HL, HD⟩ := hrel
    by_cases hlj : j < L.length
    · obtain ⟨b, off, o, n, s, v, ll, k, m, z, q, ql, qc, r, c, hp, _, hbhi, hli, h0, h1, h2, h3, h4, h5, h6, h7, hrep⟩ := (HALL.out.below HL.out.bel hhi).item j hlj
      have hmem : L[j] ∈ L := List.getElem_mem hlj
      have hcm := cntAll_mem hmem
      have hwr := HL.out.bel.size
      have HC := Lib.hid (rodd_any L[j] _ 0 false wr lo hi hrep (by omega) (by omega) (by omega))
      rw [show rp 0 = 9 from rfl] at HC
      have HDR := Lib.hid (firstF_drop L j hlj 0)
      have hbw : b < wr.heap.size := by omega
      subst hp
      clear hrep hmem hcm hli
      obtain ⟨F, hF⟩ : ∃ F, F = ckN L[j] 0 false := ⟨_, rfl⟩
      rw [← hF] at HC
      obtain ⟨f0, f1, f2, hf, hF0⟩ := fR_open F
      rw [hf] at HC
      have HFF := Lib.hid hf
      clear hf
      rcases hF0 with ⟨hFn, hf0⟩ | ⟨hf0, fl, fk, hFs⟩
      · subst hf0
        rw [← hF, hFn] at HDR
        clear hF HFF
        go_wp2_with (go_at_call 51; refine HC.out.mono ?_; rintro e w7 ⟨rfl, hb7⟩; have HL7 := Lib.hid (HL.out.step hb7); clear hb7)
        go_roundw
        case rel => exact ⟨j + 1, by omega, by go_num, Lib.hid (HL7.out.step ((Below.refl w7.heap.size w7).alloc (Nat.le_refl _) _)), Lib.hid (HDR.out.symm.trans HD.out)⟩
        case measure => simp [intOf]; omega
      · have hb0 : (f0 != 0) = true := by simpa using hf0
        rw [← hF, hFs] at HDR
        have HR := Lib.hid (show fltR (vldF L 0) = .agg #[.int .i64 f0, .bool f1, .int .i64 f2, .int .i64 0, .int .i64 0, .string ByteArray.empty, .slice none 0 0] from by
          rw [HF.out, ← HD.out, HDR.out]
          have := HFF.out
          rw [hFs] at this; exact this)
        clear hf0 hF HFF
        go_upto_region 10 with (go_at_call 51; refine HC.out.mono ?_; rintro e w7 ⟨rfl, hb7⟩; have HL7 := Lib.hid (HL.out.step hb7); clear hb7)
        have H7 := heap_alloc_new w7 (.cells #[.int .i64 f0, .bool f1, .int .i64 f2, .int .i64 0, .int .i64 0, .string ByteArray.empty, .slice none 0 0] 53)
        have HL8 := Lib.hid (HL7.out.step ((Below.refl w7.heap.size w7).alloc (Nat.le_refl _) (.cells #[.int .i64 f0, .bool f1, .int .i64 f2, .int .i64 0, .int .i64 0, .string ByteArray.empty, .slice none 0 0] 53)))
        have hne : w7.heap.size ≠ w.heap.size := by have := heap_lt HL7.out.flt; omega
        generalize w7.alloc (.cells #[.int .i64 f0, .bool f1, .int .i64 f2, .int .i64 0, .int .i64 0, .string ByteArray.empty, .slice none 0 0] 53) = W4 at *
        obtain ⟨g0, g1, g2, g3, g4, g5, g6, _⟩ := box7_in W4 w7.heap.size _ _ _ _ _ _ _ _ H7
        obtain ⟨r0, r1, r2, r3, r4, r5, r6, hxf⟩ := box7_in _ _ _ _ _ _ _ _ _ _ HL8.out.flt
        have hxf0 := hxf 0; have hxf1 := hxf 1; have hxf2 := hxf 2; have hxf3 := hxf 3; have hxf4 := hxf 4; have hxf5 := hxf 5; have hxf6 := hxf 6
        clear hxf H7 HL7 h0 h1 h2 h3 h4 h5 h6 h7 HC
        generalize w7.heap.size = g7 at *
        clear w7
        go_wp2_with fail
        refine bodyPost_ret (v := .agg #[.int .i64 f0, .bool f1, .int .i64 f2, .int .i64 0, .int .i64 0, .string ByteArray.empty, .slice none 0 0]) (by simp [results, Tryd.results31, go_sem, r0, r1, r2, r3, r4, r5, r6]) rfl ?_
        exact ⟨by rw [HR.out], below_set7 HL8.out.bel (Nat.le_refl _) _ _ _ _ _ _ _⟩
    · have hje : j = L.length := by omega
      have HR := Lib.hid (show fltR (vldF L 0) = fv 0 from by rw [HF.out, ← HD.out, hje, List.drop_length, firstF]; rfl)
      go_wp2_with (go_at_call 52; refine (none_any _).mono ?_; unfold fv; rintro e w6 ⟨rfl, hb6⟩; have HL2 := Lib.hid (HL.out.step hb6); obtain ⟨r0, r1, r2, r3, r4, r5, r6, hxf⟩ := box7_in _ _ _ _ _ _ _ _ _ _ HL2.out.flt; have hxf0 := hxf 0; have hxf1 := hxf 1; have hxf2 := hxf 2; have hxf3 := hxf 3; have hxf4 := hxf 4; have hxf5 := hxf 5; have hxf6 := hxf 6; clear hxf hb6)
      refine bodyPost_ret (v := fv 0) (by unfold fv; simp [results, Tryd.results31, go_sem, r0, r1, r2, r3, r4, r5, r6]) rfl ?_
      exact ⟨by rw [HR.out], below_set7 HL2.out.bel (Nat.le_refl _) _ _ _ _ _ _ _⟩

def okF : Flt → Bool
  | .ok => true
  | _ => false
theorem okF_iff {F : Flt} (h : okF F = true) : F = .ok := by
  cases F with
  | ok => rfl
  | bare k => cases h
  | at_ n k => cases h
theorem fltR_open (F : Flt) : ∃ f0 f1 f2, fltR F = .agg #[.int .i64 f0, .bool f1, .int .i64 f2, .int .i64 0, .int .i64 0, .string ByteArray.empty, .slice none 0 0] ∧ (f0 == 0) = okF F := by
  cases F with
  | ok => exact ⟨_, _, _, rfl, rfl⟩
  | bare k => exact ⟨_, _, _, rfl, by show ((101 + (k : Int)) == 0) = false; simp; omega⟩
  | at_ n k => exact ⟨_, _, _, rfl, by show ((101 + (k : Int)) == 0) = false; simp; omega⟩

theorem field_code (f0 : Int) (f1 : Bool) (f2 : Int) (W : World) : (Instr.field 53 (.agg #[.int .i64 f0, .bool f1, .int .i64 f2, .int .i64 0, .int .i64 0, .string ByteArray.empty, .slice none 0 0]) 0).run Tryd.prog W = .ok (.int .i64 f0) W := by kernel_rfl
set_option maxHeartbeats 1000000 in
theorem wProgram_any (L : List Nd) (most : Int) (hm0 : 0 ≤ most) (hm1 : most ≤ 6000) (w : World) (lo hi : Nat) (p : Option Addr) (cap : Nat) (hall : NAll w lo hi L p) (hlc : L.length ≤ cap) (hcap : L.length * 112 ≤ 140737488355328) (hhi : hi ≤ w.heap.size) :
    Calls Tryd.prog 7 #[.slice p L.length cap, .int .i64 most] w fun e w' => e = .returned (.bool (decide (0 ≤ ndAll L most 0) && okF (vldF L 0))) ∧ Below w.heap.size w w' := by
  have HN := Lib.hid (wNodes_any L most hm0 hm1 w lo hi p cap hall hlc hcap hhi)
  by_cases h1 : 0 ≤ ndAll L most 0
  · have hc1 := ndAll_cnt L most 0 hm0 h1
    rw [decide_eq_true h1] at HN
    have HV := Lib.hid (fun W (hb : Below w.heap.size w W) => rvalid7_any L W lo hi p cap (hall.below hb hhi) hlc hcap (by have := hb.size; omega) (by omega))
    obtain ⟨f0, f1, f2, hf, hf0⟩ := fltR_open (vldF L 0)
    rw [hf] at HV
    have HF := Lib.hid (show (decide (0 ≤ ndAll L most 0) && okF (vldF L 0)) = (f0 == 0) from by rw [decide_eq_true h1, hf0]; rfl)
    have hfd := fun W => field_code f0 f1 f2 W
    clear hall h1 hc1 hf hf0
    go_enter Tryd.func7, Tryd.ntmps7
    go_wp2_with (first
      | (go_at_call 30; refine HN.out.mono ?_; rintro e w2 ⟨rfl, hb2⟩; have HB2 := Lib.hid hb2; clear hb2)
      | (go_at_call 31; refine (HV.out _ HB2.out).mono ?_; rintro e w3 ⟨rfl, hb3⟩; have HB3 := Lib.hid (HB2.out.trans (hb3.mono HB2.out.size)); clear hb3))
    go_ret
    exact ⟨ret_bool HF.out.symm, HB3.out⟩
  · have hd := decide_eq_false h1
    rw [hd] at HN
    rw [hd]
    clear hall h1 hd
    go_enter Tryd.func7, Tryd.ntmps7
    go_wp2_with (go_at_call 30; refine HN.out.mono ?_; rintro e w2 ⟨rfl, hb2⟩)
    go_ret
    exact ⟨ret_bool rfl, hb2⟩
end Go.Proofs.YtminmadaeaiihaaDoor
namespace Go.Proofs.YtminmadaeaiihaaDoor
open Go.RowKit
set_option maxRecDepth 100000

def NewN (w : World) (t : Nd) (e : Ending) (w' : World) : Prop := ∃ x, e = .returned x ∧ NRep w' w.heap.size w'.heap.size t x ∧ Below w.heap.size w w'
def NewNs (w : World) (l : List Nd) (e : Ending) (w' : World) : Prop := ∃ q c, e = .returned (.slice q l.length c) ∧ l.length ≤ c ∧ NAll w' w.heap.size w'.heap.size l q ∧ Below w.heap.size w w'
theorem Tryd.info_N : (Tryd.prog.info? 40).map (fun i => (i.zero, i.size, i.bytes)) = some (some (.agg #[.int .i64 0, .int .i64 0, .string ⟨#[]⟩, .int .i64 0, .int .i64 0, .string ⟨#[]⟩, .slice none 0 0, .slice none 0 0]), 8, 112) := by kernel_rfl
theorem nrep_form {w : World} {lo hi : Nat} {t : Nd} {x : Value} (h : NRep w lo hi t x) : ∃ (o n : Int) (s : ByteArray) (k m : Int) (z : ByteArray) (q : Option Addr) (ql qc : Nat) (r : Option Addr) (lc c : Nat), x = .agg #[.int .i64 o, .int .i64 n, .string s, .int .i64 k, .int .i64 m, .string z, .slice q ql qc, .slice r lc c] := by
  obtain ⟨o, n, s, v, l⟩ := t
  obtain ⟨k, m, z, q, ql, qc, p, cap, rfl, _⟩ := h.open
  exact ⟨_, _, _, _, _, _, _, _, _, _, _, _, rfl⟩
theorem held8 {a b c d e f g h r : Prop} (H : a ∧ b ∧ c ∧ d ∧ e ∧ f ∧ g ∧ h ∧ r) : a ∧ b ∧ c ∧ d ∧ e ∧ f ∧ g ∧ h := by
  obtain ⟨h1, h2, h3, h4, h5, h6, h7, h8, _⟩ := H; exact ⟨h1, h2, h3, h4, h5, h6, h7, h8⟩
def CopyNs (l : List Nd) : Prop := ∀ (w : World) (lo hi : Nat) (p : Option Addr) (cap : Nat), NAll w lo hi l p → l.length ≤ cap → l.length * 112 ≤ 140737488355328 → hi ≤ w.heap.size →
  Calls Tryd.prog 19 #[.slice p l.length cap] w (NewNs w l)
def CopyN (t : Nd) : Prop := ∀ (w : World) (lo hi : Nat) (x : Value), NRep w lo hi t x → hi ≤ w.heap.size → Calls Tryd.prog 40 #[x] w (NewN w t)

set_option maxHeartbeats 2000000 in
theorem copyNs_of (l : List Nd) (ih : ∀ t ∈ l, CopyN t) : CopyNs l := by
  intro w lo hi p cap hall _hlc hcap hhi
  cases hl : l with
  | nil =>
    simp only [List.length_nil]
    go_enter Tryd.func19, Tryd.ntmps19
    go_wp2
    go_ret
    exact ⟨none, 0, rfl, Nat.le_refl _, NAll.nil _ _ _ _, Below.refl _ _⟩
  | cons x xs =>
    have hpos : 0 < l.length := by rw [hl]; simp
    rw [← hl]
    clear hl
    have H := Lib.hid ih; clear ih
    have HALL := Lib.hid hall; clear hall
    obtain ⟨i0, hi0, hz0, hz1, hz2⟩ := info_parts Tryd.info_N
    have hmk : ∀ W : World, (Instr.makeSlice 22 (.int .i64 0) (.int .i64 (l.length : Int))).run Tryd.prog W = .ok (.slice (some ⟨W.heap.size, 0, none⟩) 0 l.length) (W.alloc (.cells (madeCells #[.int .i64 0, .int .i64 0, .string ⟨#[]⟩, .int .i64 0, .int .i64 0, .string ⟨#[]⟩, .slice none 0 0, .slice none 0 0] (l.length * 8)) 40)) := by
      intro W
      have h := run_make (P := Tryd.prog) W 22 40 i0 _ Tryd.underlying22 hi0 hz0 .i64 .i64 0 l.length (by omega) (by omega) (by rw [hz2]; omega) (by omega)
      rw [hz1] at h
      simpa [Value.cells] using h
    have hl0 : ((l.length : Int) == 0) = false := beq_eq_false_iff_ne.2 (by omega)
    go_enter Tryd.func19, Tryd.ntmps19
    go_wp2
    have hP := Lib.hid (NPart.start w (madeCells #[.int .i64 0, .int .i64 0, .string ⟨#[]⟩, .int .i64 0, .int .i64 0, .string ⟨#[]⟩, .slice none 0 0, .slice none 0 0] (l.length * 8)) l (size_madeCells _ _))
    have hW : Below w.heap.size w (w.alloc (.cells (madeCells #[.int .i64 0, .int .i64 0, .string ⟨#[]⟩, .int .i64 0, .int .i64 0, .string ⟨#[]⟩, .slice none 0 0, .slice none 0 0] (l.length * 8)) 40)) := (Below.refl _ _).alloc (Nat.le_refl _) _
    have hzz : l.length * 112 ≤ 140737488355328 := hcap
    clear hi0 hz0 hz1 hz2
    go_loopw [3, 4] (fun o i wr => ∃ j : Nat, j ≤ l.length ∧ i = .int .i64 j ∧ o = .slice (some ⟨w.heap.size, 0, none⟩) j l.length ∧ Hid (NPart wr w.heap.size l j) ∧ Hid (Below w.heap.size w wr)) (fun _ i _ => l.length - (intOf i).toNat)
    case atStart => exact ⟨0, Nat.zero_le _, rfl, rfl, hP, hW⟩
    case round =>
      obtain ⟨j, hj, rfl, rfl, HP, HBR⟩ := hrel
      have hz := HBR.out.size
      have hzl := HP.out.lt
      by_cases hlt : j < l.length
      · obtain ⟨b, off, o, n, s, v, ll, k, m, z, q, ql, qc, r, c, rfl, _, hbhi, hli, h0, h1, h2, h3, h4, h5, h6, h7, hrep⟩ := (HALL.out.below HBR.out hhi).item j hlt
        have HC := Lib.hid (H.out _ (List.getElem_mem hlt) _ lo hi _ hrep (by omega))
        clear hrep hli
        go_wp2_with (go_at_call 40; refine HC.out.mono ?_; rintro e w2 ⟨x2, rfl, hv, hb2⟩; obtain ⟨o2, n2, s2, k2, m2, z2, q2, ql2, qc2, r2, lc2, c2, rfl⟩ := nrep_form hv; have HV := Lib.hid hv; clear hv; have hbz := hb2.size; have HP2 := Lib.hid (HP.out.below hb2); have HB2 := Lib.hid (HBR.out.trans (hb2.mono hz)); clear hb2; have hwl : w.heap.size < w2.heap.size := (by omega); obtain ⟨⟨u0, hu0⟩, ⟨u1, hu1⟩, ⟨u2, hu2⟩, ⟨u3, hu3⟩, ⟨u4, hu4⟩, ⟨u5, hu5⟩, ⟨u6, hu6⟩, ⟨u7, hu7⟩, hfz⟩ := HP2.out.room j hlt; have hf0 := hfz (j * 8); have hf1 := hfz (j * 8 + 1); have hf2 := hfz (j * 8 + 2); have hf3 := hfz (j * 8 + 3); have hf4 := hfz (j * 8 + 4); have hf5 := hfz (j * 8 + 5); have hf6 := hfz (j * 8 + 6); have hf7 := hfz (j * 8 + 7); clear hfz)
        go_roundw
        case rel =>
          refine ⟨j + 1, by omega, by go_num, by go_num, ?_, ?_⟩
          · exact NPart.below (NPart.step HP2.out hlt _ _ _ _ _ _ _ _ (HV.out.wide (by omega) (Nat.le_refl _))) ((Below.refl _ _).alloc (Nat.le_refl _) _)
          · exact (below_set8 HB2.out (Nat.le_refl _) _ _ _ _ _ _ _ _).alloc (by rw [size_set8]; omega) _
        case measure => simp [intOf]; omega
      · have hjl : j = l.length := by omega
        subst hjl
        go_wp2
        go_ret
        exact ⟨_, _, rfl, Nat.le_refl _, HP.out.done, HBR.out⟩

set_option maxHeartbeats 4000000 in
theorem copyN_of (t : Nd) (ih : CopyNs t.l) : CopyN t := by
  intro w lo hi x hr hhi
  obtain ⟨o, n, s, v, l⟩ := t
  simp only [Nd.l] at ih
  obtain ⟨k, m, z, q, ql, qc, p, cap, rfl, hio, hin, hs, hrv, hlc, hcap, hall⟩ := hr.open
  have HCV := Lib.hid (fun W (hb : Below w.heap.size w W) => value_any v W lo hi _ (hrv.below hb hhi) (by have := hb.size; omega))
  have HCN := Lib.hid (fun W (hb : Below w.heap.size w W) => ih W lo hi p cap (hall.below hb hhi) hlc hcap (by have := hb.size; omega))
  obtain ⟨W1, hW1⟩ : ∃ W1, (w.alloc (.cells #[.int .i64 o, .int .i64 n, .string s, .int .i64 k, .int .i64 m, .string z, .slice q ql qc, .slice p l.length cap] 40)).alloc (.cells #[.int .i64 0, .int .i64 0, .string ⟨#[]⟩, .int .i64 0, .int .i64 0, .string ⟨#[]⟩, .slice none 0 0, .slice none 0 0] 40) = W1 := ⟨_, rfl⟩
  have HB1 : Hid (Below w.heap.size w W1) := hW1 ▸ (((Below.refl w.heap.size w).alloc (Nat.le_refl _) _).alloc (by simp) _)
  have HX : Hid (W1.heap[w.heap.size]? = some (.cells #[.int .i64 o, .int .i64 n, .string s, .int .i64 k, .int .i64 m, .string z, .slice q ql qc, .slice p l.length cap] 40 (0, 0))) := hW1 ▸ heap_alloc_ _ _ _ _ (heap_alloc_new w _)
  have HY : Hid (W1.heap[w.heap.size + 1]? = some (.cells #[.int .i64 0, .int .i64 0, .string ⟨#[]⟩, .int .i64 0, .int .i64 0, .string ⟨#[]⟩, .slice none 0 0, .slice none 0 0] 40 (0, 0))) := hW1 ▸ (by have h := heap_alloc_new (w.alloc (.cells #[.int .i64 o, .int .i64 n, .string s, .int .i64 k, .int .i64 m, .string z, .slice q ql qc, .slice p l.length cap] 40)) (.cells #[.int .i64 0, .int .i64 0, .string ⟨#[]⟩, .int .i64 0, .int .i64 0, .string ⟨#[]⟩, .slice none 0 0, .slice none 0 0] 40); rw [World.size_alloc] at h; exact h)
  have HSF := Lib.hid (fun W (hb : Below W1.heap.size W1 W) => box8_in _ _ _ _ _ _ _ _ _ _ _ (heap_old HX.out hb))
  have HD5 := Lib.hid (Below.refl W1.heap.size W1).drew
  obtain ⟨d0, d1, d2, d3, d4, d5, d6, d7, _⟩ := HSF.out _ HD5.out
  clear hr ih hrv hall
  go_enter Tryd.func40, Tryd.ntmps40
  go_upto_region 1 with fail
  go_region_held3 (fun W' => W'.cell? ⟨w.heap.size, 0, none⟩ = some (.int .i64 o) ∧ W'.cell? ⟨w.heap.size, 1, none⟩ = some (.int .i64 n) ∧ W'.cell? ⟨w.heap.size, 2, none⟩ = some (.string s) ∧ W'.cell? ⟨w.heap.size, 3, none⟩ = some (.int .i64 k) ∧ W'.cell? ⟨w.heap.size, 4, none⟩ = some (.int .i64 m) ∧ W'.cell? ⟨w.heap.size, 5, none⟩ = some (.string z) ∧ W'.cell? ⟨w.heap.size, 6, none⟩ = some (.slice q ql qc) ∧ W'.cell? ⟨w.heap.size, 7, none⟩ = some (.slice p l.length cap)) (first | with_reducible exact held8 (HSF.out _ HD5.out) | with_reducible exact held8 (HSF.out _ HD6.out) | with_reducible exact held8 (HSF.out _ HD7.out) | with_reducible exact held8 (HSF.out _ (below_set8 HD7.out (Nat.le_refl _) _ _ _ _ _ _ _ _)) | go_keep | (go_show; fail)) (first
    | (go_at_call 61; (with_reducible refine (HCV.out _ (HB1.out.trans (HD5.out.mono HB1.out.size))).mono ?_); rintro e w6 ⟨x6, rfl, hv6, hb6⟩; obtain ⟨k6, m6, z6, q6, ql6, qc6, rfl⟩ := rep_form hv6; have HV6 := Lib.hid hv6; have HD6 := Lib.hid (HD5.out.trans (hb6.mono HD5.out.size)); clear hv6 hb6; obtain ⟨a0, a1, a2, a3, a4, a5, a6, a7, _⟩ := HSF.out _ HD6.out)
    | (go_at_call 19; (with_reducible refine (HCN.out _ (HB1.out.trans (HD6.out.mono HB1.out.size))).mono ?_); rintro e w7 ⟨q7, c7, rfl, hlc7, hn7, hb7⟩; have HN7 := Lib.hid hn7; have HB7 := Lib.hid hb7; have HD7 := Lib.hid (HD6.out.trans (hb7.mono HD6.out.size)); clear hn7 hb7; obtain ⟨b0, b1, b2, b3, b4, b5, b6, b7, _⟩ := HSF.out _ HD7.out; obtain ⟨y0, y1, y2, y3, y4, y5, y6, y7, hyf⟩ := box8_in _ _ _ _ _ _ _ _ _ _ _ (heap_old HY.out HD7.out); have hyf0 := hyf 0; have hyf1 := hyf 1; have hyf2 := hyf 2; have hyf3 := hyf 3; have hyf4 := hyf 4; have hyf5 := hyf 5; have hyf6 := hyf 6; have hyf7 := hyf 7; clear hyf))
  go_wp2
  refine bodyPost_ret (v := .agg #[.int .i64 o, .int .i64 n, .string s, .int .i64 k6, .int .i64 m6, .string z6, .slice q6 ql6 qc6, .slice q7 l.length c7]) (by simp [results, Tryd.results40, go_sem, y0, y1, y2, y3, y4, y5, y6, y7]) rfl ?_
  have hb7 := HB1.out.trans (HD7.out.mono HB1.out.size)
  have h61 := (HB1.out.trans (HD6.out.mono HB1.out.size)).size
  refine ⟨_, rfl, ?_, below_set8 hb7 (Nat.le_succ _) _ _ _ _ _ _ _ _⟩
  have hN : NRep w7 (w.heap.size + 2) w7.heap.size (.mk o n s v l) (.agg #[.int .i64 o, .int .i64 n, .string s, .int .i64 k6, .int .i64 m6, .string z6, .slice q6 ql6 qc6, .slice q7 l.length c7]) := by
    unfold NRep
    refine ⟨k6, m6, z6, q6, ql6, qc6, q7, c7, rfl, hio, hin, hs, (HV6.out.below HB7.out (Nat.le_refl _)).keep ?_ HB7.out.size (fun _ _ _ => rfl), hlc7, hcap, HN7.out.wide ?_ (Nat.le_refl _)⟩
    · have := HD5.out.size; rw [← hW1] at this ⊢; simp
    · have := HD6.out.size; rw [← hW1] at this; simp at this; omega
  exact (hN.keep8 (Or.inl (by omega)) _ _ _ _ _ _ _ _).wide (by omega) (by rw [size_set8]; exact Nat.le_refl _)
theorem copyN_any : ∀ t : Nd, CopyN t := Nd.ind_ (fun _ _ _ _ _ ih => copyN_of _ (copyNs_of _ ih))
theorem copyNs_any (L : List Nd) : CopyNs L := copyNs_of L (fun t _ => copyN_any t)
end Go.Proofs.YtminmadaeaiihaaDoor
namespace Go.Proofs.YtminmadaeaiihaaDoor
open Go.RowKit
set_option maxRecDepth 100000

/-- A slice of nodes whose row is one's own. -/
def OwnAt (w : World) (B : Nat) (q : Option Addr) (n c : Nat) : Prop := ∃ xs, w.ownsRow B 40 8 (.slice q n c) n xs
theorem OwnAt.below {w w' : World} {B n c : Nat} {q : Option Addr} (h : OwnAt w B q n c) (hb : Below w.heap.size w w') : OwnAt w' B q n c := by
  obtain ⟨xs, h1, h2⟩ := h
  refine ⟨xs, h1, ?_⟩
  rcases h2 with h2 | ⟨g, cap, cur, hv, hg, hh, r⟩
  · exact .inl h2
  · exact .inr ⟨g, cap, cur, hv, hg, heap_old hh hb, r⟩
theorem OwnAt.mono {w : World} {B B' n c : Nat} {q : Option Addr} (h : OwnAt w B q n c) (hb : B' ≤ B) : OwnAt w B' q n c := by
  obtain ⟨xs, h1, h2⟩ := h
  refine ⟨xs, h1, ?_⟩
  rcases h2 with h2 | ⟨g, cap, cur, hv, hg, hh, r⟩
  · exact .inl h2
  · exact .inr ⟨g, cap, cur, hv, by omega, hh, r⟩
theorem OwnAt.setCell {w : World} {B n c : Nat} {q : Option Addr} (h : OwnAt w B q n c) {g : Nat} (hg : g < B) (o : Nat) (u : Value) : OwnAt (w.setCell ⟨g, o, none⟩ u) B q n c := by
  obtain ⟨xs, h1, h2⟩ := h
  refine ⟨xs, h1, ?_⟩
  rcases h2 with h2 | ⟨g2, cap, cur, hv, hg2, hh, r⟩
  · exact .inl h2
  · exact .inr ⟨g2, cap, cur, hv, hg2, by rw [Below.heap_setCell _ _ _ _ (by show g2 ≠ g; omega)]; exact hh, r⟩
theorem OwnAt.set8 {w : World} {B n c : Nat} {q : Option Addr} (h : OwnAt w B q n c) {g : Nat} (hg : g < B) (o : Nat) (c0 c1 c2 c3 c4 c5 c6 c7 : Value) : OwnAt (set8 w g o c0 c1 c2 c3 c4 c5 c6 c7) B q n c :=
  (((((((h.setCell hg _ c0).setCell hg _ c1).setCell hg _ c2).setCell hg _ c3).setCell hg _ c4).setCell hg _ c5).setCell hg _ c6).setCell hg _ c7
/-- The lists of the first j items are one's own. -/
def Owns (w : World) (bo : Nat) (l : List Nd) (j : Nat) : Prop := ∀ i (h : i < l.length), i < j → ∃ r, w.cell? ⟨bo, i * 8 + 7, none⟩ = some (.slice r l[i].l.length l[i].l.length) ∧ OwnAt w (bo + 1) r l[i].l.length l[i].l.length
theorem Owns.below {w w' : World} {bo j : Nat} {l : List Nd} (h : Owns w bo l j) (hbo : bo < w.heap.size) (hb : Below w.heap.size w w') : Owns w' bo l j := fun i hi hj => by
  obtain ⟨r, h1, h2⟩ := h i hi hj
  exact ⟨r, (hb.cell (p := ⟨bo, i * 8 + 7, none⟩) hbo).trans h1, h2.below hb⟩
theorem cell_set8_other {w : World} {g o m : Nat} (hm : m < o ∨ o + 8 ≤ m) (c0 c1 c2 c3 c4 c5 c6 c7 : Value) : (set8 w g o c0 c1 c2 c3 c4 c5 c6 c7).cell? ⟨g, m, none⟩ = w.cell? ⟨g, m, none⟩ := by
  unfold set8
  have hne : ∀ (W : World) (d : Nat) (u : Value), d < 8 → (W.setCell ⟨g, o + d, none⟩ u).cell? ⟨g, m, none⟩ = W.cell? ⟨g, m, none⟩ := fun W d u hd => World.cell?_setCell_other W _ _ u (fun e => by injection e with _ e _; omega)
  have h0 : ∀ (W : World) (u : Value), (W.setCell ⟨g, o, none⟩ u).cell? ⟨g, m, none⟩ = W.cell? ⟨g, m, none⟩ := fun W u => hne W 0 u (by omega)
  rw [hne _ 7 _ (by omega), hne _ 6 _ (by omega), hne _ 5 _ (by omega), hne _ 4 _ (by omega), hne _ 3 _ (by omega), hne _ 2 _ (by omega), hne _ 1 _ (by omega), h0]

def NewC (w : World) (l : List Nd) (e : Ending) (w' : World) : Prop := Below w.heap.size w w' ∧ ((l = [] ∧ e = .returned (.slice none 0 0)) ∨ ∃ bo, w.heap.size ≤ bo ∧ e = .returned (.slice (some ⟨bo, 0, none⟩) l.length l.length) ∧ NPart w' bo l l.length ∧ Owns w' bo l l.length)
theorem NewC.all {w : World} {l : List Nd} {e : Ending} {w' : World} (h : NewC w l e w') (hl : l.length * 112 ≤ 140737488355328) : ∃ q, e = .returned (.slice q l.length l.length) ∧ NAll w' w.heap.size w'.heap.size l q ∧ Below w.heap.size w w' ∧ OwnAt w' w.heap.size q l.length l.length := by
  obtain ⟨hb, ⟨rfl, rfl⟩ | ⟨bo, hbo, rfl, hp, _⟩⟩ := h
  · exact ⟨none, rfl, NAll.nil _ _ _ _, hb, [], World.ownsRow_nil _ _ _ _⟩
  · refine ⟨_, rfl, hp.done.wide hbo (Nat.le_refl _), hb, ?_⟩
    obtain ⟨cs, h1, h2, _⟩ := hp
    exact ⟨cs.toList, by simp [h2], .inr ⟨bo, l.length, cs, rfl, hbo, h1, Nat.le_refl _, by unfold maxLen; omega, h2, List.take_of_length_le (by simp [h2])⟩⟩
def NewN2 (w : World) (t : Nd) (e : Ending) (w' : World) : Prop := ∃ (o n : Int) (s : ByteArray) (k m : Int) (z : ByteArray) (q : Option Addr) (ql qc : Nat) (r : Option Addr), e = .returned (.agg #[.int .i64 o, .int .i64 n, .string s, .int .i64 k, .int .i64 m, .string z, .slice q ql qc, .slice r t.l.length t.l.length]) ∧
  NRep w' w.heap.size w'.heap.size t (.agg #[.int .i64 o, .int .i64 n, .string s, .int .i64 k, .int .i64 m, .string z, .slice q ql qc, .slice r t.l.length t.l.length]) ∧ Below w.heap.size w w' ∧ OwnAt w' w.heap.size r t.l.length t.l.length
theorem Owns.step {w : World} {bo j : Nat} {l : List Nd} (h : Owns w bo l j) (hp : NPart w bo l j) (hj : j < l.length) (c0 c1 c2 c3 c4 c5 c6 : Value) (r : Option Addr) (ho : OwnAt w (bo + 1) r l[j].l.length l[j].l.length) :
    Owns (set8 w bo (j * 8) c0 c1 c2 c3 c4 c5 c6 (.slice r l[j].l.length l[j].l.length)) bo l (j + 1) := fun i hi hij => by
  by_cases e : i = j
  · subst e
    refine ⟨r, ?_, ho.set8 (Nat.lt_succ_self _) _ _ _ _ _ _ _ _ _⟩
    obtain ⟨cs, h1, h2, _⟩ := hp
    have hset : ∀ (w : World) (c : Array Value) (o : Nat) (u : Value), w.heap[bo]? = some (.cells c 40 (0, 0)) → (w.setCell ⟨bo, o, none⟩ u).heap[bo]? = some (.cells (c.setIfInBounds o u) 40 (0, 0)) := by
      intro w c o u hw
      simp [World.setCell, Array.getElem?_modify, hw]
    have k7 := hset _ _ (i * 8 + 7) (.slice r l[i].l.length l[i].l.length) (hset _ _ (i * 8 + 6) c6 (hset _ _ (i * 8 + 5) c5 (hset _ _ (i * 8 + 4) c4 (hset _ _ (i * 8 + 3) c3 (hset _ _ (i * 8 + 2) c2 (hset _ _ (i * 8 + 1) c1 (hset _ _ (i * 8) c0 h1)))))))
    rw [cell_of_row _ _ _ _ _ _ k7]
    simp [Array.getElem?_setIfInBounds]
    omega
  · obtain ⟨r', h1, h2⟩ := h i hi (by omega)
    exact ⟨r', (cell_set8_other (by omega) _ _ _ _ _ _ _ _).trans h1, h2.set8 (Nat.lt_succ_self _) _ _ _ _ _ _ _ _ _⟩
def CloneNs (l : List Nd) : Prop := ∀ (w : World) (lo hi : Nat) (p : Option Addr) (cap : Nat), NAll w lo hi l p → l.length ≤ cap → l.length * 112 ≤ 140737488355328 → hi ≤ w.heap.size →
  Calls Tryd.prog 18 #[.slice p l.length cap] w (NewC w l)
def CloneN (t : Nd) : Prop := ∀ (w : World) (lo hi : Nat) (x : Value), NRep w lo hi t x → hi ≤ w.heap.size → Calls Tryd.prog 39 #[x] w (NewN2 w t)

abbrev setV (W : World) (g : Nat) (c3 c4 c5 c6 : Value) : World := (((W.setCell ⟨g, 3, none⟩ c3).setCell ⟨g, 4, none⟩ c4).setCell ⟨g, 5, none⟩ c5).setCell ⟨g, 6, none⟩ c6
theorem heap_setV {W : World} {g : Nat} {d0 d1 d2 d3 d4 d5 d6 d7 : Value} {t : TypeId} (h : W.heap[g]? = some (.cells #[d0, d1, d2, d3, d4, d5, d6, d7] t (0, 0))) (c3 c4 c5 c6 : Value) :
    (setV W g c3 c4 c5 c6).heap[g]? = some (.cells #[d0, d1, d2, c3, c4, c5, c6, d7] t (0, 0)) := by
  have hset : ∀ (w : World) (c : Array Value) (o : Nat) (u : Value), w.heap[g]? = some (.cells c t (0, 0)) → (w.setCell ⟨g, o, none⟩ u).heap[g]? = some (.cells (c.setIfInBounds o u) t (0, 0)) := by
    intro w c o u hw
    simp [World.setCell, Array.getElem?_modify, hw]
  have k := hset _ _ 6 c6 (hset _ _ 5 c5 (hset _ _ 4 c4 (hset _ _ 3 c3 h)))
  simpa using k
theorem below_setV {B g : Nat} {a w : World} (h : Below B a w) (hg : B ≤ g) (c3 c4 c5 c6 : Value) : Below B a (setV w g c3 c4 c5 c6) := (((h.setCell hg c3).setCell hg c4).setCell hg c5).setCell hg c6
theorem other_setV {W : World} {g b : Nat} (h : b ≠ g) (c3 c4 c5 c6 : Value) : (setV W g c3 c4 c5 c6).heap[b]? = W.heap[b]? := by
  unfold setV
  rw [Below.heap_setCell _ _ _ _ h, Below.heap_setCell _ _ _ _ h, Below.heap_setCell _ _ _ _ h, Below.heap_setCell _ _ _ _ h]
theorem size_setV (W : World) (g : Nat) (c3 c4 c5 c6 : Value) : (setV W g c3 c4 c5 c6).heap.size = W.heap.size := by unfold setV; simp

set_option maxHeartbeats 2000000 in
theorem cloneN_of (t : Nd) (ih : CloneNs t.l) : CloneN t := by
  intro w lo hi x hr hhi
  obtain ⟨o, n, s, v, l⟩ := t
  simp only [Nd.l] at ih
  obtain ⟨k, m, z, q, ql, qc, p, cap, rfl, hio, hin, hs, hrv, hlc, hcap, hall⟩ := hr.open
  have HCN := Lib.hid (fun W (hb : Below w.heap.size w W) => ih W lo hi p cap (hall.below hb hhi) hlc hcap (by have := hb.size; omega))
  obtain ⟨W1, hW1⟩ : ∃ W1, (w.alloc (.cells #[.int .i64 o, .int .i64 n, .string s, .int .i64 k, .int .i64 m, .string z, .slice q ql qc, .slice p l.length cap] 40)).alloc (.cells #[.int .i64 0, .int .i64 0, .string ⟨#[]⟩, .int .i64 0, .int .i64 0, .string ⟨#[]⟩, .slice none 0 0, .slice none 0 0] 40) = W1 := ⟨_, rfl⟩
  have HB1 : Hid (Below w.heap.size w W1) := hW1 ▸ (((Below.refl w.heap.size w).alloc (Nat.le_refl _) _).alloc (by simp) _)
  have HX : Hid (W1.heap[w.heap.size]? = some (.cells #[.int .i64 o, .int .i64 n, .string s, .int .i64 k, .int .i64 m, .string z, .slice q ql qc, .slice p l.length cap] 40 (0, 0))) := hW1 ▸ heap_alloc_ _ _ _ _ (heap_alloc_new w _)
  have HY : Hid (W1.heap[w.heap.size + 1]? = some (.cells #[.int .i64 0, .int .i64 0, .string ⟨#[]⟩, .int .i64 0, .int .i64 0, .string ⟨#[]⟩, .slice none 0 0, .slice none 0 0] 40 (0, 0))) := hW1 ▸ (by have h := heap_alloc_new (w.alloc (.cells #[.int .i64 o, .int .i64 n, .string s, .int .i64 k, .int .i64 m, .string z, .slice q ql qc, .slice p l.length cap] 40)) (.cells #[.int .i64 0, .int .i64 0, .string ⟨#[]⟩, .int .i64 0, .int .i64 0, .string ⟨#[]⟩, .slice none 0 0, .slice none 0 0] 40); rw [World.size_alloc] at h; exact h)
  have hsz1 : W1.heap.size = w.heap.size + 2 := by rw [← hW1]; simp
  have HCV := Lib.hid (clone_any v W1 lo hi _ (hrv.below HB1.out hhi) (by omega))
  obtain ⟨d0, d1, d2, d3, d4, d5, d6, d7, _⟩ := box8_in _ _ _ _ _ _ _ _ _ _ _ HX.out
  clear hr ih hrv hall
  go_enter Tryd.func39, Tryd.ntmps39
  go_upto_region 2 with (go_at_call 60; refine HCV.out.mono ?_; rintro e w2 ⟨⟨v2, rfl, hv2, hb2⟩, _⟩; obtain ⟨k2, m2, z2, q2, ql2, qc2, rfl⟩ := rep_form hv2; have HV2 := Lib.hid hv2; have HX2 := Lib.hid (heap_old HX.out hb2); have HY2 := Lib.hid (heap_old HY.out hb2); have HB2 := Lib.hid (HB1.out.trans (hb2.mono HB1.out.size)); have HZ2 := Lib.hid hb2.size; clear hv2 hb2; obtain ⟨a0, a1, a2, a3, a4, a5, a6, a7, haf⟩ := box8_in _ _ _ _ _ _ _ _ _ _ _ HX2.out; have haf3 := haf 3; have haf4 := haf 4; have haf5 := haf 5; have haf6 := haf 6; clear haf)
  have HX3 := Lib.hid (heap_setV HX2.out (.int .i64 k2) (.int .i64 m2) (.string z2) (.slice q2 ql2 qc2))
  have HY3 := Lib.hid ((other_setV (W := w2) (g := w.heap.size) (b := w.heap.size + 1) (by omega) (.int .i64 k2) (.int .i64 m2) (.string z2) (.slice q2 ql2 qc2)).trans HY2.out)
  have HB3 := Lib.hid (below_setV HB2.out (Nat.le_refl _) (.int .i64 k2) (.int .i64 m2) (.string z2) (.slice q2 ql2 qc2))
  have HV3 : Hid (Rep (setV w2 w.heap.size (.int .i64 k2) (.int .i64 m2) (.string z2) (.slice q2 ql2 qc2)) (w.heap.size + 2) w2.heap.size v (.agg #[.int .i64 k2, .int .i64 m2, .string z2, .slice q2 ql2 qc2])) :=
    ((((HV2.out.setCell (Or.inl (show w.heap.size < W1.heap.size by omega)) _).setCell (Or.inl (show w.heap.size < W1.heap.size by omega)) _).setCell (Or.inl (show w.heap.size < W1.heap.size by omega)) _).setCell (Or.inl (show w.heap.size < W1.heap.size by omega)) _).keep (by omega) (Nat.le_refl _) (fun _ _ _ => rfl)
  have HZ3 := Lib.hid (size_setV w2 w.heap.size (.int .i64 k2) (.int .i64 m2) (.string z2) (.slice q2 ql2 qc2))
  unfold setV at HX3 HY3 HB3 HV3 HZ3
  generalize (((w2.setCell ⟨w.heap.size, 3, none⟩ (.int .i64 k2)).setCell ⟨w.heap.size, 4, none⟩ (.int .i64 m2)).setCell ⟨w.heap.size, 5, none⟩ (.string z2)).setCell ⟨w.heap.size, 6, none⟩ (.slice q2 ql2 qc2) = w3 at *
  obtain ⟨b0, b1, b2, b3, b4, b5, b6, b7, _⟩ := box8_in _ _ _ _ _ _ _ _ _ _ _ HX3.out
  have HCN3 := Lib.hid (HCN.out _ HB3.out)
  clear a0 a1 a2 a3 a4 a5 a6 a7 haf3 haf4 haf5 haf6 d0 d1 d2 d3 d4 d5 d6 d7 HX HY HX2 HY2 HCV HCN HV2
  go_upto_region 3 with (go_at_call 18; refine HCN3.out.mono ?_; intro e w4 h4; obtain ⟨q4, rfl, hn4, hb4, ho4⟩ := h4.all hcap; have HO4 := Lib.hid ho4; have HN4 := Lib.hid hn4; have HX4 := Lib.hid (heap_old HX3.out hb4); have HY4 := Lib.hid (heap_old HY3.out hb4); have HB4 := Lib.hid (HB3.out.trans (hb4.mono HB3.out.size)); have HV4 := Lib.hid (HV3.out.below hb4 (by rw [HZ3.out]; exact Nat.le_refl _)); have HZ4 := Lib.hid hb4.size; clear h4 hn4 hb4 ho4; obtain ⟨e0, e1, e2, e3, e4, e5, e6, e7, hef⟩ := box8_in _ _ _ _ _ _ _ _ _ _ _ HX4.out; have hef7 := hef 7; clear hef; obtain ⟨y0, y1, y2, y3, y4, y5, y6, y7, hyf⟩ := box8_in _ _ _ _ _ _ _ _ _ _ _ HY4.out; have hyf0 := hyf 0; have hyf1 := hyf 1; have hyf2 := hyf 2; have hyf3 := hyf 3; have hyf4 := hyf 4; have hyf5 := hyf 5; have hyf6 := hyf 6; have hyf7 := hyf 7; clear hyf)
  clear b0 b1 b2 b3 b4 b5 b6 b7
  go_wp2_with fail
  refine bodyPost_ret (v := .agg #[.int .i64 o, .int .i64 n, .string s, .int .i64 k2, .int .i64 m2, .string z2, .slice q2 ql2 qc2, .slice q4 l.length l.length]) (by simp [results, Tryd.results39, go_sem, y0, y1, y2, y3, y4, y5, y6, y7]) rfl ?_
  have hz3 := HZ3.out
  have hz2 := HZ2.out
  have hz4 := HZ4.out
  have hN : NRep w4 (w.heap.size + 2) w4.heap.size (.mk o n s v l) (.agg #[.int .i64 o, .int .i64 n, .string s, .int .i64 k2, .int .i64 m2, .string z2, .slice q2 ql2 qc2, .slice q4 l.length l.length]) := by
    unfold NRep
    exact ⟨k2, m2, z2, q2, ql2, qc2, q4, l.length, rfl, hio, hin, hs, HV4.out.keep (Nat.le_refl _) (by omega) (fun _ _ _ => rfl), Nat.le_refl _, hcap, HN4.out.wide (by omega) (Nat.le_refl _)⟩
  refine ⟨_, _, _, _, _, _, _, _, _, _, rfl, ((hN.setCell (p := ⟨w.heap.size, 7, none⟩) (Or.inl (by show w.heap.size < w.heap.size + 2; omega)) _).keep8 (g := w.heap.size + 1) (o := 0) (Or.inl (by omega)) _ _ _ _ _ _ _ _).wide (by omega) (by rw [size_set8]; simp), below_set8 (HB4.out.setCell (p := ⟨w.heap.size, 7, none⟩) (Nat.le_refl _) _) (Nat.le_succ _) _ _ _ _ _ _ _ _, ?_⟩
  exact (((HO4.out.setCell (g := w.heap.size) (by omega) _ _).set8 (g := w.heap.size + 1) (by omega) 0 _ _ _ _ _ _ _ _)).mono (by omega)

set_option maxHeartbeats 2000000 in
theorem cloneNs_of (l : List Nd) (ih : ∀ t ∈ l, CloneN t) : CloneNs l := by
  intro w lo hi p cap hall _hlc hcap hhi
  cases hl : l with
  | nil =>
    simp only [List.length_nil]
    go_enter Tryd.func18, Tryd.ntmps18
    go_wp2
    go_ret
    exact ⟨Below.refl _ _, .inl ⟨rfl, rfl⟩⟩
  | cons x xs =>
    have hpos : 0 < l.length := by rw [hl]; simp
    rw [← hl]
    clear hl
    have H := Lib.hid ih; clear ih
    have HALL := Lib.hid hall; clear hall
    obtain ⟨i0, hi0, hz0, hz1, hz2⟩ := info_parts Tryd.info_N
    have hmk : ∀ W : World, (Instr.makeSlice 22 (.int .i64 (l.length : Int)) (.int .i64 (l.length : Int))).run Tryd.prog W = .ok (.slice (some ⟨W.heap.size, 0, none⟩) l.length l.length) (W.alloc (.cells (madeCells #[.int .i64 0, .int .i64 0, .string ⟨#[]⟩, .int .i64 0, .int .i64 0, .string ⟨#[]⟩, .slice none 0 0, .slice none 0 0] (l.length * 8)) 40)) := by
      intro W
      have h := run_make (P := Tryd.prog) W 22 40 i0 _ Tryd.underlying22 hi0 hz0 .i64 .i64 l.length l.length (by omega) (by omega) (by rw [hz2]; omega) (by omega)
      rw [hz1] at h
      simpa [Value.cells] using h
    have hl0 : ((l.length : Int) == 0) = false := beq_eq_false_iff_ne.2 (by omega)
    go_enter Tryd.func18, Tryd.ntmps18
    go_wp2
    have hP := Lib.hid (NPart.start w (madeCells #[.int .i64 0, .int .i64 0, .string ⟨#[]⟩, .int .i64 0, .int .i64 0, .string ⟨#[]⟩, .slice none 0 0, .slice none 0 0] (l.length * 8)) l (size_madeCells _ _))
    have hW : Below w.heap.size w (w.alloc (.cells (madeCells #[.int .i64 0, .int .i64 0, .string ⟨#[]⟩, .int .i64 0, .int .i64 0, .string ⟨#[]⟩, .slice none 0 0, .slice none 0 0] (l.length * 8)) 40)) := (Below.refl _ _).alloc (Nat.le_refl _) _
    clear hi0 hz0 hz1 hz2
    go_loopw [14] (fun i wr => ∃ j : Nat, j ≤ l.length ∧ i = .int .i64 j ∧ Hid (NPart wr w.heap.size l j) ∧ Hid (Below w.heap.size w wr) ∧ Hid (Owns wr w.heap.size l j)) (fun i _ => l.length - (intOf i).toNat)
    case atStart => exact ⟨0, Nat.zero_le _, rfl, hP, hW, Lib.hid (fun i _ hi => absurd hi (by omega))⟩
    case round =>
      obtain ⟨j, hj, rfl, HP, HBR, HOW⟩ := hrel
      have hz := HBR.out.size
      have hzl := HP.out.lt
      by_cases hlt : j < l.length
      · obtain ⟨b, off, o, n, s, v, ll, k, m, z, q, ql, qc, r, c, hp, _, hbhi, hli, h0, h1, h2, h3, h4, h5, h6, h7, hrep⟩ := (HALL.out.below HBR.out hhi).item j hlt
        have HA := Lib.hid ((Below.refl wr.heap.size wr).alloc (Nat.le_refl _) (.cells #[.int .i64 o, .int .i64 n, .string s, .int .i64 k, .int .i64 m, .string z, .slice q ql qc, .slice r ll.length c] 40))
        have HC := Lib.hid (H.out _ (List.getElem_mem hlt) _ lo hi _ (hrep.below HA.out (by omega)) (by have := HA.out.size; omega))
        have hbw : b < wr.heap.size := by omega
        subst hp
        clear hrep hli
        go_wp2_with (go_at_call 39; refine HC.out.mono ?_; rintro e w2 ⟨o2, n2, s2, k2, m2, z2, q2, ql2, qc2, r2, rfl, hv, hb2, ho2⟩; have HV := Lib.hid hv; have HO2 := Lib.hid ho2; have HB2 := Lib.hid (HA.out.trans (hb2.mono HA.out.size)); have HZ := Lib.hid (show wr.heap.size + 1 ≤ (wr.alloc (.cells #[.int .i64 o, .int .i64 n, .string s, .int .i64 k, .int .i64 m, .string z, .slice q ql qc, .slice r ll.length c] 40)).heap.size from by simp); clear hv hb2 ho2; have HP2 := Lib.hid (HP.out.below HB2.out); have HB3 := Lib.hid (HBR.out.trans (HB2.out.mono hz)); obtain ⟨⟨u0, hu0⟩, ⟨u1, hu1⟩, ⟨u2, hu2⟩, ⟨u3, hu3⟩, ⟨u4, hu4⟩, ⟨u5, hu5⟩, ⟨u6, hu6⟩, ⟨u7, hu7⟩, hfz⟩ := HP2.out.room j hlt; have hf0 := hfz (j * 8); have hf1 := hfz (j * 8 + 1); have hf2 := hfz (j * 8 + 2); have hf3 := hfz (j * 8 + 3); have hf4 := hfz (j * 8 + 4); have hf5 := hfz (j * 8 + 5); have hf6 := hfz (j * 8 + 6); have hf7 := hfz (j * 8 + 7); clear hfz)
        go_roundw
        case rel =>
          have hz1 := HZ.out
          refine ⟨j + 1, by omega, by go_num, NPart.step HP2.out hlt _ _ _ _ _ _ _ _ (HV.out.wide (by omega) (Nat.le_refl _)), below_set8 HB3.out (Nat.le_refl _) _ _ _ _ _ _ _ _, ?_⟩
          exact Lib.hid (Owns.step (HOW.out.below hzl HB2.out) HP2.out hlt _ _ _ _ _ _ _ _ (HO2.out.mono (by omega)))
        case measure => simp [intOf]; omega
      · have hjl : j = l.length := by omega
        subst hjl
        go_wp2
        go_ret
        exact ⟨HBR.out, .inr ⟨_, Nat.le_refl _, rfl, HP.out, HOW.out⟩⟩
theorem cloneN_any : ∀ t : Nd, CloneN t := Nd.ind_ (fun _ _ _ _ _ ih => cloneN_of _ (cloneNs_of _ ih))
theorem cloneNs_any (L : List Nd) : CloneNs L := cloneNs_of L (fun t _ => cloneN_any t)
end Go.Proofs.YtminmadaeaiihaaDoor
namespace Go.Proofs.YtminmadaeaiihaaDoor
open Go.RowKit
set_option maxRecDepth 100000

def SameNs (L : List Nd) : Prop := ∀ (w : World) (lo hi : Nat) (p : Option Addr) (cap : Nat), NAll w lo hi L p → hi ≤ w.heap.size → L.length * 112 ≤ 140737488355328 →
  ∀ (lo' hi' : Nat) (p' : Option Addr) (cap' : Nat), NAll w lo' hi' L p' → hi' ≤ w.heap.size →
  Calls Tryd.prog 17 #[.slice p L.length cap, .slice p' L.length cap'] w fun e w' => e = .returned (.bool true) ∧ Below w.heap.size w w'
def SameN1 (t : Nd) : Prop := ∀ (w : World) (lo hi lo' hi' : Nat) (x x' : Value), NRep w lo hi t x → hi ≤ w.heap.size → NRep w lo' hi' t x' → hi' ≤ w.heap.size →
  Calls Tryd.prog 22 #[x, x'] w fun e w' => e = .returned (.bool true) ∧ Below w.heap.size w w'

set_option maxHeartbeats 1000000 in
theorem sameN_of (t : Nd) (ih : SameNs t.l) : SameN1 t := by
  intro w lo hi lo' hi' x x' hr hhi hr' hhi'
  obtain ⟨o, n, s, v, l⟩ := t
  simp only [Nd.l] at ih
  obtain ⟨k, m, z, q, ql, qc, p, cap, rfl, _, _, hs, hrv, hlc, hcap, hall⟩ := hr.open
  obtain ⟨k', m', z', q', ql', qc', p', cap', rfl, _, _, hs', hrv', hlc', hcap', hall'⟩ := hr'.open
  have HB := Lib.hid (((Below.refl w.heap.size w).alloc (Nat.le_refl _) (.cells #[.int .i64 o, .int .i64 n, .string s, .int .i64 k, .int .i64 m, .string z, .slice q ql qc, .slice p l.length cap] 40)).alloc (by simp) (.cells #[.int .i64 o, .int .i64 n, .string s, .int .i64 k', .int .i64 m', .string z', .slice q' ql' qc', .slice p' l.length cap'] 40))
  have HX := Lib.hid (heap_alloc_ _ _ (.cells #[.int .i64 o, .int .i64 n, .string s, .int .i64 k', .int .i64 m', .string z', .slice q' ql' qc', .slice p' l.length cap'] 40) _ (heap_alloc_new w (.cells #[.int .i64 o, .int .i64 n, .string s, .int .i64 k, .int .i64 m, .string z, .slice q ql qc, .slice p l.length cap] 40)))
  have HY := Lib.hid (heap_alloc_new (w.alloc (.cells #[.int .i64 o, .int .i64 n, .string s, .int .i64 k, .int .i64 m, .string z, .slice q ql qc, .slice p l.length cap] 40)) (.cells #[.int .i64 o, .int .i64 n, .string s, .int .i64 k', .int .i64 m', .string z', .slice q' ql' qc', .slice p' l.length cap'] 40))
  have HL := Lib.hid (fun W (hb : Below w.heap.size w W) => ih W lo hi p cap (hall.below hb hhi) (by have := hb.size; omega) hcap lo' hi' p' cap' (hall'.below hb hhi') (by have := hb.size; omega))
  have HV := Lib.hid (fun W (hb : Below w.heap.size w W) => by
    have h := sameValue_any v v W lo hi lo' hi' _ _ (hrv.below hb hhi) (by have := hb.size; omega) (hrv'.below hb hhi') (by have := hb.size; omega)
    rw [eqV_self] at h; exact h)
  have HL2 := Lib.hid (HL.out _ HB.out)
  clear hr hr' ih hrv hrv' hall hall'
  go_enter Tryd.func22, Tryd.ntmps22
  go_wp2_with (first
    | (go_at_call 17; refine HL2.out.mono ?_; rintro e w2 ⟨rfl, hb2⟩; have HB2 := Lib.hid (HB.out.trans (hb2.mono HB.out.size)); have HX2 := Lib.hid (heap_old HX.out hb2); have HY2 := Lib.hid (heap_old HY.out hb2); rw [World.size_alloc] at HY2; obtain ⟨x0, x1, x2, x3, x4, x5, x6, x7, _⟩ := box8_in _ _ _ _ _ _ _ _ _ _ _ HX2.out; obtain ⟨y0, y1, y2, y3, y4, y5, y6, y7, _⟩ := box8_in _ _ _ _ _ _ _ _ _ _ _ HY2.out; clear hb2)
    | (go_at_call 38; refine (HV.out _ HB2.out).mono ?_; rintro e w3 ⟨rfl, hb3⟩; have HB3 := Lib.hid (HB2.out.trans (hb3.mono HB2.out.size)); obtain ⟨u0, u1, u2, u3, u4, u5, u6, u7, _⟩ := box8_in _ _ _ _ _ _ _ _ _ _ _ (heap_old HX2.out hb3); obtain ⟨v0, v1, v2, v3, v4, v5, v6, v7, _⟩ := box8_in _ _ _ _ _ _ _ _ _ _ _ (heap_old HY2.out hb3); clear hb3))
  go_ret
  exact ⟨ret_bool (by simp), HB3.out⟩

set_option maxHeartbeats 2000000 in
theorem sameNs_of (L : List Nd) (ih : ∀ t ∈ L, SameN1 t) : SameNs L := by
  intro w lo hi p cap hall hhi hcap lo' hi' p' cap' hall' hhi'
  have H := Lib.hid ih; clear ih
  have HALL := Lib.hid hall; clear hall
  have HALL' := Lib.hid hall'; clear hall'
  have hne : ((L.length : Int) != (L.length : Int)) = false := by simp
  go_enter Tryd.func17, Tryd.ntmps17
  go_wp2
  go_loopw [5] (fun i wr => ∃ j : Nat, j ≤ L.length ∧ i = .int .i64 j ∧ Below w.heap.size w wr) (fun i _ => L.length - (intOf i).toNat)
  case atStart => exact ⟨0, Nat.zero_le _, rfl, Below.refl _ _⟩
  case round =>
    obtain ⟨j, hj, rfl, hbr⟩ := hrel
    have hz := hbr.size
    by_cases hlt : j < L.length
    · obtain ⟨b, off, o, n, s, v, ll, k, m, z, q, ql, qc, r, c, rfl, _, hbhi, hli, h0, h1, h2, h3, h4, h5, h6, h7, hrep⟩ := (HALL.out.below hbr hhi).item j hlt
      obtain ⟨b', off', o', n', s', v', ll', k', m', z', q', ql', qc', r', c', rfl, _, hbhi', hli', h0', h1', h2', h3', h4', h5', h6', h7', hrep'⟩ := (HALL'.out.below hbr hhi').item j hlt
      rw [hli] at hli'
      injection hli' with e1 e2 e3 e4 e5
      subst e1 e2 e3 e4 e5
      have hlj : L[j] ∈ L := List.getElem_mem hlt
      rw [hli] at hlj hrep hrep'
      have HC := Lib.hid (fun (W : World) (hb : Below wr.heap.size wr W) => H.out _ hlj W lo hi lo' hi' _ _ (hrep.below hb (by omega)) (by have := hb.size; omega) (hrep'.below hb (by omega)) (by have := hb.size; omega))
      have HC2 := Lib.hid (HC.out _ (Below.refl _ _).drew)
      clear hli hrep hrep' hlj HC
      have hbw : b < wr.heap.size := by omega
      have hbw' : b' < wr.heap.size := by omega
      go_wp2
      go_region_held3 (fun w' => w'.cell? ⟨b, off + j * 8, none⟩ = some (.int .i64 o) ∧ w'.cell? ⟨b, off + j * 8 + 1, none⟩ = some (.int .i64 n) ∧ w'.cell? ⟨b, off + j * 8 + 2, none⟩ = some (.string s) ∧ w'.cell? ⟨b, off + j * 8 + 3, none⟩ = some (.int .i64 k) ∧ w'.cell? ⟨b, off + j * 8 + 4, none⟩ = some (.int .i64 m) ∧ w'.cell? ⟨b, off + j * 8 + 5, none⟩ = some (.string z) ∧ w'.cell? ⟨b, off + j * 8 + 6, none⟩ = some (.slice q ql qc) ∧ w'.cell? ⟨b, off + j * 8 + 7, none⟩ = some (.slice r ll.length c) ∧ w'.cell? ⟨b', off' + j * 8, none⟩ = some (.int .i64 o) ∧ w'.cell? ⟨b', off' + j * 8 + 1, none⟩ = some (.int .i64 n) ∧ w'.cell? ⟨b', off' + j * 8 + 2, none⟩ = some (.string s) ∧ w'.cell? ⟨b', off' + j * 8 + 3, none⟩ = some (.int .i64 k') ∧ w'.cell? ⟨b', off' + j * 8 + 4, none⟩ = some (.int .i64 m') ∧ w'.cell? ⟨b', off' + j * 8 + 5, none⟩ = some (.string z') ∧ w'.cell? ⟨b', off' + j * 8 + 6, none⟩ = some (.slice q' ql' qc') ∧ w'.cell? ⟨b', off' + j * 8 + 7, none⟩ = some (.slice r' ll.length c')) (first | exact ⟨h0, h1, h2, h3, h4, h5, h6, h7, h0', h1', h2', h3', h4', h5', h6', h7'⟩ | exact ⟨(hb2.cell (p := ⟨b, _, none⟩) hbw).trans h0, (hb2.cell (p := ⟨b, _, none⟩) hbw).trans h1, (hb2.cell (p := ⟨b, _, none⟩) hbw).trans h2, (hb2.cell (p := ⟨b, _, none⟩) hbw).trans h3, (hb2.cell (p := ⟨b, _, none⟩) hbw).trans h4, (hb2.cell (p := ⟨b, _, none⟩) hbw).trans h5, (hb2.cell (p := ⟨b, _, none⟩) hbw).trans h6, (hb2.cell (p := ⟨b, _, none⟩) hbw).trans h7, (hb2.cell (p := ⟨b', _, none⟩) hbw').trans h0', (hb2.cell (p := ⟨b', _, none⟩) hbw').trans h1', (hb2.cell (p := ⟨b', _, none⟩) hbw').trans h2', (hb2.cell (p := ⟨b', _, none⟩) hbw').trans h3', (hb2.cell (p := ⟨b', _, none⟩) hbw').trans h4', (hb2.cell (p := ⟨b', _, none⟩) hbw').trans h5', (hb2.cell (p := ⟨b', _, none⟩) hbw').trans h6', (hb2.cell (p := ⟨b', _, none⟩) hbw').trans h7'⟩) (first | (go_at_call 22; refine HC2.out.mono ?_; rintro e w2 ⟨rfl, hb2⟩; obtain ⟨hc2, hf2⟩ := below_bcell hb2))
      go_wp2
      go_roundw
      case rel => exact ⟨j + 1, by omega, by go_num, hbr.drew.trans (hb2.mono (by simp; omega))⟩
      case measure => simp [intOf]; omega
    · have hjl : j = L.length := by omega
      subst hjl
      go_wp2
      go_ret
      exact ⟨ret_bool rfl, hbr⟩
theorem sameN_any : ∀ t : Nd, SameN1 t := Nd.ind_ (fun _ _ _ _ l ih => sameN_of _ (sameNs_of l ih))
theorem sameNs_any (L : List Nd) : SameNs L := sameNs_of L (fun t _ => sameN_any t)
end Go.Proofs.YtminmadaeaiihaaDoor
namespace Go.Proofs.YtminmadaeaiihaaDoor
open Go.RowKit
set_option maxRecDepth 100000

/-- The function value of a function of the program. -/
abbrev fnV (i : Nat) : Value := .func (.func i) #[] #[]
def EqV1 (t : T) : Prop := ∀ (t' : T) (w : World) (lo hi lo' hi' : Nat) (v v' : Value), Rep w lo hi t v → hi ≤ w.heap.size → Rep w lo' hi' t' v' → hi' ≤ w.heap.size →
  Calls Tryd.prog 58 #[v, v'] w fun e w' => e = .returned (.bool (eqV t t')) ∧ Below w.heap.size w w'
def EqVs (l : List T) : Prop := ∀ (l' : List T) (w : World) (lo hi lo' hi' : Nat) (p p' : Option Addr) (cap cap' : Nat), RepAll w lo hi l p → hi ≤ w.heap.size → l.length * 56 ≤ 140737488355328 → RepAll w lo' hi' l' p' → hi' ≤ w.heap.size →
  Calls Tryd.prog 95 #[.slice p l.length cap, .slice p' l'.length cap', fnV 58] w fun e w' => e = .returned (.bool (eqAll l l')) ∧ Below w.heap.size w w'

set_option maxHeartbeats 1000000 in
theorem eqVs_of (l : List T) (ih : ∀ t ∈ l, EqV1 t) : EqVs l := by
  intro l' w lo hi lo' hi' p p' cap cap' hall hhi hlen hall' hhi'
  have H := Lib.hid ih; clear ih
  have HALL := Lib.hid hall; clear hall
  have HALL' := Lib.hid hall'; clear hall'
  by_cases hll : l.length = l'.length
  · have hne : ((l.length : Int) != (l'.length : Int)) = false := by simp [hll]
    have HLL := Lib.hid hll; clear hll
    go_enter Tryd.func95, Tryd.ntmps95
    go_wp2
    go_loopw [17] (fun i wr => ∃ j : Nat, j ≤ l.length ∧ i = .int .i64 j ∧ Hid (eqAll l l' = eqAll (l.drop j) (l'.drop j)) ∧ Hid (Below w.heap.size w wr)) (fun i _ => l.length - (intOf i).toNat)
    case atStart => exact ⟨0, Nat.zero_le _, rfl, rfl, Below.refl _ _⟩
    case round =>
      obtain ⟨j, hj, rfl, HO, HBR⟩ := hrel
      have hz := HBR.out.size
      by_cases hlt : j < l.length
      · have hlt' : j < l'.length := by have := HLL.out; omega
        obtain ⟨b, off, k1, n1, s1, l1, q1, cc1, rfl, _, hbhi, hli, h0, h1, h2, h3, hrep⟩ := (HALL.out.below HBR.out hhi).item j hlt
        obtain ⟨b', off', k1', n1', s1', l1', q1', cc1', rfl, _, hbhi', hli', h0', h1', h2', h3', hrep'⟩ := (HALL'.out.below HBR.out hhi').item j hlt'
        have HB2 := Lib.hid (((Below.refl wr.heap.size wr).alloc (Nat.le_refl _) (.cells #[.int .i64 k1, .int .i64 n1, .string s1, .slice q1 l1.length cc1] 38)).alloc (by simp) (.cells #[.int .i64 k1', .int .i64 n1', .string s1', .slice q1' l1'.length cc1'] 38))
        have HC := Lib.hid (H.out _ (List.getElem_mem hlt) l'[j] _ lo hi lo' hi' _ _ (hrep.below HB2.out (by omega)) (by have := HB2.out.size; omega) (hrep'.below HB2.out (by omega)) (by have := HB2.out.size; omega))
        have hA := Lib.hid (HO.out.trans (eqAll_drop l l' j hlt hlt'))
        have hbw : b < wr.heap.size := by omega
        have hbw' : b' < wr.heap.size := by omega
        obtain ⟨B, hB⟩ : ∃ B, B = eqV l[j] l'[j] := ⟨_, rfl⟩
        rw [← hB] at HC hA
        clear hB hli hli' hrep hrep'
        cases B with
        | false =>
          have HF := Lib.hid (show eqAll l l' = false from by rw [hA.out]; rfl)
          go_wp2_with (go_at_call 58; refine HC.out.mono ?_; rintro e w2 ⟨rfl, hb2⟩; have HB3 := Lib.hid (HBR.out.trans ((HB2.out.trans (hb2.mono HB2.out.size)).mono hz)); clear hb2)
          go_ret
          exact ⟨ret_bool HF.out.symm, HB3.out⟩
        | true =>
          have HF := Lib.hid (show eqAll l l' = eqAll (l.drop (j + 1)) (l'.drop (j + 1)) from by rw [hA.out]; rfl)
          go_wp2_with (go_at_call 58; refine HC.out.mono ?_; rintro e w2 ⟨rfl, hb2⟩; have HB3 := Lib.hid (HBR.out.trans ((HB2.out.trans (hb2.mono HB2.out.size)).mono hz)); clear hb2)
          go_roundw
          case rel => exact ⟨j + 1, by omega, by go_num, HF, HB3⟩
          case measure => simp [intOf]; omega
      · have hjl : j = l.length := by omega
        have HF := Lib.hid (show eqAll l l' = true from by rw [HO.out, hjl, List.drop_length, List.drop_of_length_le (by have := HLL.out; omega)]; simp [eqAll])
        go_wp2
        go_ret
        exact ⟨ret_bool HF.out.symm, HBR.out⟩
  · have hne : ((l.length : Int) != (l'.length : Int)) = true := by simp; omega
    have HE := Lib.hid (eqAll_len l l' hll)
    go_enter Tryd.func95, Tryd.ntmps95
    go_wp2
    go_ret
    exact ⟨ret_bool HE.out.symm, Below.refl _ _⟩

set_option maxHeartbeats 1000000 in
theorem eqV1_any : ∀ t, EqV1 t := by
  refine T.ind_ (fun k n s l ih t' w lo hi lo' hi' v v' hr hhi hr' hhi' => ?_)
  have hvs := eqVs_of l ih
  obtain ⟨k', n', s', l'⟩ := t'
  unfold Rep at hr hr'
  obtain ⟨p, cap, rfl, hk, hn, hs, hlc, hcap, hall⟩ := hr
  obtain ⟨p', cap', rfl, hk', hn', hs', hlc', hcap', hall'⟩ := hr'
  have HE := Lib.hid (show eqV (.mk k n s l) (.mk k' n' s' l') = (eqAll l l' && k == k' && n == n' && s.toList == s'.toList) from by rw [eqV])
  have HB := Lib.hid (((Below.refl w.heap.size w).alloc (Nat.le_refl _) (.cells #[.int .i64 k, .int .i64 n, .string s, .slice p l.length cap] 38)).alloc (by simp) (.cells #[.int .i64 k', .int .i64 n', .string s', .slice p' l'.length cap'] 38))
  have HC := Lib.hid (hvs l' _ lo hi lo' hi' p p' cap cap' (hall.below HB.out hhi) (by have := HB.out.size; omega) hcap (hall'.below HB.out hhi') (by have := HB.out.size; omega))
  clear ih hvs hall hall'
  cases hk1 : (k == k') with
  | false =>
    have HF := Lib.hid (show eqV (.mk k n s l) (.mk k' n' s' l') = false from by rw [HE.out, hk1]; simp)
    go_enter Tryd.func58, Tryd.ntmps58
    go_wp2
    go_ret
    exact ⟨ret_bool HF.out.symm, HB.out⟩
  | true =>
    cases hn1 : (n == n') with
    | false =>
      have HF := Lib.hid (show eqV (.mk k n s l) (.mk k' n' s' l') = false from by rw [HE.out, hn1]; simp)
      go_enter Tryd.func58, Tryd.ntmps58
      go_wp2
      go_ret
      exact ⟨ret_bool HF.out.symm, HB.out⟩
    | true =>
      cases hs1 : (s.toList == s'.toList) with
      | false =>
        have HF := Lib.hid (show eqV (.mk k n s l) (.mk k' n' s' l') = false from by rw [HE.out, hs1]; simp)
        go_enter Tryd.func58, Tryd.ntmps58
        go_wp2
        go_ret
        exact ⟨ret_bool HF.out.symm, HB.out⟩
      | true =>
        have HF := Lib.hid (show eqV (.mk k n s l) (.mk k' n' s' l') = eqAll l l' from by rw [HE.out, hk1, hn1, hs1]; simp)
        go_enter Tryd.func58, Tryd.ntmps58
        go_wp2_with (go_at_call 95; refine HC.out.mono ?_; rintro e w2 ⟨rfl, hb2⟩; have HB2 := Lib.hid (HB.out.trans (hb2.mono HB.out.size)); clear hb2)
        go_ret
        exact ⟨ret_bool HF.out.symm, HB2.out⟩

mutual
/-- The same, but for the lines. -/
def alN : Nd → Nd → Bool
  | .mk o _ s v l, .mk o' _ s' v' l' => o == o' && s.toList == s'.toList && eqV v v' && alAll l l'
def alAll : List Nd → List Nd → Bool
  | [], [] => true
  | t :: r, t' :: r' => alN t t' && alAll r r'
  | _, _ => false
end
theorem alAll_drop (l l' : List Nd) (j : Nat) (h : j < l.length) (h' : j < l'.length) : alAll (l.drop j) (l'.drop j) = (alN l[j] l'[j] && alAll (l.drop (j + 1)) (l'.drop (j + 1))) := by
  rw [List.drop_eq_getElem_cons h, List.drop_eq_getElem_cons h', alAll]
theorem alAll_len : ∀ (l l' : List Nd), l.length ≠ l'.length → alAll l l' = false
  | [], [], h => absurd rfl h
  | [], _ :: _, _ => by simp [alAll]
  | _ :: _, [], _ => by simp [alAll]
  | t :: r, t' :: r', h => by rw [alAll, alAll_len r r' (by simpa using h)]; simp

def EqN1 (t : Nd) : Prop := ∀ (t' : Nd) (w : World) (lo hi lo' hi' : Nat) (x x' : Value), NRep w lo hi t x → hi ≤ w.heap.size → NRep w lo' hi' t' x' → hi' ≤ w.heap.size →
  Calls Tryd.prog 37 #[x, x'] w fun e w' => e = .returned (.bool (alN t t')) ∧ Below w.heap.size w w'
def EqNs (L : List Nd) : Prop := ∀ (L' : List Nd) (w : World) (lo hi lo' hi' : Nat) (p p' : Option Addr) (cap cap' : Nat), NAll w lo hi L p → hi ≤ w.heap.size → L.length * 112 ≤ 140737488355328 → NAll w lo' hi' L' p' → hi' ≤ w.heap.size →
  Calls Tryd.prog 15 #[.slice p L.length cap, .slice p' L'.length cap'] w fun e w' => e = .returned (.bool (alAll L L')) ∧ Below w.heap.size w w'

set_option maxHeartbeats 2000000 in
theorem eqNf_of (L : List Nd) (ih : ∀ t ∈ L, EqN1 t) (L' : List Nd) (w : World) (lo hi lo' hi' : Nat) (p p' : Option Addr) (cap cap' : Nat) (hall : NAll w lo hi L p) (hhi : hi ≤ w.heap.size) (hlen : L.length * 112 ≤ 140737488355328) (hall' : NAll w lo' hi' L' p') (hhi' : hi' ≤ w.heap.size) :
    Calls Tryd.prog 36 #[.slice p L.length cap, .slice p' L'.length cap', fnV 37] w fun e w' => e = .returned (.bool (alAll L L')) ∧ Below w.heap.size w w' := by
  have H := Lib.hid ih; clear ih
  have HALL := Lib.hid hall; clear hall
  have HALL' := Lib.hid hall'; clear hall'
  by_cases hll : L.length = L'.length
  · have hne : ((L.length : Int) != (L'.length : Int)) = false := by simp [hll]
    have HLL := Lib.hid hll; clear hll
    go_enter Tryd.func36, Tryd.ntmps36
    go_wp2
    go_loopw [17] (fun i wr => ∃ j : Nat, j ≤ L.length ∧ i = .int .i64 j ∧ Hid (alAll L L' = alAll (L.drop j) (L'.drop j)) ∧ Hid (Below w.heap.size w wr)) (fun i _ => L.length - (intOf i).toNat)
    case atStart => exact ⟨0, Nat.zero_le _, rfl, rfl, Below.refl _ _⟩
    case round =>
      obtain ⟨j, hj, rfl, HO, HBR⟩ := hrel
      have hz := HBR.out.size
      by_cases hlt : j < L.length
      · have hlt' : j < L'.length := by have := HLL.out; omega
        obtain ⟨b, off, o, n, s, v, ll, k, m, z, q, ql, qc, r, c, hp, _, hbhi, hli, h0, h1, h2, h3, h4, h5, h6, h7, hrep⟩ := (HALL.out.below HBR.out hhi).item j hlt
        obtain ⟨b', off', o', n', s', v', ll', k', m', z', q', ql', qc', r', c', hp', _, hbhi', hli', h0', h1', h2', h3', h4', h5', h6', h7', hrep'⟩ := (HALL'.out.below HBR.out hhi').item j hlt'
        have HB2 := Lib.hid (((Below.refl wr.heap.size wr).alloc (Nat.le_refl _) (.cells #[.int .i64 o, .int .i64 n, .string s, .int .i64 k, .int .i64 m, .string z, .slice q ql qc, .slice r ll.length c] 40)).alloc (by simp) (.cells #[.int .i64 o', .int .i64 n', .string s', .int .i64 k', .int .i64 m', .string z', .slice q' ql' qc', .slice r' ll'.length c'] 40))
        have HC := Lib.hid (H.out _ (List.getElem_mem hlt) L'[j] _ lo hi lo' hi' _ _ (hrep.below HB2.out (by omega)) (by have := HB2.out.size; omega) (hrep'.below HB2.out (by omega)) (by have := HB2.out.size; omega))
        have hA := Lib.hid (HO.out.trans (alAll_drop L L' j hlt hlt'))
        have hbw : b < wr.heap.size := by omega
        have hbw' : b' < wr.heap.size := by omega
        obtain ⟨B, hB⟩ : ∃ B, B = alN L[j] L'[j] := ⟨_, rfl⟩
        rw [← hB] at HC hA
        subst hp hp'
        clear hB hli hli' hrep hrep'
        cases B with
        | false =>
          have HF := Lib.hid (show alAll L L' = false from by rw [hA.out]; rfl)
          go_wp2_with (go_at_call 37; refine HC.out.mono ?_; rintro e w2 ⟨rfl, hb2⟩; have HB3 := Lib.hid (HBR.out.trans ((HB2.out.trans (hb2.mono HB2.out.size)).mono hz)); clear hb2)
          go_ret
          exact ⟨ret_bool HF.out.symm, HB3.out⟩
        | true =>
          have HF := Lib.hid (show alAll L L' = alAll (L.drop (j + 1)) (L'.drop (j + 1)) from by rw [hA.out]; rfl)
          go_wp2_with (go_at_call 37; refine HC.out.mono ?_; rintro e w2 ⟨rfl, hb2⟩; have HB3 := Lib.hid (HBR.out.trans ((HB2.out.trans (hb2.mono HB2.out.size)).mono hz)); clear hb2)
          go_roundw
          case rel => exact ⟨j + 1, by omega, by go_num, HF, HB3⟩
          case measure => simp [intOf]; omega
      · have hjl : j = L.length := by omega
        have HF := Lib.hid (show alAll L L' = true from by rw [HO.out, hjl, List.drop_length, List.drop_of_length_le (by have := HLL.out; omega)]; simp [alAll])
        go_wp2
        go_ret
        exact ⟨ret_bool HF.out.symm, HBR.out⟩
  · have hne : ((L.length : Int) != (L'.length : Int)) = true := by simp; omega
    have HE := Lib.hid (alAll_len L L' hll)
    go_enter Tryd.func36, Tryd.ntmps36
    go_wp2
    go_ret
    exact ⟨ret_bool HE.out.symm, Below.refl _ _⟩
set_option maxHeartbeats 400000 in
theorem eqNs_of (L : List Nd) (ih : ∀ t ∈ L, EqN1 t) : EqNs L := by
  intro L' w lo hi lo' hi' p p' cap cap' hall hhi hlen hall' hhi'
  have HC := Lib.hid (eqNf_of L ih L' w lo hi lo' hi' p p' cap cap' hall hhi hlen hall' hhi')
  clear hall hall' ih
  go_enter Tryd.func15, Tryd.ntmps15
  go_wp2_with (go_at_call 36; refine HC.out.mono ?_; rintro e w2 ⟨rfl, hb2⟩)
  go_ret
  exact ⟨rfl, hb2⟩
set_option maxHeartbeats 2000000 in
theorem eqN1_of (t : Nd) (ih : EqNs t.l) : EqN1 t := by
  intro t' w lo hi lo' hi' x x' hr hhi hr' hhi'
  obtain ⟨o, n, s, v, l⟩ := t
  obtain ⟨o', n', s', v', l'⟩ := t'
  simp only [Nd.l] at ih
  obtain ⟨k, m, z, q, ql, qc, p, cap, rfl, _, _, _, hrv, _, hcap, hall⟩ := hr.open
  obtain ⟨k', m', z', q', ql', qc', p', cap', rfl, _, _, _, hrv', _, hcap', hall'⟩ := hr'.open
  have HE := Lib.hid (show alN (.mk o n s v l) (.mk o' n' s' v' l') = (o == o' && s.toList == s'.toList && eqV v v' && alAll l l') from by rw [alN])
  have HB := Lib.hid (((Below.refl w.heap.size w).alloc (Nat.le_refl _) (.cells #[.int .i64 o, .int .i64 n, .string s, .int .i64 k, .int .i64 m, .string z, .slice q ql qc, .slice p l.length cap] 40)).alloc (by simp) (.cells #[.int .i64 o', .int .i64 n', .string s', .int .i64 k', .int .i64 m', .string z', .slice q' ql' qc', .slice p' l'.length cap'] 40))
  have HX := Lib.hid (heap_alloc_ _ _ (.cells #[.int .i64 o', .int .i64 n', .string s', .int .i64 k', .int .i64 m', .string z', .slice q' ql' qc', .slice p' l'.length cap'] 40) _ (heap_alloc_new w (.cells #[.int .i64 o, .int .i64 n, .string s, .int .i64 k, .int .i64 m, .string z, .slice q ql qc, .slice p l.length cap] 40)))
  have HY := Lib.hid (heap_alloc_new (w.alloc (.cells #[.int .i64 o, .int .i64 n, .string s, .int .i64 k, .int .i64 m, .string z, .slice q ql qc, .slice p l.length cap] 40)) (.cells #[.int .i64 o', .int .i64 n', .string s', .int .i64 k', .int .i64 m', .string z', .slice q' ql' qc', .slice p' l'.length cap'] 40))
  have HV := Lib.hid (eqV1_any v v' _ lo hi lo' hi' _ _ (hrv.below HB.out hhi) (by have := HB.out.size; omega) (hrv'.below HB.out hhi') (by have := HB.out.size; omega))
  have HL := Lib.hid (fun W (hb : Below w.heap.size w W) => ih l' W lo hi lo' hi' p p' cap cap' (hall.below hb hhi) (by have := hb.size; omega) hcap (hall'.below hb hhi') (by have := hb.size; omega))
  clear hr hr' ih hrv hrv' hall hall'
  cases ho1 : (o == o') with
  | false =>
    have HF := Lib.hid (show alN (.mk o n s v l) (.mk o' n' s' v' l') = false from by rw [HE.out, ho1]; simp)
    go_enter Tryd.func37, Tryd.ntmps37
    go_wp2
    go_ret
    exact ⟨ret_bool HF.out.symm, HB.out⟩
  | true =>
    cases hs1 : (s.toList == s'.toList) with
    | false =>
      have HF := Lib.hid (show alN (.mk o n s v l) (.mk o' n' s' v' l') = false from by rw [HE.out, hs1]; simp)
      go_enter Tryd.func37, Tryd.ntmps37
      go_wp2
      go_ret
      exact ⟨ret_bool HF.out.symm, HB.out⟩
    | true =>
      cases hv1 : eqV v v' with
      | false =>
        have HF := Lib.hid (show alN (.mk o n s v l) (.mk o' n' s' v' l') = false from by rw [HE.out, hv1]; simp)
        rw [hv1] at HV
        go_enter Tryd.func37, Tryd.ntmps37
        go_wp2_with (go_at_call 58; refine HV.out.mono ?_; rintro e w2 ⟨rfl, hb2⟩; have HB2 := Lib.hid (HB.out.trans (hb2.mono HB.out.size)); clear hb2)
        go_ret
        exact ⟨ret_bool HF.out.symm, HB2.out⟩
      | true =>
        have HF := Lib.hid (show alN (.mk o n s v l) (.mk o' n' s' v' l') = alAll l l' from by rw [HE.out, ho1, hs1, hv1]; simp)
        rw [hv1] at HV
        go_enter Tryd.func37, Tryd.ntmps37
        go_wp2_with (first
          | (go_at_call 58; refine HV.out.mono ?_; rintro e w2 ⟨rfl, hb2⟩; have HB2 := Lib.hid (HB.out.trans (hb2.mono HB.out.size)); have HX2 := Lib.hid (heap_old HX.out hb2); have HY2 := Lib.hid (heap_old HY.out hb2); rw [World.size_alloc] at HY2; obtain ⟨x0, x1, x2, x3, x4, x5, x6, x7, _⟩ := box8_in _ _ _ _ _ _ _ _ _ _ _ HX2.out; obtain ⟨y0, y1, y2, y3, y4, y5, y6, y7, _⟩ := box8_in _ _ _ _ _ _ _ _ _ _ _ HY2.out; clear hb2)
          | (go_at_call 15; refine (HL.out _ HB2.out).mono ?_; rintro e w3 ⟨rfl, hb3⟩; have HB3 := Lib.hid (HB2.out.trans (hb3.mono HB2.out.size)); clear hb3))
        go_ret
        exact ⟨ret_bool HF.out.symm, HB3.out⟩
theorem eqN1_any : ∀ t : Nd, EqN1 t := Nd.ind_ (fun _ _ _ _ _ ih => eqN1_of _ (eqNs_of _ ih))
theorem eqNs_any (L : List Nd) : EqNs L := eqNs_of L (fun t _ => eqN1_any t)
end Go.Proofs.YtminmadaeaiihaaDoor
namespace Go.Proofs.YtminmadaeaiihaaDoor
open Go.RowKit

theorem calls_round {l n : Nat} {P : Program} {f : FuncId} {args : Array Value} {w : World} {R : Ending → World → Prop} (h : Calls P f args w R) : CallsIn (Fence.wide.inRound l) n P f args w R :=
  CallsIn.inRound l (callsIn_wide.2 h)
theorem wide_deep (l : Nat) : (Fence.wide.inRound l).depth.isSome = true → False := fun h => by simp [go_sem, Fence.wide] at h
theorem oper_round {l n : Nat} {P : Program} {o : Oper} {a : Act} {K : Act → World → Prop} {Q : Exit → Act → World → Prop} : ∀ {r : Result Next}, o.upon P a K Q r → o.uponIn (Fence.wide.inRound l) n P a K Q r
  | .ok (.value _) _, h => h
  | .ok .skip _, h => h
  | .ok (.defer _) _, h => h
  | .ok (.enter _ _) _, h => ⟨fun hd => (wide_deep l hd).elim, calls_round h⟩
  | .ok (.row _ _) _, h => ⟨fun hd => (wide_deep l hd).elim, fun c cs _ => let ⟨v, w', r, s⟩ := h c cs; ⟨v, w', r, stepsIn_wide.2 s⟩⟩
  | .halt (.panic _) _, h => h
theorem any_round {l n : Nat} {P : Program} {ops : Array Oper} {md : Region.Mode} {Q : Exit → Act → World → Prop} (hd : ∀ (i : Nat) (o : Oper), ops[i]? = some o → ∀ c, o.op ≠ .defer c) (hno : ¬ LetsOut Q) : ∀ (fuel : Nat) (listed : Array Bool) (a : Act) (w : World),
    wpAny P md ops Q fuel listed a w → wpAnyIn (Fence.wide.inRound l) n P md ops Q fuel listed a w
  | 0, _, _, _, h => h
  | fuel + 1, listed, a, w, h => ⟨h.1, fun i hi => by
    have h2 := h.2 i hi
    have ih := fun (a' : Act) (w' : World) => any_round (l := l) (n := n) (P := P) (md := md) hd hno fuel (listed.setIfInBounds i true) a' w'
    unfold wpOp at h2
    unfold wpOpIn
    cases ho : ops[i]? with
    | none => rw [ho] at h2; exact ih _ _ h2
    | some o =>
      rw [ho] at h2
      dsimp only at h2 ⊢
      by_cases hw : Region.wanted o (yielded ops a.tmps) = true
      · rw [if_pos hw] at h2 ⊢
        rcases h2 with h2 | ⟨_, h2⟩
        · refine Oper.wpIn_mono ih ⟨fun _ _ => trivial, ?_⟩
          rw [Oper.semAt_plain _ _ _ (hd i o ho)]
          exact oper_round h2
        · exact absurd h2 hno
      · rw [if_neg hw] at h2 ⊢
        exact ⟨fun _ _ => trivial, ih _ _ h2⟩⟩
/-- The region's law: C the class of worlds; each operation yields one value in every world of the class, and leaves one of the class. -/
theorem region_round {ro n : Nat} {P : Program} {C : World → Prop} {id : Nat} {Q : Exit → Act → World → Prop} {a : Act} {w : World} {l : List Oper} (hm : P.follows .mixedOrders = true) (hB : Region.lexB .any l.toArray = true) (hC : C w.drew)
    (hd : ∀ o ∈ l, ∀ c, o.op ≠ .defer c) (h : wpQuiet P l.toArray C (fun a' => ∀ w', C w' → Q .normal a' w') l a) : (Code.region id l.toArray true).wpIn (Fence.wide.inRound ro) n P Q a w := by
  have hno : ¬ LetsOut (fun (e : Exit) (a' : Act) (w' : World) => e = .normal ∧ Q .normal a' w') := fun ⟨_, _, h, _⟩ => by cases h
  have hB2 := hB
  simp only [Region.lexB, Bool.and_eq_true] at hB2
  have h1 := wpAnyQ_lex (C := C) (md := .any) hB2.1 l.toArray.toList 0 (Array.replicate l.toArray.size false) a (by simp) (by simpa using hB2.2) (by simpa using h)
  have h2 : wpAny P .any l.toArray (fun (e : Exit) (a' : Act) (w' : World) => e = .normal ∧ Q .normal a' w') l.toArray.size (Array.replicate l.toArray.size false) a w.drew :=
    wpAny_of_quiet (C := C) (Q := fun a' => ∀ w', C w' → Q .normal a' w') (fun _ w' hw' h => ⟨rfl, h w' hw'⟩) _ _ _ _ hC (by simpa using h1)
  exact wpIn_mono (wpIn_region_any hm (any_round (fun i o ho => hd o (by simpa using Array.mem_of_getElem? ho)) hno _ _ _ _ h2)) (fun e a' w' h => h.1 ▸ h.2)
end Go.Proofs.YtminmadaeaiihaaDoor
namespace Go.Proofs.YtminmadaeaiihaaDoor
open Go.RowKit
set_option maxRecDepth 100000

theorem region_class1 {P : Program} {C : World → Prop} {id : Nat} {Q : Exit → Act → World → Prop} {a : Act} {w : World} {l : List Oper} (hm : P.follows .mixedOrders = true) (hB : Region.lexB .any l.toArray = true) (hC : C w.drew)
    (h : wpQuiet P l.toArray C (fun a' => ∀ w', C w' → Q .normal a' w') l a) : (Code.region id l.toArray true).wp P Q a w :=
  wp_region_quiet hm hB hC (by simpa using h)
def RAl (L : List Nd) : Prop := ∀ (L' : List Nd) (w : World) (lo hi lo' hi' : Nat) (p p' : Option Addr) (cap cap' : Nat), NAll w lo hi L p → hi ≤ w.heap.size → L.length * 112 ≤ 140737488355328 → NAll w lo' hi' L' p' → hi' ≤ w.heap.size →
  Calls Tryd.prog 16 #[.slice p L.length cap, .slice p' L'.length cap'] w fun e w' => e = .returned (.bool (alAll L L')) ∧ Below w.heap.size w w'

set_option maxHeartbeats 4000000 in
theorem ralike_of (L : List Nd) (ih : ∀ t ∈ L, RAl t.l) : RAl L := by
  intro L' w lo hi lo' hi' p p' cap cap' hall hhi hcap hall' hhi'
  have H := Lib.hid ih; clear ih
  have HALL := Lib.hid hall; clear hall
  have HALL' := Lib.hid hall'; clear hall'
  by_cases hlen : L.length = L'.length
  · have hne : ((L.length : Int) != (L'.length : Int)) = false := by simp; omega
    go_enter Tryd.func16, Tryd.ntmps16
    go_wp2
    go_loopw [5] (fun i wr => ∃ j : Nat, j ≤ L.length ∧ i = .int .i64 j ∧ Hid (Below w.heap.size w wr) ∧ Hid (alAll L L' = alAll (L.drop j) (L'.drop j))) (fun i _ => L.length - (intOf i).toNat)
    case atStart => exact ⟨0, Nat.zero_le _, rfl, Lib.hid (Below.refl _ _), Lib.hid rfl⟩
    case round =>
      obtain ⟨j, hj, rfl, HB, HE⟩ := hrel
      have hz := HB.out.size
      by_cases hlt : j < L.length
      · have hlt' : j < L'.length := by omega
        obtain ⟨b1, off1, o1, n1, s1, v1, ll1, k1, m1, z1, q1, ql1, qc1, r1, c1, hp, _, hbhi, hli, x0, x1, x2, x3, x4, x5, x6, x7, hrep⟩ := (HALL.out.below HB.out hhi).item j hlt
        obtain ⟨b2, off2, o2, n2, s2, v2, ll2, k2, m2, z2, q2, ql2, qc2, r2, c2, hp', _, hbhi', hli', y0, y1, y2, y3, y4, y5, y6, y7, hrep'⟩ := (HALL'.out.below HB.out hhi').item j hlt'
        subst hp hp'
        have HST := Lib.hid (show alAll L L' = (alN (.mk o1 n1 s1 v1 ll1) (.mk o2 n2 s2 v2 ll2) && alAll (L.drop (j + 1)) (L'.drop (j + 1))) from by rw [HE.out, alAll_drop L L' j hlt hlt', hli, hli'])
        have hb1 : b1 < wr.heap.size := by omega
        have hb2 : b2 < wr.heap.size := by omega
        have HIH := Lib.hid (H.out _ (List.getElem_mem hlt))
        rw [hli] at HIH hrep
        rw [hli'] at hrep'
        simp only [Nd.l] at HIH
        obtain ⟨_, _, _, hv1, hlc1, hlm1, hn1⟩ := hrep.parts
        obtain ⟨_, _, _, hv2, hlc2, hlm2, hn2⟩ := hrep'.parts
        have HV1 := Lib.hid hv1
        have HV2 := Lib.hid hv2
        have HN1 := Lib.hid hn1
        have HN2 := Lib.hid hn2
        clear hrep hrep' hli hli' hv1 hv2 hn1 hn2 HE
        obtain ⟨Ix, f, hne2, hfx, hcls⟩ : ∃ (Ix : Type) (f : Ix → World), Nonempty Ix ∧ (∀ x, Below wr.heap.size wr (f x)) ∧ ∀ W, Below wr.heap.size wr W → ∃ x, W = f x := ⟨{W : World // Below wr.heap.size wr W}, fun x => x.1, ⟨⟨wr, Below.refl _ _⟩⟩, fun x => x.2, fun W h => ⟨⟨W, h⟩, rfl⟩⟩
        have xx0 : ∀ x, (f x).cell? ⟨b1, off1 + j * 8, none⟩ = some (.int .i64 o1) := fun x => ((hfx x).cell (p := ⟨b1, off1 + j * 8, none⟩) hb1).trans x0
        have xx1 : ∀ x, (f x).cell? ⟨b1, off1 + j * 8 + 1, none⟩ = some (.int .i64 n1) := fun x => ((hfx x).cell (p := ⟨b1, off1 + j * 8 + 1, none⟩) hb1).trans x1
        have xx2 : ∀ x, (f x).cell? ⟨b1, off1 + j * 8 + 2, none⟩ = some (.string s1) := fun x => ((hfx x).cell (p := ⟨b1, off1 + j * 8 + 2, none⟩) hb1).trans x2
        have xx3 : ∀ x, (f x).cell? ⟨b1, off1 + j * 8 + 3, none⟩ = some (.int .i64 k1) := fun x => ((hfx x).cell (p := ⟨b1, off1 + j * 8 + 3, none⟩) hb1).trans x3
        have xx4 : ∀ x, (f x).cell? ⟨b1, off1 + j * 8 + 4, none⟩ = some (.int .i64 m1) := fun x => ((hfx x).cell (p := ⟨b1, off1 + j * 8 + 4, none⟩) hb1).trans x4
        have xx5 : ∀ x, (f x).cell? ⟨b1, off1 + j * 8 + 5, none⟩ = some (.string z1) := fun x => ((hfx x).cell (p := ⟨b1, off1 + j * 8 + 5, none⟩) hb1).trans x5
        have xx6 : ∀ x, (f x).cell? ⟨b1, off1 + j * 8 + 6, none⟩ = some (.slice q1 ql1 qc1) := fun x => ((hfx x).cell (p := ⟨b1, off1 + j * 8 + 6, none⟩) hb1).trans x6
        have xx7 : ∀ x, (f x).cell? ⟨b1, off1 + j * 8 + 7, none⟩ = some (.slice r1 ll1.length c1) := fun x => ((hfx x).cell (p := ⟨b1, off1 + j * 8 + 7, none⟩) hb1).trans x7
        have yy0 : ∀ x, (f x).cell? ⟨b2, off2 + j * 8, none⟩ = some (.int .i64 o2) := fun x => ((hfx x).cell (p := ⟨b2, off2 + j * 8, none⟩) hb2).trans y0
        have yy1 : ∀ x, (f x).cell? ⟨b2, off2 + j * 8 + 1, none⟩ = some (.int .i64 n2) := fun x => ((hfx x).cell (p := ⟨b2, off2 + j * 8 + 1, none⟩) hb2).trans y1
        have yy2 : ∀ x, (f x).cell? ⟨b2, off2 + j * 8 + 2, none⟩ = some (.string s2) := fun x => ((hfx x).cell (p := ⟨b2, off2 + j * 8 + 2, none⟩) hb2).trans y2
        have yy3 : ∀ x, (f x).cell? ⟨b2, off2 + j * 8 + 3, none⟩ = some (.int .i64 k2) := fun x => ((hfx x).cell (p := ⟨b2, off2 + j * 8 + 3, none⟩) hb2).trans y3
        have yy4 : ∀ x, (f x).cell? ⟨b2, off2 + j * 8 + 4, none⟩ = some (.int .i64 m2) := fun x => ((hfx x).cell (p := ⟨b2, off2 + j * 8 + 4, none⟩) hb2).trans y4
        have yy5 : ∀ x, (f x).cell? ⟨b2, off2 + j * 8 + 5, none⟩ = some (.string z2) := fun x => ((hfx x).cell (p := ⟨b2, off2 + j * 8 + 5, none⟩) hb2).trans y5
        have yy6 : ∀ x, (f x).cell? ⟨b2, off2 + j * 8 + 6, none⟩ = some (.slice q2 ql2 qc2) := fun x => ((hfx x).cell (p := ⟨b2, off2 + j * 8 + 6, none⟩) hb2).trans y6
        have yy7 : ∀ x, (f x).cell? ⟨b2, off2 + j * 8 + 7, none⟩ = some (.slice r2 ll2.length c2) := fun x => ((hfx x).cell (p := ⟨b2, off2 + j * 8 + 7, none⟩) hb2).trans y7
        have CSV : Hid (∀ x, Calls Tryd.prog 38 #[.agg #[.int .i64 k1, .int .i64 m1, .string z1, .slice q1 ql1 qc1], .agg #[.int .i64 k2, .int .i64 m2, .string z2, .slice q2 ql2 qc2]] (f x) fun e W => e = .returned (.bool (eqV v1 v2)) ∧ ∃ y, W = f y) := fun x => by
          have hz2 := (hfx x).size
          exact (sameValue_any v1 v2 (f x) lo hi lo' hi' _ _ (HV1.out.below (hfx x) (by omega)) (by omega) (HV2.out.below (hfx x) (by omega)) (by omega)).mono fun e W hh => ⟨hh.1, hcls W ((hfx x).trans (hh.2.mono hz2))⟩
        have CAL : Hid (∀ x, Calls Tryd.prog 16 #[.slice r1 ll1.length c1, .slice r2 ll2.length c2] (f x) fun e W => e = .returned (.bool (alAll ll1 ll2)) ∧ ∃ y, W = f y) := fun x => by
          have hz2 := (hfx x).size
          exact (HIH.out ll2 (f x) lo hi lo' hi' r1 r2 c1 c2 (HN1.out.below (hfx x) (by omega)) (by omega) hlm1 (HN2.out.below (hfx x) (by omega)) (by omega)).mono fun e W hh => ⟨hh.1, hcls W ((hfx x).trans (hh.2.mono hz2))⟩
        have HFX := Lib.hid hfx
        have HCL := Lib.hid hcls
        clear hfx hcls x0 x1 x2 x3 x4 x5 x6 x7 y0 y1 y2 y3 y4 y5 y6 y7 HIH
        obtain ⟨B, hB⟩ : ∃ B, B = eqV v1 v2 := ⟨_, rfl⟩
        rw [← hB] at CSV
        have HBV := Lib.hid hB
        clear hB
        go_upto_region 6 with fail
        go_cut [6] from 18 to 28 (fun c wx => c = .bool B ∧ Hid (∃ y, wx = f y))
        case first =>
          refine region_class1 (C := fun W => ∃ x : Ix, W = f x) (by kernel_rfl) (by kernel_rfl) (HCL.out _ (Below.refl _ _).drew) ?_
          iterate 12 (go_big_quiet_step (first | with_reducible exact CSV.out _))
          refine wpQuiet_nil ?_
          intro W' hw'
          go_wp2
          go_meet
          exact ⟨rfl, hw'⟩
        obtain ⟨rfl, HY⟩ := hcut
        obtain ⟨y0, hy⟩ := HY.out
        subst hy
        obtain ⟨A, hA⟩ : ∃ A, A = alN (.mk o1 n1 s1 v1 ll1) (.mk o2 n2 s2 v2 ll2) := ⟨_, rfl⟩
        have HAN := Lib.hid (show A = (o1 == o2 && s1.toList == s2.toList && B && alAll ll1 ll2) from by rw [hA, alN, HBV.out])
        rw [← hA] at HST
        clear hA HY
        go_upto_region 7 with fail
        go_cut [70] from 29 to 70 (fun c wx => c = .bool (!A) ∧ Hid (∃ y, wx = f y))
        case first =>
          cases B with
          | false =>
            refine region_class1 (C := fun W => ∃ x : Ix, W = f x) (by kernel_rfl) (by kernel_rfl) (HCL.out _ (HFX.out y0).drew) ?_
            iterate 42 (go_big_quiet_step (first | with_reducible exact CAL.out _))
            refine wpQuiet_nil ?_
            intro W' hw'
            go_wp2
            go_meet
            exact ⟨by rw [HAN.out]; simp, hw'⟩
          | true =>
            cases ho : (o1 == o2) with
            | false =>
              have ho2 : (o1 != o2) = true := by simp [bne, ho]
              refine region_class1 (C := fun W => ∃ x : Ix, W = f x) (by kernel_rfl) (by kernel_rfl) (HCL.out _ (HFX.out y0).drew) ?_
              iterate 42 (go_big_quiet_step (first | with_reducible exact CAL.out _))
              refine wpQuiet_nil ?_
              intro W' hw'
              go_wp2
              go_meet
              exact ⟨by rw [HAN.out]; simp [ho], hw'⟩
            | true =>
              have ho2 : (o1 != o2) = false := by simp [bne, ho]
              cases hs : (s1.toList == s2.toList) with
              | false =>
                have hs2 : (s1.toList != s2.toList) = true := by simp [bne, hs]
                refine region_class1 (C := fun W => ∃ x : Ix, W = f x) (by kernel_rfl) (by kernel_rfl) (HCL.out _ (HFX.out y0).drew) ?_
                iterate 42 (go_big_quiet_step (first | with_reducible exact CAL.out _))
                refine wpQuiet_nil ?_
                intro W' hw'
                go_wp2
                go_meet
                exact ⟨by rw [HAN.out]; simp [hs], hw'⟩
              | true =>
                have hs2 : (s1.toList != s2.toList) = false := by simp [bne, hs]
                refine region_class1 (C := fun W => ∃ x : Ix, W = f x) (by kernel_rfl) (by kernel_rfl) (HCL.out _ (HFX.out y0).drew) ?_
                iterate 42 (go_big_quiet_step (first | with_reducible exact CAL.out _))
                refine wpQuiet_nil ?_
                intro W' hw'
                go_wp2
                go_meet
                exact ⟨by rw [HAN.out]; simp [ho, hs], hw'⟩
        obtain ⟨rfl, HY2⟩ := hcut
        obtain ⟨y1, hy⟩ := HY2.out
        subst hy
        have HBW := Lib.hid (HB.out.trans ((HFX.out y1).mono hz))
        cases A with
        | false =>
          go_wp2
          go_ret
          exact ⟨ret_bool (by rw [HST.out]; rfl), HBW.out⟩
        | true =>
          go_wp2
          go_roundw
          case rel => exact ⟨j + 1, by omega, by go_num, HBW, Lib.hid (by rw [HST.out]; rfl)⟩
          case measure => simp [intOf]; omega
      · have hje : j = L.length := by omega
        have HF := Lib.hid (show alAll L L' = true from by rw [HE.out, hje, List.drop_length, hlen, List.drop_length]; rfl)
        go_wp2
        go_ret
        exact ⟨ret_bool (by rw [HF.out]), HB.out⟩
  · have hne : ((L.length : Int) != (L'.length : Int)) = true := by simp; omega
    have HF := Lib.hid (alAll_len L L' hlen)
    go_enter Tryd.func16, Tryd.ntmps16
    go_wp2
    go_ret
    exact ⟨ret_bool (by rw [HF.out]), Below.refl _ _⟩
theorem ralike_any (L : List Nd) : RAl L := by
  have key : ∀ t : Nd, RAl t.l := Nd.ind_ (fun o n s v l ih => ralike_of l ih)
  exact ralike_of L (fun t _ => key t)
end Go.Proofs.YtminmadaeaiihaaDoor
namespace Go.Proofs.YtminmadaeaiihaaDoor
open Go.RowKit

theorem cmpB_lt : ∀ a b : List UInt8, Lib.compareBytes a b < 0 ↔ a < b
  | [], [] => by simp [Lib.compareBytes]
  | [], _ :: _ => by simp [Lib.compareBytes]
  | _ :: _, [] => by simp [Lib.compareBytes]
  | a :: as', b :: bs => by
    unfold Lib.compareBytes
    rw [List.cons_lt_cons_iff]
    by_cases h1 : a < b
    · simp [h1]
    · by_cases h2 : b < a
      · simp [h1, h2]
        intro e; subst e; exact absurd h2 h1
      · have e : a = b := by
          apply UInt8.toNat_inj.1
          have h1' : ¬ a.toNat < b.toNat := fun h => h1 (UInt8.lt_iff_toNat_lt.2 h)
          have h2' : ¬ b.toNat < a.toNat := fun h => h2 (UInt8.lt_iff_toNat_lt.2 h)
          omega
        subst e
        simp [h1, cmpB_lt as' bs]
theorem befB_lt (a b : ByteArray) : befB a b = true ↔ a.data.toList < b.data.toList := by
  unfold befB; rw [decide_eq_true_iff]; exact cmpB_lt _ _
theorem bs_inj {a b : ByteArray} (h : a.data.toList = b.data.toList) : a = b := by cases a; cases b; simp only at h; congr 1; exact Array.toList_inj.1 h
theorem lt_tri (a b : List UInt8) (h1 : ¬ a < b) (h2 : a ≠ b) : b < a := by
  rcases Std.Trichotomous.rel_or_eq_or_rel_swap (r := (· < · : List UInt8 → List UInt8 → Prop)) (a := a) (b := b) with h | h | h
  · exact absurd h h1
  · exact absurd h h2
  · exact h

/-- Rising strictly. -/
abbrev Up (l : List (List UInt8)) : Prop := l.Pairwise (· < ·)
theorem up_same : ∀ (l m : List (List UInt8)), Up l → Up m → (∀ x, x ∈ l ↔ x ∈ m) → l = m
  | [], [], _, _, _ => rfl
  | [], b :: s, _, _, h => absurd ((h b).2 (by simp)) (by simp)
  | a :: r, [], _, _, h => absurd ((h a).1 (by simp)) (by simp)
  | a :: r, b :: s, h1, h2, h => by
    rw [Up, List.pairwise_cons] at h1 h2
    have e : a = b := by
      rcases List.mem_cons.1 ((h a).1 (by simp)) with e | ha
      · exact e
      · rcases List.mem_cons.1 ((h b).2 (by simp)) with e | hb
        · exact e.symm
        · exact absurd (List.lt_trans (h1.1 _ hb) (h2.1 _ ha)) (List.lt_irrefl _)
    subst e
    rw [up_same r s h1.2 h2.2 (fun x => ?_)]
    constructor
    · intro hx
      rcases List.mem_cons.1 ((h x).1 (List.mem_cons_of_mem _ hx)) with e | h3
      · subst e; exact absurd (h1.1 _ hx) (List.lt_irrefl _)
      · exact h3
    · intro hx
      rcases List.mem_cons.1 ((h x).2 (List.mem_cons_of_mem _ hx)) with e | h3
      · subst e; exact absurd (h2.1 _ hx) (List.lt_irrefl _)
      · exact h3

def bsL (l : List ByteArray) : List (List UInt8) := l.map (·.data.toList)
/-- What rises strictly, one text put in its place. -/
theorem insR_up (l : List ByteArray) (x : ByteArray) (h : Up (bsL l)) : Up (bsL (insR l x)) := by
  have hp : ∀ i j (hi : i < l.length) (hj : j < l.length), i < j → l[i].data.toList < l[j].data.toList := by
    intro i j hi hj hij
    have := List.pairwise_iff_getElem.1 h i j (by simpa [bsL] using hi) (by simpa [bsL] using hj) hij
    simpa [bsL] using this
  unfold insR
  split
  · exact h
  · rename_i hne
    have hl : ∀ k (hk : k < l.length), k < posR x l → l[k].data.toList < x.data.toList := fun k hk h2 => (befB_lt _ _).1 (posR_lt x l k hk h2)
    have hr : ∀ k (hk : k < l.length), posR x l ≤ k → x.data.toList < l[k].data.toList := fun k hk h2 => by
      have hpl : posR x l < l.length := by omega
      have h3 : x.data.toList < l[posR x l].data.toList := by
        refine lt_tri _ _ (fun h4 => ?_) (fun h4 => ?_)
        · have := posR_at x l hpl
          rw [(befB_lt _ _).2 h4] at this; cases this
        · exact hne (by rw [List.getElem?_eq_getElem hpl, bs_inj h4])
      rcases Nat.lt_or_ge (posR x l) k with h4 | h4
      · exact List.lt_trans h3 (hp _ _ hpl hk h4)
      · have : k = posR x l := by omega
        subst this; exact h3
    unfold bsL
    rw [List.map_append, List.map_append, Up, List.pairwise_append, List.pairwise_append]
    have ht : (l.take (posR x l)).map (·.data.toList) = (bsL l).take (posR x l) := by rw [bsL, List.map_take]
    have hd : (l.drop (posR x l)).map (·.data.toList) = (bsL l).drop (posR x l) := by rw [bsL, List.map_drop]
    have mt : ∀ y ∈ (l.take (posR x l)).map (·.data.toList), ∃ k, ∃ hk : k < l.length, k < posR x l ∧ y = l[k].data.toList := by
      intro y hy
      obtain ⟨z, hz, rfl⟩ := List.mem_map.1 hy
      obtain ⟨k, hk, rfl⟩ := List.getElem_of_mem hz
      rw [List.length_take] at hk
      exact ⟨k, by omega, by omega, by rw [List.getElem_take]⟩
    have md : ∀ y ∈ (l.drop (posR x l)).map (·.data.toList), ∃ k, ∃ hk : k < l.length, posR x l ≤ k ∧ y = l[k].data.toList := by
      intro y hy
      obtain ⟨z, hz, rfl⟩ := List.mem_map.1 hy
      obtain ⟨k, hk, rfl⟩ := List.getElem_of_mem hz
      rw [List.length_drop] at hk
      exact ⟨posR x l + k, by omega, by omega, by rw [List.getElem_drop]⟩
    refine ⟨⟨by rw [ht]; exact h.take, by simp, fun a ha b hb => ?_⟩, by rw [hd]; exact h.drop, fun a ha b hb => ?_⟩
    · obtain ⟨k, hk, h1, rfl⟩ := mt a ha
      simp at hb; subst hb
      exact hl k hk h1
    · obtain ⟨k, hk, h1, rfl⟩ := md b hb
      rcases List.mem_append.1 ha with ha | ha
      · obtain ⟨k', hk', h1', rfl⟩ := mt a ha
        exact List.lt_trans (hl k' hk' h1') (hr k hk h1)
      · simp at ha; subst ha
        exact hr k hk h1
theorem foldR_up : ∀ (l s : List ByteArray), Up (bsL s) → Up (bsL (l.foldl insR s))
  | [], _, h => h
  | x :: r, s, h => foldR_up r _ (insR_up s x h)
theorem riseR_up (l : List ByteArray) : Up (bsL (riseR l)) := foldR_up l [] List.Pairwise.nil

/-- What is left of a row that rises, of runs the first one each. -/
theorem compactUpTo_step {α : Type} [Inhabited α] [DecidableEq α] (d : Array α) (m : Nat) : Lib.compactUpTo d (m + 1) = Lib.compactUpTo d m ++ (if Lib.keeps d m then [d[m]!] else []) := by
  unfold Lib.compactUpTo
  rw [List.range_succ, List.filter_append, List.map_append]
  congr 1
  by_cases h : Lib.keeps d m = true <;> simp [h]
theorem compactUpTo_up (zs : List (List UInt8)) (hs : zs.Pairwise (· ≤ ·)) : ∀ m, m ≤ zs.length → Up (Lib.compactUpTo zs.toArray m) ∧ ∀ x, x ∈ Lib.compactUpTo zs.toArray m ↔ x ∈ zs.take m
  | 0, _ => by simp [Lib.compactUpTo, Up]
  | m + 1, hm => by
    obtain ⟨h1, h2⟩ := compactUpTo_up zs hs m (by omega)
    have hg : zs.toArray[m]! = zs[m] := by simp [getElem!_pos, show m < zs.length from by omega]
    rw [compactUpTo_step, List.take_succ_eq_append_getElem (by omega), hg]
    by_cases hk : Lib.keeps zs.toArray m = true
    · rw [if_pos hk]
      refine ⟨?_, fun x => by rw [List.mem_append, List.mem_append, h2 x]⟩
      rw [Up, List.pairwise_append]
      refine ⟨h1, by simp, fun a ha b hb => ?_⟩
      simp at hb; subst hb
      have ha := (h2 a).1 ha
      have hm0 : 0 < m := by
        rcases Nat.eq_zero_or_pos m with h | h
        · subst h; simp at ha
        · exact h
      have hpr : zs.toArray[m - 1]! = zs[m - 1] := by simp [getElem!_pos, show m - 1 < zs.length from by omega]
      have hne : zs[m] ≠ zs[m - 1] := by
        unfold Lib.keeps at hk
        rw [decide_eq_true_iff, hg, hpr] at hk
        rcases hk with hk | hk
        · omega
        · exact hk
      have hle := List.pairwise_iff_getElem.1 hs (m - 1) m (by omega) (by omega) (by omega)
      have hlt : zs[m - 1] < zs[m] := lt_tri _ _ hle hne
      obtain ⟨i, hi, rfl⟩ := List.getElem_of_mem ha
      rw [List.length_take] at hi
      rw [List.getElem_take]
      rcases Nat.lt_or_ge i (m - 1) with h | h
      · have := List.pairwise_iff_getElem.1 hs i (m - 1) (by omega) (by omega) h
        exact List.lt_of_le_of_lt this hlt
      · have e : i = m - 1 := by omega
        subst e; exact hlt
    · rw [if_neg hk, List.append_nil]
      refine ⟨h1, fun x => ?_⟩
      have hm0 : 0 < m := by
        rcases Nat.eq_zero_or_pos m with h | h
        · subst h; exact absurd (by simp [Lib.keeps]) hk
        · exact h
      have hpr : zs.toArray[m - 1]! = zs[m - 1] := by simp [getElem!_pos, show m - 1 < zs.length from by omega]
      have he : zs[m] = zs[m - 1] := by
        unfold Lib.keeps at hk
        rw [decide_eq_true_iff, hg, hpr] at hk
        exact Classical.byContradiction fun h => hk (.inr h)
      rw [h2, List.mem_append, List.mem_singleton]
      constructor
      · exact .inl
      · rintro (h | h)
        · exact h
        · rw [h, he]
          refine List.mem_of_getElem? (i := m - 1) ?_
          rw [List.getElem?_take, if_pos (by omega), List.getElem?_eq_getElem (by omega)]
theorem sorted_up (l : List (List UInt8)) : (l.mergeSort fun x y => decide (x ≤ y)).Pairwise (· ≤ ·) := by
  have h := List.pairwise_mergeSort (le := fun x y : List UInt8 => decide (x ≤ y)) (fun a b c h1 h2 => by simp only [decide_eq_true_iff] at *; exact List.le_trans h1 h2) (fun a b => by simp only [Bool.or_eq_true, decide_eq_true_iff]; exact List.le_total a b) l
  exact h.imp (fun h => by simpa using h)
/-- The library's way and the document's are one, where the texts are the same. -/
theorem vars_one (l m : List ByteArray) (h : ∀ x, x ∈ l ↔ x ∈ m) : Lib.compact ((bsL l).mergeSort fun x y => decide (x ≤ y)) = bsL (riseR m) := by
  have h1 := compactUpTo_up _ (sorted_up (bsL l)) _ (Nat.le_refl _)
  unfold Lib.compact
  refine up_same _ _ h1.1 (riseR_up m) (fun x => ?_)
  rw [h1.2, List.take_length, List.mem_mergeSort]
  unfold bsL
  simp only [List.mem_map]
  constructor
  · rintro ⟨y, hy, rfl⟩; exact ⟨y, (mem_riseR m y).2 ((h y).1 hy), rfl⟩
  · rintro ⟨y, hy, rfl⟩; exact ⟨y, (h y).2 ((mem_riseR m y).1 hy), rfl⟩
end Go.Proofs.YtminmadaeaiihaaDoor
namespace Go.Proofs.YtminmadaeaiihaaDoor
open Go.RowKit
set_option maxRecDepth 100000

def RCountOk (L : List Nd) : Prop := ∀ (w : World) (lo hi : Nat) (p : Option Addr) (cap : Nat), NAll w lo hi L p → L.length ≤ cap → L.length * 112 ≤ 140737488355328 → hi ≤ w.heap.size → cntAll L ≤ 1000000 →
  Calls Tryd.prog 9 #[.slice p L.length cap] w fun e w' => e = .returned (.int .i64 (cntAll L : Int)) ∧ Below w.heap.size w w'
set_option maxHeartbeats 1000000 in
theorem rcount_of (L : List Nd) (ih : ∀ t ∈ L, RCountOk t.l) : RCountOk L := by
  intro w lo hi p cap hall hlc hcap hhi hN
  have H := Lib.hid ih; clear ih
  have HALL := Lib.hid hall; clear hall
  go_enter Tryd.func9, Tryd.ntmps9
  go_wp2
  go_loopw [3, 4] (fun o i wr => ∃ (j : Nat), j ≤ L.length ∧ i = .int .i64 j ∧ o = .int .i64 (cntAll (L.take j) : Int) ∧ Hid (Below w.heap.size w wr)) (fun _ i _ => L.length - (intOf i).toNat)
  case atStart => exact ⟨0, Nat.zero_le _, rfl, by simp [cntAll], Lib.hid (Below.refl _ _)⟩
  case round =>
    obtain ⟨j, hj, rfl, rfl, HB⟩ := hrel
    have hz := HB.out.size
    by_cases hlt : j < L.length
    · obtain ⟨b, off, o, n, s, v, ll, k, m, z, q1, ql, qc, r, c1, hp, _, hbhi, hli, h0, h1, h2, h3, h4, h5, h6, h7, hrep⟩ := (HALL.out.below HB.out hhi).item j hlt
      subst hp
      have hsp := cntAll_split L j hlt
      have hle := cntAll_take_le L (j + 1)
      have hcl : cnt L[j] = 1 + cntAll ll := by rw [hli, cnt]
      have hbw : b < wr.heap.size := by omega
      have HC := Lib.hid (show Calls Tryd.prog 9 #[.slice r ll.length c1] wr fun e w' => e = .returned (.int .i64 (cntAll ll : Int)) ∧ Below wr.heap.size wr w' from by
        have hx := H.out _ (List.getElem_mem hlt)
        rw [hli] at hx hrep
        obtain ⟨_, _, _, _, g1, g2, g3⟩ := hrep.parts
        exact hx wr lo hi r c1 g3 g1 g2 (by omega) (by simp only [Nd.l]; omega))
      have hc1 : (cntAll (L.take j) : Int) + 1 + (cntAll ll : Int) = (cntAll (L.take (j + 1)) : Int) := by omega
      have hc2 : (cntAll (L.take j) : Int) ≤ 1000000 := by omega
      have hc3 : (cntAll ll : Int) ≤ 1000000 := by omega
      have HE := Lib.hid hc1
      clear hrep hli hsp hle hcl hc1
      go_wp2_with (go_at_call 9; refine HC.out.mono ?_; rintro e w2 ⟨rfl, hb2⟩; have HB2 := Lib.hid (HB.out.trans (hb2.mono hz)); clear hb2)
      go_roundw
      case rel => exact ⟨j + 1, by omega, by go_num, by rw [← HE.out], HB2⟩
      case measure => simp [intOf]; omega
    · have hje : j = L.length := by omega
      subst hje
      go_wp2
      go_ret
      exact ⟨by simp, HB.out⟩
theorem rcount_any (L : List Nd) : RCountOk L := by
  have key : ∀ t : Nd, RCountOk t.l := Nd.ind_ (fun o n s v l ih => rcount_of l ih)
  exact rcount_of L (fun t _ => key t)

set_option maxHeartbeats 1000000 in
/-- The document's equality of texts, of the same ones. -/
theorem sameTexts_any (ss : List ByteArray) (p p' : Option Addr) (c c' : Nat) (w : World) (h : TRow w w.heap.size p ss) (h' : TRow w w.heap.size p' ss) (hl : ss.length ≤ 1000000) :
    Calls Tryd.prog 12 #[.slice p ss.length c, .slice p' ss.length c'] w fun e w' => e = .returned (.bool true) ∧ Dr w w' := by
  have H := Lib.hid h
  have H' := Lib.hid h'
  have hne : ((ss.length : Int) != (ss.length : Int)) = false := by simp
  clear h h'
  go_enter Tryd.func12, Tryd.ntmps12
  go_wp2
  go_loopw [5] (fun i wr => ∃ j : Nat, j ≤ ss.length ∧ i = .int .i64 j ∧ Hid (Dr w wr)) (fun i _ => ss.length - (intOf i).toNat)
  case atStart => exact ⟨0, Nat.zero_le _, rfl, Lib.hid ⟨0, rfl⟩⟩
  case round =>
    obtain ⟨j, hj, rfl, HD⟩ := hrel
    obtain ⟨e0, e1⟩ := drew_cells HD.out
    by_cases hlt : j < ss.length
    · obtain ⟨b, off, hp, _, hc⟩ := H.out.at_ j hlt
      obtain ⟨b', off', hp', _, hc'⟩ := H'.out.at_ j hlt
      subst hp hp'
      have h0 := (e0 ⟨b, off + j, none⟩).trans hc
      have h0' := (e0 ⟨b', off' + j, none⟩).trans hc'
      obtain ⟨x, hx⟩ : ∃ x, x = ss[j] := ⟨_, rfl⟩
      rw [← hx] at h0 h0'
      have hxx : (x.toList == x.toList) = true := by simp
      clear hc hc' e0 e1 hx
      go_wp2
      go_quiet (fail)
      go_wp2
      go_roundw
      case rel => exact ⟨j + 1, by omega, by go_num, Lib.hid (drew_more HD.out _)⟩
      case measure => simp [intOf]; omega
    · go_wp2
      go_ret
      exact ⟨rfl, HD.out⟩
end Go.Proofs.YtminmadaeaiihaaDoor
namespace Go.Proofs.YtminmadaeaiihaaDoor
open Go.RowKit

/-- What lay from s on lies as it lay, but for blocks of the kind M. -/
def KeptM (M : Obj → Prop) (s : Nat) (X Y : World) : Prop := X.heap.size ≤ Y.heap.size ∧ ∀ b, s ≤ b → b < X.heap.size → (∀ o, X.heap[b]? = some o → ¬ M o) → Y.heap[b]? = X.heap[b]?
theorem KeptM.refl (M : Obj → Prop) (s : Nat) (X : World) : KeptM M s X X := ⟨Nat.le_refl _, fun _ _ _ _ => rfl⟩
theorem KeptM.trans {M : Obj → Prop} {s : Nat} {X Y Z : World} (h : KeptM M s X Y) (h2 : KeptM M s Y Z) : KeptM M s X Z := ⟨Nat.le_trans h.1 h2.1, fun b h3 h4 h5 => (h2.2 b h3 (Nat.lt_of_lt_of_le h4 h.1) (fun o ho => h5 o (by rw [← h.2 b h3 h4 h5]; exact ho))).trans (h.2 b h3 h4 h5)⟩
theorem KeptM.of_below {M : Obj → Prop} {s : Nat} {X Y : World} (h : Below X.heap.size X Y) : KeptM M s X Y := ⟨h.size, fun b _ h4 _ => h.block b h4⟩
theorem KeptM.setCell (M : Obj → Prop) (s : Nat) (X : World) {p : Addr} (hp : p.block < s) (v : Value) : KeptM M s X (X.setCell p v) := ⟨by simp, fun b h3 _ _ => Below.heap_setCell _ _ _ _ (by omega)⟩
theorem KeptM.alloc (M : Obj → Prop) (s : Nat) (X : World) (o : Obj) : KeptM M s X (X.alloc o) := .of_below ((Below.refl _ X).alloc (Nat.le_refl _) o)
/-- Only the blocks s and s + 1 turn, and new ones come. -/
structure Grew (s : Nat) (X Y : World) : Prop where
  os : Y.os = X.os
  tape : Y.tape = X.tape
  output : Y.output = X.output
  size : X.heap.size ≤ Y.heap.size
  block : ∀ k, k < X.heap.size → k ≠ s → k ≠ s + 1 → Y.heap[k]? = X.heap[k]?
theorem Grew.of_below {s : Nat} {X Y : World} (h : Below X.heap.size X Y) : Grew s X Y := ⟨h.os, h.tape, h.output, h.size, fun k hk _ _ => h.block k hk⟩
theorem Grew.put {s l : Nat} (X : World) (h : l = s ∨ l = s + 1) (o : Obj) : Grew s X (X.putObj l o) := ⟨rfl, rfl, rfl, by simp, fun k _ h1 h2 => World.putObj_heap_other (by omega)⟩
theorem Grew.below {s : Nat} {X Y : World} (h : Grew s X Y) {B : Nat} (hB : B ≤ s) (hX : B ≤ X.heap.size) : Below B X Y := ⟨h.os, h.tape, h.output, h.size, fun k hk => h.block k (by omega) (by omega) (by omega)⟩

/-- What an iterator promises: round j (of N) is handed values of which H speaks, in the world in which it is called, made in blocks from b on, which were new behind a state of the caller's; J tells what the caller keeps from round to round, Kw what the iterator wants to find of it. A round that goes on keeps what lies beyond the loop's start. -/
def HandsM (M : Obj → Prop) (F : Fence) (n : Nat) (P : Program) (gf : Nat) (lb : Array Value) (H : Nat → Array Value → Nat → World → Prop) (N : Nat) (Kw : World → Prop) : Prop :=
  ∀ (l : Nat) (J : Nat → World → Prop) (Jx : World → Prop) (W : World), (∀ j X Y, J j X → Below X.heap.size X Y → J j Y) → (∀ j X, J j X → Kw X) →
    (∀ j xs b X, J j X → (∃ X0, J j X0 ∧ X0.heap.size = b) → j < N → H j xs b X → YieldAt F (n - 1) P l xs X fun e Y => (e = .returned (.bool true) ∧ J (j + 1) Y ∧ KeptM M W.heap.size X Y) ∨ (e = .returned (.bool false) ∧ Jx Y)) →
    J 0 W → CallsIn F n P gf (#[.func (.yield l) #[] #[]] ++ lb) W fun e Y => (∃ v, e = .returned v) ∧ (J N Y ∨ Jx Y)

/-- How a round's body may be left. -/
def RoundPostM (M : Obj → Prop) (s : Nat) (I : World → Prop) (Ix : Code → World → Prop) (X : World) : Exit → Act → World → Prop
  | .normal, _, Y => KeptM M s X Y ∧ I Y
  | .ret, _, Y => KeptM M s X Y ∧ Ix .ret Y
  | .exit id, _, Y => KeptM M s X Y ∧ Ix (.exit id) Y
  | _, _, _ => False
/-- What is asked behind the assignments to the loop's variables: the body, from whatever the record is turned to. -/
def AssignPostM (M : Obj → Prop) (F : Fence) (n : Nat) (P : Program) (s : Nat) (body : Code) (I : World → Prop) (Ix : Code → World → Prop) (X : World) (a : Act) (Y : World) : Prop :=
  KeptM M s X Y ∧ ∀ r : Loop, body.wpIn (F.inRound (s + 1)) n P (RoundPostM M s I Ix (Y.putObj (s + 1) (.loop r))) a (Y.putObj (s + 1) (.loop r))

theorem range_keepsM {M : Obj → Prop} (hMl : ∀ r, ¬ M (.loop r)) (hMd : ∀ r, ¬ M (.deferred r)) {F : Fence} {n : Nat} {P : Program} {g : Operand} {ps : Array Tmp} {assign body : Code} {Q : Exit → Act → World → Prop} {a : Act} {w : World}
    (hro : F.round = none) (h1 : 1 ≤ n) {gf : Nat} {lb : Array Value} (hg : a.eval g = .func (.func gf) #[] lb) (hFg : F.fn gf) (eg : ∀ args w, (callFunc gf args).run P w = .ok (.enter gf args) w)
    {H : Nat → Array Value → Nat → World → Prop} {N : Nat} {Kw : World → Prop} (hseq : HandsM M F (n - 1) P gf lb H N Kw) (hps : ∀ j xs b X, H j xs b X → xs.size = ps.size)
    (I : Nat → World → Prop) (Ix : Code → World → Prop) (hI : ∀ j X Y, I j X → Grew w.heap.size X Y → I j Y) (hIx : ∀ c X Y, Ix c X → Grew w.heap.size X Y → Ix c Y) (hKw : ∀ j X, I j X → Kw X) (h0 : I 0 w)
    (hround : ∀ j xs b X, j < N → I j X → H j xs b X → w.heap.size + 1 < b → w.heap.size + 1 < X.heap.size →
      assign.wpIn (F.inRound (w.heap.size + 1)) (n - 1 - 1) P (Exit.then (AssignPostM M F (n - 1 - 1) P w.heap.size body (I (j + 1)) Ix X) (fun _ _ _ => False)) { tmps := (ps.zip xs).foldl (fun t (p, v) => t.setIfInBounds p v) a.tmps, defers := [] } X)
    (hdone : ∀ Y, I N Y → Y.heap[w.heap.size]? = some (.deferred (some [])) → Q .normal { a with defers := { target := .collected w.heap.size, args := #[] } :: a.defers } Y)
    (hstop : ∀ c Y, Ix c Y → Y.heap[w.heap.size]? = some (.deferred (some [])) → c.wpIn F n P Q { a with defers := { target := .collected w.heap.size, args := #[] } :: a.defers } Y) :
    (Code.rangeFunc g ps assign body).wpIn F n P Q a w := by
  refine wpIn_rangeFunc ?_
  intro fn hfn
  rw [hro]
  obtain ⟨rc, hrc⟩ : ∃ rc : LoopState → Option Code → Loop, rc = fun st pe => { state := st, pending := pe, fn, tmps := a.tmps, params := ps, assign, body, defers := w.heap.size } := ⟨_, rfl⟩
  obtain ⟨W1, hW1⟩ : ∃ W1, (w.alloc (.deferred (some []))).alloc (.loop (rc .ready none)) = W1 := ⟨_, rfl⟩
  have hb1 : Below w.heap.size w W1 := by rw [← hW1]; exact ((Below.refl _ w).alloc (Nat.le_refl _) _).alloc (by simp) _
  have hb1' : Below w.heap.size w W1 := hb1
  have hs1 : W1.heap.size = w.heap.size + 2 := by rw [← hW1]; simp
  have hL1 : W1.heap[w.heap.size + 1]? = some (.loop (rc .ready none)) := by
    rw [← hW1]; have := World.alloc_heap_new (w.alloc (.deferred (some []))) (.loop (rc .ready none)); rwa [World.size_alloc] at this
  have hD1 : W1.heap[w.heap.size]? = some (.deferred (some [])) := by
    rw [← hW1]; exact (Below.heap_alloc _ _ _ (by simp)).trans (World.alloc_heap_new w _)
  refine ⟨w.heap.size + 1, [{ target := .collected w.heap.size, args := #[] }], W1, { target := .fn (.func gf) lb, args := #[.func (.yield (w.heap.size + 1)) #[] #[]] }, W1, gf, #[.func (.yield (w.heap.size + 1)) #[] #[]] ++ lb, W1, ?_, ?_, ?_, ?_, fun _ => h1, ?_⟩
  · rw [← hW1, hrc]; exact run_enterLoop_outer _ _ _ _ _
  · simp only [resolve, hg]
    simp [go_sem]
  · intro f' hf'; simp [Target.leads] at hf'; subst hf'; exact hFg
  · simp [invoke, go_sem, eg]
  generalize hsd : w.heap.size = s at *
  refine (hseq (s + 1) (fun j X => I j X ∧ X.heap[s + 1]? = some (.loop (rc .ready none)) ∧ X.heap[s]? = some (.deferred (some [])) ∧ s + 1 < X.heap.size)
    (fun X => ∃ c, Ix c X ∧ X.heap[s + 1]? = some (.loop (rc .done (some c))) ∧ X.heap[s]? = some (.deferred (some [])) ∧ s + 1 < X.heap.size) W1
    (fun j X Y h hb => ⟨hI j X Y h.1 (.of_below hb), (hb.block _ h.2.2.2).trans h.2.1, (hb.block _ (by have := h.2.2.2; omega)).trans h.2.2.1, Nat.lt_of_lt_of_le h.2.2.2 hb.size⟩)
    (fun j X h => hKw j X h.1) ?_ ⟨hI 0 _ _ h0 (.of_below (hsd ▸ hb1')), hL1, hD1, by omega⟩).mono ?_
  · rintro j xs b X ⟨hi, hl, hd, hlt⟩ ⟨X0, ⟨_, _, _, hlt0⟩, hX0⟩ hj hx
    have hy := run_yield (P := P) (args := xs) hl (by rw [hrc]; exact hps j xs b X hx)
    rw [hrc] at hy
    refine ⟨fn, _, assign, body, hy, roundIn_of_wpIn hfn (wpIn_mono (hround j xs b X hj hi hx (hX0 ▸ hlt0) hlt) ?_)⟩
    clear hy
    intro e a₁ Y hpost
    cases e with
    | normal =>
      obtain ⟨hk, hbody⟩ := hpost
      have hkA := hk
      have hk1 := hk.1
      have hk2 := hk.2 s (Nat.le_refl _) (by omega) (fun o ho => by rw [hd] at ho; cases ho; exact hMd _)
      have hk3 := hk.2 (s + 1) (by omega) hlt (fun o ho => by rw [hl] at ho; cases ho; exact hMl _)
      have hlY := hk3.trans hl
      have hdY := hk2.trans hd
      have hltY : s + 1 < Y.heap.size := by omega
      refine ⟨_, run_beginRound hlY (by rw [hrc]), ?_⟩
      have hl2 : (Y.putObj (s + 1) (.loop { rc .ready none with state := .busy })).heap[s + 1]? = some (.loop { rc .ready none with state := .busy }) := World.putObj_heap_same hltY
      have hd2 : (Y.putObj (s + 1) (.loop { rc .ready none with state := .busy })).heap[s]? = some (.deferred (some [])) := (World.putObj_heap_other (by omega)).trans hdY
      have hz2 : (Y.putObj (s + 1) (.loop { rc .ready none with state := .busy })).heap.size = Y.heap.size := by simp
      refine wpIn_mono (hbody _) ?_
      have fin : ∀ (jump : Option Code) (Z : World), KeptM M s (Y.putObj (s + 1) (.loop { rc .ready none with state := .busy })) Z →
          (Instr.endRound (s + 1) jump).run P Z = .ok (.bool jump.isNone) (Z.putObj (s + 1) (.loop (rc (if jump.isNone then .ready else .done) jump))) ∧ s + 1 < Z.heap.size ∧ Z.heap[s]? = some (.deferred (some [])) := fun jump Z hz => by
        have hl3 := (hz.2 (s + 1) (by omega) (by omega) (fun o ho => by rw [hl2] at ho; cases ho; exact hMl _)).trans hl2
        have hr := run_endRound (P := P) jump hl3
        rw [hrc] at hr ⊢
        exact ⟨hr, by have := hz.1; omega, (hz.2 s (Nat.le_refl _) (by omega) (fun o ho => by rw [hd2] at ho; cases ho; exact hMd _)).trans hd2⟩
      have back : ∀ (jump : Option Code) (Z : World), s + 1 < Z.heap.size → Z.heap[s]? = some (.deferred (some [])) → ∀ st,
          Grew s Z (Z.putObj (s + 1) (.loop (rc st jump))) ∧ (Z.putObj (s + 1) (.loop (rc st jump))).heap[s + 1]? = some (.loop (rc st jump)) ∧ (Z.putObj (s + 1) (.loop (rc st jump))).heap[s]? = some (.deferred (some [])) ∧ s + 1 < (Z.putObj (s + 1) (.loop (rc st jump))).heap.size :=
        fun jump Z hz hd3 st => ⟨Grew.put Z (.inr rfl) _, World.putObj_heap_same hz, (World.putObj_heap_other (by omega)).trans hd3, by simpa using hz⟩
      rintro e a3 Z hp
      cases e with
      | normal =>
        obtain ⟨hk, hi3⟩ := hp
        obtain ⟨hr, hz, hd3⟩ := fin none Z hk
        obtain ⟨b1, b2, b3, b4⟩ := back none Z hz hd3 .ready
        exact ⟨_, _, hr, .inl ⟨rfl, ⟨hI _ _ _ hi3 b1, b2, b3, b4⟩, by
          rw [hs1]
          refine ⟨by have := hk.1; simp at this ⊢; omega, fun b h3 h4 h5 => ?_⟩
          exact (World.putObj_heap_other (by omega)).trans ((hk.2 b (by omega) (by simp; omega) (fun o ho => h5 o (by rw [World.putObj_heap_other (by omega)] at ho; rw [← hkA.2 b (by omega) h4 h5]; exact ho))).trans ((World.putObj_heap_other (by omega)).trans (hkA.2 b (by omega) h4 h5)))⟩⟩
      | ret =>
        obtain ⟨hk, hi3⟩ := hp
        obtain ⟨hr, hz, hd3⟩ := fin (some .ret) Z hk
        obtain ⟨b1, b2, b3, b4⟩ := back (some .ret) Z hz hd3 .done
        exact ⟨_, _, hr, .inr ⟨rfl, .ret, hIx _ _ _ hi3 b1, b2, b3, b4⟩⟩
      | exit id =>
        obtain ⟨hk, hi3⟩ := hp
        obtain ⟨hr, hz, hd3⟩ := fin (some (.exit id)) Z hk
        obtain ⟨b1, b2, b3, b4⟩ := back (some (.exit id)) Z hz hd3 .done
        exact ⟨_, _, hr, .inr ⟨rfl, .exit id, hIx _ _ _ hi3 b1, b2, b3, b4⟩⟩
      | goto t => exact hp.elim
      | panic ch => exact hp.elim
      | outgrown => exact hp.elim
    | exit id => exact hpost.elim
    | goto t => exact hpost.elim
    | ret => exact hpost.elim
    | panic ch => exact hpost.elim
    | outgrown => exact hpost.elim
  · rintro e Y ⟨⟨v, rfl⟩, (⟨hi, hl, hd, hlt⟩ | ⟨c, hi, hl, hd, hlt⟩)⟩
    · refine ⟨none, _, by have := run_endLoop (P := P) hl (by rw [hrc]; simp); rw [hrc] at this; exact this, hdone _ (hI _ _ _ hi (Grew.put Y (.inr rfl) _)) ((World.putObj_heap_other (by omega)).trans hd)⟩
    · refine ⟨some c, _, by have := run_endLoop (P := P) hl (by rw [hrc]; simp); rw [hrc] at this; exact this, hstop c _ (hIx _ _ _ hi (Grew.put Y (.inr rfl) _)) ((World.putObj_heap_other (by omega)).trans hd)⟩
end Go.Proofs.YtminmadaeaiihaaDoor
namespace Go.Proofs.YtminmadaeaiihaaDoor
open Go.RowKit
set_option maxRecDepth 100000
attribute [local go_sem] Oper.semAt_some

/-- A row of texts. -/
def StrRow (o : Obj) : Prop := ∃ cs fr, o = .cells cs 9 fr
/-- What a walk may ask of its yield: it is handed the nodes of Fl in their order. -/
structure YOkM (W0 : World) (lo hi l b0 : Nat) (Fl : List Nd) (J : Nat → World → Prop) (Jx : World → Prop) : Prop where
  st : ∀ j X Y, J j X → Below X.heap.size X Y → J j Y
  kc : ∀ j X, J j X → KeepC W0 lo hi X
  y : ∀ (m j : Nat) (hj : j < Fl.length) (v : Value) (X : World), J j X → NRep X lo hi Fl[j] v → YieldAt Fence.wide m Tryd.prog l #[v] X fun e Y => (e = .returned (.bool true) ∧ J (j + 1) Y ∧ KeptM StrRow b0 X Y) ∨ (e = .returned (.bool false) ∧ Jx Y)
def WalkOkM (L : List Nd) : Prop := ∀ (W0 : World) (lo hi l b0 : Nat) (Fl : List Nd) (J : Nat → World → Prop) (Jx : World → Prop), YOkM W0 lo hi l b0 Fl J Jx → ∀ (pre rest : List Nd) (p : Option Addr) (cap : Nat) (X : World),
  NAll W0 lo hi L p → Fl = pre ++ (flatL L ++ rest) → b0 ≤ X.heap.size → L.length ≤ cap → L.length * 112 ≤ 140737488355328 → J pre.length X →
  Calls Tryd.prog 54 #[.slice p L.length cap, .func (.yield l) #[] #[]] X fun e Y => (e = .returned (.bool true) ∧ J (pre.length + cntAll L) Y ∧ KeptM StrRow b0 X Y) ∨ (e = .returned (.bool false) ∧ Jx Y)

set_option maxHeartbeats 2000000 in
theorem walkM_of (L : List Nd) (ih : ∀ t ∈ L, WalkOkM t.l) : WalkOkM L := by
  intro W0 lo hi l b0 Fl J Jx hYO pre rest p cap X hall hFl hb0 hlc hcap hJ0
  have HIH := Lib.hid ih
  have HY := Lib.hid hYO
  have HA := Lib.hid hall
  have HF := Lib.hid hFl
  have H0 := Lib.hid hJ0
  clear ih hYO hall hFl hJ0
  refine (callsIn_wide (n := 8)).1 ?_
  refine callsIn_of_wp Tryd.func54 rfl trivial ?_ rfl
  simp only [Tryd.ntmps54, List.size_toArray, List.length_cons, List.length_nil, Nat.reduceAdd, Nat.reduceSub, Array.replicate_succ, Array.replicate_zero, List.push_toArray, List.append_toArray, List.nil_append, List.cons_append]
  gi_wp2
  gi_loopw [9] (fun i wr => ∃ j : Nat, j ≤ L.length ∧ i = .int .i64 j ∧ Hid (J (pre.length + cntAll (L.take j)) wr) ∧ Hid (KeptM StrRow b0 X wr)) (fun i _ => L.length - (intOf i).toNat)
  case atStart => exact ⟨0, Nat.zero_le _, rfl, by simpa [cntAll] using H0, Lib.hid (KeptM.refl _ _ _)⟩
  case round =>
    obtain ⟨j, hj, rfl, HJj, HKj⟩ := hrel
    by_cases hlj : j < L.length
    · have hkc := HY.out.kc _ _ HJj.out
      have hallr : NAll wr lo hi L p := HA.out.keep (Nat.le_refl _) (Nat.le_refl _) hkc.2
      obtain ⟨b, off, o, n, s, v, ll, k, m, z, q, ql, qc, r, c, hp, _, hbhi, hli, h0, h1, h2, h3, h4, h5, h6, h7, hrep⟩ := hallr.item j hlj
      have hle := hkc.1
      have hbw : b < wr.heap.size := by omega
      have hmem : L[j] ∈ L := List.getElem_mem hlj
      have hih := HIH.out _ hmem
      have hsp := cntAll_split L j hlj
      rw [hli] at hih hsp
      -- where the nodes lie in the row of all
      obtain ⟨pr2, hpr2⟩ : ∃ pr2, pr2 = pre ++ flatL (L.take j) := ⟨_, rfl⟩
      obtain ⟨re2, hre2⟩ : ∃ re2, re2 = flatL (L.drop (j + 1)) ++ rest := ⟨_, rfl⟩
      have hF2 : Fl = pr2 ++ (.mk o n s v ll :: (flatL ll ++ re2)) := by
        rw [HF.out, hpr2, hre2]
        conv => lhs; rw [← List.take_append_drop j L, List.drop_eq_getElem_cons hlj, hli]
        rw [flatL_app, flatL, flatN]
        simp
      have hp2 : pr2.length = pre.length + cntAll (L.take j) := by rw [hpr2, List.length_append, flatL_len]
      have hjl : pr2.length < Fl.length := by rw [hF2]; simp
      have hget : Fl[pr2.length] = .mk o n s v ll := by simp [hF2]
      rw [← hp2] at HJj
      subst hp
      obtain ⟨b0g, hb0g⟩ : ∃ g, g = wr.heap.size := ⟨_, rfl⟩
      have HBW := Lib.hid ((Below.refl wr.heap.size wr).alloc (Nat.le_refl _) (.cells #[.int .i64 o, .int .i64 n, .string s, .int .i64 k, .int .i64 m, .string z, .slice q ql qc, .slice r ll.length c] 40))
      have HX1 := Lib.hid (heap_alloc_new wr (.cells #[.int .i64 o, .int .i64 n, .string s, .int .i64 k, .int .i64 m, .string z, .slice q ql qc, .slice r ll.length c] 40))
      have hJ1 := HY.out.st _ _ _ HJj.out HBW.out
      have hr1 : NRep (wr.alloc (.cells #[.int .i64 o, .int .i64 n, .string s, .int .i64 k, .int .i64 m, .string z, .slice q ql qc, .slice r ll.length c] 40)) lo hi Fl[pr2.length] (.agg #[.int .i64 o, .int .i64 n, .string s, .int .i64 k, .int .i64 m, .string z, .slice q ql qc, .slice r ll.length c]) := by
        rw [hget, ← hli]; exact hrep.alloc hle _
      obtain ⟨fn, tmps, assign, body, hy, hR⟩ := HY.out.y (8 - 1) pr2.length hjl _ _ hJ1 hr1
      have HLL : Hid (NAll W0 lo hi ll r ∧ ll.length ≤ c ∧ ll.length * 112 ≤ 140737488355328) := by
        have := hrep
        rw [hli] at this
        obtain ⟨k', m', z', q', ql', qc', r', c', hx, _, _, _, _, e1, e2, e3⟩ := this.open
        simp only [Value.agg.injEq, Array.mk.injEq, List.cons.injEq, and_true, Value.slice.injEq] at hx
        obtain ⟨_, _, _, _, _, _, _, rfl, _, rfl⟩ := hx
        exact Lib.hid ⟨e3.keep (Nat.le_refl _) (Nat.le_refl _) (fun a h1 h2 => (hkc.2 a h1 h2).symm), e1, e2⟩
      have HSP := Lib.hid (show pre.length + cntAll (L.take (j + 1)) = pr2.length + cnt (.mk o n s v ll) from by omega)
      have HF2 := Lib.hid hF2
      have hbs : b0 ≤ wr.heap.size := Nat.le_trans hb0 HKj.out.1
      clear hkc hallr hrep hli hJ1 hr1 hget hpr2 hre2 hp2 hsp hF2 hb0g hmem
      gi_wp2
      refine hR.mono ?_
      rintro e W3 (⟨rfl, hJ3, hk3⟩ | ⟨rfl, hJx3⟩)
      · have HJ3 := Lib.hid hJ3
        have HK3 := Lib.hid hk3
        have HX3 := Lib.hid ((hk3.2 wr.heap.size hbs (by simp) (fun o ho => by rw [HX1.out] at ho; cases ho; rintro ⟨_, _, e⟩; cases e)).trans HX1.out)
        obtain ⟨x0, x1, x2, x3, x4, x5, x6, x7, _⟩ := box8_in _ _ _ _ _ _ _ _ _ _ _ HX3.out
        have hw3 : wr.heap.size < W3.heap.size := by have := hk3.1; simp at this; omega
        have HC := Lib.hid (hih W0 lo hi l b0 Fl J Jx HY.out (pr2 ++ [.mk o n s v ll]) re2 r c W3 HLL.out.1 (by rw [HF2.out]; simp [Nd.l]) (by omega) HLL.out.2.1 HLL.out.2.2 (by simpa using HJ3.out))
        clear hJ3 hk3 hih hR hy
        gi_wp2_with (refine ⟨trivial, ?_⟩; gi_at_call 54; refine (callsIn_wide.2 HC.out).mono ?_; rintro e W4 (⟨rfl, hJ4, hk4⟩ | ⟨rfl, hJx4⟩))
        · have HJ4 := Lib.hid hJ4
          have HK4 := Lib.hid hk4
          clear hJ4 hk4
          gi_wp2
          go_roundw
          case rel =>
            refine ⟨j + 1, by omega, by simp, Lib.hid ?_, Lib.hid (HKj.out.trans ((KeptM.of_below HBW.out).trans (HK3.out.trans HK4.out)))⟩
            have e : pre.length + cntAll (L.take (j + 1)) = (pr2 ++ [Nd.mk o n s v ll]).length + cntAll ll := by
              have := HSP.out
              simp only [cnt] at this
              simp; omega
            rw [e]; exact HJ4.out
          case measure => simp [intOf]; omega
        · gi_wp2
          go_ret
          exact .inr ⟨rfl, hJx4⟩
      · gi_wp2
        refine ⟨trivial, ?_⟩
        gi_wp2
        go_ret
        exact .inr ⟨rfl, hJx3⟩
    · have hje : j = L.length := by omega
      subst hje
      gi_wp2
      go_ret
      exact .inl ⟨rfl, by simpa using HJj.out, HKj.out⟩
theorem walkM_any (L : List Nd) : WalkOkM L := by
  have key : ∀ t : Nd, WalkOkM t.l := Nd.ind_ (fun o n s v l ih => walkM_of l ih)
  exact walkM_of L (fun t _ => key t)

set_option maxHeartbeats 1000000 in
theorem allM_hands (n : Nat) (L : List Nd) (W0 : World) (B lo hi : Nat) (p : Option Addr) (cap : Nat) (hall : NAll W0 lo hi L p) (hlc : L.length ≤ cap) (hcap : L.length * 112 ≤ 140737488355328) :
    HandsM StrRow Fence.wide n Tryd.prog 53 #[.pointer (some ⟨B, 0, none⟩)] (HdA (flatL L) lo hi) (cntAll L) (KwA W0 lo hi B p L.length cap) := by
  intro l J Jx W hJ hK hY h0
  have hYO : YOkM W0 lo hi l W.heap.size (flatL L) J Jx := ⟨hJ, fun j X h => (hK j X h).1, fun m j hj v X hx hr => yieldAny m (hY j #[v] X.heap.size X hx ⟨X, hx, rfl⟩ (by rw [← flatL_len]; exact hj) ⟨hj, v, rfl, hr⟩)⟩
  have HC := Lib.hid (walkM_any L W0 lo hi l W.heap.size (flatL L) J Jx hYO [] [] p cap W hall (by simp) (Nat.le_refl _) hlc hcap h0)
  obtain ⟨hc, hf⟩ := cell_oneN _ _ _ _ (hK 0 W h0).2
  have hlt := heap_ltN (hK 0 W h0).2
  clear hYO hY hJ hK h0 hall
  refine callsIn_of_wp Tryd.func53 rfl trivial ?_ rfl
  simp only [Tryd.ntmps53, List.size_toArray, List.length_cons, List.length_nil, Nat.reduceAdd, Nat.reduceSub, Array.replicate_succ, Array.replicate_zero, List.push_toArray, List.append_toArray, List.nil_append, List.cons_append]
  gi_wp2_with (refine ⟨trivial, (fun h => by cases h), ?_⟩; gi_at_call 54; refine (callsIn_wide.2 HC.out).mono ?_; rintro e W4 h4; obtain ⟨bb, rfl, HE4⟩ : ∃ bb, e = .returned (.bool bb) ∧ Hid (J (cntAll L) W4 ∨ Jx W4) := (by rcases h4 with ⟨rfl, h5, _⟩ | ⟨rfl, h5⟩; exact ⟨_, rfl, Lib.hid (.inl (by simpa using h5))⟩; exact ⟨_, rfl, Lib.hid (.inr h5)⟩); clear h4)
  go_end0
  exact ⟨⟨_, rfl⟩, HE4.out⟩
end Go.Proofs.YtminmadaeaiihaaDoor
namespace Go.Proofs.YtminmadaeaiihaaDoor
open Go.RowKit
set_option maxRecDepth 100000
attribute [local go_sem] Oper.semAt_some

theorem cell_new1 (w : World) (x : Value) (t : TypeId) : ∀ j u, [x][j]? = some u → (w.alloc (.cells #[x] t)).cell? ((⟨w.heap.size, 0, none⟩ : Addr).add j) = some u := by
  intro j u hj
  match j, hj with
  | 0, hj => rw [add_zero, cell_of_row _ _ _ _ _ _ (heap_alloc_new w (.cells #[x] t)), ← hj]; rfl
  | j + 1, hj => simp at hj
/-- A node that names a variable. -/
def varOp (o : Int) : Bool := o == 2 || o == 42 || o == 43 || o == 50
def nmN : Nd → List ByteArray
  | .mk o _ s _ _ => if varOp o = true ∧ s.toList ≠ [] then [s] else []
def nms (l : List Nd) : List ByteArray := l.flatMap nmN
theorem nms_snoc (l : List Nd) (j : Nat) (h : j < l.length) : nms (l.take (j + 1)) = nms (l.take j) ++ nmN l[j] := by
  unfold nms; rw [List.take_succ_eq_append_getElem h, List.flatMap_append]; simp
theorem nmN_len (t : Nd) : (nmN t).length ≤ 1 := by obtain ⟨o, n, s, v, l⟩ := t; show (if varOp o = true ∧ s.toList ≠ [] then [s] else []).length ≤ 1; split <;> simp
theorem nms_len (l : List Nd) : ∀ j, j ≤ l.length → (nms (l.take j)).length ≤ j
  | 0, _ => by simp [nms]
  | j + 1, h => by rw [nms_snoc l j (by omega), List.length_append]; have := nms_len l j (by omega); have := nmN_len l[j]; omega

/-- What the rounds find: the box of the names, their row, the walk's box, the nodes. -/
structure IVs (w : World) (lo hi : Nat) (p : Option Addr) (len cap : Nat) (Fl : List Nd) (s : Nat) (j : Nat) (X : World) : Prop where
  bel : Below w.heap.size w X
  row : ∃ v, X.heap[w.heap.size]? = some (.cells #[v] 28 (0, 0)) ∧ X.ownsRow (s + 2) 9 1 v (nms (Fl.take j)).length ((nms (Fl.take j)).map Value.string)
  kw : KwA w lo hi (w.heap.size + 1) p len cap X
theorem own_grew {X Y : World} {s B n : Nat} {v : Value} {xs : List Value} {e : TypeId} (h : X.ownsRow B e 1 v n xs) (hB : s + 2 ≤ B) (hb : Grew s X Y) : Y.ownsRow B e 1 v n xs := by
  refine ⟨h.1, ?_⟩
  rcases h.2 with h2 | ⟨g, cap, cur, hv, hg, hh, r⟩
  · exact .inl h2
  · exact .inr ⟨g, cap, cur, hv, hg, (hb.block _ (heap_ltN hh) (by omega) (by omega)).trans hh, r⟩
theorem IVs.step {w X Y : World} {lo hi : Nat} {p : Option Addr} {len cap s j : Nat} {Fl : List Nd} (h : IVs w lo hi p len cap Fl s j X) (hhi : hi ≤ w.heap.size) (hs : s = w.heap.size + 2) (hb : Grew s X Y) : IVs w lo hi p len cap Fl s j Y := by
  obtain ⟨v, h1, h2⟩ := h.row
  have hx := h.bel.size
  exact ⟨h.bel.trans (hb.below (by omega) hx), ⟨v, (hb.block _ (heap_ltN h1) (by omega) (by omega)).trans h1, own_grew h2 (Nat.le_refl _) hb⟩,
    ⟨⟨Nat.le_trans h.kw.1.1 hb.size, fun a h1 h2 => (World.cell?_of_block (hb.block _ (by have := h.kw.1.1; omega) (by omega) (by omega))).trans (h.kw.1.2 a h1 h2)⟩, (hb.block _ (heap_ltN h.kw.2) (by omega) (by omega)).trans h.kw.2⟩⟩

open Go.Sort in
/-- The library's sort of a row of one's own. -/
theorem sort_step (M : List ByteArray) (B g cap : Nat) (Y : World) (hown : Y.ownsRow B 9 1 (.slice (some ⟨g, 0, none⟩) M.length cap) M.length (M.map Value.string)) (hl : M.length ≤ 1000000) :
    Calls Tryd.prog 33 #[.slice (some ⟨g, 0, none⟩) M.length cap] Y fun e w' => e = .returned (.tuple #[]) ∧
      w'.ownsRow B 9 1 (.slice (some ⟨g, 0, none⟩) M.length cap) M.length (((bsL M).mergeSort fun x y => decide (x ≤ y)).map encStr) ∧ Y.grownBy w' (some g) := by
  have hm : (bsL M).map encStr = M.map Value.string := Lib.map_encStr M
  rw [← hm] at hown
  obtain ⟨g', cap', he, hB, hlt, hnc, hcm, hlen, hH⟩ := Lib.holds_of_ownsRow hown (by simp)
  injection he with e1 _ e3
  injection e1 with e1
  injection e1 with e1
  subst e1 e3
  have hc := Tryd.slices_Sort_string g 0 cap (bsL M) Y hH hlt (by omega)
  rw [hlen] at hc
  refine hc.mono ?_
  rintro e w' ⟨rfl, n, os, rfl⟩
  refine ⟨rfl, ?_, grownBy_sorted _⟩
  rcases hown.2 with ⟨h0, _⟩ | ⟨g', cap', cur, hv, hbase, hb, h1, h2, h3, h4⟩
  · cases h0
  · cases hv
    have hs := ownsRow_sorted (n := n) (os := os) (ts := (bsL M).mergeSort fun x y => decide (x ≤ y)) (ss := bsL M) (List.length_mergeSort _) hbase hb (by rw [hlen]; exact h1) h2 h3
    rw [hlen] at hs
    exact hs
open Go.Sort in
/-- The library's Compact of a row of one's own. -/
theorem compact_step (zs : List (List UInt8)) (B g cap : Nat) (Y : World) (hown : Y.ownsRow B 9 1 (.slice (some ⟨g, 0, none⟩) zs.length cap) zs.length (zs.map encStr)) (hl : zs.length ≤ 1000000) :
    Calls Tryd.prog 34 #[.slice (some ⟨g, 0, none⟩) zs.length cap] Y fun e w' => e = .returned (.slice (some ⟨g, 0, none⟩) (Lib.compact zs).length cap) ∧
      w'.ownsRow B 9 1 (.slice (some ⟨g, 0, none⟩) (Lib.compact zs).length cap) (Lib.compact zs).length ((Lib.compact zs).map encStr) ∧ Y.grownBy w' (some g) := by
  obtain ⟨g', cap', he, hB, hlt, hnc, hcm, hlen, hH⟩ := Lib.holds_of_ownsRow hown (by simp)
  injection he with e1 _ e3
  injection e1 with e1
  injection e1 with e1
  subst e1 e3
  refine (Tryd.slices_Compact_string g 0 cap zs Y hH (by omega) hnc).mono ?_
  rintro e w' ⟨rfl, q, rfl⟩
  have hle := Lib.compact_length_le zs
  refine ⟨rfl, ?_, ?_⟩
  · have hc := Lib.ownsRow_putRow (q := q) (k := (Lib.compact zs).length) (ys := Lib.compact zs ++ List.replicate (zs.length - (Lib.compact zs).length) []) hown (by simp; omega) hle
    rw [List.take_left] at hc
    exact hc
  · have h := grownBy_sorted (w := Y) (g := g) (n := q) (os := #[]) (Lib.compact zs ++ List.replicate (zs.length - (Lib.compact zs).length) []).toArray
    rwa [grow_empty] at h
theorem nms_all (L : List Nd) : nms ((flatL L).take (cntAll L)) = nms (flatL L) := by rw [← flatL_len, List.take_length]

set_option maxHeartbeats 2000000 in
theorem vars_loop (L : List Nd) (w : World) (lo hi : Nat) (p : Option Addr) (cap : Nat) (hall : NAll w lo hi L p) (hhi : hi ≤ w.heap.size) (hlc : L.length ≤ cap) (hcap : L.length * 112 ≤ 140737488355328) (hN : cntAll L ≤ 1000000) :
    Calls Tryd.prog 13 #[.slice p L.length cap] w fun e w' => ∃ q c, e = .returned (.slice q (riseR (nms (flatL L))).length c) ∧ TRow w' w'.heap.size q (riseR (nms (flatL L))) ∧ Below w.heap.size w w' := by
  have HA := Lib.hid hall
  clear hall
  refine (callsIn_wide (n := 8)).1 ?_
  refine callsIn_of_wp_marks Tryd.func13 rfl trivial ?_ rfl
  simp only [Tryd.ntmps13, List.size_toArray, List.length_cons, List.length_nil, Nat.reduceAdd, Nat.reduceSub, Array.replicate_succ, Array.replicate_zero, List.push_toArray, List.append_toArray, List.nil_append, List.cons_append]
  gi_wp2_with (refine ⟨trivial, ?_⟩; gi_at_call 32; refine (callsIn_wide.2 (all_any p L.length cap _)).mono ?_; rintro e w1 ⟨rfl, hw1⟩; have HW1 := Lib.hid hw1; clear hw1)
  have hz1 : w1.heap.size = w.heap.size + 2 := by rw [HW1.out]; simp
  have HI0 : Hid (IVs w lo hi p L.length cap (flatL L) w1.heap.size 0 w1) := by
    have e := HW1.out
    have hb : Below w.heap.size w w1 := by rw [e]; exact ((Below.refl _ w).alloc (Nat.le_refl _) _).alloc (by simp) _
    refine ⟨hb, ⟨.slice none 0 0, ?_, World.ownsRow_nil _ _ _ _⟩, ⟨by omega, fun a _ h2 => hb.cell (by omega)⟩, ?_⟩
    · rw [e]; exact heap_alloc_ _ _ _ _ (heap_alloc_new w _)
    · rw [e]
      have h := heap_alloc_new (w.alloc (.cells #[.slice none 0 0] 28)) (.cells #[.slice p L.length cap] 22)
      rw [World.size_alloc] at h
      simpa using h
  refine range_keepsM (M := StrRow) (fun r => by rintro ⟨_, _, e⟩; cases e) (fun r => by rintro ⟨_, _, e⟩; cases e) rfl (by omega) (gf := 53) (lb := #[.pointer (some ⟨w.heap.size + 1, 0, none⟩)]) rfl trivial (enters_of Tryd.func53 (by kernel_rfl) rfl) (allM_hands _ L w (w.heap.size + 1) lo hi p cap HA.out hlc hcap) (fun j xs b X h => by obtain ⟨_, _, rfl, _⟩ := h; rfl)
    (IVs w lo hi p L.length cap (flatL L) w1.heap.size) (fun _ _ => False) (fun j X Y h hb => h.step hhi hz1 hb) (fun _ _ _ h _ => h) (fun j X h => h.kw) HI0.out ?round ?done (fun _ _ h _ => h.elim)
  case round =>
    intro j xs b X hj hI hH hsb hlt
    obtain ⟨hjf, v, rfl, hrep⟩ := hH
    obtain ⟨no, nn, ns, nk, nm, nz, nq, nql, nqc, nr, nlc, nc, rfl⟩ := nrep_form hrep
    have HIX := Lib.hid hI
    have HREP := Lib.hid hrep
    clear hI hrep
    gi_wp2
    refine ⟨KeptM.alloc _ _ _ _, fun r => ?_⟩
    have hbP : Grew w1.heap.size X ((X.alloc (.cells #[.int .i64 no, .int .i64 nn, .string ns, .int .i64 nk, .int .i64 nm, .string nz, .slice nq nql nqc, .slice nr nlc nc] 40)).putObj (w1.heap.size + 1) (.loop r)) := by
      have h1 := Grew.of_below (s := w1.heap.size) ((Below.refl _ X).alloc (Nat.le_refl _) (.cells #[.int .i64 no, .int .i64 nn, .string ns, .int .i64 nk, .int .i64 nm, .string nz, .slice nq nql nqc, .slice nr nlc nc] 40))
      have h2 := Grew.put (s := w1.heap.size) (X.alloc (.cells #[.int .i64 no, .int .i64 nn, .string ns, .int .i64 nk, .int .i64 nm, .string nz, .slice nq nql nqc, .slice nr nlc nc] 40)) (.inr rfl) (.loop r)
      exact ⟨h2.os.trans h1.os, h2.tape.trans h1.tape, h2.output.trans h1.output, Nat.le_trans h1.size h2.size, fun k hk e1 e2 => (h2.block k (by simp; omega) e1 e2).trans (h1.block k hk e1 e2)⟩
    have HIP := Lib.hid (HIX.out.step hhi hz1 hbP)
    have HBX : Hid (((X.alloc (.cells #[.int .i64 no, .int .i64 nn, .string ns, .int .i64 nk, .int .i64 nm, .string nz, .slice nq nql nqc, .slice nr nlc nc] 40)).putObj (w1.heap.size + 1) (.loop r)).heap[X.heap.size]? = some (.cells #[.int .i64 no, .int .i64 nn, .string ns, .int .i64 nk, .int .i64 nm, .string nz, .slice nq nql nqc, .slice nr nlc nc] 40 (0, 0))) := (World.putObj_heap_other (by omega)).trans (heap_alloc_new X _)
    have hPz : ((X.alloc (.cells #[.int .i64 no, .int .i64 nn, .string ns, .int .i64 nk, .int .i64 nm, .string nz, .slice nq nql nqc, .slice nr nlc nc] 40)).putObj (w1.heap.size + 1) (.loop r)).heap.size = X.heap.size + 1 := by simp
    have HNM : Hid (nmN (flatL L)[j] = if varOp no = true ∧ ns.toList ≠ [] then [ns] else []) := by
      have := HREP.out
      generalize (flatL L)[j] = t at this
      obtain ⟨o, n, s, v, l⟩ := t
      obtain ⟨k, m, z, q, ql, qc, p, cap, hx, _⟩ := this.open
      simp only [Value.agg.injEq, Array.mk.injEq, List.cons.injEq, and_true] at hx
      obtain ⟨a1, a2, a3, _⟩ := hx
      injection a1 with _ a1; subst a1
      injection a3 with a3; subst a3
      rfl
    generalize (X.alloc (.cells #[.int .i64 no, .int .i64 nn, .string ns, .int .i64 nk, .int .i64 nm, .string nz, .slice nq nql nqc, .slice nr nlc nc] 40)).putObj (w1.heap.size + 1) (.loop r) = P at *
    clear hbP HREP HIX
    obtain ⟨x0, x1, x2, x3, x4, x5, x6, x7, _⟩ := box8_in P X.heap.size _ _ _ _ _ _ _ _ _ HBX.out
    have HST := Lib.hid (nms_snoc (flatL L) j hjf)
    have hln := nms_len (flatL L) j (by omega)
    have hrow := HIP.out.row
    obtain ⟨v, hv1, hv2⟩ := hrow
    obtain ⟨q, c, rfl, hqc⟩ := sowns_form hv2
    obtain ⟨M, hM⟩ : ∃ M, M = nms ((flatL L).take j) := ⟨_, rfl⟩
    rw [← hM] at hv1 hv2 HST hln hqc
    clear hM
    have HV1 := Lib.hid hv1
    have HV2 := Lib.hid hv2
    obtain ⟨n0, nf⟩ := cell_oneN _ _ _ _ hv1
    clear hv1 hv2
    gi_upto_if 10 with fail
    gi_cut [10] from 11 (fun cc wx => cc = .bool (varOp no) ∧ wx = P)
    case first =>
      have e : ∀ k : Int, (no == k) = true ∨ (no == k) = false := fun k => by cases (no == k) <;> simp
      rcases e 2 with a | a
      · gi_wp2
        gi_meet
        exact ⟨by simp [varOp, a], rfl⟩
      · rcases e 42 with b | b
        · gi_wp2
          gi_meet
          exact ⟨by simp [varOp, b], rfl⟩
        · rcases e 43 with d | d
          · gi_wp2
            gi_meet
            exact ⟨by simp [varOp, d], rfl⟩
          · rcases e 50 with f | f
            · gi_wp2
              gi_meet
              exact ⟨by simp [varOp, f], rfl⟩
            · gi_wp2
              gi_meet
              exact ⟨by simp [varOp, a, b, d, f], rfl⟩
    case rest =>
      obtain ⟨rfl, hwc⟩ := hcut
      subst hwc
      cases hB : varOp no with
      | false =>
        have HE := Lib.hid (show nmN (flatL L)[j] = [] from by rw [HNM.out, hB]; simp)
        have HF := Lib.hid (show IVs w lo hi p L.length cap (flatL L) w1.heap.size (j + 1) wc from ⟨HIP.out.bel, ⟨_, HV1.out, by rw [HST.out, HE.out, List.append_nil]; exact HV2.out⟩, HIP.out.kw⟩)
        gi_wp2
        exact ⟨KeptM.refl _ _ _, HF.out⟩
      | true =>
        cases hE : ns.toList.isEmpty with
        | true =>
          have HE := Lib.hid (show nmN (flatL L)[j] = [] from by rw [HNM.out, List.isEmpty_iff.1 hE]; simp)
          have HF := Lib.hid (show IVs w lo hi p L.length cap (flatL L) w1.heap.size (j + 1) wc from ⟨HIP.out.bel, ⟨_, HV1.out, by rw [HST.out, HE.out, List.append_nil]; exact HV2.out⟩, HIP.out.kw⟩)
          gi_wp2
          exact ⟨KeptM.refl _ _ _, HF.out⟩
        | false =>
          have HE := Lib.hid (show nmN (flatL L)[j] = [ns] from by rw [HNM.out, hB, if_pos ⟨rfl, fun h => by rw [h] at hE; cases hE⟩])
          obtain ⟨i0, hi0, hz0, hz1, hz2⟩ := info_parts Tryd.info_Str
          have hPs := HIP.out.bel.size
          have hMl : M.length ≤ 1000000 := by omega
          have hwl : w.heap.size + 4 ≤ wc.heap.size := by omega
          have HPZ := Lib.hid hPz
          clear hPz
          gi_wp2_with (gi_at_builtin; go_must (refine wpListIn_append_own _ rfl _ _ 28 rfl (w1.heap.size + 2) 9 i0 (.string ⟨#[]⟩) 1 16 Tryd.underlying28 hi0 hz0 hz1 hz2 rfl (by decide) _ _ _ rfl (HV2.out.alloc _) ⟨wc.heap.size, 0, none⟩ 1 1 [.string ns] rfl rfl (cell_new1 _ _ _) (by simp [Value.oneCell']) (by unfold maxLen; omega) (by omega) (by have := HPZ.out; simp; omega) ?_; intro v' w3 hown' hg3 _; obtain ⟨q3, c3, rfl, _⟩ := sowns_form hown'; have HO := Lib.hid hown'; have HG := Lib.hid (show World.grownBy (wc.alloc (.cells #[.string ns] 9)) w3 (Value.slice q M.length c).ownBlock from hg3); have hbx := (hg3.block w.heap.size (by simp; omega) (fun e => by have := (HV2.out.lt _ e.symm).1; omega)).trans ((Below.heap_alloc _ _ _ (by omega)).trans HV1.out); have HBX3 := Lib.hid hbx; obtain ⟨n3, nf3⟩ := cell_oneN _ _ _ _ hbx; clear hown' hg3 hbx))
          have hg := HG.out
          have hhi' : hi ≤ w.heap.size := hhi
          have hgs := hg.size
          rw [World.size_alloc] at hgs
          have hbel : Below w.heap.size w w3 := sbelow_grown (HIP.out.bel.alloc hPs _) hg (fun k e => by have := (HV2.out.lt _ e).1; omega) (by simp; omega)
          have hkw : w3.heap[w.heap.size + 1]? = some (.cells #[.slice p L.length cap] 22 (0, 0)) := (hg.block (w.heap.size + 1) (by simp; omega) (fun e => by have := (HV2.out.lt _ e.symm).1; omega)).trans ((Below.heap_alloc _ _ _ (by omega)).trans HIP.out.kw.2)
          refine ⟨⟨by simp; omega, fun b hb1 hb2 hb3 => (heap_setO (by omega)).trans ((hg.block b (by simp; omega) (fun e => ?_)).trans (Below.heap_alloc _ _ _ hb2))⟩, hbel.setCell (Nat.le_refl _) _, ⟨.slice q3 (M.length + 1) c3, heap_setN HBX3.out, ?_⟩, ⟨by simp; omega, fun a h1 h2 => (World.cell?_setCell_other w3 ⟨w.heap.size, 0, none⟩ a _ (fun e => by subst e; simp at h2; omega)).trans (hbel.cell (by omega))⟩, (heap_setO (by omega)).trans hkw⟩
          · rcases HV2.out.2 with ⟨h0, _⟩ | ⟨g, cap', cur, hv, _, hh, _⟩
            · rw [h0] at e; cases e
            · rw [hv] at e
              injection e with e
              subst e
              exact hb3 _ hh ⟨cur, (0, 0), rfl⟩
          · rw [HST.out, HE.out]
            have ho := HO.out
            simp only [List.length_append, List.length_singleton, List.map_append, List.map_cons, List.map_nil]
            refine ⟨ho.1, ?_⟩
            rcases ho.2 with h2 | ⟨g, cap', cur, hv, hgB, hh, r⟩
            · exact .inl h2
            · exact .inr ⟨g, cap', cur, hv, hgB, (heap_setO (by omega)).trans hh, r⟩
  case done =>
    intro Y hI hD
    have HIY := Lib.hid hI
    have HDY := Lib.hid (show Y.heap[w.heap.size + 2]? = some (.deferred (some [])) from by rw [← hz1]; exact hD)
    obtain ⟨v, hv1, hv2⟩ := hI.row
    obtain ⟨q, c, rfl, hqc⟩ := sowns_form hv2
    rw [nms_all] at hv1 hv2 hqc
    have hl := nms_len (flatL L) (cntAll L) (by rw [flatL_len]; exact Nat.le_refl _)
    rw [nms_all] at hl
    have HONE := Lib.hid (vars_one (nms (flatL L)) (nms (flatL L)) (fun _ => Iff.rfl))
    obtain ⟨M, hM⟩ : ∃ M, M = nms (flatL L) := ⟨_, rfl⟩
    rw [← hM] at hv1 hv2 hqc hl HONE
    have HM := Lib.hid hM
    clear hM
    have HV1 := Lib.hid hv1
    obtain ⟨n0, nf⟩ := cell_oneN _ _ _ _ hv1
    have hYw := HIY.out.bel.size
    have hdl := heap_ltN hD
    clear hI hD hv1
    by_cases hM0 : M.length = 0
    · have hM : M = [] := List.eq_nil_of_length_eq_zero hM0
      rw [hM0] at n0
      clear hM0 hv2
      have HME := Lib.hid hM
      clear hM
      gi_wp2_with (first
        | (refine ⟨trivial, ?_⟩; gi_at_call 33; refine (callsIn_wide.2 (Tryd.slices_Sort_string_none q c _)).mono ?_; rintro e w2 ⟨rfl, rfl⟩)
        | (refine ⟨trivial, ?_⟩; gi_at_call 34; refine (callsIn_wide.2 (Tryd.slices_Compact_string_empty q c _)).mono ?_; rintro e w3 ⟨rfl, rfl⟩))
      refine ⟨by simp, .inl ⟨_, _, rfl, run_takeDeferred HDY.out, ?_⟩⟩
      exact ⟨_, results_tmp rfl _ _ _, q, c, by rw [← HM.out, HME.out]; rfl, .inl (by rw [← HM.out, HME.out]; rfl), HIY.out.bel.trans (putObj_belowK (l := w.heap.size + 2) _ (by omega) (by omega) _)⟩
    · have hpos : 0 < M.length := by omega
      obtain ⟨g, cc, he, hcap2, hlt⟩ := hv2.form hpos
      injection he with e1 _ e3
      subst e1 e3
      have HV2 := Lib.hid hv2
      have hgB := (hv2.lt g rfl).1
      obtain ⟨Z, hZ⟩ : ∃ Z, Z = (bsL M).mergeSort fun x y => decide (x ≤ y) := ⟨_, rfl⟩
      have hZl : Z.length = M.length := by rw [hZ, List.length_mergeSort]; simp [bsL]
      have HSO := Lib.hid (sort_step M (w1.heap.size + 2) g c Y hv2 (by omega))
      rw [← hZ] at HSO HONE
      have HCP : Hid (∀ W : World, W.ownsRow (w1.heap.size + 2) 9 1 (.slice (some ⟨g, 0, none⟩) M.length c) M.length (Z.map encStr) → Calls Tryd.prog 34 #[.slice (some ⟨g, 0, none⟩) M.length c] W fun e w' => e = .returned (.slice (some ⟨g, 0, none⟩) (riseR M).length c) ∧
          w'.ownsRow (w1.heap.size + 2) 9 1 (.slice (some ⟨g, 0, none⟩) (riseR M).length c) (riseR M).length ((riseR M).map Value.string) ∧ W.grownBy w' (some g)) := fun W h => by
        have := compact_step Z (w1.heap.size + 2) g c W (by rw [hZl]; exact h) (by omega)
        rw [hZl, HONE.out, show (bsL (riseR M)).map encStr = _ from Lib.map_encStr (riseR M), show (bsL (riseR M)).length = _ from List.length_map ..] at this
        exact this
      clear hv2 hM0 hZ hZl HONE
      gi_wp2_with (first
        | (refine ⟨trivial, ?_⟩; gi_at_call 33; refine (callsIn_wide.2 HSO.out).mono ?_; rintro e w2 ⟨rfl, ho2, hg2⟩; have HO2 := Lib.hid ho2; have HG2 := Lib.hid hg2; have hx2 := (hg2.block w.heap.size (by omega) (fun e => by injection e with e; omega)).trans HV1.out; obtain ⟨m0, _⟩ := cell_oneN _ _ _ _ hx2; clear ho2 hg2 hx2)
        | (refine ⟨trivial, ?_⟩; gi_at_call 34; refine (callsIn_wide.2 (HCP.out _ HO2.out)).mono ?_; rintro e w3 ⟨rfl, ho3, hg3⟩; have HO3 := Lib.hid ho3; have HG3 := Lib.hid hg3; clear ho3 hg3))
      have hs2 := HG2.out.size
      have hs3 := HG3.out.size
      have hD3 : w3.heap[w.heap.size + 2]? = some (.deferred (some [])) := (HG3.out.block _ (by omega) (fun e => by injection e with e; omega)).trans ((HG2.out.block _ (by omega) (fun e => by injection e with e; omega)).trans HDY.out)
      have hb2 : Below w.heap.size w w2 := sbelow_grown (v := .slice (some ⟨g, 0, none⟩) 0 0) HIY.out.bel HG2.out (fun k e => by have e2 : some g = some k := e; injection e2 with e2; omega) hYw
      have hb3 : Below w.heap.size w w3 := sbelow_grown (v := .slice (some ⟨g, 0, none⟩) 0 0) hb2 HG3.out (fun k e => by have e2 : some g = some k := e; injection e2 with e2; omega) hb2.size
      refine ⟨by simp, .inl ⟨_, _, rfl, run_takeDeferred hD3, ?_⟩⟩
      have hG : Gs (w1.heap.size + 2) (w3.putObj (w.heap.size + 2) (.deferred none)) (riseR M) (.slice (some ⟨g, 0, none⟩) (riseR M).length c) (w3.putObj (w.heap.size + 2) (.deferred none)) :=
        ⟨own_grew HO3.out (Nat.le_refl _) (Grew.put w3 (.inl hz1.symm) _), Below.refl _ _⟩
      obtain ⟨q4, c4, he4, _, htr⟩ := hG.fin
      injection he4 with e1 _ e2
      subst e1 e2
      exact ⟨_, results_tmp rfl _ _ _, some ⟨g, 0, none⟩, c, by rw [← HM.out]; rfl, by rw [← HM.out]; exact htr, hb3.trans (putObj_belowK _ (by omega) (heap_ltN hD3) _)⟩
end Go.Proofs.YtminmadaeaiihaaDoor
namespace Go.Proofs.YtminmadaeaiihaaDoor
open Go.RowKit
set_option maxRecDepth 100000

mutual
/-- What the document's Vars puts together: of one node, of a list. -/
def rvN : Nd → List ByteArray | .mk o n s v l => nmN (.mk o n s v l) ++ riseR (rvA l)
def rvA : List Nd → List ByteArray | [] => [] | t :: r => rvN t ++ rvA r
end
theorem rvA_app : ∀ a b, rvA (a ++ b) = rvA a ++ rvA b
  | [], b => rfl
  | x :: r, b => by rw [List.cons_append, rvA, rvA, rvA_app r b, List.append_assoc]
theorem nms_app (a b : List Nd) : nms (a ++ b) = nms a ++ nms b := by unfold nms; rw [List.flatMap_append]
mutual
theorem mem_rvN (y : ByteArray) : ∀ t, y ∈ rvN t ↔ y ∈ nms (flatN t)
  | .mk o n s v l => by
    rw [rvN, flatN, List.mem_append, mem_riseR, mem_rvA y l]
    show _ ↔ y ∈ nms ([Nd.mk o n s v l] ++ flatL l)
    rw [nms_app, List.mem_append]
    have : nms [Nd.mk o n s v l] = nmN (.mk o n s v l) := by simp [nms]
    rw [this]
theorem mem_rvA (y : ByteArray) : ∀ l, y ∈ rvA l ↔ y ∈ nms (flatL l)
  | [] => by simp [rvA, flatL, nms]
  | t :: r => by rw [rvA, flatL, nms_app, List.mem_append, List.mem_append, mem_rvN y t, mem_rvA y r]
end
theorem riseR_len (l : List ByteArray) : (riseR l).length ≤ l.length := by have := riseR_take_len l l.length (Nat.le_refl _); rwa [List.take_length] at this
mutual
theorem rvN_len : ∀ t, (rvN t).length ≤ cnt t
  | .mk o n s v l => by
    have h1 := nmN_len (.mk o n s v l)
    have h2 := riseR_len (rvA l)
    have h3 := rvA_len l
    rw [rvN, List.length_append, cnt]; omega
theorem rvA_len : ∀ l, (rvA l).length ≤ cntAll l
  | [] => by simp [rvA, cntAll]
  | t :: r => by have h1 := rvN_len t; have h2 := rvA_len r; rw [rvA, List.length_append, cntAll]; omega
end
mutual
theorem NRep.small {w : World} {lo hi : Nat} : ∀ (t : Nd) (x : Value), NRep w lo hi t x → ∀ y ∈ nms (flatN t), y.size ≤ 140737488355328
  | .mk o n s v l, x, h, y, hy => by
    obtain ⟨k, m, z, q, ql, qc, p, cap, hx, _, _, hs, _, _, _, hall⟩ := h.open
    rw [flatN, show Nd.mk o n s v l :: flatL l = [Nd.mk o n s v l] ++ flatL l from rfl, nms_app, List.mem_append] at hy
    rcases hy with hy | hy
    · have e : nms [Nd.mk o n s v l] = if varOp o = true ∧ s.toList ≠ [] then [s] else [] := by simp [nms, nmN]
      rw [e] at hy
      split at hy
      · simp at hy; subst hy; exact hs
      · cases hy
    · exact NAll.small l p hall y hy
theorem NAll.small {w : World} {lo hi : Nat} : ∀ (l : List Nd) (p : Option Addr), NAll w lo hi l p → ∀ y ∈ nms (flatL l), y.size ≤ 140737488355328
  | [], _, _, y, hy => by simp [flatL, nms] at hy
  | t :: r, p, h, y, hy => by
    unfold NAll at h
    obtain ⟨a, c0, c1, c2, c3, c4, c5, c6, c7, hp, _, _, _, _, _, _, _, _, _, _, ht, hr⟩ := h
    rw [flatL, nms_app, List.mem_append] at hy
    rcases hy with hy | hy
    · exact NRep.small t _ ht y hy
    · exact NAll.small r _ hr y hy
end

def RVarsOk (L : List Nd) : Prop := ∀ (w : World) (lo hi : Nat) (p : Option Addr) (cap : Nat), NAll w lo hi L p → L.length ≤ cap → L.length * 112 ≤ 140737488355328 → hi ≤ w.heap.size → cntAll L ≤ 100000 →
  Calls Tryd.prog 14 #[.slice p L.length cap] w fun e w' => ∃ q c, e = .returned (.slice q (riseR (rvA L)).length c) ∧ (riseR (rvA L)).length ≤ c ∧ TRow w' w'.heap.size q (riseR (rvA L)) ∧ Below w.heap.size w w'
theorem Gs.more {B : Nat} {w0 w w' : World} {L : List ByteArray} {v : Value} (h : Gs B w0 L v w) (hB : B ≤ w.heap.size) (hb : Below w.heap.size w w') : Gs B w0 L v w' := by
  refine ⟨⟨h.row.1, ?_⟩, h.bel.trans (hb.mono hB)⟩
  rcases h.row.2 with h2 | ⟨g, cap, cur, hv, hg, hh, r⟩
  · exact .inl h2
  · exact .inr ⟨g, cap, cur, hv, hg, heap_old hh hb, r⟩
/-- Texts of memory, behind it: what else lay there lies as it lay. -/
theorem Gs.runG {B : Nat} {w0 w : World} {L : List ByteArray} {v : Value} (h : Gs B w0 L v w) (hB : B ≤ w.heap.size) {C : Nat} {l : List ByteArray} {p : Option Addr} (hr : TRow w C p l)
    (hpos : 0 < l.length) (hn : L.length + l.length ≤ 1000000) (M : List ByteArray) (hM : M = L ++ l) {m c : Nat} (hm : m = l.length) (ty : TypeId) :
    ∃ q cap w', (Builtin.append_ #[28, 28] ty #[v, .slice p m c]).run Tryd.prog w = .ok (.slice q M.length cap) w' ∧ Gs B w0 M (.slice q M.length cap) w' ∧ w.grownBy w' v.ownBlock := by
  obtain ⟨i0, hi0, hz0, hz1, hz2⟩ := info_parts Tryd.info_Str
  obtain ⟨hown, hbel⟩ := h
  subst hm
  rcases hr with h | ⟨b, off, hp, ha, hc⟩
  · rw [h] at hpos; simp at hpos
  subst hp
  have hadd : ∀ n, Addr.add ⟨b, off, none⟩ n = ⟨b, off + n, none⟩ := by
    intro n; unfold Addr.add; split
    · rename_i h; subst h; rfl
    · rfl
  obtain ⟨g, cap, w', hr, ho', hgr, hat, hlt⟩ := run_append_lies (P := Tryd.prog) w 28 ty B 9 i0 _ 1 16 Tryd.underlying28 hi0 hz0 hz1 hz2 rfl (by decide) v L.length _ hown ⟨b, off, none⟩ l.length c (l.map Value.string) (by simp)
    (fun j u hj => by
      rw [List.getElem?_map] at hj
      have hjl : j < l.length := by
        rcases Nat.lt_or_ge j l.length with h | h
        · exact h
        · rw [List.getElem?_eq_none h] at hj; cases hj
      rw [List.getElem?_eq_getElem hjl] at hj
      rw [hadd, hc j hjl]; exact hj)
    (fun u hu => by rw [List.mem_map] at hu; obtain ⟨x, _, rfl⟩ := hu; rfl) hpos (by unfold maxLen; omega) (by omega) hB w.heap.size rfl
  have hMl : M.length = L.length + l.length := by rw [hM, List.length_append]
  rw [hMl]
  exact ⟨_, cap, w', hr, ⟨(by rw [hMl, hM, List.map_append]; exact ho'), sbelow_grown hbel hgr (fun k hk => (hown.lt k hk).1) hB⟩, hgr⟩
theorem one_text (W : World) (x : ByteArray) : TRow (W.alloc (.cells #[.string x] 9)) (W.heap.size + 1) (some ⟨W.heap.size, 0, none⟩) [x] :=
  .inr ⟨W.heap.size, 0, rfl, Nat.lt_succ_self _, fun i hi => by
    have hi0 : i = 0 := by simpa using hi
    subst hi0
    rw [cell_of_row _ _ _ _ _ _ (heap_alloc_new W (.cells #[.string x] 9))]; rfl⟩
/-- What stands behind the switch: the row with the node's name, its box. -/
structure Bk (w wr : World) (g : Nat) (M : List ByteArray) (v : Value) (X : World) : Prop where
  gs : Gs w.heap.size w M v X
  kp : X.heap[g]? = wr.heap[g]?
  sz : g < X.heap.size

set_option maxHeartbeats 2000000 in
theorem rvars_of (L : List Nd) (ih : ∀ t ∈ L, RVarsOk t.l) : RVarsOk L := by
  intro w lo hi p cap hall hlc hcap hhi hN
  have H := Lib.hid ih; clear ih
  have HALL := Lib.hid hall
  have HSM := Lib.hid (fun y (hy : y ∈ rvA L) => NAll.small L p hall y ((mem_rvA y L).1 hy))
  have HRL := Lib.hid (rvA_len L)
  clear hall
  go_enter Tryd.func14, Tryd.ntmps14
  go_wp2
  go_loopw [3, 4] (fun o i wr => ∃ (j : Nat) (q : Option Addr) (c : Nat) (M : List ByteArray), j ≤ L.length ∧ i = .int .i64 j ∧ o = .slice q M.length c ∧ Hid (M = rvA (L.take j)) ∧ Hid (Gs w.heap.size w M (.slice q M.length c) wr)) (fun _ i _ => L.length - (intOf i).toNat)
  case atStart => exact ⟨0, none, 0, [], Nat.zero_le _, rfl, rfl, Lib.hid rfl, Lib.hid ⟨World.ownsRow_nil _ _ _ _, Below.refl _ _⟩⟩
  case round =>
    obtain ⟨j, q, c, M, hj, rfl, rfl, HM, HG⟩ := hrel
    have hz := HG.out.bel.size
    by_cases hlt : j < L.length
    · obtain ⟨b, off, o, n, s, v, ll, k, m, z, q1, ql, qc, r, c1, hp, _, hbhi, hli, h0, h1, h2, h3, h4, h5, h6, h7, hrep⟩ := (HALL.out.below HG.out.bel hhi).item j hlt
      subst hp
      have hbw : b < wr.heap.size := by omega
      have hMl : M.length ≤ cntAll (L.take j) := by rw [HM.out]; exact rvA_len _
      have hsp := cntAll_split L j hlt
      have hle := cntAll_take_le L (j + 1)
      have hcl : cnt L[j] = 1 + cntAll ll := by rw [hli, cnt]
      have HIH := Lib.hid (H.out _ (List.getElem_mem hlt))
      rw [hli] at HIH
      simp only [Nd.l] at HIH
      have HNM := Lib.hid (show nmN L[j] = if varOp o = true ∧ s.toList ≠ [] then [s] else [] from by rw [hli, nmN])
      have HNL := Lib.hid (nmN_len L[j])
      have HRV := Lib.hid (rvA_len ll)
      have HRR := Lib.hid (riseR_len (rvA ll))
      have HST := Lib.hid (show rvA (L.take (j + 1)) = (M ++ nmN L[j]) ++ riseR (rvA ll) from by
        rw [List.take_succ_eq_append_getElem hlt, rvA_app, ← HM.out, rvA, rvA, List.append_nil, hli, rvN, List.append_assoc])
      have HLL := Lib.hid (show NAll wr lo hi ll r ∧ ll.length ≤ c1 ∧ ll.length * 112 ≤ 140737488355328 from by
        obtain ⟨_, _, _, _, g1, g2, g3⟩ := (hli ▸ hrep).parts
        exact ⟨g3, g1, g2⟩)
      have HBA := Lib.hid ((Below.refl wr.heap.size wr).alloc (Nat.le_refl _) (.cells #[.int .i64 o, .int .i64 n, .string s, .int .i64 k, .int .i64 m, .string z, .slice q1 ql qc, .slice r ll.length c1] 40))
      have HX := Lib.hid (heap_alloc_new wr (.cells #[.int .i64 o, .int .i64 n, .string s, .int .i64 k, .int .i64 m, .string z, .slice q1 ql qc, .slice r ll.length c1] 40))
      have HG1 := Lib.hid (HG.out.more hz HBA.out)
      clear hrep hli
      obtain ⟨P, hP⟩ : ∃ P, P = wr.alloc (.cells #[.int .i64 o, .int .i64 n, .string s, .int .i64 k, .int .i64 m, .string z, .slice q1 ql qc, .slice r ll.length c1] 40) := ⟨_, rfl⟩
      have hPz : P.heap.size = wr.heap.size + 1 := by rw [hP]; simp
      have hPs : w.heap.size ≤ P.heap.size := by omega
      obtain ⟨g0, hg0⟩ : ∃ g0, g0 = wr.heap.size := ⟨_, rfl⟩
      rw [← hP] at HBA HX HG1
      obtain ⟨M1, hM1⟩ : ∃ M1, M1 = M ++ nmN L[j] := ⟨_, rfl⟩
      obtain ⟨M2, hM2⟩ : ∃ M2, M2 = M1 ++ riseR (rvA ll) := ⟨_, rfl⟩
      rw [← hM1, ← hM2] at HST
      have HM1 := Lib.hid hM1
      have HM2 := Lib.hid hM2
      have hM1l : M1.length ≤ M.length + 1 := by have := HNL.out; rw [hM1, List.length_append]; omega
      go_upto_if 18 with fail
      rw [← hP]
      clear hP h0 h1 h2 h3 h4 h5 h6 h7 hM1 hM2
      rw [← hg0] at HX HBA ⊢
      have hg1 : g0 < P.heap.size := by omega
      clear hg0 hPz
      go_cut [18] from 19 to 22 (fun cc wx => cc = .bool (varOp o) ∧ wx = P)
      case first =>
        have e : ∀ k : Int, (o == k) = true ∨ (o == k) = false := fun k => by cases (o == k) <;> simp
        rcases e 2 with a | a
        · go_wp2
          go_meet
          exact ⟨by simp [varOp, a], rfl⟩
        · rcases e 42 with b | b
          · go_wp2
            go_meet
            exact ⟨by simp [varOp, b], rfl⟩
          · rcases e 43 with d | d
            · go_wp2
              go_meet
              exact ⟨by simp [varOp, d], rfl⟩
            · rcases e 50 with f | f
              · go_wp2
                go_meet
                exact ⟨by simp [varOp, f], rfl⟩
              · go_wp2
                go_meet
                exact ⟨by simp [varOp, a, b, d, f], rfl⟩
      obtain ⟨rfl, hwc⟩ := hcut
      subst hwc
      obtain ⟨x0, x1, x2, x3, x4, x5, x6, x7, _⟩ := box8_in _ g0 _ _ _ _ _ _ _ _ _ HX.out
      cases hB : varOp o with
      | false =>
        have HE := Lib.hid (show M1 = M from by rw [HM1.out, HNM.out, hB]; simp)
        have HBK : Hid (Bk w wc g0 M1 (.slice q M.length c) wc) := ⟨by rw [HE.out]; exact HG1.out, rfl, by omega⟩
        have HXW := Lib.hid (HBK.out.kp.trans HX.out)
        obtain ⟨u0, u1, u2, u3, u4, u5, u6, u7, _⟩ := box8_in _ g0 _ _ _ _ _ _ _ _ _ HXW.out
        have hWz := HBK.out.gs.bel.size
        have HLW := Lib.hid (show NAll wc lo hi ll r from HLL.out.1.keep (Nat.le_refl _) (Nat.le_refl _) (fun p _ hp => (HBK.out.gs.bel.cell (by omega)).trans (HG.out.bel.cell (by omega)).symm))
        go_wp2_with (first
          | (go_at_call 14; refine (HIH.out wc lo hi r c1 HLW.out HLL.out.2.1 HLL.out.2.2 (by omega) (by omega)).mono ?_; rintro e w6 ⟨q6, c6, rfl, hc6, ht6, hb6⟩; obtain ⟨q7, c7, w7, hr7, hg7⟩ := (HBK.out.gs.more hWz hb6).run (Nat.le_trans hWz hb6.size) ht6 (by have := HRR.out; have := HRV.out; omega) M2 HM2.out (m := (riseR (rvA ll)).length) (c := c6) rfl 28; have HR7 := Lib.hid hr7; have HG7 := Lib.hid hg7; clear hr7 hg7 ht6 hb6)
          | (at_builtin; go_must (refine Lib.wpList_append_run_sl _ rfl (.tmp 31) (.tmp 34) _ rfl _ _ rfl rfl HR7.out ?_)))
        go_roundw
        case rel => exact ⟨j + 1, _, _, M2, by omega, by go_num, rfl, Lib.hid HST.out.symm, HG7⟩
        case measure => simp [intOf]; omega
      | true =>
        cases hE : s.toList.isEmpty with
        | true =>
          have HE := Lib.hid (show M1 = M from by rw [HM1.out, HNM.out, List.isEmpty_iff.1 hE]; simp)
          have HBK : Hid (Bk w wc g0 M1 (.slice q M.length c) wc) := ⟨by rw [HE.out]; exact HG1.out, rfl, by omega⟩
          have HXW := Lib.hid (HBK.out.kp.trans HX.out)
          obtain ⟨u0, u1, u2, u3, u4, u5, u6, u7, _⟩ := box8_in _ g0 _ _ _ _ _ _ _ _ _ HXW.out
          have hWz := HBK.out.gs.bel.size
          have HLW := Lib.hid (show NAll wc lo hi ll r from HLL.out.1.keep (Nat.le_refl _) (Nat.le_refl _) (fun p _ hp => (HBK.out.gs.bel.cell (by omega)).trans (HG.out.bel.cell (by omega)).symm))
          go_wp2_with (first
            | (go_at_call 14; refine (HIH.out wc lo hi r c1 HLW.out HLL.out.2.1 HLL.out.2.2 (by omega) (by omega)).mono ?_; rintro e w6 ⟨q6, c6, rfl, hc6, ht6, hb6⟩; obtain ⟨q7, c7, w7, hr7, hg7⟩ := (HBK.out.gs.more hWz hb6).run (Nat.le_trans hWz hb6.size) ht6 (by have := HRR.out; have := HRV.out; omega) M2 HM2.out (m := (riseR (rvA ll)).length) (c := c6) rfl 28; have HR7 := Lib.hid hr7; have HG7 := Lib.hid hg7; clear hr7 hg7 ht6 hb6)
            | (at_builtin; go_must (refine Lib.wpList_append_run_sl _ rfl (.tmp 31) (.tmp 34) _ rfl _ _ rfl rfl HR7.out ?_)))
          go_roundw
          case rel => exact ⟨j + 1, _, _, M2, by omega, by go_num, rfl, Lib.hid HST.out.symm, HG7⟩
          case measure => simp [intOf]; omega
        | false =>
          have HE := Lib.hid (show M1 = M ++ [s] from by rw [HM1.out, HNM.out, hB, if_pos ⟨rfl, fun h => by rw [h] at hE; cases hE⟩])
          obtain ⟨q5, c5, w5, hr5, hg5, hgw⟩ := (show Gs w.heap.size w M (.slice q M.length c) (wc.alloc (.cells #[.string s] 9)) from ⟨HG1.out.row.alloc (.cells #[.string s] 9), HG1.out.bel.alloc hPs _⟩).runG (by simp; omega) (one_text wc s) (by simp) (by simp; omega) M1 HE.out (m := 1) (c := 1) rfl 28
          have HR5 := Lib.hid hr5
          have HG5 := Lib.hid hg5
          have HGW := Lib.hid hgw
          clear hr5 hg5 hgw
          have HBK : Hid (Bk w wc g0 M1 (.slice q5 M1.length c5) w5) := ⟨HG5.out, ?kp, ?sz⟩
          case kp =>
            refine (HGW.out.block g0 (by simp; omega) (fun e => ?_)).trans (Below.heap_alloc _ _ _ hg1)
            rcases HG1.out.row.2 with ⟨h0, _⟩ | ⟨g, cap', cur, hv, _, hh, _⟩
            · rw [h0] at e; cases e
            · rw [hv] at e
              injection e with e
              subst e
              have := hh.symm.trans HX.out
              simp at this
          case sz => exact Nat.lt_of_lt_of_le (by simp; omega) HGW.out.size
          go_upto_region 13 with (at_builtin; refine Lib.wpList_append_run_sl _ rfl (.tmp 26) (.tmp 29) _ rfl _ _ rfl rfl HR5.out ?_)
          have HXW := Lib.hid (HBK.out.kp.trans HX.out)
          obtain ⟨u0, u1, u2, u3, u4, u5, u6, u7, _⟩ := box8_in _ g0 _ _ _ _ _ _ _ _ _ HXW.out
          have hWz := HBK.out.gs.bel.size
          have HLW := Lib.hid (show NAll w5 lo hi ll r from HLL.out.1.keep (Nat.le_refl _) (Nat.le_refl _) (fun p _ hp => (HBK.out.gs.bel.cell (by omega)).trans (HG.out.bel.cell (by omega)).symm))
          go_wp2_with (first
            | (go_at_call 14; refine (HIH.out w5 lo hi r c1 HLW.out HLL.out.2.1 HLL.out.2.2 (by omega) (by omega)).mono ?_; rintro e w6 ⟨q6, c6, rfl, hc6, ht6, hb6⟩; obtain ⟨q7, c7, w7, hr7, hg7⟩ := (HBK.out.gs.more hWz hb6).run (Nat.le_trans hWz hb6.size) ht6 (by have := HRR.out; have := HRV.out; omega) M2 HM2.out (m := (riseR (rvA ll)).length) (c := c6) rfl 28; have HR7 := Lib.hid hr7; have HG7 := Lib.hid hg7; clear hr7 hg7 ht6 hb6)
            | (at_builtin; go_must (refine Lib.wpList_append_run_sl _ rfl (.tmp 31) (.tmp 34) _ rfl _ _ rfl rfl HR7.out ?_)))
          go_roundw
          case rel => exact ⟨j + 1, _, _, M2, by omega, by go_num, rfl, Lib.hid HST.out.symm, HG7⟩
          case measure => simp [intOf]; omega
    · have hje : j = L.length := by omega
      have HF := Lib.hid (show M = rvA L from by rw [HM.out, hje, List.take_length])
      obtain ⟨q4, c4, he4, hc4, htr⟩ := HG.out.fin
      injection he4 with e1 _ e2
      subst e1 e2
      have HC := Lib.hid (rising_any M q c wr htr (by have := HRL.out; rw [HF.out]; omega) (fun x hx => HSM.out x (by rw [← HF.out]; exact hx)))
      clear htr
      go_wp2_with (go_at_call 35; refine HC.out.mono ?_; rintro e w5 ⟨q5, c5, rfl, hc5, ht5, hb5⟩; have HT5 := Lib.hid ht5; have HB5 := Lib.hid hb5; clear ht5 hb5)
      go_ret
      exact ⟨q5, c5, by rw [← HF.out]; rfl, by rw [← HF.out]; exact hc5, by rw [← HF.out]; exact HT5.out, HG.out.bel.trans (HB5.out.mono hz)⟩
theorem rvars_any (L : List Nd) : RVarsOk L := by
  have key : ∀ t : Nd, RVarsOk t.l := Nd.ind_ (fun o n s v l ih => rvars_of l ih)
  exact rvars_of L (fun t _ => key t)
end Go.Proofs.YtminmadaeaiihaaDoor
namespace Go.Proofs.YtminmadaeaiihaaDoor
open Go.RowKit
set_option maxRecDepth 100000

theorem bsL_inj : ∀ (l m : List ByteArray), bsL l = bsL m → l = m
  | [], [], _ => rfl
  | [], _ :: _, h => by cases h
  | _ :: _, [], h => by cases h
  | a :: r, b :: s, h => by
    rw [bsL, List.map_cons, bsL, List.map_cons] at h
    injection h with h1 h2
    rw [bs_inj h1, bsL_inj r s h2]
theorem rise_eq (L : List Nd) : riseR (nms (flatL L)) = riseR (rvA L) := by
  refine bsL_inj _ _ (up_same _ _ (riseR_up _) (riseR_up _) (fun x => ?_))
  unfold bsL
  simp only [List.mem_map]
  constructor
  · rintro ⟨y, hy, rfl⟩; exact ⟨y, (mem_riseR _ y).2 ((mem_rvA y L).2 ((mem_riseR _ y).1 hy)), rfl⟩
  · rintro ⟨y, hy, rfl⟩; exact ⟨y, (mem_riseR _ y).2 ((mem_rvA y L).1 ((mem_riseR _ y).1 hy)), rfl⟩
theorem nd_cnt (L : List Nd) (m : Int) (hm : 0 ≤ m) (h : (decide (0 ≤ ndAll L m 0) && okF (vldF L 0)) = true) : (cntAll L : Int) ≤ m := by
  rw [Bool.and_eq_true] at h
  have h2 : 0 ≤ ndAll L m 0 := by simpa using h.1
  have := ndAll_cnt L m 0 hm h2
  omega

set_option maxHeartbeats 4000000 in
theorem treeSays_all (ad : Nat → Addr) (L M : List Nd) (p p' : Option Addr) (cap cap' : Nat) (w : World) (hall : NAll w 0 w.heap.size L p) (hlc : L.length ≤ cap) (hcap : L.length * 112 ≤ 140737488355328)
    (hall' : NAll w 0 w.heap.size M p') (hlc' : M.length ≤ cap') (hcap' : M.length * 112 ≤ 140737488355328) (hS : Sn w ad) :
    Calls Tryd.prog 3 #[.slice p L.length cap, .slice p' M.length cap'] w fun e w' => e = .returned (.bool true) ∧ Below w.heap.size w w' := by
  have HALL := Lib.hid (fun W (hb : Below w.heap.size w W) => hall.below hb (Nat.le_refl _))
  have HALM := Lib.hid (fun W (hb : Below w.heap.size w W) => hall'.below hb (Nat.le_refl _))
  have HPG := Lib.hid (fun W (hb : Below w.heap.size w W) => wProgram_any L 2000 (by omega) (by omega) W 0 w.heap.size p cap (HALL.out W hb) hlc hcap hb.size)
  have HPM := Lib.hid (fun W (hb : Below w.heap.size w W) => wProgram_any M 2000 (by omega) (by omega) W 0 w.heap.size p' cap' (HALM.out W hb) hlc' hcap' hb.size)
  have HFI := Lib.hid (first7_any ad w hS)
  clear hall hall' hS
  cases hpr : (decide (0 ≤ ndAll L 2000 0) && okF (vldF L 0)) with
  | false =>
    have HPG1 := Lib.hid (fun W hb => by have := HPG.out W hb; rw [hpr] at this; exact this)
    clear HPG HPM hpr
    go_enter Tryd.func3, Tryd.ntmps3
    go_wp2_with (first
      | (go_at_call 6; refine HFI.out.mono ?_; rintro e w2 ⟨rfl, hb2⟩; have HB2 := Lib.hid hb2; clear hb2)
      | (go_at_call 7; refine (HPG1.out _ HB2.out).mono ?_; rintro e w3 ⟨rfl, hb3⟩; have HB3 := Lib.hid (HB2.out.trans (hb3.mono HB2.out.size)); clear hb3))
    go_ret
    exact ⟨ret_bool rfl, HB3.out⟩
  | true =>
    have HPG1 := Lib.hid (fun W hb => by have := HPG.out W hb; rw [hpr] at this; exact this)
    have hN := nd_cnt L 2000 (by omega) hpr
    clear HPG hpr
    cases hpr2 : (decide (0 ≤ ndAll M 2000 0) && okF (vldF M 0)) with
    | false =>
      have HPM1 := Lib.hid (fun W hb => by have := HPM.out W hb; rw [hpr2] at this; exact this)
      clear HPM hpr2
      go_enter Tryd.func3, Tryd.ntmps3
      go_wp2_with (first
        | (go_at_call 6; refine HFI.out.mono ?_; rintro e w2 ⟨rfl, hb2⟩; have HB2 := Lib.hid hb2; clear hb2 HFI)
        | (go_at_call 7; (with_reducible refine (HPG1.out _ HB2.out).mono ?_); rintro e w3 ⟨rfl, hb3⟩; have HB3 := Lib.hid (HB2.out.trans (hb3.mono HB2.out.size)); clear hb3 HPG1)
        | (go_at_call 7; (with_reducible refine (HPM1.out _ HB3.out).mono ?_); rintro e w4 ⟨rfl, hb4⟩; have HB4 := Lib.hid (HB3.out.trans (hb4.mono HB3.out.size)); clear hb4 HPM1))
      go_ret
      exact ⟨ret_bool rfl, HB4.out⟩
    | true =>
      have HPM1 := Lib.hid (fun W hb => by have := HPM.out W hb; rw [hpr2] at this; exact this)
      clear HPM hpr2
      have HC1 := Lib.hid (fun W (hb : Below w.heap.size w W) => count_any L W 0 w.heap.size p cap (HALL.out W hb) hb.size hlc hcap (by omega))
      have HC2 := Lib.hid (fun W (hb : Below w.heap.size w W) => rcount_any L W 0 w.heap.size p cap (HALL.out W hb) hlc hcap hb.size (by omega))
      have HD1 := Lib.hid (fun W (hb : Below w.heap.size w W) => deep_any L W 0 w.heap.size p cap (HALL.out W hb) hb.size hlc hcap (by omega))
      have HD2 := Lib.hid (fun W (hb : Below w.heap.size w W) => rdeep_any L W 0 w.heap.size p cap (HALL.out W hb) hb.size (by omega))
      have HVE := Lib.hid (show (riseR (rvA L)).length ≤ 2000 from by have h1 := riseR_len (rvA L); have h2 := rvA_len L; omega)
      have HV1 := Lib.hid (fun W (hb : Below w.heap.size w W) => by have := vars_loop L W 0 w.heap.size p cap (HALL.out W hb) hb.size hlc hcap (by omega); rw [rise_eq] at this; exact this)
      have HV2 := Lib.hid (fun W (hb : Below w.heap.size w W) => rvars_any L W 0 w.heap.size p cap (HALL.out W hb) hlc hcap hb.size (by omega))
      have HS1 := Lib.hid (fun W (hb : Below w.heap.size w W) => eqNs_any L M W 0 w.heap.size 0 w.heap.size p p' cap cap' (HALL.out W hb) hb.size hcap (HALM.out W hb) hb.size)
      have HS2 := Lib.hid (fun W (hb : Below w.heap.size w W) => ralike_any L M W 0 w.heap.size 0 w.heap.size p p' cap cap' (HALL.out W hb) hb.size hcap (HALM.out W hb) hb.size)
      have HCL := Lib.hid (fun W (hb : Below w.heap.size w W) => cloneNs_any L W 0 w.heap.size p cap (HALL.out W hb) hlc hcap hb.size)
      have HSN := Lib.hid (fun (W W' : World) (q : Option Addr) (hb : Below w.heap.size w W) (hb2 : Below W.heap.size W W') (hn : NAll W' W.heap.size W'.heap.size L q) => sameNs_any L W' W.heap.size W'.heap.size q L.length hn (Nat.le_refl _) hcap 0 w.heap.size p cap (HALL.out W' (hb.trans (hb2.mono hb.size))) (hb.trans (hb2.mono hb.size)).size)
      obtain ⟨K, hK⟩ : ∃ K, K = riseR (rvA L) := ⟨_, rfl⟩
      rw [← hK] at HVE HV1 HV2
      obtain ⟨A, hA⟩ : ∃ A, A = alAll L M := ⟨_, rfl⟩
      rw [← hA] at HS1 HS2
      have hcc : ((cntAll L : Int) == (cntAll L : Int)) = true := by simp
      have hdd : ((dpNAll L : Int) == (dpNAll L : Int)) = true := by simp
      have hAA : (A == A) = true := by simp
      clear hK hA
      go_enter Tryd.func3, Tryd.ntmps3
      go_wp2_with (first
        | (go_at_call 6; refine HFI.out.mono ?_; rintro e w2 ⟨rfl, hb2⟩; have HB2 := Lib.hid hb2; clear hb2 HFI)
        | (go_at_call 7; (with_reducible refine (HPG1.out _ HB2.out).mono ?_); rintro e w3 ⟨rfl, hb3⟩; have HB3 := Lib.hid (HB2.out.trans (hb3.mono HB2.out.size)); clear hb3 HPG1)
        | (go_at_call 7; (with_reducible refine (HPM1.out _ HB3.out).mono ?_); rintro e w4 ⟨rfl, hb4⟩; have HB4 := Lib.hid (HB3.out.trans (hb4.mono HB3.out.size)); clear hb4 HPM1)
        | (go_at_call 8; (with_reducible refine (HC1.out _ HB4.out).mono ?_); rintro e w5 ⟨rfl, hb5⟩; have HB5 := Lib.hid (HB4.out.trans (hb5.mono HB4.out.size)); clear hb5 HC1)
        | (go_at_call 9; (with_reducible refine (HC2.out _ HB5.out).mono ?_); rintro e w6 ⟨rfl, hb6⟩; have HB6 := Lib.hid (HB5.out.trans (hb6.mono HB5.out.size)); clear hb6 HC2)
        | (go_at_call 10; (with_reducible refine (HD1.out _ HB6.out).mono ?_); rintro e w7 ⟨rfl, hb7⟩; have HB7 := Lib.hid (HB6.out.trans (hb7.mono HB6.out.size)); clear hb7 HD1)
        | (go_at_call 11; (with_reducible refine (HD2.out _ HB7.out).mono ?_); rintro e w8 ⟨rfl, hw8⟩; have HB8 : Hid (Below w.heap.size w w8) := hw8 ▸ HB7; clear hw8 HD2)
        | (go_at_call 13; (with_reducible refine (HV1.out _ HB8.out).mono ?_); rintro e w9 ⟨qa, ca, rfl, hta, hb9⟩; have HTA := Lib.hid hta; have HB9 := Lib.hid (HB8.out.trans (hb9.mono HB8.out.size)); clear hb9 hta HV1)
        | (go_at_call 14; (with_reducible refine (HV2.out _ HB9.out).mono ?_); rintro e w10 ⟨qb, cb, rfl, _, htb, hb10⟩; have HST := Lib.hid (sameTexts_any K qa qb ca cb w10 ((HTA.out.below hb10).grow hb10.size) htb (by have := HVE.out; omega)); have HB10 := Lib.hid (HB9.out.trans (hb10.mono HB9.out.size)); clear hb10 htb HV2 HTA)
        | (go_at_call 12; (with_reducible refine HST.out.mono ?_); rintro e w11 ⟨rfl, hd11⟩; have HB11 := Lib.hid (HB10.out.trans ((drew_below hd11).mono HB10.out.size)); clear hd11 HST)
        | (go_at_call 15; (with_reducible refine (HS1.out _ HB11.out).mono ?_); rintro e w12 ⟨rfl, hb12⟩; have HB12 := Lib.hid (HB11.out.trans (hb12.mono HB11.out.size)); clear hb12 HS1)
        | (go_at_call 16; (with_reducible refine (HS2.out _ HB12.out).mono ?_); rintro e w13 ⟨rfl, hb13⟩; have HB13 := Lib.hid (HB12.out.trans (hb13.mono HB12.out.size)); clear hb13 HS2)
        | (go_at_call 18; (with_reducible refine (HCL.out _ HB13.out).mono ?_); intro e w14 h14; obtain ⟨qc, rfl, hnc, hb14, _⟩ := h14.all hcap; have HSQ := Lib.hid (HSN.out _ w14 qc HB13.out hb14 hnc); have HB14 := Lib.hid (HB13.out.trans (hb14.mono HB13.out.size)); clear h14 hnc hb14 HCL)
        | (go_at_call 17; (with_reducible refine HSQ.out.mono ?_); rintro e w15 ⟨rfl, hb15⟩; have HB15 := Lib.hid (HB14.out.trans (hb15.mono HB14.out.size)); clear hb15 HSQ))
      go_ret
      exact ⟨ret_bool (by simp), HB15.out⟩
end Go.Proofs.YtminmadaeaiihaaDoor
