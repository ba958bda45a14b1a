/- TreeEach: what a walk over all nodes hands out, whole and left early. -/
import Derived.Test.YtminmadaeaiihaaDoorFew
import Derived.Test.YtminmadaeaiihaaDoorNt
import Derived.Handy
import Derived.Test.YtminmadaeaiihaaDoorRo6
import Derived.Test.YtminmadaeaiihaaDoorRt
import Derived.Test.YtminmadaeaiihaaDoorCopy
import Derived.Test.YtminmadaeaiihaaDoorTm
import Derived.Deep.RegionHeld3
import Derived.Test.YtminmadaeaiihaaDoorSameV
import Derived.Test.YtminmadaeaiihaaDoorTh2
import Derived.Test.YtminmadaeaiihaaDoorVal
import Derived.RangeFuncCalls
import Derived.OrdersIn
import Derived.OwnWalkIn
import Derived.BigQuiet
import Derived.Deep.QuietTactic
import Derived.Test.YtminmadaeaiihaaDoorHandsK
import Derived.Test.YtminmadaeaiihaaDoorRise
import Derived.Test.YtminmadaeaiihaaDoorTc
import Derived.Sort.CutIn
import Derived.KernelRfl
namespace Go.Proofs.YtminmadaeaiihaaDoor
open Go.RowKit
set_option maxRecDepth 100000

mutual
/-- How many nodes are left of so many; below 0: more. -/
def ndN : Nd → Int → Int → Int
  | .mk _ _ s v l, left, deep => if left - 1 - (s.size : Int) / 16 < 0 ∨ 60 < deep then -1 else if fewT v (left - 1 - (s.size : Int) / 16) 0 < 0 then -1 else if ndAll l (fewT v (left - 1 - (s.size : Int) / 16) 0) (deep + 1) < 0 then -1 else ndAll l (fewT v (left - 1 - (s.size : Int) / 16) 0) (deep + 1)
def ndAll : List Nd → Int → Int → Int
  | [], left, _ => left
  | t :: r, left, deep => if ndN t left deep < 0 then -1 else ndAll r (ndN t left deep) deep
end
theorem ndAll_drop (l : List Nd) (j : Nat) (h : j < l.length) (y d : Int) : ndAll (l.drop j) y d = if ndN l[j] y d < 0 then -1 else ndAll (l.drop (j + 1)) (ndN l[j] y d) d := by
  rw [List.drop_eq_getElem_cons h, ndAll]
/-- What is left, with what was counted, is no more than there was. -/
theorem ndAll_cnt_of (l : List Nd) (H : ∀ t ∈ l, ∀ (y d : Int), 0 ≤ y → 0 ≤ ndN t y d → ndN t y d + (cnt t : Int) ≤ y) : ∀ (y d : Int), 0 ≤ y → 0 ≤ ndAll l y d → ndAll l y d + (cntAll l : Int) ≤ y := by
  induction l with
  | nil => intro y d _ _; rw [ndAll, cntAll]; omega
  | cons x r ihr =>
    intro y d hy h
    rw [ndAll] at h ⊢
    by_cases hx : ndN x y d < 0
    · rw [if_pos hx] at h; omega
    · rw [if_neg hx] at h ⊢
      have h1 := H x (by simp) y d hy (by omega)
      have h2 := ihr (fun t ht => H t (by simp [ht])) (ndN x y d) d (by omega) h
      rw [cntAll]; omega
theorem ndN_cnt : ∀ (t : Nd) (y d : Int), 0 ≤ y → 0 ≤ ndN t y d → ndN t y d + (cnt t : Int) ≤ y := by
  refine Nd.ind_ (fun o n s v l ih y d hy h => ?_)
  rw [ndN] at h ⊢
  by_cases h1 : y - 1 - (s.size : Int) / 16 < 0 ∨ 60 < d
  · rw [if_pos h1] at h; omega
  rw [if_neg h1] at h ⊢
  have hf := few_le v (y - 1 - (s.size : Int) / 16) 0 (by omega)
  by_cases h2 : fewT v (y - 1 - (s.size : Int) / 16) 0 < 0
  · rw [if_pos h2] at h; omega
  rw [if_neg h2] at h ⊢
  by_cases h3 : ndAll l (fewT v (y - 1 - (s.size : Int) / 16) 0) (d + 1) < 0
  · rw [if_pos h3] at h; omega
  rw [if_neg h3] at h ⊢
  have h4 := ndAll_cnt_of l ih _ (d + 1) (by omega) h
  rw [cnt]; omega
theorem ndAll_cnt (l : List Nd) (y d : Int) (hy : 0 ≤ y) (h : 0 ≤ ndAll l y d) : ndAll l y d + (cntAll l : Int) ≤ y := ndAll_cnt_of l (fun t _ => ndN_cnt t) y d hy h
theorem ndAll_neg : ∀ (l : List Nd) (y d : Int), ndAll l y d < 0 → 0 ≤ y → ndAll l y d = -1
  | [], y, d, h, hy => by rw [ndAll] at h; omega
  | x :: r, y, d, h, hy => by
    rw [ndAll] at h ⊢
    by_cases hx : ndN x y d < 0
    · rw [if_pos hx]
    · rw [if_neg hx] at h ⊢; exact ndAll_neg r _ d h (by omega)

theorem ndN_b1 {o n : Int} {s : ByteArray} {v : T} {l : List Nd} {x d : Int} (h : x - 1 - (s.size : Int) / 16 < 0 ∨ 60 < d) : ndN (.mk o n s v l) x d = -1 := by rw [ndN, if_pos h]
theorem ndN_b2 {o n : Int} {s : ByteArray} {v : T} {l : List Nd} {x d : Int} (h1 : ¬ (x - 1 - (s.size : Int) / 16 < 0 ∨ 60 < d)) (h : fewT v (x - 1 - (s.size : Int) / 16) 0 < 0) : ndN (.mk o n s v l) x d = -1 := by rw [ndN, if_neg h1, if_pos h]
theorem ndN_b3 {o n : Int} {s : ByteArray} {v : T} {l : List Nd} {x d : Int} (h1 : ¬ (x - 1 - (s.size : Int) / 16 < 0 ∨ 60 < d)) (h2 : ¬ fewT v (x - 1 - (s.size : Int) / 16) 0 < 0) (h : ndAll l (fewT v (x - 1 - (s.size : Int) / 16) 0) (d + 1) < 0) : ndN (.mk o n s v l) x d = -1 := by rw [ndN, if_neg h1, if_neg h2, if_pos h]
theorem ndN_ok {o n : Int} {s : ByteArray} {v : T} {l : List Nd} {x d : Int} (h1 : ¬ (x - 1 - (s.size : Int) / 16 < 0 ∨ 60 < d)) (h2 : ¬ fewT v (x - 1 - (s.size : Int) / 16) 0 < 0) (h : ¬ ndAll l (fewT v (x - 1 - (s.size : Int) / 16) 0) (d + 1) < 0) : ndN (.mk o n s v l) x d = ndAll l (fewT v (x - 1 - (s.size : Int) / 16) 0) (d + 1) := by rw [ndN, if_neg h1, if_neg h2, if_neg h]

def NdsOk (L : List Nd) : Prop := ∀ (w : World) (lo hi : Nat) (p : Option Addr) (cap : Nat) (y d : Int), NAll w lo hi L p → L.length ≤ cap → L.length * 112 ≤ 140737488355328 → hi ≤ w.heap.size → 0 ≤ y → y ≤ 6000 → 0 ≤ d → d ≤ 61 →
  Calls Tryd.prog 48 #[.slice p L.length cap, .int .i64 y, .int .i64 d] w fun e w' => e = .returned (.int .i64 (ndAll L y d)) ∧ Below w.heap.size w w'

set_option maxHeartbeats 1000000 in
theorem nds_of (L : List Nd) (ih : ∀ t ∈ L, NdsOk t.l) : NdsOk L := by
  intro w lo hi p cap y d hall hlc hcap hhi hy0 hy1 hd0 hd1
  have HIH := Lib.hid ih
  have HALL := Lib.hid hall
  clear ih hall
  go_enter Tryd.func48, Tryd.ntmps48
  go_wp2
  go_loopw [1, 7] (fun o i wr => ∃ (j : Nat) (x : Int), j ≤ L.length ∧ i = .int .i64 j ∧ o = .int .i64 x ∧ 0 ≤ x ∧ x ≤ 6000 ∧ Hid (ndAll L y d = ndAll (L.drop j) x d) ∧ Hid (Below w.heap.size w wr)) (fun _ i _ => L.length - (intOf i).toNat)
  case atStart => exact ⟨0, _, Nat.zero_le _, rfl, rfl, hy0, hy1, rfl, Below.refl _ _⟩
  case round =>
    obtain ⟨j, x, hj, rfl, rfl, hx0, hx1, HO, HBR⟩ := hrel
    have hz := HBR.out.size
    by_cases hlt : j < L.length
    · obtain ⟨b, off, o, n, s, v, ll, k, m, z, q, ql, qc, r, c, hp, _, hbhi, hli, h0, h1, h2, h3, h4, h5, h6, h7, hrep⟩ := (HALL.out.below HBR.out hhi).item j hlt
      have hA0 := ndAll_drop L j hlt x d
      have hih := HIH.out _ (List.getElem_mem hlt)
      rw [hli] at hA0 hrep hih
      simp only [Nd.l] at hih
      have hAA := Lib.hid (HO.out.trans hA0)
      obtain ⟨_, _, e1, erep, e2, e3, e4⟩ := hrep.parts
      have hbw : b < wr.heap.size := by omega
      subst hp
      clear hA0 hli HO hrep
      by_cases hc : x - 1 - (s.size : Int) / 16 < 0
      · have HF := Lib.hid (show ndAll L y d = -1 from by rw [hAA.out, ndN_b1 (.inl hc)]; rfl)
        clear hih erep e4 hAA
        go_wp2
        all_goals
          go_ret
          exact ⟨ret_int HF.out.symm, HBR.out⟩
      by_cases hd : 60 < d
      · have HF := Lib.hid (show ndAll L y d = -1 from by rw [hAA.out, ndN_b1 (.inr hd)]; rfl)
        clear hih erep e4 hAA
        go_wp2
        all_goals
          go_ret
          exact ⟨ret_int HF.out.symm, HBR.out⟩
      obtain ⟨y1, hy1e⟩ : ∃ y1, y1 = x - 1 - (s.size : Int) / 16 := ⟨_, rfl⟩
      have hle := few_le v y1 0 (by omega)
      have HV := Lib.hid (few_any v wr lo hi _ y1 0 erep (by omega) (by omega) (by omega) (by omega) (by omega))
      by_cases hf : fewT v y1 0 < 0
      · have HF := Lib.hid (show ndAll L y d = -1 from by rw [hAA.out, ndN_b2 (by omega) (hy1e ▸ hf)]; rfl)
        clear hih erep e4 hAA
        rw [hy1e] at HV hf
        go_wp2_with (go_at_call 76; refine HV.out.mono ?_; rintro e w2 ⟨rfl, hb2⟩; have HB2 := Lib.hid (HBR.out.trans (hb2.mono hz)); clear hb2)
        go_ret
        exact ⟨ret_int HF.out.symm, HB2.out⟩
      obtain ⟨y2, hy2e⟩ : ∃ y2, y2 = fewT v y1 0 := ⟨_, rfl⟩
      have HN := Lib.hid (fun (w2 : World) (hb2 : Below wr.heap.size wr w2) => hih w2 lo hi r c y2 (d + 1) (e4.below hb2 (by omega)) e2 e3 (by have := hb2.size; omega) (by omega) (by omega) (by omega) (by omega))
      by_cases hn : ndAll ll y2 (d + 1) < 0
      · have HF := Lib.hid (show ndAll L y d = -1 from by rw [hAA.out, ndN_b3 (by omega) (hy1e ▸ hf) (by rw [← hy1e, ← hy2e]; exact hn)]; rfl)
        clear hih erep e4 hAA
        rw [hy1e] at HV
        rw [hy1e] at hy2e
        rw [hy2e] at HN hn
        rw [hy1e] at hf
        go_wp2_with (first
          | (go_at_call 76; refine HV.out.mono ?_; rintro e w2 ⟨rfl, hb2⟩; have HB2 := Lib.hid (HBR.out.trans (hb2.mono hz)); have HN2 := Lib.hid (HN.out _ hb2); have h7w := (hb2.cell (p := ⟨b, off + j * 8 + 7, none⟩) hbw).trans h7; clear hb2)
          | (go_at_call 48; refine HN2.out.mono ?_; rintro e w3 ⟨rfl, hb3⟩; have HB3 := Lib.hid (HB2.out.trans (hb3.mono HB2.out.size)); clear hb3))
        go_ret
        exact ⟨ret_int HF.out.symm, HB3.out⟩
      · have hcn := ndAll_cnt ll y2 (d + 1) (by omega) (by omega)
        obtain ⟨y3, hy3e⟩ : ∃ y3, y3 = ndAll ll y2 (d + 1) := ⟨_, rfl⟩
        have HF := Lib.hid (show ndAll L y d = ndAll (L.drop (j + 1)) y3 d from by rw [hAA.out, ndN_ok (by omega) (hy1e ▸ hf) (by rw [← hy1e, ← hy2e]; exact hn), ← hy1e, ← hy2e, ← hy3e, if_neg (by rw [hy3e]; exact hn)])
        rw [← hy3e] at hn hcn
        have HN' := Lib.hid (fun w2 hb2 => by have := HN.out w2 hb2; rw [← hy3e] at this; exact this)
        have HV' := Lib.hid (by have := HV.out; rw [← hy2e] at this; rw [hy1e] at this; exact this)
        have hy2f : ¬ y2 < 0 := by omega
        have hy3b : y3 ≤ 6000 := by omega
        clear hih erep e4 hAA HN HV hy1e hy2e hy3e hf hcn
        go_wp2_with (first
          | (go_at_call 76; refine HV'.out.mono ?_; rintro e w2 ⟨rfl, hb2⟩; have HB2 := Lib.hid (HBR.out.trans (hb2.mono hz)); have HN2 := Lib.hid (HN'.out _ hb2); have h7w := (hb2.cell (p := ⟨b, off + j * 8 + 7, none⟩) hbw).trans h7; clear hb2)
          | (go_at_call 48; refine HN2.out.mono ?_; rintro e w3 ⟨rfl, hb3⟩; have HB3 := Lib.hid (HB2.out.trans (hb3.mono HB2.out.size)); clear hb3))
        go_roundw
        case rel => exact ⟨j + 1, y3, by omega, by go_num, rfl, by omega, hy3b, HF, HB3⟩
        case measure => simp [intOf]; omega
    · have hjl : j = L.length := by omega
      have HF := Lib.hid (show ndAll L y d = x from by rw [HO.out, hjl, List.drop_length, ndAll])
      go_wp2
      go_ret
      exact ⟨ret_int HF.out.symm, HBR.out⟩
theorem nds_any (L : List Nd) : NdsOk L := by
  have key : ∀ t : Nd, NdsOk t.l := Nd.ind_ (fun o n s v l ih => nds_of l ih)
  exact nds_of L (fun t _ => key t)

set_option maxHeartbeats 400000 in
theorem wNodes_any (L : List Nd) (most : Int) (hm0 : 0 ≤ most) (hm1 : most ≤ 6000) (w : World) (lo hi : Nat) (p : Option Addr) (cap : Nat) (hall : NAll w lo hi L p) (hlc : L.length ≤ cap) (hcap : L.length * 112 ≤ 140737488355328) (hhi : hi ≤ w.heap.size) :
    Calls Tryd.prog 30 #[.slice p L.length cap, .int .i64 most] w fun e w' => e = .returned (.bool (decide (0 ≤ ndAll L most 0))) ∧ Below w.heap.size w w' := by
  have HC := Lib.hid (nds_any L w lo hi p cap most 0 hall hlc hcap hhi hm0 hm1 (by omega) (by omega))
  clear hall
  go_enter Tryd.func30, Tryd.ntmps30
  go_wp2_with (go_at_call 48; refine HC.out.mono ?_; rintro e w2 ⟨rfl, hb2⟩)
  go_ret
  exact ⟨rfl, hb2⟩
end Go.Proofs.YtminmadaeaiihaaDoor
namespace Go.Proofs.YtminmadaeaiihaaDoor
open Go.RowKit
set_option maxRecDepth 100000

/-- A fault of the whole, as the document's words lay it. -/
def fltR : Flt → Value
  | .ok => fv 0
  | .bare k => fv (101 + k)
  | .at_ n k => fp (101 + k) n
structure VB (w W : World) (g : Nat) : Prop where
  bel : Below w.heap.size w W
  flt : W.heap[g]? = some (.cells #[.int .i64 0, .bool false, .int .i64 0, .int .i64 0, .int .i64 0, .string ⟨#[]⟩, .slice none 0 0] 53 (0, 0))
theorem VB.step {w W W' : World} {g : Nat} (h : VB w W g) (hb : Below W.heap.size W W') : VB w W' g := ⟨h.bel.trans (hb.mono h.bel.size), heap_old h.flt hb⟩
theorem fR_open (F : Option (Int × Nat)) : ∃ f0 f1 f2, fR F = .agg #[.int .i64 f0, .bool f1, .int .i64 f2, .int .i64 0, .int .i64 0, .string ByteArray.empty, .slice none 0 0] ∧ ((F = none ∧ f0 = 0) ∨ (f0 ≠ 0 ∧ ∃ fl fk, F = some (fl, fk))) := by
  cases F with
  | none => exact ⟨_, _, _, rfl, .inl ⟨rfl, rfl⟩⟩
  | some f => exact ⟨_, _, _, rfl, .inr ⟨by omega, f.1, f.2, rfl⟩⟩

set_option maxHeartbeats 1000000 in
theorem rvalid7_any (L : List Nd) (w : World) (lo hi : Nat) (p : Option Addr) (cap : Nat) (hall : NAll w lo hi L p) (hlc : L.length ≤ cap) (hcap : L.length * 112 ≤ 140737488355328) (hhi : hi ≤ w.heap.size) (hcn : cntAll L ≤ 1000000) :
    Calls Tryd.prog 31 #[.slice p L.length cap] w fun e w' => e = .returned (fltR (vldF L 0)) ∧ Below w.heap.size w w' := by
  have HALL := Lib.hid hall
  have hll := len_cnt L
  have HV := Lib.hid (show VB w (w.alloc (.cells #[.int .i64 0, .bool false, .int .i64 0, .int .i64 0, .int .i64 0, .string ⟨#[]⟩, .slice none 0 0] 53)) w.heap.size from ⟨(Below.refl _ _).alloc (Nat.le_refl _) _, heap_alloc_new w _⟩)
  have HTM := Lib.hid (fun (W : World) (hb : Below w.heap.size w W) => rtooMany_any L W lo hi p cap (hall.below hb hhi) hlc hcap (by have := hb.size; omega))
  have HDP := Lib.hid (fun (W : World) (hb : Below w.heap.size w W) => rdeep_any L W lo hi p cap (hall.below hb hhi) (by have := hb.size; omega) (by omega))
  obtain ⟨W1, hW1⟩ : ∃ W1, w.alloc (.cells #[.int .i64 0, .bool false, .int .i64 0, .int .i64 0, .int .i64 0, .string ⟨#[]⟩, .slice none 0 0] 53) = W1 := ⟨_, rfl⟩
  rw [hW1] at HV
  have hdl := dpNAll_le L
  clear hall
  by_cases h1 : 4096 < cntAll L
  · have HF := Lib.hid (show fltR (vldF L 0) = fv 104 from by unfold vldF; rw [if_pos h1]; rfl)
    have HM1 := Lib.hid (by have := HTM.out W1 HV.out.bel; rw [decide_eq_true h1] at this; exact this)
    clear h1 HTM HDP
    go_enter Tryd.func31, Tryd.ntmps31
    go_wp2_with (first
      | (go_at_call 49; refine HM1.out.mono ?_; rintro e w2 ⟨rfl, rfl⟩)
      | (go_at_call 50; refine (bare_any _ _).mono ?_; unfold fv; rintro e w3 ⟨rfl, hb3⟩; have HV3 := Lib.hid (HV.out.step hb3); obtain ⟨r0, r1, r2, r3, r4, r5, r6, hxf⟩ := box7_in _ _ _ _ _ _ _ _ _ _ HV3.out.flt; have hxf0 := hxf 0; have hxf1 := hxf 1; have hxf2 := hxf 2; have hxf3 := hxf 3; have hxf4 := hxf 4; have hxf5 := hxf 5; have hxf6 := hxf 6; clear hxf hb3))
    refine bodyPost_ret (v := fv 104) (by unfold fv; simp [results, Tryd.results31, go_sem, r0, r1, r2, r3, r4, r5, r6]) rfl ?_
    exact ⟨by rw [HF.out], below_set7 HV3.out.bel (Nat.le_refl _) _ _ _ _ _ _ _⟩
  have HM1 := Lib.hid (by have := HTM.out W1 HV.out.bel; rw [decide_eq_false h1] at this; exact this)
  have HD1 := Lib.hid (HDP.out W1 HV.out.bel)
  by_cases h2 : 40 < dpNAll L
  · have HF := Lib.hid (show fltR (vldF L 0) = fv 112 from by unfold vldF; rw [if_neg h1, if_pos h2]; rfl)
    have h2i : (40 : Int) < (dpNAll L : Int) := by omega
    clear h1 HTM HDP h2 hdl
    go_enter Tryd.func31, Tryd.ntmps31
    go_wp2_with (first
      | (go_at_call 49; refine HM1.out.mono ?_; rintro e w2 ⟨rfl, rfl⟩)
      | (go_at_call 11; refine HD1.out.mono ?_; rintro e w2 ⟨rfl, rfl⟩)
      | (go_at_call 50; refine (bare_any _ _).mono ?_; unfold fv; rintro e w3 ⟨rfl, hb3⟩; have HV3 := Lib.hid (HV.out.step hb3); obtain ⟨r0, r1, r2, r3, r4, r5, r6, hxf⟩ := box7_in _ _ _ _ _ _ _ _ _ _ HV3.out.flt; have hxf0 := hxf 0; have hxf1 := hxf 1; have hxf2 := hxf 2; have hxf3 := hxf 3; have hxf4 := hxf 4; have hxf5 := hxf 5; have hxf6 := hxf 6; clear hxf hb3))
    refine bodyPost_ret (v := fv 112) (by unfold fv; simp [results, Tryd.results31, go_sem, r0, r1, r2, r3, r4, r5, r6]) rfl ?_
    exact ⟨by rw [HF.out], below_set7 HV3.out.bel (Nat.le_refl _) _ _ _ _ _ _ _⟩
  have HF := Lib.hid (show vldF L 0 = firstF L 0 from by unfold vldF; rw [if_neg h1, if_neg h2])
  have h2i : ¬ (40 : Int) < (dpNAll L : Int) := by omega
  clear h1 HTM HDP h2 hdl
  go_enter Tryd.func31, Tryd.ntmps31
  go_wp2_with (first
    | (go_at_call 49; refine HM1.out.mono ?_; rintro e w2 ⟨rfl, rfl⟩)
    | (go_at_call 11; refine HD1.out.mono ?_; rintro e w2 ⟨rfl, rfl⟩))
  clear h2i HM1 HD1
  go_loopw [3] (fun i wr => ∃ j : Nat, j ≤ L.length ∧ i = .int .i64 j ∧ Hid (VB w wr w.heap.size) ∧ Hid (firstF (L.drop j) 0 = firstF L 0)) (fun i _ => L.length - (intOf i).toNat)
  case atStart => exact ⟨0, Nat.zero_le _, rfl, HV, Lib.hid rfl⟩
  case round =>
    obtain ⟨j, hj, rfl, HL, HD⟩ := hrel
    by_cases hlj : j < L.length
    · obtain ⟨b, off, o, n, s, v, ll, k, m, z, q, ql, qc, r, c, hp, _, hbhi, hli, h0, h1, h2, h3, h4, h5, h6, h7, hrep⟩ := (HALL.out.below HL.out.bel hhi).item j hlj
      have hmem : L[j] ∈ L := List.getElem_mem hlj
      have hcm := cntAll_mem hmem
      have hwr := HL.out.bel.size
      have HC := Lib.hid (rodd_any L[j] _ 0 false wr lo hi hrep (by omega) (by omega) (by omega))
      rw [show rp 0 = 9 from rfl] at HC
      have HDR := Lib.hid (firstF_drop L j hlj 0)
      have hbw : b < wr.heap.size := by omega
      subst hp
      clear hrep hmem hcm hli
      obtain ⟨F, hF⟩ : ∃ F, F = ckN L[j] 0 false := ⟨_, rfl⟩
      rw [← hF] at HC
      obtain ⟨f0, f1, f2, hf, hF0⟩ := fR_open F
      rw [hf] at HC
      have HFF := Lib.hid hf
      clear hf
      rcases hF0 with ⟨hFn, hf0⟩ | ⟨hf0, fl, fk, hFs⟩
      · subst hf0
        rw [← hF, hFn] at HDR
        clear hF HFF
        go_wp2_with (go_at_call 51; refine HC.out.mono ?_; rintro e w7 ⟨rfl, hb7⟩; have HL7 := Lib.hid (HL.out.step hb7); clear hb7)
        go_roundw
        case rel => exact ⟨j + 1, by omega, by go_num, Lib.hid (HL7.out.step ((Below.refl w7.heap.size w7).alloc (Nat.le_refl _) _)), Lib.hid (HDR.out.symm.trans HD.out)⟩
        case measure => simp [intOf]; omega
      · have hb0 : (f0 != 0) = true := by simpa using hf0
        rw [← hF, hFs] at HDR
        have HR := Lib.hid (show fltR (vldF L 0) = .agg #[.int .i64 f0, .bool f1, .int .i64 f2, .int .i64 0, .int .i64 0, .string ByteArray.empty, .slice none 0 0] from by
          rw [HF.out, ← HD.out, HDR.out]
          have := HFF.out
          rw [hFs] at this; exact this)
        clear hf0 hF HFF
        go_upto_region 10 with (go_at_call 51; refine HC.out.mono ?_; rintro e w7 ⟨rfl, hb7⟩; have HL7 := Lib.hid (HL.out.step hb7); clear hb7)
        have H7 := heap_alloc_new w7 (.cells #[.int .i64 f0, .bool f1, .int .i64 f2, .int .i64 0, .int .i64 0, .string ByteArray.empty, .slice none 0 0] 53)
        have HL8 := Lib.hid (HL7.out.step ((Below.refl w7.heap.size w7).alloc (Nat.le_refl _) (.cells #[.int .i64 f0, .bool f1, .int .i64 f2, .int .i64 0, .int .i64 0, .string ByteArray.empty, .slice none 0 0] 53)))
        have hne : w7.heap.size ≠ w.heap.size := by have := heap_lt HL7.out.flt; omega
        generalize w7.alloc (.cells #[.int .i64 f0, .bool f1, .int .i64 f2, .int .i64 0, .int .i64 0, .string ByteArray.empty, .slice none 0 0] 53) = W4 at *
        obtain ⟨g0, g1, g2, g3, g4, g5, g6, _⟩ := box7_in W4 w7.heap.size _ _ _ _ _ _ _ _ H7
        obtain ⟨r0, r1, r2, r3, r4, r5, r6, hxf⟩ := box7_in _ _ _ _ _ _ _ _ _ _ HL8.out.flt
        have hxf0 := hxf 0; have hxf1 := hxf 1; have hxf2 := hxf 2; have hxf3 := hxf 3; have hxf4 := hxf 4; have hxf5 := hxf 5; have hxf6 := hxf 6
        clear hxf H7 HL7 h0 h1 h2 h3 h4 h5 h6 h7 HC
        generalize w7.heap.size = g7 at *
        clear w7
        go_wp2_with fail
        refine bodyPost_ret (v := .agg #[.int .i64 f0, .bool f1, .int .i64 f2, .int .i64 0, .int .i64 0, .string ByteArray.empty, .slice none 0 0]) (by simp [results, Tryd.results31, go_sem, r0, r1, r2, r3, r4, r5, r6]) rfl ?_
        exact ⟨by rw [HR.out], below_set7 HL8.out.bel (Nat.le_refl _) _ _ _ _ _ _ _⟩
    · have hje : j = L.length := by omega
      have HR := Lib.hid (show fltR (vldF L 0) = fv 0 from by rw [HF.out, ← HD.out, hje, List.drop_length, firstF]; rfl)
      go_wp2_with (go_at_call 52; refine (none_any _).mono ?_; unfold fv; rintro e w6 ⟨rfl, hb6⟩; have HL2 := Lib.hid (HL.out.step hb6); obtain ⟨r0, r1, r2, r3, r4, r5, r6, hxf⟩ := box7_in _ _ _ _ _ _ _ _ _ _ HL2.out.flt; have hxf0 := hxf 0; have hxf1 := hxf 1; have hxf2 := hxf 2; have hxf3 := hxf 3; have hxf4 := hxf 4; have hxf5 := hxf 5; have hxf6 := hxf 6; clear hxf hb6)
      refine bodyPost_ret (v := fv 0) (by unfold fv; simp [results, Tryd.results31, go_sem, r0, r1, r2, r3, r4, r5, r6]) rfl ?_
      exact ⟨by rw [HR.out], below_set7 HL2.out.bel (Nat.le_refl _) _ _ _ _ _ _ _⟩

def okF : Flt → Bool
  | .ok => true
  | _ => false
theorem okF_iff {F : Flt} (h : okF F = true) : F = .ok := by
  cases F with
  | ok => rfl
  | bare k => cases h
  | at_ n k => cases h
theorem fltR_open (F : Flt) : ∃ f0 f1 f2, fltR F = .agg #[.int .i64 f0, .bool f1, .int .i64 f2, .int .i64 0, .int .i64 0, .string ByteArray.empty, .slice none 0 0] ∧ (f0 == 0) = okF F := by
  cases F with
  | ok => exact ⟨_, _, _, rfl, rfl⟩
  | bare k => exact ⟨_, _, _, rfl, by show ((101 + (k : Int)) == 0) = false; simp; omega⟩
  | at_ n k => exact ⟨_, _, _, rfl, by show ((101 + (k : Int)) == 0) = false; simp; omega⟩

theorem field_code (f0 : Int) (f1 : Bool) (f2 : Int) (W : World) : (Instr.field 53 (.agg #[.int .i64 f0, .bool f1, .int .i64 f2, .int .i64 0, .int .i64 0, .string ByteArray.empty, .slice none 0 0]) 0).run Tryd.prog W = .ok (.int .i64 f0) W := by kernel_rfl
set_option maxHeartbeats 1000000 in
theorem wProgram_any (L : List Nd) (most : Int) (hm0 : 0 ≤ most) (hm1 : most ≤ 6000) (w : World) (lo hi : Nat) (p : Option Addr) (cap : Nat) (hall : NAll w lo hi L p) (hlc : L.length ≤ cap) (hcap : L.length * 112 ≤ 140737488355328) (hhi : hi ≤ w.heap.size) :
    Calls Tryd.prog 7 #[.slice p L.length cap, .int .i64 most] w fun e w' => e = .returned (.bool (decide (0 ≤ ndAll L most 0) && okF (vldF L 0))) ∧ Below w.heap.size w w' := by
  have HN := Lib.hid (wNodes_any L most hm0 hm1 w lo hi p cap hall hlc hcap hhi)
  by_cases h1 : 0 ≤ ndAll L most 0
  · have hc1 := ndAll_cnt L most 0 hm0 h1
    rw [decide_eq_true h1] at HN
    have HV := Lib.hid (fun W (hb : Below w.heap.size w W) => rvalid7_any L W lo hi p cap (hall.below hb hhi) hlc hcap (by have := hb.size; omega) (by omega))
    obtain ⟨f0, f1, f2, hf, hf0⟩ := fltR_open (vldF L 0)
    rw [hf] at HV
    have HF := Lib.hid (show (decide (0 ≤ ndAll L most 0) && okF (vldF L 0)) = (f0 == 0) from by rw [decide_eq_true h1, hf0]; rfl)
    have hfd := fun W => field_code f0 f1 f2 W
    clear hall h1 hc1 hf hf0
    go_enter Tryd.func7, Tryd.ntmps7
    go_wp2_with (first
      | (go_at_call 30; refine HN.out.mono ?_; rintro e w2 ⟨rfl, hb2⟩; have HB2 := Lib.hid hb2; clear hb2)
      | (go_at_call 31; refine (HV.out _ HB2.out).mono ?_; rintro e w3 ⟨rfl, hb3⟩; have HB3 := Lib.hid (HB2.out.trans (hb3.mono HB2.out.size)); clear hb3))
    go_ret
    exact ⟨ret_bool HF.out.symm, HB3.out⟩
  · have hd := decide_eq_false h1
    rw [hd] at HN
    rw [hd]
    clear hall h1 hd
    go_enter Tryd.func7, Tryd.ntmps7
    go_wp2_with (go_at_call 30; refine HN.out.mono ?_; rintro e w2 ⟨rfl, hb2⟩)
    go_ret
    exact ⟨ret_bool rfl, hb2⟩
end Go.Proofs.YtminmadaeaiihaaDoor
namespace Go.Proofs.YtminmadaeaiihaaDoor
open Go.RowKit
set_option maxRecDepth 100000

def NewN (w : World) (t : Nd) (e : Ending) (w' : World) : Prop := ∃ x, e = .returned x ∧ NRep w' w.heap.size w'.heap.size t x ∧ Below w.heap.size w w'
def NewNs (w : World) (l : List Nd) (e : Ending) (w' : World) : Prop := ∃ q c, e = .returned (.slice q l.length c) ∧ l.length ≤ c ∧ NAll w' w.heap.size w'.heap.size l q ∧ Below w.heap.size w w'
theorem Tryd.info_N : (Tryd.prog.info? 40).map (fun i => (i.zero, i.size, i.bytes)) = some (some (.agg #[.int .i64 0, .int .i64 0, .string ⟨#[]⟩, .int .i64 0, .int .i64 0, .string ⟨#[]⟩, .slice none 0 0, .slice none 0 0]), 8, 112) := by kernel_rfl
theorem nrep_form {w : World} {lo hi : Nat} {t : Nd} {x : Value} (h : NRep w lo hi t x) : ∃ (o n : Int) (s : ByteArray) (k m : Int) (z : ByteArray) (q : Option Addr) (ql qc : Nat) (r : Option Addr) (lc c : Nat), x = .agg #[.int .i64 o, .int .i64 n, .string s, .int .i64 k, .int .i64 m, .string z, .slice q ql qc, .slice r lc c] := by
  obtain ⟨o, n, s, v, l⟩ := t
  obtain ⟨k, m, z, q, ql, qc, p, cap, rfl, _⟩ := h.open
  exact ⟨_, _, _, _, _, _, _, _, _, _, _, _, rfl⟩
theorem held8 {a b c d e f g h r : Prop} (H : a ∧ b ∧ c ∧ d ∧ e ∧ f ∧ g ∧ h ∧ r) : a ∧ b ∧ c ∧ d ∧ e ∧ f ∧ g ∧ h := by
  obtain ⟨h1, h2, h3, h4, h5, h6, h7, h8, _⟩ := H; exact ⟨h1, h2, h3, h4, h5, h6, h7, h8⟩
def CopyNs (l : List Nd) : Prop := ∀ (w : World) (lo hi : Nat) (p : Option Addr) (cap : Nat), NAll w lo hi l p → l.length ≤ cap → l.length * 112 ≤ 140737488355328 → hi ≤ w.heap.size →
  Calls Tryd.prog 19 #[.slice p l.length cap] w (NewNs w l)
def CopyN (t : Nd) : Prop := ∀ (w : World) (lo hi : Nat) (x : Value), NRep w lo hi t x → hi ≤ w.heap.size → Calls Tryd.prog 40 #[x] w (NewN w t)

set_option maxHeartbeats 2000000 in
theorem copyNs_of (l : List Nd) (ih : ∀ t ∈ l, CopyN t) : CopyNs l := by
  intro w lo hi p cap hall _hlc hcap hhi
  cases hl : l with
  | nil =>
    simp only [List.length_nil]
    go_enter Tryd.func19, Tryd.ntmps19
    go_wp2
    go_ret
    exact ⟨none, 0, rfl, Nat.le_refl _, NAll.nil _ _ _ _, Below.refl _ _⟩
  | cons x xs =>
    have hpos : 0 < l.length := by rw [hl]; simp
    rw [← hl]
    clear hl
    have H := Lib.hid ih; clear ih
    have HALL := Lib.hid hall; clear hall
    obtain ⟨i0, hi0, hz0, hz1, hz2⟩ := info_parts Tryd.info_N
    have hmk : ∀ W : World, (Instr.makeSlice 22 (.int .i64 0) (.int .i64 (l.length : Int))).run Tryd.prog W = .ok (.slice (some ⟨W.heap.size, 0, none⟩) 0 l.length) (W.alloc (.cells (madeCells #[.int .i64 0, .int .i64 0, .string ⟨#[]⟩, .int .i64 0, .int .i64 0, .string ⟨#[]⟩, .slice none 0 0, .slice none 0 0] (l.length * 8)) 40)) := by
      intro W
      have h := run_make (P := Tryd.prog) W 22 40 i0 _ Tryd.underlying22 hi0 hz0 .i64 .i64 0 l.length (by omega) (by omega) (by rw [hz2]; omega) (by omega)
      rw [hz1] at h
      simpa [Value.cells] using h
    have hl0 : ((l.length : Int) == 0) = false := beq_eq_false_iff_ne.2 (by omega)
    go_enter Tryd.func19, Tryd.ntmps19
    go_wp2
    have hP := Lib.hid (NPart.start w (madeCells #[.int .i64 0, .int .i64 0, .string ⟨#[]⟩, .int .i64 0, .int .i64 0, .string ⟨#[]⟩, .slice none 0 0, .slice none 0 0] (l.length * 8)) l (size_madeCells _ _))
    have hW : Below w.heap.size w (w.alloc (.cells (madeCells #[.int .i64 0, .int .i64 0, .string ⟨#[]⟩, .int .i64 0, .int .i64 0, .string ⟨#[]⟩, .slice none 0 0, .slice none 0 0] (l.length * 8)) 40)) := (Below.refl _ _).alloc (Nat.le_refl _) _
    have hzz : l.length * 112 ≤ 140737488355328 := hcap
    clear hi0 hz0 hz1 hz2
    go_loopw [3, 4] (fun o i wr => ∃ j : Nat, j ≤ l.length ∧ i = .int .i64 j ∧ o = .slice (some ⟨w.heap.size, 0, none⟩) j l.length ∧ Hid (NPart wr w.heap.size l j) ∧ Hid (Below w.heap.size w wr)) (fun _ i _ => l.length - (intOf i).toNat)
    case atStart => exact ⟨0, Nat.zero_le _, rfl, rfl, hP, hW⟩
    case round =>
      obtain ⟨j, hj, rfl, rfl, HP, HBR⟩ := hrel
      have hz := HBR.out.size
      have hzl := HP.out.lt
      by_cases hlt : j < l.length
      · obtain ⟨b, off, o, n, s, v, ll, k, m, z, q, ql, qc, r, c, rfl, _, hbhi, hli, h0, h1, h2, h3, h4, h5, h6, h7, hrep⟩ := (HALL.out.below HBR.out hhi).item j hlt
        have HC := Lib.hid (H.out _ (List.getElem_mem hlt) _ lo hi _ hrep (by omega))
        clear hrep hli
        go_wp2_with (go_at_call 40; refine HC.out.mono ?_; rintro e w2 ⟨x2, rfl, hv, hb2⟩; obtain ⟨o2, n2, s2, k2, m2, z2, q2, ql2, qc2, r2, lc2, c2, rfl⟩ := nrep_form hv; have HV := Lib.hid hv; clear hv; have hbz := hb2.size; have HP2 := Lib.hid (HP.out.below hb2); have HB2 := Lib.hid (HBR.out.trans (hb2.mono hz)); clear hb2; have hwl : w.heap.size < w2.heap.size := (by omega); obtain ⟨⟨u0, hu0⟩, ⟨u1, hu1⟩, ⟨u2, hu2⟩, ⟨u3, hu3⟩, ⟨u4, hu4⟩, ⟨u5, hu5⟩, ⟨u6, hu6⟩, ⟨u7, hu7⟩, hfz⟩ := HP2.out.room j hlt; have hf0 := hfz (j * 8); have hf1 := hfz (j * 8 + 1); have hf2 := hfz (j * 8 + 2); have hf3 := hfz (j * 8 + 3); have hf4 := hfz (j * 8 + 4); have hf5 := hfz (j * 8 + 5); have hf6 := hfz (j * 8 + 6); have hf7 := hfz (j * 8 + 7); clear hfz)
        go_roundw
        case rel =>
          refine ⟨j + 1, by omega, by go_num, by go_num, ?_, ?_⟩
          · exact NPart.below (NPart.step HP2.out hlt _ _ _ _ _ _ _ _ (HV.out.wide (by omega) (Nat.le_refl _))) ((Below.refl _ _).alloc (Nat.le_refl _) _)
          · exact (below_set8 HB2.out (Nat.le_refl _) _ _ _ _ _ _ _ _).alloc (by rw [size_set8]; omega) _
        case measure => simp [intOf]; omega
      · have hjl : j = l.length := by omega
        subst hjl
        go_wp2
        go_ret
        exact ⟨_, _, rfl, Nat.le_refl _, HP.out.done, HBR.out⟩

set_option maxHeartbeats 4000000 in
theorem copyN_of (t : Nd) (ih : CopyNs t.l) : CopyN t := by
  intro w lo hi x hr hhi
  obtain ⟨o, n, s, v, l⟩ := t
  simp only [Nd.l] at ih
  obtain ⟨k, m, z, q, ql, qc, p, cap, rfl, hio, hin, hs, hrv, hlc, hcap, hall⟩ := hr.open
  have HCV := Lib.hid (fun W (hb : Below w.heap.size w W) => value_any v W lo hi _ (hrv.below hb hhi) (by have := hb.size; omega))
  have HCN := Lib.hid (fun W (hb : Below w.heap.size w W) => ih W lo hi p cap (hall.below hb hhi) hlc hcap (by have := hb.size; omega))
  obtain ⟨W1, hW1⟩ : ∃ W1, (w.alloc (.cells #[.int .i64 o, .int .i64 n, .string s, .int .i64 k, .int .i64 m, .string z, .slice q ql qc, .slice p l.length cap] 40)).alloc (.cells #[.int .i64 0, .int .i64 0, .string ⟨#[]⟩, .int .i64 0, .int .i64 0, .string ⟨#[]⟩, .slice none 0 0, .slice none 0 0] 40) = W1 := ⟨_, rfl⟩
  have HB1 : Hid (Below w.heap.size w W1) := hW1 ▸ (((Below.refl w.heap.size w).alloc (Nat.le_refl _) _).alloc (by simp) _)
  have HX : Hid (W1.heap[w.heap.size]? = some (.cells #[.int .i64 o, .int .i64 n, .string s, .int .i64 k, .int .i64 m, .string z, .slice q ql qc, .slice p l.length cap] 40 (0, 0))) := hW1 ▸ heap_alloc_ _ _ _ _ (heap_alloc_new w _)
  have HY : Hid (W1.heap[w.heap.size + 1]? = some (.cells #[.int .i64 0, .int .i64 0, .string ⟨#[]⟩, .int .i64 0, .int .i64 0, .string ⟨#[]⟩, .slice none 0 0, .slice none 0 0] 40 (0, 0))) := hW1 ▸ (by have h := heap_alloc_new (w.alloc (.cells #[.int .i64 o, .int .i64 n, .string s, .int .i64 k, .int .i64 m, .string z, .slice q ql qc, .slice p l.length cap] 40)) (.cells #[.int .i64 0, .int .i64 0, .string ⟨#[]⟩, .int .i64 0, .int .i64 0, .string ⟨#[]⟩, .slice none 0 0, .slice none 0 0] 40); rw [World.size_alloc] at h; exact h)
  have HSF := Lib.hid (fun W (hb : Below W1.heap.size W1 W) => box8_in _ _ _ _ _ _ _ _ _ _ _ (heap_old HX.out hb))
  have HD5 := Lib.hid (Below.refl W1.heap.size W1).drew
  obtain ⟨d0, d1, d2, d3, d4, d5, d6, d7, _⟩ := HSF.out _ HD5.out
  clear hr ih hrv hall
  go_enter Tryd.func40, Tryd.ntmps40
  go_upto_region 1 with fail
  go_region_held3 (fun W' => W'.cell? ⟨w.heap.size, 0, none⟩ = some (.int .i64 o) ∧ W'.cell? ⟨w.heap.size, 1, none⟩ = some (.int .i64 n) ∧ W'.cell? ⟨w.heap.size, 2, none⟩ = some (.string s) ∧ W'.cell? ⟨w.heap.size, 3, none⟩ = some (.int .i64 k) ∧ W'.cell? ⟨w.heap.size, 4, none⟩ = some (.int .i64 m) ∧ W'.cell? ⟨w.heap.size, 5, none⟩ = some (.string z) ∧ W'.cell? ⟨w.heap.size, 6, none⟩ = some (.slice q ql qc) ∧ W'.cell? ⟨w.heap.size, 7, none⟩ = some (.slice p l.length cap)) (first | with_reducible exact held8 (HSF.out _ HD5.out) | with_reducible exact held8 (HSF.out _ HD6.out) | with_reducible exact held8 (HSF.out _ HD7.out) | with_reducible exact held8 (HSF.out _ (below_set8 HD7.out (Nat.le_refl _) _ _ _ _ _ _ _ _)) | go_keep | (go_show; fail)) (first
    | (go_at_call 61; (with_reducible refine (HCV.out _ (HB1.out.trans (HD5.out.mono HB1.out.size))).mono ?_); rintro e w6 ⟨x6, rfl, hv6, hb6⟩; obtain ⟨k6, m6, z6, q6, ql6, qc6, rfl⟩ := rep_form hv6; have HV6 := Lib.hid hv6; have HD6 := Lib.hid (HD5.out.trans (hb6.mono HD5.out.size)); clear hv6 hb6; obtain ⟨a0, a1, a2, a3, a4, a5, a6, a7, _⟩ := HSF.out _ HD6.out)
    | (go_at_call 19; (with_reducible refine (HCN.out _ (HB1.out.trans (HD6.out.mono HB1.out.size))).mono ?_); rintro e w7 ⟨q7, c7, rfl, hlc7, hn7, hb7⟩; have HN7 := Lib.hid hn7; have HB7 := Lib.hid hb7; have HD7 := Lib.hid (HD6.out.trans (hb7.mono HD6.out.size)); clear hn7 hb7; obtain ⟨b0, b1, b2, b3, b4, b5, b6, b7, _⟩ := HSF.out _ HD7.out; obtain ⟨y0, y1, y2, y3, y4, y5, y6, y7, hyf⟩ := box8_in _ _ _ _ _ _ _ _ _ _ _ (heap_old HY.out HD7.out); have hyf0 := hyf 0; have hyf1 := hyf 1; have hyf2 := hyf 2; have hyf3 := hyf 3; have hyf4 := hyf 4; have hyf5 := hyf 5; have hyf6 := hyf 6; have hyf7 := hyf 7; clear hyf))
  go_wp2
  refine bodyPost_ret (v := .agg #[.int .i64 o, .int .i64 n, .string s, .int .i64 k6, .int .i64 m6, .string z6, .slice q6 ql6 qc6, .slice q7 l.length c7]) (by simp [results, Tryd.results40, go_sem, y0, y1, y2, y3, y4, y5, y6, y7]) rfl ?_
  have hb7 := HB1.out.trans (HD7.out.mono HB1.out.size)
  have h61 := (HB1.out.trans (HD6.out.mono HB1.out.size)).size
  refine ⟨_, rfl, ?_, below_set8 hb7 (Nat.le_succ _) _ _ _ _ _ _ _ _⟩
  have hN : NRep w7 (w.heap.size + 2) w7.heap.size (.mk o n s v l) (.agg #[.int .i64 o, .int .i64 n, .string s, .int .i64 k6, .int .i64 m6, .string z6, .slice q6 ql6 qc6, .slice q7 l.length c7]) := by
    unfold NRep
    refine ⟨k6, m6, z6, q6, ql6, qc6, q7, c7, rfl, hio, hin, hs, (HV6.out.below HB7.out (Nat.le_refl _)).keep ?_ HB7.out.size (fun _ _ _ => rfl), hlc7, hcap, HN7.out.wide ?_ (Nat.le_refl _)⟩
    · have := HD5.out.size; rw [← hW1] at this ⊢; simp
    · have := HD6.out.size; rw [← hW1] at this; simp at this; omega
  exact (hN.keep8 (Or.inl (by omega)) _ _ _ _ _ _ _ _).wide (by omega) (by rw [size_set8]; exact Nat.le_refl _)
theorem copyN_any : ∀ t : Nd, CopyN t := Nd.ind_ (fun _ _ _ _ _ ih => copyN_of _ (copyNs_of _ ih))
theorem copyNs_any (L : List Nd) : CopyNs L := copyNs_of L (fun t _ => copyN_any t)
end Go.Proofs.YtminmadaeaiihaaDoor
namespace Go.Proofs.YtminmadaeaiihaaDoor
open Go.RowKit
set_option maxRecDepth 100000

/-- A slice of nodes whose row is one's own. -/
def OwnAt (w : World) (B : Nat) (q : Option Addr) (n c : Nat) : Prop := ∃ xs, w.ownsRow B 40 8 (.slice q n c) n xs
theorem OwnAt.below {w w' : World} {B n c : Nat} {q : Option Addr} (h : OwnAt w B q n c) (hb : Below w.heap.size w w') : OwnAt w' B q n c := by
  obtain ⟨xs, h1, h2⟩ := h
  refine ⟨xs, h1, ?_⟩
  rcases h2 with h2 | ⟨g, cap, cur, hv, hg, hh, r⟩
  · exact .inl h2
  · exact .inr ⟨g, cap, cur, hv, hg, heap_old hh hb, r⟩
theorem OwnAt.mono {w : World} {B B' n c : Nat} {q : Option Addr} (h : OwnAt w B q n c) (hb : B' ≤ B) : OwnAt w B' q n c := by
  obtain ⟨xs, h1, h2⟩ := h
  refine ⟨xs, h1, ?_⟩
  rcases h2 with h2 | ⟨g, cap, cur, hv, hg, hh, r⟩
  · exact .inl h2
  · exact .inr ⟨g, cap, cur, hv, by omega, hh, r⟩
theorem OwnAt.setCell {w : World} {B n c : Nat} {q : Option Addr} (h : OwnAt w B q n c) {g : Nat} (hg : g < B) (o : Nat) (u : Value) : OwnAt (w.setCell ⟨g, o, none⟩ u) B q n c := by
  obtain ⟨xs, h1, h2⟩ := h
  refine ⟨xs, h1, ?_⟩
  rcases h2 with h2 | ⟨g2, cap, cur, hv, hg2, hh, r⟩
  · exact .inl h2
  · exact .inr ⟨g2, cap, cur, hv, hg2, by rw [Below.heap_setCell _ _ _ _ (by show g2 ≠ g; omega)]; exact hh, r⟩
theorem OwnAt.set8 {w : World} {B n c : Nat} {q : Option Addr} (h : OwnAt w B q n c) {g : Nat} (hg : g < B) (o : Nat) (c0 c1 c2 c3 c4 c5 c6 c7 : Value) : OwnAt (set8 w g o c0 c1 c2 c3 c4 c5 c6 c7) B q n c :=
  (((((((h.setCell hg _ c0).setCell hg _ c1).setCell hg _ c2).setCell hg _ c3).setCell hg _ c4).setCell hg _ c5).setCell hg _ c6).setCell hg _ c7
/-- The lists of the first j items are one's own. -/
def Owns (w : World) (bo : Nat) (l : List Nd) (j : Nat) : Prop := ∀ i (h : i < l.length), i < j → ∃ r, w.cell? ⟨bo, i * 8 + 7, none⟩ = some (.slice r l[i].l.length l[i].l.length) ∧ OwnAt w (bo + 1) r l[i].l.length l[i].l.length
theorem Owns.below {w w' : World} {bo j : Nat} {l : List Nd} (h : Owns w bo l j) (hbo : bo < w.heap.size) (hb : Below w.heap.size w w') : Owns w' bo l j := fun i hi hj => by
  obtain ⟨r, h1, h2⟩ := h i hi hj
  exact ⟨r, (hb.cell (p := ⟨bo, i * 8 + 7, none⟩) hbo).trans h1, h2.below hb⟩
theorem cell_set8_other {w : World} {g o m : Nat} (hm : m < o ∨ o + 8 ≤ m) (c0 c1 c2 c3 c4 c5 c6 c7 : Value) : (set8 w g o c0 c1 c2 c3 c4 c5 c6 c7).cell? ⟨g, m, none⟩ = w.cell? ⟨g, m, none⟩ := by
  unfold set8
  have hne : ∀ (W : World) (d : Nat) (u : Value), d < 8 → (W.setCell ⟨g, o + d, none⟩ u).cell? ⟨g, m, none⟩ = W.cell? ⟨g, m, none⟩ := fun W d u hd => World.cell?_setCell_other W _ _ u (fun e => by injection e with _ e _; omega)
  have h0 : ∀ (W : World) (u : Value), (W.setCell ⟨g, o, none⟩ u).cell? ⟨g, m, none⟩ = W.cell? ⟨g, m, none⟩ := fun W u => hne W 0 u (by omega)
  rw [hne _ 7 _ (by omega), hne _ 6 _ (by omega), hne _ 5 _ (by omega), hne _ 4 _ (by omega), hne _ 3 _ (by omega), hne _ 2 _ (by omega), hne _ 1 _ (by omega), h0]

def NewC (w : World) (l : List Nd) (e : Ending) (w' : World) : Prop := Below w.heap.size w w' ∧ ((l = [] ∧ e = .returned (.slice none 0 0)) ∨ ∃ bo, w.heap.size ≤ bo ∧ e = .returned (.slice (some ⟨bo, 0, none⟩) l.length l.length) ∧ NPart w' bo l l.length ∧ Owns w' bo l l.length)
theorem NewC.all {w : World} {l : List Nd} {e : Ending} {w' : World} (h : NewC w l e w') (hl : l.length * 112 ≤ 140737488355328) : ∃ q, e = .returned (.slice q l.length l.length) ∧ NAll w' w.heap.size w'.heap.size l q ∧ Below w.heap.size w w' ∧ OwnAt w' w.heap.size q l.length l.length := by
  obtain ⟨hb, ⟨rfl, rfl⟩ | ⟨bo, hbo, rfl, hp, _⟩⟩ := h
  · exact ⟨none, rfl, NAll.nil _ _ _ _, hb, [], World.ownsRow_nil _ _ _ _⟩
  · refine ⟨_, rfl, hp.done.wide hbo (Nat.le_refl _), hb, ?_⟩
    obtain ⟨cs, h1, h2, _⟩ := hp
    exact ⟨cs.toList, by simp [h2], .inr ⟨bo, l.length, cs, rfl, hbo, h1, Nat.le_refl _, by unfold maxLen; omega, h2, List.take_of_length_le (by simp [h2])⟩⟩
def NewN2 (w : World) (t : Nd) (e : Ending) (w' : World) : Prop := ∃ (o n : Int) (s : ByteArray) (k m : Int) (z : ByteArray) (q : Option Addr) (ql qc : Nat) (r : Option Addr), e = .returned (.agg #[.int .i64 o, .int .i64 n, .string s, .int .i64 k, .int .i64 m, .string z, .slice q ql qc, .slice r t.l.length t.l.length]) ∧
  NRep w' w.heap.size w'.heap.size t (.agg #[.int .i64 o, .int .i64 n, .string s, .int .i64 k, .int .i64 m, .string z, .slice q ql qc, .slice r t.l.length t.l.length]) ∧ Below w.heap.size w w' ∧ OwnAt w' w.heap.size r t.l.length t.l.length
theorem Owns.step {w : World} {bo j : Nat} {l : List Nd} (h : Owns w bo l j) (hp : NPart w bo l j) (hj : j < l.length) (c0 c1 c2 c3 c4 c5 c6 : Value) (r : Option Addr) (ho : OwnAt w (bo + 1) r l[j].l.length l[j].l.length) :
    Owns (set8 w bo (j * 8) c0 c1 c2 c3 c4 c5 c6 (.slice r l[j].l.length l[j].l.length)) bo l (j + 1) := fun i hi hij => by
  by_cases e : i = j
  · subst e
    refine ⟨r, ?_, ho.set8 (Nat.lt_succ_self _) _ _ _ _ _ _ _ _ _⟩
    obtain ⟨cs, h1, h2, _⟩ := hp
    have hset : ∀ (w : World) (c : Array Value) (o : Nat) (u : Value), w.heap[bo]? = some (.cells c 40 (0, 0)) → (w.setCell ⟨bo, o, none⟩ u).heap[bo]? = some (.cells (c.setIfInBounds o u) 40 (0, 0)) := by
      intro w c o u hw
      simp [World.setCell, Array.getElem?_modify, hw]
    have k7 := hset _ _ (i * 8 + 7) (.slice r l[i].l.length l[i].l.length) (hset _ _ (i * 8 + 6) c6 (hset _ _ (i * 8 + 5) c5 (hset _ _ (i * 8 + 4) c4 (hset _ _ (i * 8 + 3) c3 (hset _ _ (i * 8 + 2) c2 (hset _ _ (i * 8 + 1) c1 (hset _ _ (i * 8) c0 h1)))))))
    rw [cell_of_row _ _ _ _ _ _ k7]
    simp [Array.getElem?_setIfInBounds]
    omega
  · obtain ⟨r', h1, h2⟩ := h i hi (by omega)
    exact ⟨r', (cell_set8_other (by omega) _ _ _ _ _ _ _ _).trans h1, h2.set8 (Nat.lt_succ_self _) _ _ _ _ _ _ _ _ _⟩
def CloneNs (l : List Nd) : Prop := ∀ (w : World) (lo hi : Nat) (p : Option Addr) (cap : Nat), NAll w lo hi l p → l.length ≤ cap → l.length * 112 ≤ 140737488355328 → hi ≤ w.heap.size →
  Calls Tryd.prog 18 #[.slice p l.length cap] w (NewC w l)
def CloneN (t : Nd) : Prop := ∀ (w : World) (lo hi : Nat) (x : Value), NRep w lo hi t x → hi ≤ w.heap.size → Calls Tryd.prog 39 #[x] w (NewN2 w t)

abbrev setV (W : World) (g : Nat) (c3 c4 c5 c6 : Value) : World := (((W.setCell ⟨g, 3, none⟩ c3).setCell ⟨g, 4, none⟩ c4).setCell ⟨g, 5, none⟩ c5).setCell ⟨g, 6, none⟩ c6
theorem heap_setV {W : World} {g : Nat} {d0 d1 d2 d3 d4 d5 d6 d7 : Value} {t : TypeId} (h : W.heap[g]? = some (.cells #[d0, d1, d2, d3, d4, d5, d6, d7] t (0, 0))) (c3 c4 c5 c6 : Value) :
    (setV W g c3 c4 c5 c6).heap[g]? = some (.cells #[d0, d1, d2, c3, c4, c5, c6, d7] t (0, 0)) := by
  have hset : ∀ (w : World) (c : Array Value) (o : Nat) (u : Value), w.heap[g]? = some (.cells c t (0, 0)) → (w.setCell ⟨g, o, none⟩ u).heap[g]? = some (.cells (c.setIfInBounds o u) t (0, 0)) := by
    intro w c o u hw
    simp [World.setCell, Array.getElem?_modify, hw]
  have k := hset _ _ 6 c6 (hset _ _ 5 c5 (hset _ _ 4 c4 (hset _ _ 3 c3 h)))
  simpa using k
theorem below_setV {B g : Nat} {a w : World} (h : Below B a w) (hg : B ≤ g) (c3 c4 c5 c6 : Value) : Below B a (setV w g c3 c4 c5 c6) := (((h.setCell hg c3).setCell hg c4).setCell hg c5).setCell hg c6
theorem other_setV {W : World} {g b : Nat} (h : b ≠ g) (c3 c4 c5 c6 : Value) : (setV W g c3 c4 c5 c6).heap[b]? = W.heap[b]? := by
  unfold setV
  rw [Below.heap_setCell _ _ _ _ h, Below.heap_setCell _ _ _ _ h, Below.heap_setCell _ _ _ _ h, Below.heap_setCell _ _ _ _ h]
theorem size_setV (W : World) (g : Nat) (c3 c4 c5 c6 : Value) : (setV W g c3 c4 c5 c6).heap.size = W.heap.size := by unfold setV; simp

set_option maxHeartbeats 2000000 in
theorem cloneN_of (t : Nd) (ih : CloneNs t.l) : CloneN t := by
  intro w lo hi x hr hhi
  obtain ⟨o, n, s, v, l⟩ := t
  simp only [Nd.l] at ih
  obtain ⟨k, m, z, q, ql, qc, p, cap, rfl, hio, hin, hs, hrv, hlc, hcap, hall⟩ := hr.open
  have HCN := Lib.hid (fun W (hb : Below w.heap.size w W) => ih W lo hi p cap (hall.below hb hhi) hlc hcap (by have := hb.size; omega))
  obtain ⟨W1, hW1⟩ : ∃ W1, (w.alloc (.cells #[.int .i64 o, .int .i64 n, .string s, .int .i64 k, .int .i64 m, .string z, .slice q ql qc, .slice p l.length cap] 40)).alloc (.cells #[.int .i64 0, .int .i64 0, .string ⟨#[]⟩, .int .i64 0, .int .i64 0, .string ⟨#[]⟩, .slice none 0 0, .slice none 0 0] 40) = W1 := ⟨_, rfl⟩
  have HB1 : Hid (Below w.heap.size w W1) := hW1 ▸ (((Below.refl w.heap.size w).alloc (Nat.le_refl _) _).alloc (by simp) _)
  have HX : Hid (W1.heap[w.heap.size]? = some (.cells #[.int .i64 o, .int .i64 n, .string s, .int .i64 k, .int .i64 m, .string z, .slice q ql qc, .slice p l.length cap] 40 (0, 0))) := hW1 ▸ heap_alloc_ _ _ _ _ (heap_alloc_new w _)
  have HY : Hid (W1.heap[w.heap.size + 1]? = some (.cells #[.int .i64 0, .int .i64 0, .string ⟨#[]⟩, .int .i64 0, .int .i64 0, .string ⟨#[]⟩, .slice none 0 0, .slice none 0 0] 40 (0, 0))) := hW1 ▸ (by have h := heap_alloc_new (w.alloc (.cells #[.int .i64 o, .int .i64 n, .string s, .int .i64 k, .int .i64 m, .string z, .slice q ql qc, .slice p l.length cap] 40)) (.cells #[.int .i64 0, .int .i64 0, .string ⟨#[]⟩, .int .i64 0, .int .i64 0, .string ⟨#[]⟩, .slice none 0 0, .slice none 0 0] 40); rw [World.size_alloc] at h; exact h)
  have hsz1 : W1.heap.size = w.heap.size + 2 := by rw [← hW1]; simp
  have HCV := Lib.hid (clone_any v W1 lo hi _ (hrv.below HB1.out hhi) (by omega))
  obtain ⟨d0, d1, d2, d3, d4, d5, d6, d7, _⟩ := box8_in _ _ _ _ _ _ _ _ _ _ _ HX.out
  clear hr ih hrv hall
  go_enter Tryd.func39, Tryd.ntmps39
  go_upto_region 2 with (go_at_call 60; refine HCV.out.mono ?_; rintro e w2 ⟨⟨v2, rfl, hv2, hb2⟩, _⟩; obtain ⟨k2, m2, z2, q2, ql2, qc2, rfl⟩ := rep_form hv2; have HV2 := Lib.hid hv2; have HX2 := Lib.hid (heap_old HX.out hb2); have HY2 := Lib.hid (heap_old HY.out hb2); have HB2 := Lib.hid (HB1.out.trans (hb2.mono HB1.out.size)); have HZ2 := Lib.hid hb2.size; clear hv2 hb2; obtain ⟨a0, a1, a2, a3, a4, a5, a6, a7, haf⟩ := box8_in _ _ _ _ _ _ _ _ _ _ _ HX2.out; have haf3 := haf 3; have haf4 := haf 4; have haf5 := haf 5; have haf6 := haf 6; clear haf)
  have HX3 := Lib.hid (heap_setV HX2.out (.int .i64 k2) (.int .i64 m2) (.string z2) (.slice q2 ql2 qc2))
  have HY3 := Lib.hid ((other_setV (W := w2) (g := w.heap.size) (b := w.heap.size + 1) (by omega) (.int .i64 k2) (.int .i64 m2) (.string z2) (.slice q2 ql2 qc2)).trans HY2.out)
  have HB3 := Lib.hid (below_setV HB2.out (Nat.le_refl _) (.int .i64 k2) (.int .i64 m2) (.string z2) (.slice q2 ql2 qc2))
  have HV3 : Hid (Rep (setV w2 w.heap.size (.int .i64 k2) (.int .i64 m2) (.string z2) (.slice q2 ql2 qc2)) (w.heap.size + 2) w2.heap.size v (.agg #[.int .i64 k2, .int .i64 m2, .string z2, .slice q2 ql2 qc2])) :=
    ((((HV2.out.setCell (Or.inl (show w.heap.size < W1.heap.size by omega)) _).setCell (Or.inl (show w.heap.size < W1.heap.size by omega)) _).setCell (Or.inl (show w.heap.size < W1.heap.size by omega)) _).setCell (Or.inl (show w.heap.size < W1.heap.size by omega)) _).keep (by omega) (Nat.le_refl _) (fun _ _ _ => rfl)
  have HZ3 := Lib.hid (size_setV w2 w.heap.size (.int .i64 k2) (.int .i64 m2) (.string z2) (.slice q2 ql2 qc2))
  unfold setV at HX3 HY3 HB3 HV3 HZ3
  generalize (((w2.setCell ⟨w.heap.size, 3, none⟩ (.int .i64 k2)).setCell ⟨w.heap.size, 4, none⟩ (.int .i64 m2)).setCell ⟨w.heap.size, 5, none⟩ (.string z2)).setCell ⟨w.heap.size, 6, none⟩ (.slice q2 ql2 qc2) = w3 at *
  obtain ⟨b0, b1, b2, b3, b4, b5, b6, b7, _⟩ := box8_in _ _ _ _ _ _ _ _ _ _ _ HX3.out
  have HCN3 := Lib.hid (HCN.out _ HB3.out)
  clear a0 a1 a2 a3 a4 a5 a6 a7 haf3 haf4 haf5 haf6 d0 d1 d2 d3 d4 d5 d6 d7 HX HY HX2 HY2 HCV HCN HV2
  go_upto_region 3 with (go_at_call 18; refine HCN3.out.mono ?_; intro e w4 h4; obtain ⟨q4, rfl, hn4, hb4, ho4⟩ := h4.all hcap; have HO4 := Lib.hid ho4; have HN4 := Lib.hid hn4; have HX4 := Lib.hid (heap_old HX3.out hb4); have HY4 := Lib.hid (heap_old HY3.out hb4); have HB4 := Lib.hid (HB3.out.trans (hb4.mono HB3.out.size)); have HV4 := Lib.hid (HV3.out.below hb4 (by rw [HZ3.out]; exact Nat.le_refl _)); have HZ4 := Lib.hid hb4.size; clear h4 hn4 hb4 ho4; obtain ⟨e0, e1, e2, e3, e4, e5, e6, e7, hef⟩ := box8_in _ _ _ _ _ _ _ _ _ _ _ HX4.out; have hef7 := hef 7; clear hef; obtain ⟨y0, y1, y2, y3, y4, y5, y6, y7, hyf⟩ := box8_in _ _ _ _ _ _ _ _ _ _ _ HY4.out; have hyf0 := hyf 0; have hyf1 := hyf 1; have hyf2 := hyf 2; have hyf3 := hyf 3; have hyf4 := hyf 4; have hyf5 := hyf 5; have hyf6 := hyf 6; have hyf7 := hyf 7; clear hyf)
  clear b0 b1 b2 b3 b4 b5 b6 b7
  go_wp2_with fail
  refine bodyPost_ret (v := .agg #[.int .i64 o, .int .i64 n, .string s, .int .i64 k2, .int .i64 m2, .string z2, .slice q2 ql2 qc2, .slice q4 l.length l.length]) (by simp [results, Tryd.results39, go_sem, y0, y1, y2, y3, y4, y5, y6, y7]) rfl ?_
  have hz3 := HZ3.out
  have hz2 := HZ2.out
  have hz4 := HZ4.out
  have hN : NRep w4 (w.heap.size + 2) w4.heap.size (.mk o n s v l) (.agg #[.int .i64 o, .int .i64 n, .string s, .int .i64 k2, .int .i64 m2, .string z2, .slice q2 ql2 qc2, .slice q4 l.length l.length]) := by
    unfold NRep
    exact ⟨k2, m2, z2, q2, ql2, qc2, q4, l.length, rfl, hio, hin, hs, HV4.out.keep (Nat.le_refl _) (by omega) (fun _ _ _ => rfl), Nat.le_refl _, hcap, HN4.out.wide (by omega) (Nat.le_refl _)⟩
  refine ⟨_, _, _, _, _, _, _, _, _, _, rfl, ((hN.setCell (p := ⟨w.heap.size, 7, none⟩) (Or.inl (by show w.heap.size < w.heap.size + 2; omega)) _).keep8 (g := w.heap.size + 1) (o := 0) (Or.inl (by omega)) _ _ _ _ _ _ _ _).wide (by omega) (by rw [size_set8]; simp), below_set8 (HB4.out.setCell (p := ⟨w.heap.size, 7, none⟩) (Nat.le_refl _) _) (Nat.le_succ _) _ _ _ _ _ _ _ _, ?_⟩
  exact (((HO4.out.setCell (g := w.heap.size) (by omega) _ _).set8 (g := w.heap.size + 1) (by omega) 0 _ _ _ _ _ _ _ _)).mono (by omega)

set_option maxHeartbeats 2000000 in
theorem cloneNs_of (l : List Nd) (ih : ∀ t ∈ l, CloneN t) : CloneNs l := by
  intro w lo hi p cap hall _hlc hcap hhi
  cases hl : l with
  | nil =>
    simp only [List.length_nil]
    go_enter Tryd.func18, Tryd.ntmps18
    go_wp2
    go_ret
    exact ⟨Below.refl _ _, .inl ⟨rfl, rfl⟩⟩
  | cons x xs =>
    have hpos : 0 < l.length := by rw [hl]; simp
    rw [← hl]
    clear hl
    have H := Lib.hid ih; clear ih
    have HALL := Lib.hid hall; clear hall
    obtain ⟨i0, hi0, hz0, hz1, hz2⟩ := info_parts Tryd.info_N
    have hmk : ∀ W : World, (Instr.makeSlice 22 (.int .i64 (l.length : Int)) (.int .i64 (l.length : Int))).run Tryd.prog W = .ok (.slice (some ⟨W.heap.size, 0, none⟩) l.length l.length) (W.alloc (.cells (madeCells #[.int .i64 0, .int .i64 0, .string ⟨#[]⟩, .int .i64 0, .int .i64 0, .string ⟨#[]⟩, .slice none 0 0, .slice none 0 0] (l.length * 8)) 40)) := by
      intro W
      have h := run_make (P := Tryd.prog) W 22 40 i0 _ Tryd.underlying22 hi0 hz0 .i64 .i64 l.length l.length (by omega) (by omega) (by rw [hz2]; omega) (by omega)
      rw [hz1] at h
      simpa [Value.cells] using h
    have hl0 : ((l.length : Int) == 0) = false := beq_eq_false_iff_ne.2 (by omega)
    go_enter Tryd.func18, Tryd.ntmps18
    go_wp2
    have hP := Lib.hid (NPart.start w (madeCells #[.int .i64 0, .int .i64 0, .string ⟨#[]⟩, .int .i64 0, .int .i64 0, .string ⟨#[]⟩, .slice none 0 0, .slice none 0 0] (l.length * 8)) l (size_madeCells _ _))
    have hW : Below w.heap.size w (w.alloc (.cells (madeCells #[.int .i64 0, .int .i64 0, .string ⟨#[]⟩, .int .i64 0, .int .i64 0, .string ⟨#[]⟩, .slice none 0 0, .slice none 0 0] (l.length * 8)) 40)) := (Below.refl _ _).alloc (Nat.le_refl _) _
    clear hi0 hz0 hz1 hz2
    go_loopw [14] (fun i wr => ∃ j : Nat, j ≤ l.length ∧ i = .int .i64 j ∧ Hid (NPart wr w.heap.size l j) ∧ Hid (Below w.heap.size w wr) ∧ Hid (Owns wr w.heap.size l j)) (fun i _ => l.length - (intOf i).toNat)
    case atStart => exact ⟨0, Nat.zero_le _, rfl, hP, hW, Lib.hid (fun i _ hi => absurd hi (by omega))⟩
    case round =>
      obtain ⟨j, hj, rfl, HP, HBR, HOW⟩ := hrel
      have hz := HBR.out.size
      have hzl := HP.out.lt
      by_cases hlt : j < l.length
      · obtain ⟨b, off, o, n, s, v, ll, k, m, z, q, ql, qc, r, c, hp, _, hbhi, hli, h0, h1, h2, h3, h4, h5, h6, h7, hrep⟩ := (HALL.out.below HBR.out hhi).item j hlt
        have HA := Lib.hid ((Below.refl wr.heap.size wr).alloc (Nat.le_refl _) (.cells #[.int .i64 o, .int .i64 n, .string s, .int .i64 k, .int .i64 m, .string z, .slice q ql qc, .slice r ll.length c] 40))
        have HC := Lib.hid (H.out _ (List.getElem_mem hlt) _ lo hi _ (hrep.below HA.out (by omega)) (by have := HA.out.size; omega))
        have hbw : b < wr.heap.size := by omega
        subst hp
        clear hrep hli
        go_wp2_with (go_at_call 39; refine HC.out.mono ?_; rintro e w2 ⟨o2, n2, s2, k2, m2, z2, q2, ql2, qc2, r2, rfl, hv, hb2, ho2⟩; have HV := Lib.hid hv; have HO2 := Lib.hid ho2; have HB2 := Lib.hid (HA.out.trans (hb2.mono HA.out.size)); have HZ := Lib.hid (show wr.heap.size + 1 ≤ (wr.alloc (.cells #[.int .i64 o, .int .i64 n, .string s, .int .i64 k, .int .i64 m, .string z, .slice q ql qc, .slice r ll.length c] 40)).heap.size from by simp); clear hv hb2 ho2; have HP2 := Lib.hid (HP.out.below HB2.out); have HB3 := Lib.hid (HBR.out.trans (HB2.out.mono hz)); obtain ⟨⟨u0, hu0⟩, ⟨u1, hu1⟩, ⟨u2, hu2⟩, ⟨u3, hu3⟩, ⟨u4, hu4⟩, ⟨u5, hu5⟩, ⟨u6, hu6⟩, ⟨u7, hu7⟩, hfz⟩ := HP2.out.room j hlt; have hf0 := hfz (j * 8); have hf1 := hfz (j * 8 + 1); have hf2 := hfz (j * 8 + 2); have hf3 := hfz (j * 8 + 3); have hf4 := hfz (j * 8 + 4); have hf5 := hfz (j * 8 + 5); have hf6 := hfz (j * 8 + 6); have hf7 := hfz (j * 8 + 7); clear hfz)
        go_roundw
        case rel =>
          have hz1 := HZ.out
          refine ⟨j + 1, by omega, by go_num, NPart.step HP2.out hlt _ _ _ _ _ _ _ _ (HV.out.wide (by omega) (Nat.le_refl _)), below_set8 HB3.out (Nat.le_refl _) _ _ _ _ _ _ _ _, ?_⟩
          exact Lib.hid (Owns.step (HOW.out.below hzl HB2.out) HP2.out hlt _ _ _ _ _ _ _ _ (HO2.out.mono (by omega)))
        case measure => simp [intOf]; omega
      · have hjl : j = l.length := by omega
        subst hjl
        go_wp2
        go_ret
        exact ⟨HBR.out, .inr ⟨_, Nat.le_refl _, rfl, HP.out, HOW.out⟩⟩
theorem cloneN_any : ∀ t : Nd, CloneN t := Nd.ind_ (fun _ _ _ _ _ ih => cloneN_of _ (cloneNs_of _ ih))
theorem cloneNs_any (L : List Nd) : CloneNs L := cloneNs_of L (fun t _ => cloneN_any t)
end Go.Proofs.YtminmadaeaiihaaDoor
namespace Go.Proofs.YtminmadaeaiihaaDoor
open Go.RowKit
set_option maxRecDepth 100000

def SameNs (L : List Nd) : Prop := ∀ (w : World) (lo hi : Nat) (p : Option Addr) (cap : Nat), NAll w lo hi L p → hi ≤ w.heap.size → L.length * 112 ≤ 140737488355328 →
  ∀ (lo' hi' : Nat) (p' : Option Addr) (cap' : Nat), NAll w lo' hi' L p' → hi' ≤ w.heap.size →
  Calls Tryd.prog 17 #[.slice p L.length cap, .slice p' L.length cap'] w fun e w' => e = .returned (.bool true) ∧ Below w.heap.size w w'
def SameN1 (t : Nd) : Prop := ∀ (w : World) (lo hi lo' hi' : Nat) (x x' : Value), NRep w lo hi t x → hi ≤ w.heap.size → NRep w lo' hi' t x' → hi' ≤ w.heap.size →
  Calls Tryd.prog 22 #[x, x'] w fun e w' => e = .returned (.bool true) ∧ Below w.heap.size w w'

set_option maxHeartbeats 1000000 in
theorem sameN_of (t : Nd) (ih : SameNs t.l) : SameN1 t := by
  intro w lo hi lo' hi' x x' hr hhi hr' hhi'
  obtain ⟨o, n, s, v, l⟩ := t
  simp only [Nd.l] at ih
  obtain ⟨k, m, z, q, ql, qc, p, cap, rfl, _, _, hs, hrv, hlc, hcap, hall⟩ := hr.open
  obtain ⟨k', m', z', q', ql', qc', p', cap', rfl, _, _, hs', hrv', hlc', hcap', hall'⟩ := hr'.open
  have HB := Lib.hid (((Below.refl w.heap.size w).alloc (Nat.le_refl _) (.cells #[.int .i64 o, .int .i64 n, .string s, .int .i64 k, .int .i64 m, .string z, .slice q ql qc, .slice p l.length cap] 40)).alloc (by simp) (.cells #[.int .i64 o, .int .i64 n, .string s, .int .i64 k', .int .i64 m', .string z', .slice q' ql' qc', .slice p' l.length cap'] 40))
  have HX := Lib.hid (heap_alloc_ _ _ (.cells #[.int .i64 o, .int .i64 n, .string s, .int .i64 k', .int .i64 m', .string z', .slice q' ql' qc', .slice p' l.length cap'] 40) _ (heap_alloc_new w (.cells #[.int .i64 o, .int .i64 n, .string s, .int .i64 k, .int .i64 m, .string z, .slice q ql qc, .slice p l.length cap] 40)))
  have HY := Lib.hid (heap_alloc_new (w.alloc (.cells #[.int .i64 o, .int .i64 n, .string s, .int .i64 k, .int .i64 m, .string z, .slice q ql qc, .slice p l.length cap] 40)) (.cells #[.int .i64 o, .int .i64 n, .string s, .int .i64 k', .int .i64 m', .string z', .slice q' ql' qc', .slice p' l.length cap'] 40))
  have HL := Lib.hid (fun W (hb : Below w.heap.size w W) => ih W lo hi p cap (hall.below hb hhi) (by have := hb.size; omega) hcap lo' hi' p' cap' (hall'.below hb hhi') (by have := hb.size; omega))
  have HV := Lib.hid (fun W (hb : Below w.heap.size w W) => by
    have h := sameValue_any v v W lo hi lo' hi' _ _ (hrv.below hb hhi) (by have := hb.size; omega) (hrv'.below hb hhi') (by have := hb.size; omega)
    rw [eqV_self] at h; exact h)
  have HL2 := Lib.hid (HL.out _ HB.out)
  clear hr hr' ih hrv hrv' hall hall'
  go_enter Tryd.func22, Tryd.ntmps22
  go_wp2_with (first
    | (go_at_call 17; refine HL2.out.mono ?_; rintro e w2 ⟨rfl, hb2⟩; have HB2 := Lib.hid (HB.out.trans (hb2.mono HB.out.size)); have HX2 := Lib.hid (heap_old HX.out hb2); have HY2 := Lib.hid (heap_old HY.out hb2); rw [World.size_alloc] at HY2; obtain ⟨x0, x1, x2, x3, x4, x5, x6, x7, _⟩ := box8_in _ _ _ _ _ _ _ _ _ _ _ HX2.out; obtain ⟨y0, y1, y2, y3, y4, y5, y6, y7, _⟩ := box8_in _ _ _ _ _ _ _ _ _ _ _ HY2.out; clear hb2)
    | (go_at_call 38; refine (HV.out _ HB2.out).mono ?_; rintro e w3 ⟨rfl, hb3⟩; have HB3 := Lib.hid (HB2.out.trans (hb3.mono HB2.out.size)); obtain ⟨u0, u1, u2, u3, u4, u5, u6, u7, _⟩ := box8_in _ _ _ _ _ _ _ _ _ _ _ (heap_old HX2.out hb3); obtain ⟨v0, v1, v2, v3, v4, v5, v6, v7, _⟩ := box8_in _ _ _ _ _ _ _ _ _ _ _ (heap_old HY2.out hb3); clear hb3))
  go_ret
  exact ⟨ret_bool (by simp), HB3.out⟩

set_option maxHeartbeats 2000000 in
theorem sameNs_of (L : List Nd) (ih : ∀ t ∈ L, SameN1 t) : SameNs L := by
  intro w lo hi p cap hall hhi hcap lo' hi' p' cap' hall' hhi'
  have H := Lib.hid ih; clear ih
  have HALL := Lib.hid hall; clear hall
  have HALL' := Lib.hid hall'; clear hall'
  have hne : ((L.length : Int) != (L.length : Int)) = false := by simp
  go_enter Tryd.func17, Tryd.ntmps17
  go_wp2
  go_loopw [5] (fun i wr => ∃ j : Nat, j ≤ L.length ∧ i = .int .i64 j ∧ Below w.heap.size w wr) (fun i _ => L.length - (intOf i).toNat)
  case atStart => exact ⟨0, Nat.zero_le _, rfl, Below.refl _ _⟩
  case round =>
    obtain ⟨j, hj, rfl, hbr⟩ := hrel
    have hz := hbr.size
    by_cases hlt : j < L.length
    · obtain ⟨b, off, o, n, s, v, ll, k, m, z, q, ql, qc, r, c, rfl, _, hbhi, hli, h0, h1, h2, h3, h4, h5, h6, h7, hrep⟩ := (HALL.out.below hbr hhi).item j hlt
      obtain ⟨b', off', o', n', s', v', ll', k', m', z', q', ql', qc', r', c', rfl, _, hbhi', hli', h0', h1', h2', h3', h4', h5', h6', h7', hrep'⟩ := (HALL'.out.below hbr hhi').item j hlt
      rw [hli] at hli'
      injection hli' with e1 e2 e3 e4 e5
      subst e1 e2 e3 e4 e5
      have hlj : L[j] ∈ L := List.getElem_mem hlt
      rw [hli] at hlj hrep hrep'
      have HC := Lib.hid (fun (W : World) (hb : Below wr.heap.size wr W) => H.out _ hlj W lo hi lo' hi' _ _ (hrep.below hb (by omega)) (by have := hb.size; omega) (hrep'.below hb (by omega)) (by have := hb.size; omega))
      have HC2 := Lib.hid (HC.out _ (Below.refl _ _).drew)
      clear hli hrep hrep' hlj HC
      have hbw : b < wr.heap.size := by omega
      have hbw' : b' < wr.heap.size := by omega
      go_wp2
      go_region_held3 (fun w' => w'.cell? ⟨b, off + j * 8, none⟩ = some (.int .i64 o) ∧ w'.cell? ⟨b, off + j * 8 + 1, none⟩ = some (.int .i64 n) ∧ w'.cell? ⟨b, off + j * 8 + 2, none⟩ = some (.string s) ∧ w'.cell? ⟨b, off + j * 8 + 3, none⟩ = some (.int .i64 k) ∧ w'.cell? ⟨b, off + j * 8 + 4, none⟩ = some (.int .i64 m) ∧ w'.cell? ⟨b, off + j * 8 + 5, none⟩ = some (.string z) ∧ w'.cell? ⟨b, off + j * 8 + 6, none⟩ = some (.slice q ql qc) ∧ w'.cell? ⟨b, off + j * 8 + 7, none⟩ = some (.slice r ll.length c) ∧ w'.cell? ⟨b', off' + j * 8, none⟩ = some (.int .i64 o) ∧ w'.cell? ⟨b', off' + j * 8 + 1, none⟩ = some (.int .i64 n) ∧ w'.cell? ⟨b', off' + j * 8 + 2, none⟩ = some (.string s) ∧ w'.cell? ⟨b', off' + j * 8 + 3, none⟩ = some (.int .i64 k') ∧ w'.cell? ⟨b', off' + j * 8 + 4, none⟩ = some (.int .i64 m') ∧ w'.cell? ⟨b', off' + j * 8 + 5, none⟩ = some (.string z') ∧ w'.cell? ⟨b', off' + j * 8 + 6, none⟩ = some (.slice q' ql' qc') ∧ w'.cell? ⟨b', off' + j * 8 + 7, none⟩ = some (.slice r' ll.length c')) (first | exact ⟨h0, h1, h2, h3, h4, h5, h6, h7, h0', h1', h2', h3', h4', h5', h6', h7'⟩ | exact ⟨(hb2.cell (p := ⟨b, _, none⟩) hbw).trans h0, (hb2.cell (p := ⟨b, _, none⟩) hbw).trans h1, (hb2.cell (p := ⟨b, _, none⟩) hbw).trans h2, (hb2.cell (p := ⟨b, _, none⟩) hbw).trans h3, (hb2.cell (p := ⟨b, _, none⟩) hbw).trans h4, (hb2.cell (p := ⟨b, _, none⟩) hbw).trans h5, (hb2.cell (p := ⟨b, _, none⟩) hbw).trans h6, (hb2.cell (p := ⟨b, _, none⟩) hbw).trans h7, (hb2.cell (p := ⟨b', _, none⟩) hbw').trans h0', (hb2.cell (p := ⟨b', _, none⟩) hbw').trans h1', (hb2.cell (p := ⟨b', _, none⟩) hbw').trans h2', (hb2.cell (p := ⟨b', _, none⟩) hbw').trans h3', (hb2.cell (p := ⟨b', _, none⟩) hbw').trans h4', (hb2.cell (p := ⟨b', _, none⟩) hbw').trans h5', (hb2.cell (p := ⟨b', _, none⟩) hbw').trans h6', (hb2.cell (p := ⟨b', _, none⟩) hbw').trans h7'⟩) (first | (go_at_call 22; refine HC2.out.mono ?_; rintro e w2 ⟨rfl, hb2⟩; obtain ⟨hc2, hf2⟩ := below_bcell hb2))
      go_wp2
      go_roundw
      case rel => exact ⟨j + 1, by omega, by go_num, hbr.drew.trans (hb2.mono (by simp; omega))⟩
      case measure => simp [intOf]; omega
    · have hjl : j = L.length := by omega
      subst hjl
      go_wp2
      go_ret
      exact ⟨ret_bool rfl, hbr⟩
theorem sameN_any : ∀ t : Nd, SameN1 t := Nd.ind_ (fun _ _ _ _ l ih => sameN_of _ (sameNs_of l ih))
theorem sameNs_any (L : List Nd) : SameNs L := sameNs_of L (fun t _ => sameN_any t)
end Go.Proofs.YtminmadaeaiihaaDoor
namespace Go.Proofs.YtminmadaeaiihaaDoor
open Go.RowKit
set_option maxRecDepth 100000

set_option maxHeartbeats 400000 in
theorem number6_any (n b : Int) (w : World) (hn : I64 n) (hb : 1 ≤ b) (hb2 : b ≤ 1000000) :
    Calls Tryd.prog 23 #[.int .i64 n, .int .i64 b] w fun e w' => e = .returned (.int .i64 (n % b)) ∧ w = w' := by
  obtain ⟨hn1, hn2⟩ := hn
  have ht := tmod_bounds n b hb
  have he := Lib.hid (emod_of_tmod n b hb)
  go_enter Tryd.func23, Tryd.ntmps23
  go_wp2
  · have h : n.tmod b < 0 := by assumption
    go_ret
    refine ⟨ret_int ?_, rfl⟩
    rw [he.out, if_pos h]
  · have h : 0 ≤ n.tmod b := by assumption
    go_ret
    refine ⟨ret_int ?_, rfl⟩
    rw [he.out, if_neg (by omega)]

end Go.Proofs.YtminmadaeaiihaaDoor
namespace Go.Proofs.YtminmadaeaiihaaDoor
open Go.RowKit

theorem calls_round {l n : Nat} {P : Program} {f : FuncId} {args : Array Value} {w : World} {R : Ending → World → Prop} (h : Calls P f args w R) : CallsIn (Fence.wide.inRound l) n P f args w R :=
  CallsIn.inRound l (callsIn_wide.2 h)
theorem wide_deep (l : Nat) : (Fence.wide.inRound l).depth.isSome = true → False := fun h => by simp [go_sem, Fence.wide] at h
theorem oper_round {l n : Nat} {P : Program} {o : Oper} {a : Act} {K : Act → World → Prop} {Q : Exit → Act → World → Prop} : ∀ {r : Result Next}, o.upon P a K Q r → o.uponIn (Fence.wide.inRound l) n P a K Q r
  | .ok (.value _) _, h => h
  | .ok .skip _, h => h
  | .ok (.defer _) _, h => h
  | .ok (.enter _ _) _, h => ⟨fun hd => (wide_deep l hd).elim, calls_round h⟩
  | .ok (.row _ _) _, h => ⟨fun hd => (wide_deep l hd).elim, fun c cs _ => let ⟨v, w', r, s⟩ := h c cs; ⟨v, w', r, stepsIn_wide.2 s⟩⟩
  | .halt (.panic _) _, h => h
theorem any_round {l n : Nat} {P : Program} {ops : Array Oper} {md : Region.Mode} {Q : Exit → Act → World → Prop} (hd : ∀ (i : Nat) (o : Oper), ops[i]? = some o → ∀ c, o.op ≠ .defer c) (hno : ¬ LetsOut Q) : ∀ (fuel : Nat) (listed : Array Bool) (a : Act) (w : World),
    wpAny P md ops Q fuel listed a w → wpAnyIn (Fence.wide.inRound l) n P md ops Q fuel listed a w
  | 0, _, _, _, h => h
  | fuel + 1, listed, a, w, h => ⟨h.1, fun i hi => by
    have h2 := h.2 i hi
    have ih := fun (a' : Act) (w' : World) => any_round (l := l) (n := n) (P := P) (md := md) hd hno fuel (listed.setIfInBounds i true) a' w'
    unfold wpOp at h2
    unfold wpOpIn
    cases ho : ops[i]? with
    | none => rw [ho] at h2; exact ih _ _ h2
    | some o =>
      rw [ho] at h2
      dsimp only at h2 ⊢
      by_cases hw : Region.wanted o (yielded ops a.tmps) = true
      · rw [if_pos hw] at h2 ⊢
        rcases h2 with h2 | ⟨_, h2⟩
        · refine Oper.wpIn_mono ih ⟨fun _ _ => trivial, ?_⟩
          rw [Oper.semAt_plain _ _ _ (hd i o ho)]
          exact oper_round h2
        · exact absurd h2 hno
      · rw [if_neg hw] at h2 ⊢
        exact ⟨fun _ _ => trivial, ih _ _ h2⟩⟩
/-- The region's law: C the class of worlds; each operation yields one value in every world of the class, and leaves one of the class. -/
theorem region_round {ro n : Nat} {P : Program} {C : World → Prop} {id : Nat} {Q : Exit → Act → World → Prop} {a : Act} {w : World} {l : List Oper} (hm : P.follows .mixedOrders = true) (hB : Region.lexB .any l.toArray = true) (hC : C w.drew)
    (hd : ∀ o ∈ l, ∀ c, o.op ≠ .defer c) (h : wpQuiet P l.toArray C (fun a' => ∀ w', C w' → Q .normal a' w') l a) : (Code.region id l.toArray true).wpIn (Fence.wide.inRound ro) n P Q a w := by
  have hno : ¬ LetsOut (fun (e : Exit) (a' : Act) (w' : World) => e = .normal ∧ Q .normal a' w') := fun ⟨_, _, h, _⟩ => by cases h
  have hB2 := hB
  simp only [Region.lexB, Bool.and_eq_true] at hB2
  have h1 := wpAnyQ_lex (C := C) (md := .any) hB2.1 l.toArray.toList 0 (Array.replicate l.toArray.size false) a (by simp) (by simpa using hB2.2) (by simpa using h)
  have h2 : wpAny P .any l.toArray (fun (e : Exit) (a' : Act) (w' : World) => e = .normal ∧ Q .normal a' w') l.toArray.size (Array.replicate l.toArray.size false) a w.drew :=
    wpAny_of_quiet (C := C) (Q := fun a' => ∀ w', C w' → Q .normal a' w') (fun _ w' hw' h => ⟨rfl, h w' hw'⟩) _ _ _ _ hC (by simpa using h1)
  exact wpIn_mono (wpIn_region_any hm (any_round (fun i o ho => hd o (by simpa using Array.mem_of_getElem? ho)) hno _ _ _ _ h2)) (fun e a' w' h => h.1 ▸ h.2)
end Go.Proofs.YtminmadaeaiihaaDoor
namespace Go.Proofs.YtminmadaeaiihaaDoor
open Go.RowKit

/-- What lay from s on, below b, lies as it lay. -/
def KeptB (s b : Nat) (X Y : World) : Prop := X.heap.size ≤ Y.heap.size ∧ ∀ k, s ≤ k → k < b → Y.heap[k]? = X.heap[k]?
/-- How a round's body may be left: what lay ahead of what it was handed lies as it lay. -/
def RoundPostE (s b : Nat) (I : World → Prop) (Ix : Code → World → Prop) (X : World) : Exit → Act → World → Prop
  | .normal, _, Y => KeptB s b X Y ∧ I Y
  | .ret, _, Y => KeptB s b X Y ∧ Ix .ret Y
  | .exit id, _, Y => KeptB s b X Y ∧ Ix (.exit id) Y
  | _, _, _ => False
/-- What is asked behind the assignments to the loop's variables: the body, from whatever the record is turned to. -/
def AssignPostE (F : Fence) (n : Nat) (P : Program) (s b : Nat) (body : Code) (I : World → Prop) (Ix : Code → World → Prop) (X : World) (a : Act) (Y : World) : Prop :=
  KeptK s X Y ∧ ∀ r : Loop, body.wpIn (F.inRound (s + 1)) n P (RoundPostE s b I Ix (Y.putObj (s + 1) (.loop r))) a (Y.putObj (s + 1) (.loop r))
/-- What an iterator promises: round j (of N) is handed values of which H speaks, in the world in which it is called, made in blocks from b on, which were new behind a state of the caller's; J tells what the caller keeps from round to round, Kw what the iterator wants to find of it. A round that goes on keeps what lies beyond the loop's start. -/
def HandsE (F : Fence) (n : Nat) (P : Program) (gf : Nat) (lb : Array Value) (H : Nat → Array Value → Nat → World → Prop) (N : Nat) (Kw : World → Prop) : Prop :=
  ∀ (l : Nat) (J : Nat → World → Prop) (Jx : World → Prop) (W : World), (∀ j X Y, J j X → Below W.heap.size X Y → J j Y) → (∀ X Y, Jx X → Below W.heap.size X Y → Jx Y) → (∀ j X, J j X → Kw X ∧ W.heap.size ≤ X.heap.size) →
    (∀ j xs b X, J j X → (∃ X0, J j X0 ∧ X0.heap.size = b) → j < N → H j xs b X → YieldAt F (n - 1) P l xs X fun e Y => (e = .returned (.bool true) ∧ J (j + 1) Y ∧ KeptB W.heap.size b X Y) ∨ (e = .returned (.bool false) ∧ Jx Y ∧ KeptB W.heap.size b X Y)) →
    J 0 W → CallsIn F n P gf (#[.func (.yield l) #[] #[]] ++ lb) W fun e Y => (∃ v, e = .returned v) ∧ (J N Y ∨ Jx Y)
theorem YieldAt.mono {F : Fence} {m : Nat} {P : Program} {l : Nat} {args : Array Value} {W : World} {R R' : Ending → World → Prop} (h : YieldAt F m P l args W R) (hr : ∀ e Y, R e Y → R' e Y) : YieldAt F m P l args W R' := by
  obtain ⟨fn, tmps, assign, body, hy, hR⟩ := h
  exact ⟨fn, tmps, assign, body, hy, hR.mono hr⟩

theorem range_keepsE {F : Fence} {n : Nat} {P : Program} {g : Operand} {ps : Array Tmp} {assign body : Code} {Q : Exit → Act → World → Prop} {a : Act} {w : World}
    (hro : F.round = none) (h1 : 1 ≤ n) {gf : Nat} {lb : Array Value} (hg : a.eval g = .func (.func gf) #[] lb) (hFg : F.fn gf) (eg : ∀ args w, (callFunc gf args).run P w = .ok (.enter gf args) w)
    {H : Nat → Array Value → Nat → World → Prop} {N : Nat} {Kw : World → Prop} (hseq : HandsE F (n - 1) P gf lb H N Kw) (hps : ∀ j xs b X, H j xs b X → xs.size = ps.size ∧ b ≤ X.heap.size)
    (I : Nat → World → Prop) (Ix : Code → World → Prop) (hI : ∀ j X Y, I j X → Below w.heap.size X Y → I j Y) (hIx : ∀ c X Y, Ix c X → Below w.heap.size X Y → Ix c Y) (hKw : ∀ j X, I j X → Kw X) (h0 : I 0 w)
    (hround : ∀ j xs b X, j < N → I j X → H j xs b X → w.heap.size + 1 < b → w.heap.size + 1 < X.heap.size →
      assign.wpIn (F.inRound (w.heap.size + 1)) (n - 1 - 1) P (Exit.then (AssignPostE F (n - 1 - 1) P w.heap.size b body (I (j + 1)) Ix X) (fun _ _ _ => False)) { tmps := (ps.zip xs).foldl (fun t (p, v) => t.setIfInBounds p v) a.tmps, defers := [] } X)
    (hdone : ∀ Y, I N Y → Y.heap[w.heap.size]? = some (.deferred (some [])) → Q .normal { a with defers := { target := .collected w.heap.size, args := #[] } :: a.defers } Y)
    (hstop : ∀ c Y, Ix c Y → Y.heap[w.heap.size]? = some (.deferred (some [])) → c.wpIn F n P Q { a with defers := { target := .collected w.heap.size, args := #[] } :: a.defers } Y) :
    (Code.rangeFunc g ps assign body).wpIn F n P Q a w := by
  refine wpIn_rangeFunc ?_
  intro fn hfn
  rw [hro]
  obtain ⟨rc, hrc⟩ : ∃ rc : LoopState → Option Code → Loop, rc = fun st pe => { state := st, pending := pe, fn, tmps := a.tmps, params := ps, assign, body, defers := w.heap.size } := ⟨_, rfl⟩
  obtain ⟨W1, hW1⟩ : ∃ W1, (w.alloc (.deferred (some []))).alloc (.loop (rc .ready none)) = W1 := ⟨_, rfl⟩
  have hb1 : Below w.heap.size w W1 := by rw [← hW1]; exact ((Below.refl _ w).alloc (Nat.le_refl _) _).alloc (by simp) _
  have hs1 : W1.heap.size = w.heap.size + 2 := by rw [← hW1]; simp
  have hL1 : W1.heap[w.heap.size + 1]? = some (.loop (rc .ready none)) := by
    rw [← hW1]; have := World.alloc_heap_new (w.alloc (.deferred (some []))) (.loop (rc .ready none)); rwa [World.size_alloc] at this
  have hD1 : W1.heap[w.heap.size]? = some (.deferred (some [])) := by
    rw [← hW1]; exact (Below.heap_alloc _ _ _ (by simp)).trans (World.alloc_heap_new w _)
  refine ⟨w.heap.size + 1, [{ target := .collected w.heap.size, args := #[] }], W1, { target := .fn (.func gf) lb, args := #[.func (.yield (w.heap.size + 1)) #[] #[]] }, W1, gf, #[.func (.yield (w.heap.size + 1)) #[] #[]] ++ lb, W1, ?_, ?_, ?_, ?_, fun _ => h1, ?_⟩
  · rw [← hW1, hrc]; exact run_enterLoop_outer _ _ _ _ _
  · simp only [resolve, hg]
    simp [go_sem]
  · intro f' hf'; simp [Target.leads] at hf'; subst hf'; exact hFg
  · simp [invoke, go_sem, eg]
  generalize hsd : w.heap.size = s at *
  refine (hseq (s + 1) (fun j X => I j X ∧ X.heap[s + 1]? = some (.loop (rc .ready none)) ∧ X.heap[s]? = some (.deferred (some [])) ∧ s + 1 < X.heap.size)
    (fun X => ∃ c, Ix c X ∧ X.heap[s + 1]? = some (.loop (rc .done (some c))) ∧ X.heap[s]? = some (.deferred (some [])) ∧ s + 1 < X.heap.size) W1
    (fun j X Y h hb => ⟨hI j X Y h.1 (hb.mono (by omega)), (hb.block _ (by omega)).trans h.2.1, (hb.block _ (by omega)).trans h.2.2.1, Nat.lt_of_lt_of_le h.2.2.2 hb.size⟩)
    (fun X Y ⟨c, h1, h2, h3, h4⟩ hb => ⟨c, hIx c X Y h1 (hb.mono (by omega)), (hb.block _ (by omega)).trans h2, (hb.block _ (by omega)).trans h3, Nat.lt_of_lt_of_le h4 hb.size⟩)
    (fun j X h => ⟨hKw j X h.1, by have := h.2.2.2; omega⟩) ?_ ⟨hI 0 _ _ h0 hb1, hL1, hD1, by omega⟩).mono ?_
  · rintro j xs b X ⟨hi, hl, hd, hlt⟩ ⟨X0, ⟨_, _, _, hlt0⟩, hX0⟩ hj hx
    have hy := run_yield (P := P) (args := xs) hl (by rw [hrc]; exact (hps j xs b X hx).1)
    have hsb : s + 1 < b := hX0 ▸ hlt0
    have hbX := (hps j xs b X hx).2
    rw [hrc] at hy
    refine ⟨fn, _, assign, body, hy, roundIn_of_wpIn hfn (wpIn_mono (hround j xs b X hj hi hx (hX0 ▸ hlt0) hlt) ?_)⟩
    clear hy
    intro e a₁ Y hpost
    cases e with
    | normal =>
      obtain ⟨hk, hbody⟩ := hpost
      have hkA := hk
      have hk1 := hk.1
      have hk2 := hk.2 s (Nat.le_refl _) (by omega)
      have hk3 := hk.2 (s + 1) (by omega) hlt
      have hlY := hk3.trans hl
      have hdY := hk2.trans hd
      have hltY : s + 1 < Y.heap.size := by omega
      refine ⟨_, run_beginRound hlY (by rw [hrc]), ?_⟩
      have hl2 : (Y.putObj (s + 1) (.loop { rc .ready none with state := .busy })).heap[s + 1]? = some (.loop { rc .ready none with state := .busy }) := World.putObj_heap_same hltY
      have hd2 : (Y.putObj (s + 1) (.loop { rc .ready none with state := .busy })).heap[s]? = some (.deferred (some [])) := (World.putObj_heap_other (by omega)).trans hdY
      have hz2 : (Y.putObj (s + 1) (.loop { rc .ready none with state := .busy })).heap.size = Y.heap.size := by simp
      refine wpIn_mono (hbody _) ?_
      have fin : ∀ (jump : Option Code) (Z : World), KeptB s b (Y.putObj (s + 1) (.loop { rc .ready none with state := .busy })) Z →
          (Instr.endRound (s + 1) jump).run P Z = .ok (.bool jump.isNone) (Z.putObj (s + 1) (.loop (rc (if jump.isNone then .ready else .done) jump))) ∧ s + 1 < Z.heap.size ∧ Z.heap[s]? = some (.deferred (some [])) := fun jump Z hz => by
        have hl3 := (hz.2 (s + 1) (by omega) hsb).trans hl2
        have hr := run_endRound (P := P) jump hl3
        rw [hrc] at hr ⊢
        exact ⟨hr, by have := hz.1; omega, (hz.2 s (Nat.le_refl _) (by omega)).trans hd2⟩
      have back : ∀ (jump : Option Code) (Z : World), s + 1 < Z.heap.size → Z.heap[s]? = some (.deferred (some [])) → ∀ st,
          Below s Z (Z.putObj (s + 1) (.loop (rc st jump))) ∧ (Z.putObj (s + 1) (.loop (rc st jump))).heap[s + 1]? = some (.loop (rc st jump)) ∧ (Z.putObj (s + 1) (.loop (rc st jump))).heap[s]? = some (.deferred (some [])) ∧ s + 1 < (Z.putObj (s + 1) (.loop (rc st jump))).heap.size :=
        fun jump Z hz hd3 st => ⟨putObj_belowK Z (by omega) hz _, World.putObj_heap_same hz, (World.putObj_heap_other (by omega)).trans hd3, by simpa using hz⟩
      rintro e a3 Z hp
      cases e with
      | normal =>
        obtain ⟨hk, hi3⟩ := hp
        obtain ⟨hr, hz, hd3⟩ := fin none Z hk
        obtain ⟨b1, b2, b3, b4⟩ := back none Z hz hd3 .ready
        exact ⟨_, _, hr, .inl ⟨rfl, ⟨hI _ _ _ hi3 b1, b2, b3, b4⟩, by
          rw [hs1]
          refine ⟨by have := hk.1; simp at this ⊢; omega, fun k h3 h4 => ?_⟩
          exact (World.putObj_heap_other (by omega)).trans ((hk.2 k (by omega) h4).trans ((World.putObj_heap_other (by omega)).trans (hkA.2 k (by omega) (by omega))))⟩⟩
      | ret =>
        obtain ⟨hk, hi3⟩ := hp
        obtain ⟨hr, hz, hd3⟩ := fin (some .ret) Z hk
        obtain ⟨b1, b2, b3, b4⟩ := back (some .ret) Z hz hd3 .done
        exact ⟨_, _, hr, .inr ⟨rfl, ⟨.ret, hIx _ _ _ hi3 b1, b2, b3, b4⟩, by
          rw [hs1]
          refine ⟨by have := hk.1; simp at this ⊢; omega, fun k h3 h4 => ?_⟩
          exact (World.putObj_heap_other (by omega)).trans ((hk.2 k (by omega) h4).trans ((World.putObj_heap_other (by omega)).trans (hkA.2 k (by omega) (by omega))))⟩⟩
      | exit id =>
        obtain ⟨hk, hi3⟩ := hp
        obtain ⟨hr, hz, hd3⟩ := fin (some (.exit id)) Z hk
        obtain ⟨b1, b2, b3, b4⟩ := back (some (.exit id)) Z hz hd3 .done
        exact ⟨_, _, hr, .inr ⟨rfl, ⟨.exit id, hIx _ _ _ hi3 b1, b2, b3, b4⟩, by
          rw [hs1]
          refine ⟨by have := hk.1; simp at this ⊢; omega, fun k h3 h4 => ?_⟩
          exact (World.putObj_heap_other (by omega)).trans ((hk.2 k (by omega) h4).trans ((World.putObj_heap_other (by omega)).trans (hkA.2 k (by omega) (by omega))))⟩⟩
      | goto t => exact hp.elim
      | panic ch => exact hp.elim
      | outgrown => exact hp.elim
    | exit id => exact hpost.elim
    | goto t => exact hpost.elim
    | ret => exact hpost.elim
    | panic ch => exact hpost.elim
    | outgrown => exact hpost.elim
  · rintro e Y ⟨⟨v, rfl⟩, (⟨hi, hl, hd, hlt⟩ | ⟨c, hi, hl, hd, hlt⟩)⟩
    · refine ⟨none, _, by have := run_endLoop (P := P) hl (by rw [hrc]; simp); rw [hrc] at this; exact this, hdone _ (hI _ _ _ hi (putObj_belowK Y (by omega) hlt _)) ((World.putObj_heap_other (by omega)).trans hd)⟩
    · refine ⟨some c, _, by have := run_endLoop (P := P) hl (by rw [hrc]; simp); rw [hrc] at this; exact this, hstop c _ (hIx _ _ _ hi (putObj_belowK Y (by omega) hlt _)) ((World.putObj_heap_other (by omega)).trans hd)⟩
end Go.Proofs.YtminmadaeaiihaaDoor
namespace Go.Proofs.YtminmadaeaiihaaDoor
open Go.RowKit
set_option maxRecDepth 100000

/-- The cells of a row of nodes. -/
def CsN (w : World) (lo hi : Nat) : List Nd → List Value → Prop
  | [], cs => cs = []
  | t :: r, cs => ∃ (c0 c1 c2 c3 c4 c5 c6 c7 : Value) (rest : List Value), cs = c0 :: c1 :: c2 :: c3 :: c4 :: c5 :: c6 :: c7 :: rest ∧ NRep w lo hi t (.agg #[c0, c1, c2, c3, c4, c5, c6, c7]) ∧ CsN w lo hi r rest
theorem CsN.len {w : World} {lo hi : Nat} : ∀ {l : List Nd} {cs : List Value}, CsN w lo hi l cs → cs.length = l.length * 8
  | [], _, h => by cases h; rfl
  | _ :: _, _, ⟨_, _, _, _, _, _, _, _, _, e, _, h⟩ => by have := CsN.len h; rw [e]; simp; omega
theorem CsN.one {w : World} {lo hi : Nat} : ∀ {l : List Nd} {cs : List Value}, CsN w lo hi l cs → ∀ u ∈ cs, u.oneCell' = true
  | [], _, h, u, hu => by cases h; cases hu
  | .mk o n s v ll :: _, _, ⟨c0, c1, c2, c3, c4, c5, c6, c7, rest, e, hr, h⟩, u, hu => by
    obtain ⟨k, m, z, q, ql, qc, p, cap, hx, _⟩ := hr.open
    simp only [Value.agg.injEq, Array.mk.injEq, List.cons.injEq, and_true] at hx
    obtain ⟨rfl, rfl, rfl, rfl, rfl, rfl, rfl, rfl⟩ := hx
    rw [e] at hu
    simp only [List.mem_cons] at hu
    rcases hu with rfl | rfl | rfl | rfl | rfl | rfl | rfl | rfl | hu
    all_goals first | rfl | exact CsN.one h u hu
theorem CsN.keep {w w' : World} {lo hi lo' hi' : Nat} (hlo : lo' ≤ lo) (hhi : hi ≤ hi') (hk : ∀ p : Addr, lo ≤ p.block → p.block < hi → w'.cell? p = w.cell? p) : ∀ {l : List Nd} {cs : List Value}, CsN w lo hi l cs → CsN w' lo' hi' l cs
  | [], _, h => h
  | _ :: _, _, ⟨c0, c1, c2, c3, c4, c5, c6, c7, rest, e, hr, h⟩ => ⟨c0, c1, c2, c3, c4, c5, c6, c7, rest, e, hr.keep hlo hhi hk, CsN.keep hlo hhi hk h⟩
theorem CsN.app {w : World} {lo hi : Nat} : ∀ {l l' : List Nd} {cs cs' : List Value}, CsN w lo hi l cs → CsN w lo hi l' cs' → CsN w lo hi (l ++ l') (cs ++ cs')
  | [], _, _, _, h, h' => by cases h; exact h'
  | _ :: _, _, _, _, ⟨c0, c1, c2, c3, c4, c5, c6, c7, rest, e, hr, h⟩, h' => ⟨c0, c1, c2, c3, c4, c5, c6, c7, rest ++ _, by rw [e]; rfl, hr, CsN.app h h'⟩
theorem CsN.all {w : World} {lo hi lo' hi' b : Nat} (hlo : lo' ≤ lo) (hhi : hi ≤ hi') (h1 : lo' ≤ b) (h2 : b < hi') : ∀ {l : List Nd} {cs : List Value} (off : Nat), CsN w lo hi l cs → (∀ j u, cs[j]? = some u → w.cell? ⟨b, off + j, none⟩ = some u) → NAll w lo' hi' l (some ⟨b, off, none⟩)
  | [], _, _, _, _ => NAll.nil _ _ _ _
  | t :: r, _, off, ⟨c0, c1, c2, c3, c4, c5, c6, c7, rest, e, hr, h⟩, hc => by
    subst e
    have hadd : ∀ n, Addr.add ⟨b, off, none⟩ n = ⟨b, off + n, none⟩ := by
      intro n; unfold Addr.add; split
      · rename_i h; subst h; rfl
      · rfl
    unfold NAll
    refine ⟨⟨b, off, none⟩, c0, c1, c2, c3, c4, c5, c6, c7, rfl, h1, h2, hc 0 c0 rfl, by rw [hadd]; exact hc 1 c1 rfl, by rw [hadd]; exact hc 2 c2 rfl, by rw [hadd]; exact hc 3 c3 rfl, by rw [hadd]; exact hc 4 c4 rfl, by rw [hadd]; exact hc 5 c5 rfl, by rw [hadd]; exact hc 6 c6 rfl, by rw [hadd]; exact hc 7 c7 rfl, hr.wide hlo hhi, ?_⟩
    rw [hadd]
    refine CsN.all hlo hhi h1 h2 (off + 8) h (fun j u hj => ?_)
    have := hc (j + 8) u (by simpa using hj)
    rw [show off + (j + 8) = off + 8 + j from by omega] at this
    exact this
theorem NRep.form8 {w : World} {lo hi : Nat} {t : Nd} {x : Value} (h : NRep w lo hi t x) : ∃ c0 c1 c2 c3 c4 c5 c6 c7, x = .agg #[c0, c1, c2, c3, c4, c5, c6, c7] := by
  obtain ⟨o, n, s, v, l⟩ := t
  obtain ⟨k, m, z, q, ql, qc, p, cap, hx, _⟩ := h.open
  exact ⟨_, _, _, _, _, _, _, _, hx⟩

/-- A row of one's own that holds these nodes, what they have from lo on, below hi; what lay below B is as it was. -/
structure Gn (B lo hi : Nat) (w0 : World) (L : List Nd) (v : Value) (w : World) : Prop where
  row : ∃ cs, w.ownsRow B 40 8 v L.length cs ∧ CsN w lo hi L cs
  bel : Below B w0 w
theorem Gn.nil {B lo hi : Nat} {w0 w : World} (hb : Below B w0 w) : Gn B lo hi w0 [] (.slice none 0 0) w := ⟨⟨[], World.ownsRow_nil _ _ _ _, rfl⟩, hb⟩
theorem Gn.run {B lo hi : Nat} {w0 w : World} {L : List Nd} {v : Value} (h : Gn B lo hi w0 L v w) (hhi : hi ≤ B) (hB : B ≤ w.heap.size) {l : List Nd} {cs : List Value} {p : Option Addr} {c m : Nat} (hc : CsN w lo hi l cs) (hcell : ∀ a, p = some a → ∀ j u, cs[j]? = some u → w.cell? (a.add j) = some u) (hp : p = none → l = [])
    (hn : L.length + l.length ≤ 1000000) (M : List Nd) (hM : M = L ++ l) (hm : m = l.length) (ty : TypeId) :
    ∃ q cap w', (Builtin.append_ #[22, 22] ty #[v, .slice p m c]).run Tryd.prog w = .ok (.slice q M.length cap) w' ∧ Gn B lo hi w0 M (.slice q M.length cap) w' := by
  obtain ⟨i0, hi0, hz0, hz1, hz2⟩ := info_parts Tryd.info_N
  obtain ⟨⟨xs, hown, hcs⟩, hbel⟩ := h
  subst hm
  rcases Nat.eq_zero_or_pos l.length with h0 | hpos
  · have hl0 : l = [] := List.eq_nil_of_length_eq_zero h0
    subst hl0
    rw [List.append_nil] at hM
    subst hM
    obtain ⟨sp, scap, rfl, hsc⟩ := sowns_form hown
    refine ⟨sp, scap, w, ?_, ⟨xs, hown, hcs⟩, hbel⟩
    refine run_append_nothing w _ _ ty 40 i0 Tryd.underlying22 hi0 sp _ scap hsc _ ?_
    cases p with
    | none => exact Src.ofNil _ Tryd.underlying22 c
    | some a => exact Src.ofSlice _ Tryd.underlying22 a 0 c [] (by simp) (fun j u h => by simp at h) (by simp)
  · cases p with
    | none => rw [hp rfl] at hpos; simp at hpos
    | some a =>
      obtain ⟨g, cap, w', hr, ho', hgr, hat, hlt⟩ := run_append_lies (P := Tryd.prog) w 22 ty B 40 i0 _ 8 112 Tryd.underlying22 hi0 hz0 hz1 hz2 rfl (by decide) v L.length xs hown a l.length c cs hc.len (hcell a rfl) hc.one hpos (by unfold maxLen; omega) (by omega) hB w.heap.size rfl
      have hMl : M.length = L.length + l.length := by rw [hM, List.length_append]
      have hb2 := sbelow_grown hbel hgr (fun k hk => (hown.lt k hk).1) hB
      have hkeep : ∀ p : Addr, lo ≤ p.block → p.block < hi → w'.cell? p = w.cell? p := fun p _ hp => (hb2.cell (by omega)).trans (hbel.cell (by omega)).symm
      rw [hMl]
      exact ⟨_, cap, w', hr, ⟨_, by rw [hMl]; exact ho', by rw [hM]; exact (hcs.keep (Nat.le_refl _) (Nat.le_refl _) hkeep).app (hc.keep (Nat.le_refl _) (Nat.le_refl _) hkeep)⟩, hb2⟩
theorem Gn.below {B lo hi : Nat} {w0 w w' : World} {L : List Nd} {v : Value} (h : Gn B lo hi w0 L v w) (hhi : hi ≤ w.heap.size) (hB : B ≤ w.heap.size) (hb : Below w.heap.size w w') : Gn B lo hi w0 L v w' := by
  obtain ⟨⟨cs, h1, h2⟩, h3⟩ := h
  refine ⟨⟨cs, ?_, h2.keep (Nat.le_refl _) (Nat.le_refl _) (fun p _ hp => hb.cell (by omega))⟩, h3.trans (hb.mono hB)⟩
  obtain ⟨hl, h1⟩ := h1
  refine ⟨hl, ?_⟩
  rcases h1 with h1 | ⟨g, cap, cur, hv, hg, hh, r⟩
  · exact .inl h1
  · exact .inr ⟨g, cap, cur, hv, hg, heap_old hh hb, r⟩
/-- One node more, from a box of its own. -/
theorem Gn.one {B lo hi : Nat} {w0 w : World} {L : List Nd} {v : Value} (h : Gn B lo hi w0 L v w) (hhi : hi ≤ B) (hB : B ≤ w.heap.size) {t : Nd} {c0 c1 c2 c3 c4 c5 c6 c7 : Value} (hr : NRep w lo hi t (.agg #[c0, c1, c2, c3, c4, c5, c6, c7])) (hn : L.length + 1 ≤ 1000000) (M : List Nd) (hM : M = L ++ [t]) (ty : TypeId) :
    ∃ q cap w', (Builtin.append_ #[22, 22] ty #[v, .slice (some ⟨w.heap.size, 0, none⟩) 1 1]).run Tryd.prog (w.alloc (.cells #[c0, c1, c2, c3, c4, c5, c6, c7] 40)) = .ok (.slice q M.length cap) w' ∧ Gn B lo hi w0 M (.slice q M.length cap) w' := by
  have hb : Below w.heap.size w (w.alloc (.cells #[c0, c1, c2, c3, c4, c5, c6, c7] 40)) := (Below.refl _ w).alloc (Nat.le_refl _) _
  refine (h.below (by omega) hB hb).run hhi (by simp; omega) (l := [t]) (cs := [c0, c1, c2, c3, c4, c5, c6, c7]) ⟨c0, c1, c2, c3, c4, c5, c6, c7, [], rfl, hr.below hb (by omega), rfl⟩ (fun a ha j u hj => ?_) (fun h => by cases h) (by simpa using hn) M hM rfl ty
  injection ha with ha
  subst ha
  have hadd : (⟨w.heap.size, 0, none⟩ : Addr).add j = ⟨w.heap.size, j, none⟩ := by unfold Addr.add; split <;> simp_all
  rw [hadd, cell_of_row _ _ _ _ _ _ (heap_alloc_new w (.cells #[c0, c1, c2, c3, c4, c5, c6, c7] 40)), ← hj]; simp
/-- Another such row behind it. -/
theorem Gn.more {B B' lo hi : Nat} {w0 w1 w : World} {L l : List Nd} {v u : Value} (h : Gn B lo hi w0 L v w) (hhi : hi ≤ B) (hB : B ≤ w.heap.size) (hu : Gn B' lo hi w1 l u w) (hn : L.length + l.length ≤ 1000000) (M : List Nd) (hM : M = L ++ l) (ty : TypeId) :
    ∃ q cap w', (Builtin.append_ #[22, 22] ty #[v, u]).run Tryd.prog w = .ok (.slice q M.length cap) w' ∧ Gn B lo hi w0 M (.slice q M.length cap) w' := by
  obtain ⟨⟨cs, h1, h2⟩, _⟩ := hu
  obtain ⟨p, c, rfl, hc⟩ := sowns_form h1
  refine h.run hhi hB h2 (fun a ha j u hj => ?_) (fun hp => ?_) hn M hM rfl ty
  · obtain ⟨g, off, sp⟩ := a
    rcases Nat.eq_zero_or_pos l.length with h0 | hpos
    · have := h2.len; rw [h0] at this; have : cs = [] := List.eq_nil_of_length_eq_zero (by omega); subst this; simp at hj
    · obtain ⟨g2, cap, he, _, _⟩ := h1.form hpos
      rw [ha] at he
      injection he with e1 _ _
      injection e1 with e1
      rw [e1]
      exact h1.cells (g := g2) (by rw [ha, e1]; rfl) j u hj
  · rcases Nat.eq_zero_or_pos l.length with h0 | hpos
    · exact List.eq_nil_of_length_eq_zero h0
    · obtain ⟨g2, cap, he, _, _⟩ := h1.form hpos
      rw [hp] at he
      injection he with e1 _ _
      cases e1
theorem Gn.fin {B lo hi : Nat} {w0 w : World} {L : List Nd} {v : Value} (h : Gn B lo hi w0 L v w) (hlo : lo ≤ B) (hhi : hi ≤ w.heap.size) : ∃ p cap, v = .slice p L.length cap ∧ L.length ≤ cap ∧ NAll w lo w.heap.size L p := by
  obtain ⟨⟨cs, h1, h2⟩, _⟩ := h
  obtain ⟨sp, scap, rfl, hsc⟩ := sowns_form h1
  refine ⟨sp, scap, rfl, hsc, ?_⟩
  rcases Nat.eq_zero_or_pos L.length with h0 | hpos
  · have : L = [] := List.eq_nil_of_length_eq_zero h0
    subst this
    exact NAll.nil _ _ _ _
  · obtain ⟨g, cap, he, hcap, hlt⟩ := h1.form hpos
    injection he with e1 _ _
    subst e1
    refine h2.all (Nat.le_refl _) hhi (Nat.le_trans hlo (h1.lt g rfl).1) hlt 0 (fun j u hj => ?_)
    have := h1.cells (g := g) rfl j u hj
    have hadd : (⟨g, 0, none⟩ : Addr).add j = ⟨g, 0 + j, none⟩ := by unfold Addr.add; split <;> simp_all
    rw [hadd] at this; exact this
end Go.Proofs.YtminmadaeaiihaaDoor
namespace Go.Proofs.YtminmadaeaiihaaDoor
open Go.RowKit
set_option maxRecDepth 100000
attribute [local go_sem] Oper.semAt_some

theorem KeptK.mono {s s' : Nat} {X Y : World} (h : KeptK s X Y) (hs : s ≤ s') : KeptK s' X Y := ⟨h.1, fun b h3 h4 => h.2 b (by omega) h4⟩
theorem KeptB.of_below {s b : Nat} {X Y : World} (h : Below X.heap.size X Y) (hb : b ≤ X.heap.size) : KeptB s b X Y := ⟨h.size, fun k _ h4 => h.block k (by omega)⟩
theorem KeptB.trans {s s' b b' : Nat} {X Y Z : World} (h : KeptB s b X Y) (h2 : KeptB s' b' Y Z) (hs : s' ≤ s) (hb : b ≤ b') : KeptB s b X Z := ⟨Nat.le_trans h.1 h2.1, fun k h3 h4 => (h2.2 k (by omega) (by omega)).trans (h.2 k h3 h4)⟩
theorem all_handsE (n : Nat) (L : List Nd) (W0 : World) (B lo hi : Nat) (p : Option Addr) (cap : Nat) (hall : NAll W0 lo hi L p) (hlc : L.length ≤ cap) (hcap : L.length * 112 ≤ 140737488355328) :
    HandsE Fence.wide n Tryd.prog 53 #[.pointer (some ⟨B, 0, none⟩)] (fun j xs b X => HdA (flatL L) lo hi j xs b X ∧ b = X.heap.size) (cntAll L) (KwA W0 lo hi B p L.length cap) :=
  fun l J Jx W hJ _ hK hY h0 => all_hands n L W0 B lo hi p cap hall hlc hcap l J Jx W (fun j X Y hj hb => hJ j X Y hj (hb.mono (hK j X hj).2)) (fun j X hj => (hK j X hj).1)
    (fun j xs _ X hj _ hjn hx => (YieldAt.mono (hY j xs X.heap.size X hj ⟨X, hj, rfl⟩ hjn ⟨hx, rfl⟩) (fun _ _ hr => hr.imp (fun h => ⟨h.1, h.2.1, h.2.2.1, h.2.2.2⟩) (fun h => ⟨h.1, h.2.1⟩)))) h0
theorem roundIn_round {F : Fence} {m l2 : Nat} {P : Program} {l : Nat} {f : FuncId} {tmps : Array Value} {assign body : Code} {w : World} {R : Ending → World → Prop} (h : RoundIn F m P l f tmps assign body w R) : RoundIn (F.inRound l2) m P l f tmps assign body w R := h
theorem roundW {m m' l2 : Nat} {P : Program} {l : Nat} {f : FuncId} {tmps : Array Value} {assign body : Code} {w : World} {R : Ending → World → Prop} (h : RoundIn Fence.wide m P l f tmps assign body w R) : RoundIn (Fence.wide.inRound l2) m' P l f tmps assign body w R := roundIn_round (roundAny h)
/-- What a round is handed: a node of its own, its list in a row of its own. -/
def HdT (Fl : List Nd) (j : Nat) (xs : Array Value) (b : Nat) (X : World) : Prop :=
  ∃ (h : j < Fl.length) (o n : Int) (s : ByteArray) (k m : Int) (z : ByteArray) (q : Option Addr) (ql qc : Nat) (r : Option Addr), xs = #[.agg #[.int .i64 o, .int .i64 n, .string s, .int .i64 k, .int .i64 m, .string z, .slice q ql qc, .slice r Fl[j].l.length Fl[j].l.length]] ∧
    NRep X b X.heap.size Fl[j] (.agg #[.int .i64 o, .int .i64 n, .string s, .int .i64 k, .int .i64 m, .string z, .slice q ql qc, .slice r Fl[j].l.length Fl[j].l.length]) ∧ OwnAt X b r Fl[j].l.length Fl[j].l.length ∧ b ≤ X.heap.size

/-- What the rounds find: what the caller keeps, the box of its function, what is walked. -/
structure IEt (W W0 : World) (lo hi : Nat) (p : Option Addr) (len cap l : Nat) (J : Nat → World → Prop) (j : Nat) (X : World) : Prop where
  jj : J j X
  by_ : X.heap[W.heap.size]? = some (.cells #[.func (.yield l) #[] #[]] 61 (0, 0))
  kw : KwA W0 lo hi (W.heap.size + 1) p len cap X
theorem IEt.step {W W0 X Y : World} {lo hi : Nat} {p : Option Addr} {len cap l s j : Nat} {J : Nat → World → Prop} (h : IEt W W0 lo hi p len cap l J j X) (hhi : hi ≤ W.heap.size) (hJ : ∀ j X Y, J j X → Below W.heap.size X Y → J j Y) (hs : W.heap.size + 2 ≤ s) (hb : Below s X Y) : IEt W W0 lo hi p len cap l J j Y :=
  ⟨hJ _ _ _ h.jj (hb.mono (by omega)), (hb.block _ (by omega)).trans h.by_, h.kw.step (by omega) (by omega) hb⟩

set_option maxHeartbeats 2000000 in
theorem eachT_hands (n : Nat) (hn : 3 ≤ n) (L : List Nd) (W0 : World) (B lo hi : Nat) (p : Option Addr) (cap : Nat) (hall : NAll W0 lo hi L p) (hlc : L.length ≤ cap) (hcap : L.length * 112 ≤ 140737488355328) :
    HandsE Fence.wide n Tryd.prog 41 #[.pointer (some ⟨B, 0, none⟩)] (HdT (flatL L)) (cntAll L) (KwA W0 lo hi B p L.length cap) := by
  intro l J Jx W hJ hJx hK hY h0
  have HA := Lib.hid hall
  have HJ := Lib.hid hJ
  have HJX := Lib.hid hJx
  have HK := Lib.hid hK
  have HY := Lib.hid hY
  have H0 := Lib.hid h0
  have hk := (hK 0 W h0).1
  have hlt := heap_ltN hk.2
  have hhi : hi ≤ W.heap.size := hk.1.1
  obtain ⟨hc, hf⟩ := cell_oneN _ _ _ _ hk.2
  clear hall hJ hJx hK hY h0 hk
  refine callsIn_of_wp_marks Tryd.func41 rfl trivial ?_ rfl
  simp only [Tryd.ntmps41, List.size_toArray, List.length_cons, List.length_nil, Nat.reduceAdd, Nat.reduceSub, Array.replicate_succ, Array.replicate_zero, List.push_toArray, List.append_toArray, List.nil_append, List.cons_append]
  gi_wp2_with (refine ⟨trivial, (fun h => by cases h), ?_⟩; gi_at_call 32; refine (callsIn_wide.2 (all_any p L.length cap _)).mono ?_; rintro e w1 ⟨rfl, hw1⟩; have HW1 := Lib.hid hw1; clear hw1)
  have hz1 : w1.heap.size = W.heap.size + 2 := by rw [HW1.out]; simp
  have hbW : Below W.heap.size W w1 := by rw [HW1.out]; exact ((Below.refl _ W).alloc (Nat.le_refl _) _).alloc (by simp) _
  have HBW := Lib.hid hbW
  have HX0 : Hid (w1.heap[W.heap.size]? = some (.cells #[.func (.yield l) #[] #[]] 61 (0, 0))) := by
    show _ = _; rw [HW1.out]; exact heap_alloc_ _ _ _ _ (heap_alloc_new W _)
  have HX1 : Hid (w1.heap[W.heap.size + 1]? = some (.cells #[.slice p L.length cap] 22 (0, 0))) := by
    show _ = _; rw [HW1.out]
    have h := heap_alloc_new (W.alloc (.cells #[.func (.yield l) #[] #[]] 61)) (.cells #[.slice p L.length cap] 22)
    rw [World.size_alloc] at h; exact h
  have HK0 := Lib.hid (HK.out 0 W H0.out).1
  clear hbW hc hf HW1
  refine range_keepsE rfl (by omega) (gf := 53) (lb := #[.pointer (some ⟨W.heap.size + 1, 0, none⟩)]) rfl trivial (enters_of Tryd.func53 (by kernel_rfl) rfl) (all_handsE _ L W0 (W.heap.size + 1) lo hi p cap HA.out hlc hcap) (fun j xs b X h => by obtain ⟨⟨_, _, rfl, _⟩, h2⟩ := h; exact ⟨rfl, Nat.le_of_eq h2⟩)
    (IEt W W0 lo hi p L.length cap l J) (fun c X => c = .ret ∧ Jx X) (fun j X Y h hb => h.step hhi HJ.out (by omega) hb) (fun _ X Y h hb => ⟨h.1, HJX.out _ _ h.2 (hb.mono (by omega))⟩) (fun j X h => h.kw) ⟨HJ.out _ _ _ H0.out HBW.out, HX0.out, ⟨⟨by omega, fun a h1 h2 => (HBW.out.cell (by omega)).trans (HK0.out.1.2 a h1 h2)⟩, HX1.out⟩⟩ ?round ?done ?stop
  case round =>
    intro j xs b X hj hI hH hsb hlt
    obtain ⟨⟨hjf, v, rfl, hrep⟩, hbX⟩ := hH
    obtain ⟨no, nn, ns, nk, nm, nz, nq, nql, nqc, nr, nlc, nc, rfl⟩ := nrep_form hrep
    have HIX := Lib.hid hI
    have HREP := Lib.hid hrep
    have hXW : W.heap.size + 2 ≤ X.heap.size := by omega
    clear hI hrep
    gi_wp2
    refine ⟨KeptK.alloc _ _ _, fun r => ?_⟩
    have hbP : Below w1.heap.size X ((X.alloc (.cells #[.int .i64 no, .int .i64 nn, .string ns, .int .i64 nk, .int .i64 nm, .string nz, .slice nq nql nqc, .slice nr nlc nc] 40)).putObj (w1.heap.size + 1) (.loop r)) := ((Below.refl _ X).alloc (by omega) _).trans (putObj_belowK _ (by omega) (by simp; omega) _)
    have HIP := Lib.hid (HIX.out.step hhi HJ.out (by omega) hbP)
    have HBX : Hid (((X.alloc (.cells #[.int .i64 no, .int .i64 nn, .string ns, .int .i64 nk, .int .i64 nm, .string nz, .slice nq nql nqc, .slice nr nlc nc] 40)).putObj (w1.heap.size + 1) (.loop r)).heap[X.heap.size]? = some (.cells #[.int .i64 no, .int .i64 nn, .string ns, .int .i64 nk, .int .i64 nm, .string nz, .slice nq nql nqc, .slice nr nlc nc] 40 (0, 0))) := (World.putObj_heap_other (by omega)).trans (heap_alloc_new X _)
    have hPz : ((X.alloc (.cells #[.int .i64 no, .int .i64 nn, .string ns, .int .i64 nk, .int .i64 nm, .string nz, .slice nq nql nqc, .slice nr nlc nc] 40)).putObj (w1.heap.size + 1) (.loop r)).heap.size = X.heap.size + 1 := by simp
    have HRP := Lib.hid (HREP.out.below hbP (by omega))
    generalize (X.alloc (.cells #[.int .i64 no, .int .i64 nn, .string ns, .int .i64 nk, .int .i64 nm, .string nz, .slice nq nql nqc, .slice nr nlc nc] 40)).putObj (w1.heap.size + 1) (.loop r) = P at *
    clear hbP HREP HIX
    have HC := Lib.hid (cloneN_any (flatL L)[j] P.drew lo hi _ (NRep.keep (w := P) (w' := P.drew) (Nat.le_refl _) (Nat.le_refl _) (fun _ _ _ => rfl) _ _ HRP.out) (show hi ≤ P.heap.size by omega))
    obtain ⟨x0, x1, x2, x3, x4, x5, x6, x7, _⟩ := box8_in P X.heap.size _ _ _ _ _ _ _ _ _ HBX.out
    obtain ⟨y0, _⟩ := cell_oneN _ _ _ _ HIP.out.by_
    have hmx : Tryd.prog.follows .mixedOrders = true := by kernel_rfl
    gi_wp2
    have HJ2 := Lib.hid hj
    have HJF := Lib.hid hjf
    gi_region_with_o (first
      | (refine ⟨trivial, (fun h => by cases h), ?_⟩; gi_at_call 39; refine (CallsIn.inRound _ (callsIn_wide.2 HC.out)).mono ?_; rintro e w2 ⟨o2, n2, s2, k2, m2, z2, q2, ql2, qc2, r2, rfl, hv, hb2, ho2⟩; have hbw : Below P.heap.size P w2 := (Below.refl _ P).drew.trans hb2; have HBW2 := Lib.hid hbw; obtain ⟨fn, tmps, assign, body, hy, hR⟩ := HY.out j _ P.heap.size w2 (HJ.out _ _ _ HIP.out.jj (hbw.mono (by omega))) ⟨P, HIP.out.jj, rfl⟩ HJ2.out ⟨HJF.out, o2, n2, s2, k2, m2, z2, q2, ql2, qc2, r2, rfl, hv, ho2, hbw.size⟩; have HR := Lib.hid hR; obtain ⟨yy0, _⟩ := cell_oneN _ _ _ _ ((hbw.block _ (by omega)).trans HIP.out.by_); clear hR hv ho2 hb2 hbw)
      | (refine ⟨(fun h => by cases h), ?_⟩; refine (roundW HR.out).mono ?_; rintro e Y h; obtain ⟨bb, rfl, HJ3, HK3⟩ : ∃ bb, e = .returned (.bool bb) ∧ Hid ((bb = true ∧ J (j + 1) Y) ∨ (bb = false ∧ Jx Y)) ∧ Hid (KeptB W.heap.size P.heap.size w2 Y) := (by rcases h with ⟨h1, h2, h3⟩ | ⟨h1, h2, h3⟩; exact ⟨_, h1, Lib.hid (.inl ⟨rfl, h2⟩), Lib.hid h3⟩; exact ⟨_, h1, Lib.hid (.inr ⟨rfl, h2⟩), Lib.hid h3⟩); clear h))
    all_goals (
      have hkk : KeptB w1.heap.size b P Y := (KeptB.of_below HBW2.out (by omega)).trans HK3.out (by omega) (by omega)
      have HKK := Lib.hid hkk
      have HW2 := Lib.hid HBW2.out.size
      clear hkk
      rcases HJ3.out with ⟨rfl, hj3⟩ | ⟨rfl, hj3⟩
      · have HJ4 := Lib.hid hj3
        clear hj3 HJ3
        gi_wp2
        have hz2 := HW2.out
        exact ⟨HKK.out, HJ4.out, (HK3.out.2 _ (Nat.le_refl _) (by omega)).trans ((HBW2.out.block _ (by omega)).trans HIP.out.by_), (HK.out _ _ HJ4.out).1.1, (HK3.out.2 _ (by omega) (by omega)).trans ((HBW2.out.block _ (by omega)).trans HIP.out.kw.2)⟩
      · have HJ4 := Lib.hid hj3
        clear hj3 HJ3
        gi_wp2
        exact ⟨HKK.out, rfl, HJ4.out⟩)
  case done =>
    intro Y hI hD
    have HDZ := Lib.hid hD
    have HJY := Lib.hid hI.jj
    clear hI hD
    gi_wp2
    refine ⟨by simp, .inl ⟨_, _, rfl, run_takeDeferred HDZ.out, ?_⟩⟩
    exact ⟨_, results_none rfl _ _ _, ⟨_, rfl⟩, .inl (HJ.out _ _ _ HJY.out (putObj_belowK _ (by omega) (heap_ltN HDZ.out) _))⟩
  case stop =>
    rintro c Y ⟨rfl, hj⟩ hD
    have HDZ := Lib.hid hD
    have HJY := Lib.hid hj
    clear hj hD
    gi_wp2
    refine ⟨by simp, .inl ⟨_, _, rfl, run_takeDeferred HDZ.out, ?_⟩⟩
    exact ⟨_, results_none rfl _ _ _, ⟨_, rfl⟩, .inr (HJX.out _ _ HJY.out (putObj_belowK _ (by omega) (heap_ltN HDZ.out) _))⟩
end Go.Proofs.YtminmadaeaiihaaDoor
namespace Go.Proofs.YtminmadaeaiihaaDoor
open Go.RowKit
set_option maxRecDepth 100000

def WalkR (L : List Nd) : Prop := ∀ (w : World) (lo hi : Nat) (p : Option Addr) (cap : Nat), NAll w lo hi L p → L.length ≤ cap → L.length * 112 ≤ 140737488355328 → hi ≤ w.heap.size → cntAll L ≤ 1000000 →
  Calls Tryd.prog 20 #[.slice p L.length cap] w fun e w' => ∃ v, e = .returned v ∧ Gn w.heap.size lo hi w (flatL L) v w'
set_option maxHeartbeats 2000000 in
theorem walkR_of (L : List Nd) (ih : ∀ t ∈ L, WalkR t.l) : WalkR L := by
  intro w lo hi p cap hall hlc hcap hhi hN
  have H := Lib.hid ih; clear ih
  have HALL := Lib.hid hall; clear hall
  go_enter Tryd.func20, Tryd.ntmps20
  go_wp2
  go_loopw [3, 4] (fun o i wr => ∃ (j : Nat) (q : Option Addr) (c : Nat) (M : List Nd), j ≤ L.length ∧ i = .int .i64 j ∧ o = .slice q M.length c ∧ Hid (M = flatL (L.take j)) ∧ Hid (Gn w.heap.size lo hi w M (.slice q M.length c) wr)) (fun _ i _ => L.length - (intOf i).toNat)
  case atStart => exact ⟨0, none, 0, [], Nat.zero_le _, rfl, rfl, Lib.hid rfl, Lib.hid (Gn.nil (Below.refl _ _))⟩
  case round =>
    obtain ⟨j, q, c, M, hj, rfl, rfl, HM, HG⟩ := hrel
    have hz := HG.out.bel.size
    by_cases hlt : j < L.length
    · obtain ⟨b, off, o, n, s, v, ll, k, m, z, q1, ql, qc, r, c1, hp, _, hbhi, hli, h0, h1, h2, h3, h4, h5, h6, h7, hrep⟩ := (HALL.out.below HG.out.bel hhi).item j hlt
      subst hp
      have hbw : b < wr.heap.size := by omega
      have hMl : M.length = cntAll (L.take j) := by rw [HM.out, flatL_len]
      have hsp := cntAll_split L j hlt
      have hle := cntAll_take_le L (j + 1)
      have hcl : cnt L[j] = 1 + cntAll ll := by rw [hli, cnt]
      have HREP := Lib.hid hrep
      have HIH := Lib.hid (H.out _ (List.getElem_mem hlt))
      have HST := Lib.hid (show flatL (L.take (j + 1)) = (M ++ [L[j]]) ++ flatL ll from by
        rw [List.take_succ_eq_append_getElem hlt, flatL_app, ← HM.out, flatL, flatL, List.append_nil, hli, flatN]; simp)
      obtain ⟨M1, hM1⟩ : ∃ M1, M1 = M ++ [L[j]] := ⟨_, rfl⟩
      obtain ⟨M2, hM2⟩ : ∃ M2, M2 = M1 ++ flatL ll := ⟨_, rfl⟩
      have HM1 := Lib.hid hM1
      have HM2 := Lib.hid hM2
      have HL1 := Lib.hid (show M1.length = M.length + 1 from by rw [hM1]; simp)
      have HLL := Lib.hid (show NAll w lo hi ll r ∧ ll.length ≤ c1 ∧ ll.length * 112 ≤ 140737488355328 from by
        obtain ⟨_, _, _, _, g1, g2, g3⟩ := (hli ▸ hrep).parts
        exact ⟨g3.keep (Nat.le_refl _) (Nat.le_refl _) (fun p _ hp => (HG.out.bel.cell (by omega)).symm), g1, g2⟩)
      rw [hli] at HIH
      simp only [Nd.l] at HIH
      obtain ⟨q5, c5, w5, hr5, hg5⟩ := HG.out.one (by omega) (by omega) (t := L[j]) (by exact hrep) (by omega) M1 hM1 22
      have HG5 := Lib.hid hg5
      have HR5 := Lib.hid hr5
      have h7' := (hg5.bel.cell (p := ⟨b, off + j * 8 + 7, none⟩) (by show b < w.heap.size; omega)).trans ((HG.out.bel.cell (p := ⟨b, off + j * 8 + 7, none⟩) (by show b < w.heap.size; omega)).symm.trans h7)
      have hz5 := hg5.bel.size
      clear hrep hg5 hM1 hM2
      go_wp2_with (first
        | (at_builtin; refine Lib.wpList_append_run_sl _ rfl (.tmp 11) (.tmp 16) _ rfl _ _ rfl rfl HR5.out ?_; clear HR5)
        | (go_at_call 20; refine (HIH.out w5 lo hi r c1 (HLL.out.1.below HG5.out.bel hhi) HLL.out.2.1 HLL.out.2.2 (by omega) (by omega)).mono ?_; rintro e w6 ⟨v6, rfl, hg6⟩; have HG6 := Lib.hid hg6; have HG7 := Lib.hid (HG5.out.below (by omega) (by omega) hg6.bel); obtain ⟨q7, c7, w7, hr7, hg8⟩ := HG7.out.more (by omega) HG7.out.bel.size hg6 (by have := HL1.out; rw [flatL_len]; omega) M2 HM2.out 22; have HR7 := Lib.hid hr7; have HG8 := Lib.hid hg8; clear hg6 hr7 hg8)
        | (at_builtin; refine Lib.wpList_append_run_sl _ rfl (.tmp 18) (.tmp 24) _ rfl _ _ rfl rfl HR7.out ?_))
      go_roundw
      case rel => exact ⟨j + 1, _, _, M2, by omega, by go_num, rfl, Lib.hid (by rw [HST.out, HM2.out, HM1.out]), HG8⟩
      case measure => simp [intOf]; omega
    · have hje : j = L.length := by omega
      have HF := Lib.hid (show M = flatL L from by rw [HM.out, hje, List.take_length])
      go_wp2
      go_ret
      exact ⟨_, rfl, by rw [← HF.out]; exact HG.out⟩
theorem walkR_any (L : List Nd) : WalkR L := by
  have key : ∀ t : Nd, WalkR t.l := Nd.ind_ (fun o n s v l ih => walkR_of l ih)
  exact walkR_of L (fun t _ => key t)
end Go.Proofs.YtminmadaeaiihaaDoor
namespace Go.Proofs.YtminmadaeaiihaaDoor
open Go.RowKit
set_option maxRecDepth 100000
attribute [local go_sem] Oper.semAt_some

set_option maxHeartbeats 1000000 in
theorem eachT_any (L : List Nd) (p : Option Addr) (cap : Nat) (w : World) (lo hi : Nat) (hall : NAll w lo hi L p) (hlc : L.length ≤ cap) (hcap : L.length * 112 ≤ 140737488355328) (hhi : hi ≤ w.heap.size) :
    Calls Tryd.prog 21 #[.slice p L.length cap] w fun e w' => ∃ B q, e = .returned (.func (.func 41) #[] #[.pointer (some ⟨B, 0, none⟩)]) ∧ w.heap.size ≤ B ∧ B < w'.heap.size ∧
      KwA w' w.heap.size w'.heap.size B q L.length L.length w' ∧ NAll w' w.heap.size w'.heap.size L q ∧ Below w.heap.size w w' := by
  have HC := Lib.hid (cloneNs_any L w lo hi p cap hall hlc hcap hhi)
  clear hall
  go_enter Tryd.func21, Tryd.ntmps21
  go_wp2_with (go_at_call 18; (with_reducible refine HC.out.mono ?_); intro e w2 h2; obtain ⟨q, rfl, hn2, hb2, _⟩ := h2.all hcap; have HN2 := Lib.hid hn2; have HB2 := Lib.hid hb2; clear h2 hn2 hb2)
  go_ret
  have hs := heap_alloc_new w2 (.cells #[.slice q L.length L.length] 22)
  exact ⟨w2.heap.size, q, rfl, HB2.out.size, by simp, ⟨⟨Nat.le_refl _, fun _ _ _ => rfl⟩, hs⟩, (HN2.out.alloc (Nat.le_refl _) _).wide (Nat.le_refl _) (by simp), HB2.out.alloc HB2.out.size _⟩

theorem KwA.lower {W0 X : World} {lo hi B len cap g : Nat} {p : Option Addr} (h : KwA W0 lo hi B p len cap X) (hg : g < lo) (hB : B ≠ g) (v : Value) : KwA W0 lo hi B p len cap (X.setCell ⟨g, 0, none⟩ v) :=
  ⟨⟨by simpa using h.1.1, fun a h1 h2 => (World.cell?_setCell_other X ⟨g, 0, none⟩ a v (fun e => by subst e; simp at h1; omega)).trans (h.1.2 a h1 h2)⟩, (heap_setO hB).trans h.2⟩
/-- What the first walk's rounds find: the boxes of the statement, its lists, and what is gone through. -/
structure IT (w W0 : World) (L : List Nd) (pl qs qw q : Option Addr) (cw s g B : Nat) (j : Nat) (X : World) : Prop where
  bel : Below w.heap.size w X
  b4 : X.heap[w.heap.size]? = some (.cells #[.bool false] 4 (0, 0))
  b7 : X.heap[g]? = some (.cells #[.slice qw (cntAll L) cw] 22 (0, 0))
  b8 : X.heap[g + 1]? = some (.cells #[.int .i64 (j : Int)] 3 (0, 0))
  kw : KwA W0 (g + 2) s B q L.length L.length X
  al : NAll X 0 w.heap.size L pl
  aw : NAll X 0 g (flatL L) qw
  as_ : NAll X 0 g L qs
theorem IT.step {w W0 X Y : World} {L : List Nd} {pl qs qw q : Option Addr} {cw s g B j : Nat} (h : IT w W0 L pl qs qw q cw s g B j X) (hg : w.heap.size < g) (h7 : g + 1 < s) (hB : B < s) (hb : Below s X Y) : IT w W0 L pl qs qw q cw s g B j Y :=
  ⟨h.bel.trans (hb.mono (by omega)), (hb.block _ (by omega)).trans h.b4, (hb.block _ (by omega)).trans h.b7, (hb.block _ h7).trans h.b8, h.kw.step (Nat.le_refl _) hB hb, h.al.below hb (by omega), h.aw.below hb (by omega), h.as_.below hb (by omega)⟩
theorem IT.next {w W0 X : World} {L : List Nd} {pl qs qw q : Option Addr} {cw s g B j : Nat} (h : IT w W0 L pl qs qw q cw s g B j X) (hg : w.heap.size < g) (hB : g + 2 ≤ B) (z : Int) (hz : z = ((j + 1 : Nat) : Int)) : IT w W0 L pl qs qw q cw s g B (j + 1) (X.setCell ⟨g + 1, 0, none⟩ (.int .i64 z)) := by
  subst hz
  exact ⟨h.bel.setCell (by show w.heap.size ≤ g + 1; omega) _, (heap_setO (by omega)).trans h.b4, (heap_setO (by omega)).trans h.b7, heap_setN h.b8, h.kw.lower (by omega) (by omega) _, h.al.setCell (Or.inr (by show w.heap.size ≤ g + 1; omega)) _, h.aw.setCell (Or.inr (by show g ≤ g + 1; omega)) _, h.as_.setCell (Or.inr (by show g ≤ g + 1; omega)) _⟩
/-- What the second walk's rounds find. -/
structure IT2 (w W0 : World) (L : List Nd) (q : Option Addr) (s1 s2 gk B K : Nat) (j : Nat) (X : World) : Prop where
  bel : Below w.heap.size w X
  b4 : X.heap[w.heap.size]? = some (.cells #[.bool false] 4 (0, 0))
  bk : X.heap[gk]? = some (.cells #[.int .i64 (K : Int)] 3 (0, 0))
  bj : X.heap[gk + 1]? = some (.cells #[.int .i64 (j : Int)] 3 (0, 0))
  dm : X.heap[s1]? = some (.deferred (some []))
  kw : KwA W0 (gk + 2) s2 B q L.length L.length X
  le : j ≤ K
theorem IT2.step {w W0 X Y : World} {L : List Nd} {q : Option Addr} {s1 s2 gk B K j : Nat} (h : IT2 w W0 L q s1 s2 gk B K j X) (hg : w.heap.size < s1) (h1 : s1 < gk) (hk : gk + 1 < s2) (hB : B < s2) (hb : Below s2 X Y) : IT2 w W0 L q s1 s2 gk B K j Y :=
  ⟨h.bel.trans (hb.mono (by omega)), (hb.block _ (by omega)).trans h.b4, (hb.block _ (by omega)).trans h.bk, (hb.block _ hk).trans h.bj, (hb.block _ (by omega)).trans h.dm, h.kw.step (Nat.le_refl _) hB hb, h.le⟩
theorem IT2.next {w W0 X : World} {L : List Nd} {q : Option Addr} {s1 s2 gk B K j : Nat} (h : IT2 w W0 L q s1 s2 gk B K j X) (hg : w.heap.size < s1) (h1 : s1 < gk) (hB : gk + 2 ≤ B) (hj : j < K) (z : Int) (hz : z = ((j + 1 : Nat) : Int)) : IT2 w W0 L q s1 s2 gk B K (j + 1) (X.setCell ⟨gk + 1, 0, none⟩ (.int .i64 z)) := by
  subst hz
  exact ⟨h.bel.setCell (by show w.heap.size ≤ gk + 1; omega) _, (heap_setO (by omega)).trans h.b4, (heap_setO (by omega)).trans h.bk, heap_setN h.bj, (heap_setO (by omega)).trans h.dm, h.kw.lower (by omega) (by omega) _, hj⟩

set_option maxHeartbeats 4000000 in
theorem treeEach_main (ad : Nat → Addr) (L : List Nd) (at_ : Int) (w : World) (pl : Option Addr) (cl : Nat) (hl : NAll w 0 w.heap.size L pl) (hlc : L.length ≤ cl) (hcl : L.length * 112 ≤ 140737488355328) (hat : I64 at_) (hS : Sn w ad) (hpr : (decide (0 ≤ ndAll L 500 0) && okF (vldF L 0)) = true) :
    Calls Tryd.prog 4 #[.slice pl L.length cl, .int .i64 at_] w fun e w' => e = .returned (.bool true) ∧ Below w.heap.size w w' := by
  have hN : cntAll L ≤ 500 := by
    rw [Bool.and_eq_true] at hpr
    have := ndAll_cnt L 500 0 (by omega) (by simpa using hpr.1)
    have h2 : 0 ≤ ndAll L 500 0 := by simpa using hpr.1
    omega
  have hLN := len_cnt L
  have hFl := flatL_len L
  have HALL := Lib.hid (fun W (hb : Below w.heap.size w W) => hl.below hb (Nat.le_refl _))
  have HPG := Lib.hid (fun W (hb : Below w.heap.size w W) => by have := wProgram_any L 500 (by omega) (by omega) W 0 w.heap.size pl cl (HALL.out W hb) hlc hcl hb.size; rw [hpr] at this; exact this)
  have HB0 := Lib.hid ((Below.refl w.heap.size w).alloc (Nat.le_refl _) (.cells #[.bool false] 4))
  have HX0 := Lib.hid (heap_alloc_new w (.cells #[.bool false] 4))
  have HFI := Lib.hid (first7_any ad (w.alloc (.cells #[.bool false] 4)) (hS.below HB0.out))
  clear hl hS hpr
  refine (callsIn_wide (n := 8)).1 ?_
  refine callsIn_of_wp_marks Tryd.func4 rfl trivial ?_ rfl
  simp only [Tryd.ntmps4, List.size_toArray, List.length_cons, List.length_nil, Nat.reduceAdd, Nat.reduceSub, Array.replicate_succ, Array.replicate_zero, List.push_toArray, List.append_toArray, List.nil_append, List.cons_append]
  gi_wp2_with (first
    | (refine ⟨trivial, ?_⟩; gi_at_call 6; refine (callsIn_wide.2 HFI.out).mono ?_; rintro e w1 ⟨rfl, hb⟩; have HX1 := Lib.hid (heap_old HX0.out hb); have HB1 := Lib.hid (HB0.out.trans (hb.mono HB0.out.size)); clear hb HFI)
    | (refine ⟨trivial, ?_⟩; gi_at_call 7; refine (callsIn_wide.2 (HPG.out _ HB1.out)).mono ?_; rintro e w2 ⟨rfl, hb⟩; have HX2 := Lib.hid (heap_old HX1.out hb); have HB2 := Lib.hid (HB1.out.trans (hb.mono HB1.out.size)); clear hb HPG)
    | (refine ⟨trivial, ?_⟩; gi_at_call 19; refine (callsIn_wide.2 (copyNs_any L w2 0 w.heap.size pl cl (HALL.out _ HB2.out) hlc hcl HB2.out.size)).mono ?_; rintro e w3 ⟨qs, cs, rfl, hcs, h, hb⟩; have HAS := Lib.hid h; have HX3 := Lib.hid (heap_old HX2.out hb); have HB3 := Lib.hid (HB2.out.trans (hb.mono HB2.out.size)); clear h hb)
    | (refine ⟨trivial, ?_⟩; gi_at_call 20; refine (callsIn_wide.2 (walkR_any L w3 0 w.heap.size pl cl (HALL.out _ HB3.out) hlc hcl HB3.out.size (by omega))).mono ?_; rintro e w4 ⟨v4, rfl, hg⟩; obtain ⟨qw, cw, rfl, hcw, h⟩ := hg.fin (Nat.zero_le _) (Nat.le_trans HB3.out.size hg.bel.size); have HAW := Lib.hid h; have HX4 := Lib.hid (heap_old HX3.out hg.bel); have HB4 := Lib.hid (HB3.out.trans (hg.bel.mono HB3.out.size)); have HAS4 := Lib.hid ((HAS.out.below hg.bel (Nat.le_refl _)).wide (Nat.zero_le _) hg.bel.size); clear h hg HAS)
    | (refine ⟨trivial, ?_⟩; gi_at_call 21; have HB5 := Lib.hid (((Below.refl w4.heap.size w4).alloc (Nat.le_refl _) (.cells #[.slice qw (cntAll L) cw] 22)).alloc (by simp) (.cells #[.int .i64 0] 3)); refine (callsIn_wide.2 (eachT_any L pl cl _ 0 w.heap.size (HALL.out _ (HB4.out.trans (HB5.out.mono HB4.out.size))) hlc hcl (HB4.out.trans (HB5.out.mono HB4.out.size)).size)).mono ?_; rintro e w5 ⟨B, q, rfl, hBlo, hBl, hkw, hn, hb⟩; have HE5 := Lib.hid hb; have HKW := Lib.hid hkw; have HKN := Lib.hid hn; have HBL := Lib.hid hBlo; have HBLT := Lib.hid hBl; clear hb hkw hn hBlo hBl))
  have hz4 : w4.heap.size + 2 ≤ w5.heap.size := by have := HE5.out.size; simp at this; omega
  have hzb : w4.heap.size + 2 ≤ B := by have := HBL.out; simp at this; omega
  have hBl : B < w5.heap.size := HBLT.out
  have hw4 : w.heap.size < w4.heap.size := heap_ltN HX4.out
  have HI0 : Hid (IT w w5 L pl qs qw q cw w5.heap.size w4.heap.size B 0 w5) := by
    have h45 : Below w4.heap.size w4 w5 := HB5.out.trans (HE5.out.mono (by simp; omega))
    have hk := HKW.out
    rw [World.size_alloc, World.size_alloc] at hk
    refine ⟨HB4.out.trans (h45.mono HB4.out.size), (h45.block _ hw4).trans HX4.out, ?_, ?_, hk, HALL.out _ (HB4.out.trans (h45.mono HB4.out.size)), (HAW.out.below h45 (Nat.le_refl _)), HAS4.out.below h45 (Nat.le_refl _)⟩
    · exact (HE5.out.block _ (by simp; omega)).trans (heap_alloc_ _ _ _ _ (heap_alloc_new w4 _))
    · have h := heap_alloc_new (w4.alloc (.cells #[.slice qw (cntAll L) cw] 22)) (.cells #[.int .i64 0] 3)
      rw [World.size_alloc] at h
      exact (HE5.out.block _ (by simp)).trans h
  have HKN2 : Hid (NAll w5 (w4.heap.size + 2) w5.heap.size L q) := by
    have := HKN.out
    rw [World.size_alloc, World.size_alloc] at this
    exact this
  clear HE5 HKW HKN HBL HBLT HB5 HAS4 HAW HX4 HX3 HX2 HX1 HX0 HB0 HB1 HB2 HB3
  refine range_keepsE rfl (by omega) (gf := 41) (lb := #[.pointer (some ⟨B, 0, none⟩)]) rfl trivial (enters_of Tryd.func41 (by kernel_rfl) rfl) (eachT_hands _ (by omega) L w5 B (w4.heap.size + 2) w5.heap.size q L.length HKN2.out (Nat.le_refl _) hcl) (fun j xs b X h => by obtain ⟨_, _, _, _, _, _, _, _, _, _, _, rfl, _, _, h2⟩ := h; exact ⟨rfl, h2⟩)
    (IT w w5 L pl qs qw q cw w5.heap.size w4.heap.size B) (fun _ _ => False) (fun j X Y h hb => h.step hw4 (by omega) hBl hb) (fun _ _ _ h _ => h) (fun j X h => h.kw) HI0.out ?round ?done (fun _ _ h _ => h.elim)
  case round =>
    intro j xs b X hj hI hH hsb hlt
    obtain ⟨hjf, o, n, s, k, m, z, qv, ql, qc, r, rfl, hrep, hown, hbX⟩ := hH
    obtain ⟨ln, hln⟩ : ∃ ln, ln = (flatL L)[j].l.length := ⟨_, rfl⟩
    rw [← hln] at hrep hown ⊢
    clear hln
    have HR := Lib.hid hrep
    have HN := Lib.hid hown
    have HI := Lib.hid hI
    clear hrep hown hI
    gi_wp2
    refine ⟨KeptK.alloc _ _ _, fun r1 => ?_⟩
    obtain ⟨P, hP⟩ : ∃ P, P = (X.alloc (.cells #[.int .i64 o, .int .i64 n, .string s, .int .i64 k, .int .i64 m, .string z, .slice qv ql qc, .slice r ln ln] 40)).putObj (w5.heap.size + 1) (.loop r1) := ⟨_, rfl⟩
    have hPz : P.heap.size = X.heap.size + 1 := by rw [hP]; simp
    have hPo : ∀ g, g < X.heap.size → g ≠ w5.heap.size + 1 → P.heap[g]? = X.heap[g]? := fun g h1 h2 => by
      rw [hP]; exact (World.putObj_heap_other h2).trans (Below.heap_alloc _ _ _ h1)
    have hPc : ∀ a : Addr, b ≤ a.block → a.block < X.heap.size → P.cell? a = X.cell? a := fun a h1 h2 => World.cell?_of_block (hPo _ h2 (by omega))
    have HIP : Hid (IT w w5 L pl qs qw q cw w5.heap.size w4.heap.size B j P) := HI.out.step hw4 (by omega) hBl (by
      rw [hP]; exact ((Below.refl _ X).alloc (by omega) _).trans (putObj_belowK _ (by omega) (by simp; omega) _))
    have HBX : Hid (P.heap[X.heap.size]? = some (.cells #[.int .i64 o, .int .i64 n, .string s, .int .i64 k, .int .i64 m, .string z, .slice qv ql qc, .slice r ln ln] 40 (0, 0))) := by
      show _ = _; rw [hP]; exact (World.putObj_heap_other (by omega)).trans (heap_alloc_new X _)
    have HRP : Hid (NRep P b X.heap.size (flatL L)[j] (.agg #[.int .i64 o, .int .i64 n, .string s, .int .i64 k, .int .i64 m, .string z, .slice qv ql qc, .slice r ln ln])) := HR.out.keep (Nat.le_refl _) (Nat.le_refl _) hPc
    have HNP : Hid (r = none ∧ ln = 0 ∨ ∃ g cur, r = some ⟨g, 0, none⟩ ∧ b ≤ g ∧ g < X.heap.size ∧ P.heap[g]? = some (.cells cur 40 (0, 0)) ∧ ln * 8 ≤ cur.size) := by
      obtain ⟨xs, h1, h2⟩ := HN.out
      rcases h2 with ⟨h2, h3⟩ | ⟨g, cp, cur, hv, hg, hh, hx, _, hcs, _⟩
      · injection h2 with e1 e2 _
        exact .inl ⟨e1, e2⟩
      · injection hv with e1 e2 e3
        exact .inr ⟨g, cur, e1, hg, heap_ltN hh, (hPo _ (heap_ltN hh) (by omega)).trans hh, by omega⟩
    rw [← hP]
    have HPE := Lib.hid hP
    clear hP hPc HI HR HN
    obtain ⟨g9, hg9⟩ : ∃ g9, g9 = X.heap.size := ⟨_, rfl⟩
    rw [← hg9] at hPz HBX HRP HNP hlt hbX ⊢
    obtain ⟨x70, _⟩ := cell_oneN _ _ _ _ HIP.out.b7
    obtain ⟨x80, _⟩ := cell_oneN _ _ _ _ HIP.out.b8
    obtain ⟨x90, x91, x92, x93, x94, x95, x96, x97, x9f⟩ := box8_in P g9 _ _ _ _ _ _ _ _ _ HBX.out
    obtain ⟨bw, ow, o1, n1, s1, v1, l1, k1, m1, z1, q1, ql1, qc1, r2, c1, hpw, _, hbwhi, hli, y0, y1, y2, y3, y4, y5, y6, y7, hrw⟩ := HIP.out.aw.item j hjf
    have HRW := Lib.hid hrw
    subst hpw
    have hge : decide ((cntAll L : Int) ≤ (j : Int)) = false := by simp; omega
    have hge2 : decide (cntAll L ≤ j) = false := by simp; omega
    have hbwP : bw < P.heap.size := by omega
    have hjb : (j : Int) < (cntAll L : Int) := by omega
    have hj50 : (j : Int) ≤ 500 := by omega
    have hc50 : (cntAll L : Int) ≤ 500 := by omega
    clear hrw hli x9f hg9 hPo
    gi_upto_region 11 with fail
    gi_cut [42] from 30 (fun c wx => c = .bool false ∧ Hid (Below P.heap.size P wx))
    case first =>
      obtain ⟨Ix, f, hne, hfx, hcls⟩ : ∃ (Ix : Type) (f : Ix → World), Nonempty Ix ∧ (∀ x, Below P.heap.size P (f x)) ∧ ∀ W, Below P.heap.size P W → ∃ x, W = f x := ⟨{W : World // Below P.heap.size P W}, fun x => x.1, ⟨⟨P, Below.refl _ _⟩⟩, fun x => x.2, fun W h => ⟨⟨W, h⟩, rfl⟩⟩
      have h9P : g9 < P.heap.size := by omega
      have h8P : w4.heap.size + 1 < P.heap.size := by omega
      have z80 : ∀ x, (f x).cell? ⟨w4.heap.size + 1, 0, none⟩ = some (.int .i64 (j : Int)) := fun x => ((hfx x).cell (p := ⟨w4.heap.size + 1, 0, none⟩) h8P).trans x80
      have z70 : ∀ x, (f x).cell? ⟨w4.heap.size, 0, none⟩ = some (.slice (some ⟨bw, ow, none⟩) (cntAll L) cw) := fun x => ((hfx x).cell (p := ⟨w4.heap.size, 0, none⟩) (by show w4.heap.size < P.heap.size; omega)).trans x70
      have z90 : ∀ x, (f x).cell? ⟨g9, 0, none⟩ = some (.int .i64 o) := fun x => ((hfx x).cell (p := ⟨g9, 0, none⟩) h9P).trans x90
      have z91 : ∀ x, (f x).cell? ⟨g9, 1, none⟩ = some (.int .i64 n) := fun x => ((hfx x).cell (p := ⟨g9, 1, none⟩) h9P).trans x91
      have z92 : ∀ x, (f x).cell? ⟨g9, 2, none⟩ = some (.string s) := fun x => ((hfx x).cell (p := ⟨g9, 2, none⟩) h9P).trans x92
      have z93 : ∀ x, (f x).cell? ⟨g9, 3, none⟩ = some (.int .i64 k) := fun x => ((hfx x).cell (p := ⟨g9, 3, none⟩) h9P).trans x93
      have z94 : ∀ x, (f x).cell? ⟨g9, 4, none⟩ = some (.int .i64 m) := fun x => ((hfx x).cell (p := ⟨g9, 4, none⟩) h9P).trans x94
      have z95 : ∀ x, (f x).cell? ⟨g9, 5, none⟩ = some (.string z) := fun x => ((hfx x).cell (p := ⟨g9, 5, none⟩) h9P).trans x95
      have z96 : ∀ x, (f x).cell? ⟨g9, 6, none⟩ = some (.slice qv ql qc) := fun x => ((hfx x).cell (p := ⟨g9, 6, none⟩) h9P).trans x96
      have z97 : ∀ x, (f x).cell? ⟨g9, 7, none⟩ = some (.slice r ln ln) := fun x => ((hfx x).cell (p := ⟨g9, 7, none⟩) h9P).trans x97
      have zy0 : ∀ x, (f x).cell? ⟨bw, ow + j * 8, none⟩ = some (.int .i64 o1) := fun x => ((hfx x).cell (p := ⟨bw, ow + j * 8, none⟩) hbwP).trans y0
      have zy1 : ∀ x, (f x).cell? ⟨bw, ow + j * 8 + 1, none⟩ = some (.int .i64 n1) := fun x => ((hfx x).cell (p := ⟨bw, ow + j * 8 + 1, none⟩) hbwP).trans y1
      have zy2 : ∀ x, (f x).cell? ⟨bw, ow + j * 8 + 2, none⟩ = some (.string s1) := fun x => ((hfx x).cell (p := ⟨bw, ow + j * 8 + 2, none⟩) hbwP).trans y2
      have zy3 : ∀ x, (f x).cell? ⟨bw, ow + j * 8 + 3, none⟩ = some (.int .i64 k1) := fun x => ((hfx x).cell (p := ⟨bw, ow + j * 8 + 3, none⟩) hbwP).trans y3
      have zy4 : ∀ x, (f x).cell? ⟨bw, ow + j * 8 + 4, none⟩ = some (.int .i64 m1) := fun x => ((hfx x).cell (p := ⟨bw, ow + j * 8 + 4, none⟩) hbwP).trans y4
      have zy5 : ∀ x, (f x).cell? ⟨bw, ow + j * 8 + 5, none⟩ = some (.string z1) := fun x => ((hfx x).cell (p := ⟨bw, ow + j * 8 + 5, none⟩) hbwP).trans y5
      have zy6 : ∀ x, (f x).cell? ⟨bw, ow + j * 8 + 6, none⟩ = some (.slice q1 ql1 qc1) := fun x => ((hfx x).cell (p := ⟨bw, ow + j * 8 + 6, none⟩) hbwP).trans y6
      have zy7 : ∀ x, (f x).cell? ⟨bw, ow + j * 8 + 7, none⟩ = some (.slice r2 l1.length c1) := fun x => ((hfx x).cell (p := ⟨bw, ow + j * 8 + 7, none⟩) hbwP).trans y7
      have CSV : Hid (∀ x, Calls Tryd.prog 22 #[.agg #[.int .i64 o, .int .i64 n, .string s, .int .i64 k, .int .i64 m, .string z, .slice qv ql qc, .slice r ln ln], .agg #[.int .i64 o1, .int .i64 n1, .string s1, .int .i64 k1, .int .i64 m1, .string z1, .slice q1 ql1 qc1, .slice r2 l1.length c1]] (f x) fun e W => e = .returned (.bool true) ∧ ∃ y, W = f y) := fun x => by
        have hz := (hfx x).size
        have h := sameN_any (flatL L)[j] (f x) b g9 0 w4.heap.size _ _ (HRP.out.below (hfx x) (by omega)) (by omega) (HRW.out.below (hfx x) (by omega)) (by omega)
        exact h.mono fun e W hh => ⟨hh.1, hcls W ((hfx x).trans (hh.2.mono hz))⟩
      have HFX := Lib.hid hfx
      have HCD := Lib.hid (hcls P.drew (Below.refl _ _).drew)
      have hbP : b ≤ P.heap.size := by omega
      clear hPz hz4 hzb hBl hw4 hsb hlt hat hcw hlc hcl hfx hcls hbX x70 x80 x90 x91 x92 x93 x94 x95 x96 x97 y0 y1 y2 y3 y4 y5 y6 y7 h9P h8P hbwP hbP hbwhi hFl hLN hN HRP HRW hjf hj
      refine region_round (C := fun W => ∃ x : Ix, W = f x) (by kernel_rfl) (by kernel_rfl) HCD.out (by simp) ?_
      iterate 13 (go_big_quiet_step (first | with_reducible exact CSV.out _))
      refine wpQuiet_nil ?_
      intro W' hw'
      obtain ⟨y, rfl⟩ := hw'
      gi_wp2
      gi_meet
      exact ⟨rfl, HFX.out y⟩
    case rest =>
      obtain ⟨rfl, HBc⟩ := hcut
      obtain ⟨W5, rfl⟩ : ∃ W5 : World, W5 = wc := ⟨wc, rfl⟩
      have hzc := HBc.out.size
      have HBX2 : Hid (W5.heap[g9]? = some (.cells #[.int .i64 o, .int .i64 n, .string s, .int .i64 k, .int .i64 m, .string z, .slice qv ql qc, .slice r ln ln] 40 (0, 0))) := (HBc.out.block _ (by omega)).trans HBX.out
      obtain ⟨u90, u91, u92, u93, u94, u95, u96, u97, u9f⟩ := box8_in W5 g9 _ _ _ _ _ _ _ _ _ HBX2.out
      clear u9f x70 x80 x90 x91 x92 x93 x94 x95 x96 x97 y0 y1 y2 y3 y4 y5 y6 y7
      have HBb : Hid (Below b P W5) := HBc.out.mono (by omega)
      have hb9 : b ≤ W5.heap.size := by omega
      gi_upto_if 46 with fail
      gi_cut [] from 43 (fun wx => Hid (Below b P wx))
      case first =>
        rcases HNP.out with ⟨rfl, rfl⟩ | ⟨gq, cur, rfl, hgq, hgq2, hh, hcs⟩
        · gi_wp2
          gi_meet
          exact HBb
        · have hh5 := (HBc.out.block _ (show gq < P.heap.size by omega)).trans hh
          by_cases hlen : 0 < ln
          · have hgt : (0 : Int) < (ln : Int) := by omega
            obtain ⟨v0, hv0⟩ : ∃ v0, W5.cell? ⟨gq, 0, none⟩ = some v0 := ⟨cur[0], by rw [cell_of_row _ _ _ _ _ _ hh5]; simp⟩
            have hf0 : W5.frozen? ⟨gq, 0, none⟩ = false := by simp [World.frozen?, hh5]
            gi_wp2
            gi_meet
            exact HBb.out.setCell (p := ⟨gq, 0, none⟩) hgq _
          · have hle0 : (ln : Int) ≤ 0 := by omega
            gi_wp2
            gi_meet
            exact HBb
      case rest =>
        have HBf := hcut
        have HIc : Hid (IT w w5 L pl qs (some ⟨bw, ow, none⟩) q cw w5.heap.size w4.heap.size B j wc) := HIP.out.step hw4 (by omega) hBl (HBf.out.mono (by omega))
        obtain ⟨v80, vf80⟩ := cell_oneN _ _ _ _ HIc.out.b8
        clear u90 u91 u92 u93 u94 u95 u96 u97
        gi_wp2
        have hzf := HBf.out.size
        refine ⟨⟨by simpa using hzf, fun k' h3 h4 => (heap_setO (by omega)).trans (HBf.out.block _ (by omega))⟩, HIc.out.next hw4 (by omega) _ ?_⟩
        simp
  case done =>
    intro Y hI hD
    have HI := Lib.hid hI
    have HD := Lib.hid hD
    obtain ⟨x70, _⟩ := cell_oneN _ _ _ _ hI.b7
    obtain ⟨x80, _⟩ := cell_oneN _ _ _ _ hI.b8
    have hyw := hI.bel.size
    have hy4 : w4.heap.size ≤ Y.heap.size := Nat.le_of_lt (heap_ltN hI.b7)
    have HSN := Lib.hid (sameNs_any L Y 0 w.heap.size pl cl hI.al hyw hcl 0 w4.heap.size qs cs hI.as_ hy4)
    have hYs : w5.heap.size < Y.heap.size := heap_ltN hD
    clear hI hD
    have hc50 : (cntAll L : Int) ≤ 500 := by omega
    have hne0 : ((cntAll L : Int) != (cntAll L : Int)) = false := by simp
    by_cases hl0 : cntAll L = 0
    · have hl0' : (cntAll L : Int) = 0 := by omega
      have hl1 : ((cntAll L : Int) == 0) = true := by simpa using hl0
      clear hl0 hl0'
      gi_wp2_with (refine ⟨trivial, ?_⟩; gi_at_call 17; refine (callsIn_wide.2 HSN.out).mono ?_; rintro e w6 ⟨rfl, hb⟩; have HB6 := Lib.hid hb; obtain ⟨x86, _⟩ := cell_oneN _ _ _ _ ((hb.block _ (heap_ltN HI.out.b8)).trans HI.out.b8); obtain ⟨x46, xf46⟩ := cell_oneN _ _ _ _ ((hb.block _ (heap_ltN HI.out.b4)).trans HI.out.b4); clear hb)
      have hb6 := HB6.out
      have hD2 : (w6.setCell ⟨w.heap.size, 0, none⟩ (.bool true)).heap[w5.heap.size]? = some (.deferred (some [])) := (heap_setO (by omega)).trans ((hb6.block _ hYs).trans HD.out)
      have h4 : ((w6.setCell ⟨w.heap.size, 0, none⟩ (.bool true)).putObj w5.heap.size (.deferred none)).heap[w.heap.size]? = some (.cells #[.bool true] 4 (0, 0)) :=
        (World.putObj_heap_other (by omega)).trans (heap_setN ((hb6.block _ (heap_ltN HI.out.b4)).trans HI.out.b4))
      obtain ⟨r40, _⟩ := cell_oneN _ _ _ _ h4
      refine ⟨by simp, .inl ⟨_, _, rfl, run_takeDeferred hD2, ?_⟩⟩
      refine ⟨.bool true, by simp [results, Tryd.results4, go_sem, r40], rfl, ?_⟩
      exact ((HI.out.bel.trans (hb6.mono hyw)).setCell (Nat.le_refl _) _).trans (putObj_belowK _ (by omega) (heap_ltN hD2) _)
    · have hlp : (1 : Int) ≤ (cntAll L : Int) := by omega
      have hl1 : ((cntAll L : Int) == 0) = false := by simpa using hl0
      obtain ⟨K, hK, hKl⟩ : ∃ K : Nat, (K : Int) = at_ % (cntAll L : Int) ∧ K < cntAll L := ⟨(at_ % (cntAll L : Int)).toNat, by
        have h1 := Int.emod_nonneg at_ (b := (cntAll L : Int)) (by omega)
        have h2 := Int.emod_lt_of_pos at_ (b := (cntAll L : Int)) (by omega)
        omega⟩
      have HNB := Lib.hid (fun W => number6_any at_ (cntAll L : Int) W hat hlp (by omega))
      rw [← hK] at HNB
      clear hK hat hl0
      gi_wp2_with (first
        | (refine ⟨trivial, ?_⟩; gi_at_call 17; refine (callsIn_wide.2 HSN.out).mono ?_; rintro e w6 ⟨rfl, hb⟩; have HB6 := Lib.hid hb; obtain ⟨x86, _⟩ := cell_oneN _ _ _ _ ((hb.block _ (heap_ltN HI.out.b8)).trans HI.out.b8); clear hb)
        | (refine ⟨trivial, ?_⟩; gi_at_call 23; refine (callsIn_wide.2 (HNB.out _)).mono ?_; rintro e w7 ⟨rfl, rfl⟩)
        | (refine ⟨trivial, ?_⟩; gi_at_call 21; have HB7 := Lib.hid (((Below.refl w6.heap.size w6).alloc (Nat.le_refl _) (.cells #[.int .i64 (K : Int)] 3)).alloc (by simp) (.cells #[.int .i64 0] 3)); have HW6 := Lib.hid HB6.out.size; refine (callsIn_wide.2 (eachT_any L pl cl _ 0 w.heap.size ((HI.out.al.below HB6.out hyw).below HB7.out (by have := HW6.out; omega)) hlc hcl (by have := HB7.out.size; have := HW6.out; omega))).mono ?_; rintro e w8 ⟨B2, q2, rfl, hBlo, hBl2, hkw, hn2, hb⟩; have HE8 := Lib.hid hb; have HKW := Lib.hid hkw; have HKN := Lib.hid hn2; have HBL := Lib.hid hBlo; have HBLT := Lib.hid hBl2; clear hb hkw hn2 hBlo hBl2))
      have hw6 := HB6.out.size
      have hz8 : w6.heap.size + 2 ≤ w8.heap.size := by have := HE8.out.size; simp at this; omega
      have hzb2 : w6.heap.size + 2 ≤ B2 := by have := HBL.out; simp at this; omega
      have hBl2 : B2 < w8.heap.size := HBLT.out
      have hsw : w.heap.size < w5.heap.size := by omega
      have h16 : w5.heap.size < w6.heap.size := by omega
      have HI2 : Hid (IT2 w w8 L q2 w5.heap.size w8.heap.size w6.heap.size B2 K 0 w8) := by
        have hb6 := HB6.out
        have hbY : Below w6.heap.size w6 w8 := HB7.out.trans (HE8.out.mono (by simp; omega))
        have hb68 : Below Y.heap.size Y w8 := hb6.trans (hbY.mono (by omega))
        have hk := HKW.out
        rw [World.size_alloc, World.size_alloc] at hk
        refine ⟨HI.out.bel.trans (hb68.mono (by omega)), (hb68.block _ (by omega)).trans HI.out.b4, ?_, ?_, (hb68.block _ hYs).trans HD.out, hk, Nat.zero_le _⟩
        · exact (HE8.out.block _ (by simp; omega)).trans (heap_alloc_ _ _ _ _ (heap_alloc_new w6 _))
        · have h := heap_alloc_new (w6.alloc (.cells #[.int .i64 (K : Int)] 3)) (.cells #[.int .i64 0] 3)
          rw [World.size_alloc] at h
          exact (HE8.out.block _ (by simp)).trans h
      have HKN2' : Hid (NAll w8 (w6.heap.size + 2) w8.heap.size L q2) := by
        have := HKN.out
        rw [World.size_alloc, World.size_alloc] at this
        exact this
      have hK50 : (K : Int) ≤ 500 := by omega
      have HBY6 := Lib.hid (HI.out.bel.trans (HB6.out.mono hyw))
      clear HE8 HKW HKN HBL HBLT HB7 HNB x70 x80 x86
      refine range_keepsE rfl (by omega) (gf := 41) (lb := #[.pointer (some ⟨B2, 0, none⟩)]) rfl trivial (enters_of Tryd.func41 (by kernel_rfl) rfl) (eachT_hands _ (by omega) L w8 B2 (w6.heap.size + 2) w8.heap.size q2 L.length HKN2'.out (Nat.le_refl _) hcl) (fun j xs b X h => by obtain ⟨_, _, _, _, _, _, _, _, _, _, _, rfl, _, _, h2⟩ := h; exact ⟨rfl, h2⟩)
        (IT2 w w8 L q2 w5.heap.size w8.heap.size w6.heap.size B2 K) (fun c X => c = .exit 2 ∧ IT2 w w8 L q2 w5.heap.size w8.heap.size w6.heap.size B2 K K X) (fun j X Y' h hb => h.step hsw h16 (by omega) hBl2 hb) (fun _ X Y' h hb => ⟨h.1, h.2.step hsw h16 (by omega) hBl2 hb⟩) (fun j X h => h.kw) HI2.out ?round2 ?done2 ?stop2
      case round2 =>
        intro j xs b X hj hI hH hsb hlt
        obtain ⟨_, o, n, s, k, m, z, qv, ql, qc, r, rfl, _, _, hbX⟩ := hH
        have HIX := Lib.hid hI
        clear hI
        gi_wp2
        refine ⟨KeptK.refl _ _, fun r1 => ?_⟩
        have hbP := putObj_belowK X (B := w8.heap.size) (l := w8.heap.size + 1) (by omega) hlt (.loop r1)
        have HIP := Lib.hid (HIX.out.step hsw h16 (by omega) hBl2 hbP)
        generalize X.putObj (w8.heap.size + 1) (.loop r1) = P at *
        obtain ⟨xk0, _⟩ := cell_oneN _ _ _ _ HIP.out.bk
        obtain ⟨xj0, xjf⟩ := cell_oneN _ _ _ _ HIP.out.bj
        have hle := HIP.out.le
        by_cases hjk : j = K
        · subst hjk
          gi_wp2
          exact ⟨⟨Nat.le_refl _, fun _ _ _ => rfl⟩, rfl, HIP.out⟩
        · have hne : ((j : Int) == (K : Int)) = false := by simp; omega
          have hjK : j < K := by omega
          have hj50 : (j : Int) ≤ 500 := by omega
          have HJK := Lib.hid hjK
          clear hjk hjK hle
          gi_wp2
          refine ⟨⟨by simp, fun k' h3 h4 => heap_setO (by omega)⟩, HIP.out.next hsw h16 hzb2 HJK.out _ ?_⟩
          simp
      case done2 =>
        intro Z hI hD
        exact absurd hI.le (by omega)
      case stop2 =>
        rintro cd Z ⟨rfl, hI⟩ hD
        have HIZ := Lib.hid hI
        have HDZ := Lib.hid hD
        obtain ⟨xk0, _⟩ := cell_oneN _ _ _ _ hI.bk
        obtain ⟨xj0, _⟩ := cell_oneN _ _ _ _ hI.bj
        obtain ⟨x40, xf40⟩ := cell_oneN _ _ _ _ hI.b4
        have hZs : w8.heap.size < Z.heap.size := heap_ltN hD
        have hKK : ((K : Int) == (K : Int)) = true := by simp
        clear hI hD
        dsimp only
        gi_wp2
        have hD2 : (Z.setCell ⟨w.heap.size, 0, none⟩ (.bool true)).heap[w8.heap.size]? = some (.deferred (some [])) := (heap_setO (by omega)).trans HDZ.out
        have hD1 : ((Z.setCell ⟨w.heap.size, 0, none⟩ (.bool true)).putObj w8.heap.size (.deferred none)).heap[w5.heap.size]? = some (.deferred (some [])) := (World.putObj_heap_other (by omega)).trans ((heap_setO (by omega)).trans HIZ.out.dm)
        have h4 : (((Z.setCell ⟨w.heap.size, 0, none⟩ (.bool true)).putObj w8.heap.size (.deferred none)).putObj w5.heap.size (.deferred none)).heap[w.heap.size]? = some (.cells #[.bool true] 4 (0, 0)) :=
          (World.putObj_heap_other (by omega)).trans ((World.putObj_heap_other (by omega)).trans (heap_setN HIZ.out.b4))
        obtain ⟨r40, _⟩ := cell_oneN _ _ _ _ h4
        have bel : Below w.heap.size w (((Z.setCell ⟨w.heap.size, 0, none⟩ (.bool true)).putObj w8.heap.size (.deferred none)).putObj w5.heap.size (.deferred none)) :=
          ((HIZ.out.bel.setCell (Nat.le_refl _) _).trans (putObj_belowK _ (by omega) (heap_ltN hD2) _)).trans (putObj_belowK _ (by omega) (heap_ltN hD1) _)
        refine ⟨by simp, .inl ⟨_, _, rfl, run_takeDeferred hD2, ?_⟩⟩
        refine ⟨by simp, .inl ⟨_, _, rfl, run_takeDeferred hD1, ?_⟩⟩
        exact ⟨.bool true, by simp [results, Tryd.results4, go_sem, r40], rfl, bel⟩

set_option maxHeartbeats 1000000 in
theorem treeEach_all (ad : Nat → Addr) (L : List Nd) (p : Option Addr) (cap : Nat) (a : Int) (w : World) (hall : NAll w 0 w.heap.size L p) (hlc : L.length ≤ cap) (hcap : L.length * 112 ≤ 140737488355328) (ha : I64 a) (hS : Sn w ad) :
    Calls Tryd.prog 4 #[.slice p L.length cap, .int .i64 a] w fun e w' => e = .returned (.bool true) ∧ Below w.heap.size w w' := by
  cases hpr : (decide (0 ≤ ndAll L 500 0) && okF (vldF L 0)) with
  | true => exact treeEach_main ad L a w p cap hall hlc hcap ha hS hpr
  | false =>
    have HB0 := Lib.hid ((Below.refl w.heap.size w).alloc (Nat.le_refl _) (.cells #[.bool false] 4))
    have HX0 := Lib.hid (heap_alloc_new w (.cells #[.bool false] 4))
    have HFI := Lib.hid (first7_any ad (w.alloc (.cells #[.bool false] 4)) (hS.below HB0.out))
    have HPG := Lib.hid (fun W (hb : Below w.heap.size w W) => by have := wProgram_any L 500 (by omega) (by omega) W 0 w.heap.size p cap (hall.below hb (Nat.le_refl _)) hlc hcap hb.size; rw [hpr] at this; exact this)
    clear hall hS ha hpr
    refine (callsIn_wide (n := 8)).1 ?_
    refine callsIn_of_wp_marks Tryd.func4 rfl trivial ?_ rfl
    simp only [Tryd.ntmps4, List.size_toArray, List.length_cons, List.length_nil, Nat.reduceAdd, Nat.reduceSub, Array.replicate_succ, Array.replicate_zero, List.push_toArray, List.append_toArray, List.nil_append, List.cons_append]
    gi_wp2_with (first
      | (refine ⟨trivial, ?_⟩; gi_at_call 6; refine (callsIn_wide.2 HFI.out).mono ?_; rintro e w1 ⟨rfl, hb⟩; have HX1 := Lib.hid (heap_old HX0.out hb); have HB1 := Lib.hid (HB0.out.trans (hb.mono HB0.out.size)); clear hb HFI)
      | (refine ⟨trivial, ?_⟩; gi_at_call 7; refine (callsIn_wide.2 (HPG.out _ HB1.out)).mono ?_; rintro e w2 ⟨rfl, hb⟩; have HX2 := Lib.hid (heap_old HX1.out hb); have HB2 := Lib.hid (HB1.out.trans (hb.mono HB1.out.size)); obtain ⟨y40, yf40⟩ := cell_oneN _ _ _ _ HX2.out; clear hb HPG))
    have h4 := heap_setN (v' := .bool true) HX2.out
    obtain ⟨r40, _⟩ := cell_oneN _ _ _ _ h4
    exact ⟨.bool true, by simp [results, Tryd.results4, go_sem, r40], rfl, HB2.out.setCell (Nat.le_refl _) _⟩
end Go.Proofs.YtminmadaeaiihaaDoor
