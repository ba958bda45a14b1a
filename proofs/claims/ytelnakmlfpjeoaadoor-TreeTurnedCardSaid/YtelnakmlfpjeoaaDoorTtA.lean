/- The walk of the statement on one node turned. -/
import Derived.Test.YtelnakmlfpjeoaaDoorFew
import Derived.Test.YtelnakmlfpjeoaaDoorNt
import Derived.Handy
import Derived.Test.YtelnakmlfpjeoaaDoorRo6
import Derived.Test.YtelnakmlfpjeoaaDoorRt
import Derived.Test.YtelnakmlfpjeoaaDoorCopy
import Derived.Test.YtelnakmlfpjeoaaDoorTm
import Derived.Deep.RegionHeld3
import Derived.Test.YtelnakmlfpjeoaaDoorSameV
import Derived.Test.YtelnakmlfpjeoaaDoorTh2
import Derived.Deep.RegionLawGrows
import Derived.Test.YtelnakmlfpjeoaaDoorVal
namespace Go.Proofs.YtelnakmlfpjeoaaDoor
open Go.RowKit
set_option maxRecDepth 100000

mutual
/-- How many nodes are left of so many; below 0: more. -/
def ndN : Nd → Int → Int → Int
  | .mk _ _ s v l, left, deep => if left - 1 - (s.size : Int) / 16 < 0 ∨ 60 < deep then -1 else if fewT v (left - 1 - (s.size : Int) / 16) 0 < 0 then -1 else if ndAll l (fewT v (left - 1 - (s.size : Int) / 16) 0) (deep + 1) < 0 then -1 else ndAll l (fewT v (left - 1 - (s.size : Int) / 16) 0) (deep + 1)
def ndAll : List Nd → Int → Int → Int
  | [], left, _ => left
  | t :: r, left, deep => if ndN t left deep < 0 then -1 else ndAll r (ndN t left deep) deep
end
theorem ndAll_drop (l : List Nd) (j : Nat) (h : j < l.length) (y d : Int) : ndAll (l.drop j) y d = if ndN l[j] y d < 0 then -1 else ndAll (l.drop (j + 1)) (ndN l[j] y d) d := by
  rw [List.drop_eq_getElem_cons h, ndAll]
/-- What is left, with what was counted, is no more than there was. -/
theorem ndAll_cnt_of (l : List Nd) (H : ∀ t ∈ l, ∀ (y d : Int), 0 ≤ y → 0 ≤ ndN t y d → ndN t y d + (cnt t : Int) ≤ y) : ∀ (y d : Int), 0 ≤ y → 0 ≤ ndAll l y d → ndAll l y d + (cntAll l : Int) ≤ y := by
  induction l with
  | nil => intro y d _ _; rw [ndAll, cntAll]; omega
  | cons x r ihr =>
    intro y d hy h
    rw [ndAll] at h ⊢
    by_cases hx : ndN x y d < 0
    · rw [if_pos hx] at h; omega
    · rw [if_neg hx] at h ⊢
      have h1 := H x (by simp) y d hy (by omega)
      have h2 := ihr (fun t ht => H t (by simp [ht])) (ndN x y d) d (by omega) h
      rw [cntAll]; omega
theorem ndN_cnt : ∀ (t : Nd) (y d : Int), 0 ≤ y → 0 ≤ ndN t y d → ndN t y d + (cnt t : Int) ≤ y := by
  refine Nd.ind_ (fun o n s v l ih y d hy h => ?_)
  rw [ndN] at h ⊢
  by_cases h1 : y - 1 - (s.size : Int) / 16 < 0 ∨ 60 < d
  · rw [if_pos h1] at h; omega
  rw [if_neg h1] at h ⊢
  have hf := few_le v (y - 1 - (s.size : Int) / 16) 0 (by omega)
  by_cases h2 : fewT v (y - 1 - (s.size : Int) / 16) 0 < 0
  · rw [if_pos h2] at h; omega
  rw [if_neg h2] at h ⊢
  by_cases h3 : ndAll l (fewT v (y - 1 - (s.size : Int) / 16) 0) (d + 1) < 0
  · rw [if_pos h3] at h; omega
  rw [if_neg h3] at h ⊢
  have h4 := ndAll_cnt_of l ih _ (d + 1) (by omega) h
  rw [cnt]; omega
theorem ndAll_cnt (l : List Nd) (y d : Int) (hy : 0 ≤ y) (h : 0 ≤ ndAll l y d) : ndAll l y d + (cntAll l : Int) ≤ y := ndAll_cnt_of l (fun t _ => ndN_cnt t) y d hy h
theorem ndAll_neg : ∀ (l : List Nd) (y d : Int), ndAll l y d < 0 → 0 ≤ y → ndAll l y d = -1
  | [], y, d, h, hy => by rw [ndAll] at h; omega
  | x :: r, y, d, h, hy => by
    rw [ndAll] at h ⊢
    by_cases hx : ndN x y d < 0
    · rw [if_pos hx]
    · rw [if_neg hx] at h ⊢; exact ndAll_neg r _ d h (by omega)

theorem ndN_b1 {o n : Int} {s : ByteArray} {v : T} {l : List Nd} {x d : Int} (h : x - 1 - (s.size : Int) / 16 < 0 ∨ 60 < d) : ndN (.mk o n s v l) x d = -1 := by rw [ndN, if_pos h]
theorem ndN_b2 {o n : Int} {s : ByteArray} {v : T} {l : List Nd} {x d : Int} (h1 : ¬ (x - 1 - (s.size : Int) / 16 < 0 ∨ 60 < d)) (h : fewT v (x - 1 - (s.size : Int) / 16) 0 < 0) : ndN (.mk o n s v l) x d = -1 := by rw [ndN, if_neg h1, if_pos h]
theorem ndN_b3 {o n : Int} {s : ByteArray} {v : T} {l : List Nd} {x d : Int} (h1 : ¬ (x - 1 - (s.size : Int) / 16 < 0 ∨ 60 < d)) (h2 : ¬ fewT v (x - 1 - (s.size : Int) / 16) 0 < 0) (h : ndAll l (fewT v (x - 1 - (s.size : Int) / 16) 0) (d + 1) < 0) : ndN (.mk o n s v l) x d = -1 := by rw [ndN, if_neg h1, if_neg h2, if_pos h]
theorem ndN_ok {o n : Int} {s : ByteArray} {v : T} {l : List Nd} {x d : Int} (h1 : ¬ (x - 1 - (s.size : Int) / 16 < 0 ∨ 60 < d)) (h2 : ¬ fewT v (x - 1 - (s.size : Int) / 16) 0 < 0) (h : ¬ ndAll l (fewT v (x - 1 - (s.size : Int) / 16) 0) (d + 1) < 0) : ndN (.mk o n s v l) x d = ndAll l (fewT v (x - 1 - (s.size : Int) / 16) 0) (d + 1) := by rw [ndN, if_neg h1, if_neg h2, if_neg h]

def NdsOk (L : List Nd) : Prop := ∀ (w : World) (lo hi : Nat) (p : Option Addr) (cap : Nat) (y d : Int), NAll w lo hi L p → L.length ≤ cap → L.length * 112 ≤ 140737488355328 → hi ≤ w.heap.size → 0 ≤ y → y ≤ 6000 → 0 ≤ d → d ≤ 61 →
  Calls Tryd.prog 37 #[.slice p L.length cap, .int .i64 y, .int .i64 d] w fun e w' => e = .returned (.int .i64 (ndAll L y d)) ∧ Below w.heap.size w w'

set_option maxHeartbeats 1000000 in
theorem nds_of (L : List Nd) (ih : ∀ t ∈ L, NdsOk t.l) : NdsOk L := by
  intro w lo hi p cap y d hall hlc hcap hhi hy0 hy1 hd0 hd1
  have HIH := Lib.hid ih
  have HALL := Lib.hid hall
  clear ih hall
  go_enter Tryd.func37, Tryd.ntmps37
  go_wp2
  go_loopw [1, 7] (fun o i wr => ∃ (j : Nat) (x : Int), j ≤ L.length ∧ i = .int .i64 j ∧ o = .int .i64 x ∧ 0 ≤ x ∧ x ≤ 6000 ∧ Hid (ndAll L y d = ndAll (L.drop j) x d) ∧ Hid (Below w.heap.size w wr)) (fun _ i _ => L.length - (intOf i).toNat)
  case atStart => exact ⟨0, _, Nat.zero_le _, rfl, rfl, hy0, hy1, rfl, Below.refl _ _⟩
  case round =>
    obtain ⟨j, x, hj, rfl, rfl, hx0, hx1, HO, HBR⟩ := hrel
    have hz := HBR.out.size
    by_cases hlt : j < L.length
    · obtain ⟨b, off, o, n, s, v, ll, k, m, z, q, ql, qc, r, c, hp, _, hbhi, hli, h0, h1, h2, h3, h4, h5, h6, h7, hrep⟩ := (HALL.out.below HBR.out hhi).item j hlt
      have hA0 := ndAll_drop L j hlt x d
      have hih := HIH.out _ (List.getElem_mem hlt)
      rw [hli] at hA0 hrep hih
      simp only [Nd.l] at hih
      have hAA := Lib.hid (HO.out.trans hA0)
      obtain ⟨_, _, e1, erep, e2, e3, e4⟩ := hrep.parts
      have hbw : b < wr.heap.size := by omega
      subst hp
      clear hA0 hli HO hrep
      by_cases hc : x - 1 - (s.size : Int) / 16 < 0
      · have HF := Lib.hid (show ndAll L y d = -1 from by rw [hAA.out, ndN_b1 (.inl hc)]; rfl)
        clear hih erep e4 hAA
        go_wp2
        all_goals
          go_ret
          exact ⟨ret_int HF.out.symm, HBR.out⟩
      by_cases hd : 60 < d
      · have HF := Lib.hid (show ndAll L y d = -1 from by rw [hAA.out, ndN_b1 (.inr hd)]; rfl)
        clear hih erep e4 hAA
        go_wp2
        all_goals
          go_ret
          exact ⟨ret_int HF.out.symm, HBR.out⟩
      obtain ⟨y1, hy1e⟩ : ∃ y1, y1 = x - 1 - (s.size : Int) / 16 := ⟨_, rfl⟩
      have hle := few_le v y1 0 (by omega)
      have HV := Lib.hid (few_any v wr lo hi _ y1 0 erep (by omega) (by omega) (by omega) (by omega) (by omega))
      by_cases hf : fewT v y1 0 < 0
      · have HF := Lib.hid (show ndAll L y d = -1 from by rw [hAA.out, ndN_b2 (by omega) (hy1e ▸ hf)]; rfl)
        clear hih erep e4 hAA
        rw [hy1e] at HV hf
        go_wp2_with (go_at_call 59; refine HV.out.mono ?_; rintro e w2 ⟨rfl, hb2⟩; have HB2 := Lib.hid (HBR.out.trans (hb2.mono hz)); clear hb2)
        go_ret
        exact ⟨ret_int HF.out.symm, HB2.out⟩
      obtain ⟨y2, hy2e⟩ : ∃ y2, y2 = fewT v y1 0 := ⟨_, rfl⟩
      have HN := Lib.hid (fun (w2 : World) (hb2 : Below wr.heap.size wr w2) => hih w2 lo hi r c y2 (d + 1) (e4.below hb2 (by omega)) e2 e3 (by have := hb2.size; omega) (by omega) (by omega) (by omega) (by omega))
      by_cases hn : ndAll ll y2 (d + 1) < 0
      · have HF := Lib.hid (show ndAll L y d = -1 from by rw [hAA.out, ndN_b3 (by omega) (hy1e ▸ hf) (by rw [← hy1e, ← hy2e]; exact hn)]; rfl)
        clear hih erep e4 hAA
        rw [hy1e] at HV
        rw [hy1e] at hy2e
        rw [hy2e] at HN hn
        rw [hy1e] at hf
        go_wp2_with (first
          | (go_at_call 59; refine HV.out.mono ?_; rintro e w2 ⟨rfl, hb2⟩; have HB2 := Lib.hid (HBR.out.trans (hb2.mono hz)); have HN2 := Lib.hid (HN.out _ hb2); have h7w := (hb2.cell (p := ⟨b, off + j * 8 + 7, none⟩) hbw).trans h7; clear hb2)
          | (go_at_call 37; refine HN2.out.mono ?_; rintro e w3 ⟨rfl, hb3⟩; have HB3 := Lib.hid (HB2.out.trans (hb3.mono HB2.out.size)); clear hb3))
        go_ret
        exact ⟨ret_int HF.out.symm, HB3.out⟩
      · have hcn := ndAll_cnt ll y2 (d + 1) (by omega) (by omega)
        obtain ⟨y3, hy3e⟩ : ∃ y3, y3 = ndAll ll y2 (d + 1) := ⟨_, rfl⟩
        have HF := Lib.hid (show ndAll L y d = ndAll (L.drop (j + 1)) y3 d from by rw [hAA.out, ndN_ok (by omega) (hy1e ▸ hf) (by rw [← hy1e, ← hy2e]; exact hn), ← hy1e, ← hy2e, ← hy3e, if_neg (by rw [hy3e]; exact hn)])
        rw [← hy3e] at hn hcn
        have HN' := Lib.hid (fun w2 hb2 => by have := HN.out w2 hb2; rw [← hy3e] at this; exact this)
        have HV' := Lib.hid (by have := HV.out; rw [← hy2e] at this; rw [hy1e] at this; exact this)
        have hy2f : ¬ y2 < 0 := by omega
        have hy3b : y3 ≤ 6000 := by omega
        clear hih erep e4 hAA HN HV hy1e hy2e hy3e hf hcn
        go_wp2_with (first
          | (go_at_call 59; refine HV'.out.mono ?_; rintro e w2 ⟨rfl, hb2⟩; have HB2 := Lib.hid (HBR.out.trans (hb2.mono hz)); have HN2 := Lib.hid (HN'.out _ hb2); have h7w := (hb2.cell (p := ⟨b, off + j * 8 + 7, none⟩) hbw).trans h7; clear hb2)
          | (go_at_call 37; refine HN2.out.mono ?_; rintro e w3 ⟨rfl, hb3⟩; have HB3 := Lib.hid (HB2.out.trans (hb3.mono HB2.out.size)); clear hb3))
        go_roundw
        case rel => exact ⟨j + 1, y3, by omega, by go_num, rfl, by omega, hy3b, HF, HB3⟩
        case measure => simp [intOf]; omega
    · have hjl : j = L.length := by omega
      have HF := Lib.hid (show ndAll L y d = x from by rw [HO.out, hjl, List.drop_length, ndAll])
      go_wp2
      go_ret
      exact ⟨ret_int HF.out.symm, HBR.out⟩
theorem nds_any (L : List Nd) : NdsOk L := by
  have key : ∀ t : Nd, NdsOk t.l := Nd.ind_ (fun o n s v l ih => nds_of l ih)
  exact nds_of L (fun t _ => key t)

set_option maxHeartbeats 400000 in
theorem wNodes_any (L : List Nd) (most : Int) (hm0 : 0 ≤ most) (hm1 : most ≤ 6000) (w : World) (lo hi : Nat) (p : Option Addr) (cap : Nat) (hall : NAll w lo hi L p) (hlc : L.length ≤ cap) (hcap : L.length * 112 ≤ 140737488355328) (hhi : hi ≤ w.heap.size) :
    Calls Tryd.prog 9 #[.slice p L.length cap, .int .i64 most] w fun e w' => e = .returned (.bool (decide (0 ≤ ndAll L most 0))) ∧ Below w.heap.size w w' := by
  have HC := Lib.hid (nds_any L w lo hi p cap most 0 hall hlc hcap hhi hm0 hm1 (by omega) (by omega))
  clear hall
  go_enter Tryd.func9, Tryd.ntmps9
  go_wp2_with (go_at_call 37; refine HC.out.mono ?_; rintro e w2 ⟨rfl, hb2⟩)
  go_ret
  exact ⟨rfl, hb2⟩
end Go.Proofs.YtelnakmlfpjeoaaDoor
namespace Go.Proofs.YtelnakmlfpjeoaaDoor
open Go.RowKit
set_option maxRecDepth 100000

/-- A fault of the whole, as the document's words lay it. -/
def fltR : Flt → Value
  | .ok => fv 0
  | .bare k => fv (101 + k)
  | .at_ n k => fp (101 + k) n
structure VB (w W : World) (g : Nat) : Prop where
  bel : Below w.heap.size w W
  flt : W.heap[g]? = some (.cells #[.int .i64 0, .bool false, .int .i64 0, .int .i64 0, .int .i64 0, .string ⟨#[]⟩, .slice none 0 0] 36 (0, 0))
theorem VB.step {w W W' : World} {g : Nat} (h : VB w W g) (hb : Below W.heap.size W W') : VB w W' g := ⟨h.bel.trans (hb.mono h.bel.size), heap_old h.flt hb⟩
theorem fR_open (F : Option (Int × Nat)) : ∃ f0 f1 f2, fR F = .agg #[.int .i64 f0, .bool f1, .int .i64 f2, .int .i64 0, .int .i64 0, .string ByteArray.empty, .slice none 0 0] ∧ ((F = none ∧ f0 = 0) ∨ (f0 ≠ 0 ∧ ∃ fl fk, F = some (fl, fk))) := by
  cases F with
  | none => exact ⟨_, _, _, rfl, .inl ⟨rfl, rfl⟩⟩
  | some f => exact ⟨_, _, _, rfl, .inr ⟨by omega, f.1, f.2, rfl⟩⟩

set_option maxHeartbeats 1000000 in
theorem rvalid7_any (L : List Nd) (w : World) (lo hi : Nat) (p : Option Addr) (cap : Nat) (hall : NAll w lo hi L p) (hlc : L.length ≤ cap) (hcap : L.length * 112 ≤ 140737488355328) (hhi : hi ≤ w.heap.size) (hcn : cntAll L ≤ 1000000) :
    Calls Tryd.prog 13 #[.slice p L.length cap] w fun e w' => e = .returned (fltR (vldF L 0)) ∧ Below w.heap.size w w' := by
  have HALL := Lib.hid hall
  have hll := len_cnt L
  have HV := Lib.hid (show VB w (w.alloc (.cells #[.int .i64 0, .bool false, .int .i64 0, .int .i64 0, .int .i64 0, .string ⟨#[]⟩, .slice none 0 0] 36)) w.heap.size from ⟨(Below.refl _ _).alloc (Nat.le_refl _) _, heap_alloc_new w _⟩)
  have HTM := Lib.hid (fun (W : World) (hb : Below w.heap.size w W) => rtooMany_any L W lo hi p cap (hall.below hb hhi) hlc hcap (by have := hb.size; omega))
  have HDP := Lib.hid (fun (W : World) (hb : Below w.heap.size w W) => rdeep_any L W lo hi p cap (hall.below hb hhi) (by have := hb.size; omega) (by omega))
  obtain ⟨W1, hW1⟩ : ∃ W1, w.alloc (.cells #[.int .i64 0, .bool false, .int .i64 0, .int .i64 0, .int .i64 0, .string ⟨#[]⟩, .slice none 0 0] 36) = W1 := ⟨_, rfl⟩
  rw [hW1] at HV
  have hdl := dpNAll_le L
  clear hall
  by_cases h1 : 4096 < cntAll L
  · have HF := Lib.hid (show fltR (vldF L 0) = fv 104 from by unfold vldF; rw [if_pos h1]; rfl)
    have HM1 := Lib.hid (by have := HTM.out W1 HV.out.bel; rw [decide_eq_true h1] at this; exact this)
    clear h1 HTM HDP
    go_enter Tryd.func13, Tryd.ntmps13
    go_wp2_with (first
      | (go_at_call 42; refine HM1.out.mono ?_; rintro e w2 ⟨rfl, rfl⟩)
      | (go_at_call 43; refine (bare_any _ _).mono ?_; unfold fv; rintro e w3 ⟨rfl, hb3⟩; have HV3 := Lib.hid (HV.out.step hb3); obtain ⟨r0, r1, r2, r3, r4, r5, r6, hxf⟩ := box7_in _ _ _ _ _ _ _ _ _ _ HV3.out.flt; have hxf0 := hxf 0; have hxf1 := hxf 1; have hxf2 := hxf 2; have hxf3 := hxf 3; have hxf4 := hxf 4; have hxf5 := hxf 5; have hxf6 := hxf 6; clear hxf hb3))
    refine bodyPost_ret (v := fv 104) (by unfold fv; simp [results, Tryd.results13, go_sem, r0, r1, r2, r3, r4, r5, r6]) rfl ?_
    exact ⟨by rw [HF.out], below_set7 HV3.out.bel (Nat.le_refl _) _ _ _ _ _ _ _⟩
  have HM1 := Lib.hid (by have := HTM.out W1 HV.out.bel; rw [decide_eq_false h1] at this; exact this)
  have HD1 := Lib.hid (HDP.out W1 HV.out.bel)
  by_cases h2 : 40 < dpNAll L
  · have HF := Lib.hid (show fltR (vldF L 0) = fv 112 from by unfold vldF; rw [if_neg h1, if_pos h2]; rfl)
    have h2i : (40 : Int) < (dpNAll L : Int) := by omega
    clear h1 HTM HDP h2 hdl
    go_enter Tryd.func13, Tryd.ntmps13
    go_wp2_with (first
      | (go_at_call 42; refine HM1.out.mono ?_; rintro e w2 ⟨rfl, rfl⟩)
      | (go_at_call 21; refine HD1.out.mono ?_; rintro e w2 ⟨rfl, rfl⟩)
      | (go_at_call 43; refine (bare_any _ _).mono ?_; unfold fv; rintro e w3 ⟨rfl, hb3⟩; have HV3 := Lib.hid (HV.out.step hb3); obtain ⟨r0, r1, r2, r3, r4, r5, r6, hxf⟩ := box7_in _ _ _ _ _ _ _ _ _ _ HV3.out.flt; have hxf0 := hxf 0; have hxf1 := hxf 1; have hxf2 := hxf 2; have hxf3 := hxf 3; have hxf4 := hxf 4; have hxf5 := hxf 5; have hxf6 := hxf 6; clear hxf hb3))
    refine bodyPost_ret (v := fv 112) (by unfold fv; simp [results, Tryd.results13, go_sem, r0, r1, r2, r3, r4, r5, r6]) rfl ?_
    exact ⟨by rw [HF.out], below_set7 HV3.out.bel (Nat.le_refl _) _ _ _ _ _ _ _⟩
  have HF := Lib.hid (show vldF L 0 = firstF L 0 from by unfold vldF; rw [if_neg h1, if_neg h2])
  have h2i : ¬ (40 : Int) < (dpNAll L : Int) := by omega
  clear h1 HTM HDP h2 hdl
  go_enter Tryd.func13, Tryd.ntmps13
  go_wp2_with (first
    | (go_at_call 42; refine HM1.out.mono ?_; rintro e w2 ⟨rfl, rfl⟩)
    | (go_at_call 21; refine HD1.out.mono ?_; rintro e w2 ⟨rfl, rfl⟩))
  clear h2i HM1 HD1
  go_loopw [3] (fun i wr => ∃ j : Nat, j ≤ L.length ∧ i = .int .i64 j ∧ Hid (VB w wr w.heap.size) ∧ Hid (firstF (L.drop j) 0 = firstF L 0)) (fun i _ => L.length - (intOf i).toNat)
  case atStart => exact ⟨0, Nat.zero_le _, rfl, HV, Lib.hid rfl⟩
  case round =>
    obtain ⟨j, hj, rfl, HL, HD⟩ := hrel
    by_cases hlj : j < L.length
    · obtain ⟨b, off, o, n, s, v, ll, k, m, z, q, ql, qc, r, c, hp, _, hbhi, hli, h0, h1, h2, h3, h4, h5, h6, h7, hrep⟩ := (HALL.out.below HL.out.bel hhi).item j hlj
      have hmem : L[j] ∈ L := List.getElem_mem hlj
      have hcm := cntAll_mem hmem
      have hwr := HL.out.bel.size
      have HC := Lib.hid (rodd_any L[j] _ 0 false wr lo hi hrep (by omega) (by omega) (by omega))
      rw [show rp 0 = 9 from rfl] at HC
      have HDR := Lib.hid (firstF_drop L j hlj 0)
      have hbw : b < wr.heap.size := by omega
      subst hp
      clear hrep hmem hcm hli
      obtain ⟨F, hF⟩ : ∃ F, F = ckN L[j] 0 false := ⟨_, rfl⟩
      rw [← hF] at HC
      obtain ⟨f0, f1, f2, hf, hF0⟩ := fR_open F
      rw [hf] at HC
      have HFF := Lib.hid hf
      clear hf
      rcases hF0 with ⟨hFn, hf0⟩ | ⟨hf0, fl, fk, hFs⟩
      · subst hf0
        rw [← hF, hFn] at HDR
        clear hF HFF
        go_wp2_with (go_at_call 44; refine HC.out.mono ?_; rintro e w7 ⟨rfl, hb7⟩; have HL7 := Lib.hid (HL.out.step hb7); clear hb7)
        go_roundw
        case rel => exact ⟨j + 1, by omega, by go_num, Lib.hid (HL7.out.step ((Below.refl w7.heap.size w7).alloc (Nat.le_refl _) _)), Lib.hid (HDR.out.symm.trans HD.out)⟩
        case measure => simp [intOf]; omega
      · have hb0 : (f0 != 0) = true := by simpa using hf0
        rw [← hF, hFs] at HDR
        have HR := Lib.hid (show fltR (vldF L 0) = .agg #[.int .i64 f0, .bool f1, .int .i64 f2, .int .i64 0, .int .i64 0, .string ByteArray.empty, .slice none 0 0] from by
          rw [HF.out, ← HD.out, HDR.out]
          have := HFF.out
          rw [hFs] at this; exact this)
        clear hf0 hF HFF
        go_upto_region 10 with (go_at_call 44; refine HC.out.mono ?_; rintro e w7 ⟨rfl, hb7⟩; have HL7 := Lib.hid (HL.out.step hb7); clear hb7)
        have H7 := heap_alloc_new w7 (.cells #[.int .i64 f0, .bool f1, .int .i64 f2, .int .i64 0, .int .i64 0, .string ByteArray.empty, .slice none 0 0] 36)
        have HL8 := Lib.hid (HL7.out.step ((Below.refl w7.heap.size w7).alloc (Nat.le_refl _) (.cells #[.int .i64 f0, .bool f1, .int .i64 f2, .int .i64 0, .int .i64 0, .string ByteArray.empty, .slice none 0 0] 36)))
        have hne : w7.heap.size ≠ w.heap.size := by have := heap_lt HL7.out.flt; omega
        generalize w7.alloc (.cells #[.int .i64 f0, .bool f1, .int .i64 f2, .int .i64 0, .int .i64 0, .string ByteArray.empty, .slice none 0 0] 36) = W4 at *
        obtain ⟨g0, g1, g2, g3, g4, g5, g6, _⟩ := box7_in W4 w7.heap.size _ _ _ _ _ _ _ _ H7
        obtain ⟨r0, r1, r2, r3, r4, r5, r6, hxf⟩ := box7_in _ _ _ _ _ _ _ _ _ _ HL8.out.flt
        have hxf0 := hxf 0; have hxf1 := hxf 1; have hxf2 := hxf 2; have hxf3 := hxf 3; have hxf4 := hxf 4; have hxf5 := hxf 5; have hxf6 := hxf 6
        clear hxf H7 HL7 h0 h1 h2 h3 h4 h5 h6 h7 HC
        generalize w7.heap.size = g7 at *
        clear w7
        go_wp2_with fail
        refine bodyPost_ret (v := .agg #[.int .i64 f0, .bool f1, .int .i64 f2, .int .i64 0, .int .i64 0, .string ByteArray.empty, .slice none 0 0]) (by simp [results, Tryd.results13, go_sem, r0, r1, r2, r3, r4, r5, r6]) rfl ?_
        exact ⟨by rw [HR.out], below_set7 HL8.out.bel (Nat.le_refl _) _ _ _ _ _ _ _⟩
    · have hje : j = L.length := by omega
      have HR := Lib.hid (show fltR (vldF L 0) = fv 0 from by rw [HF.out, ← HD.out, hje, List.drop_length, firstF]; rfl)
      go_wp2_with (go_at_call 45; refine (none_any _).mono ?_; unfold fv; rintro e w6 ⟨rfl, hb6⟩; have HL2 := Lib.hid (HL.out.step hb6); obtain ⟨r0, r1, r2, r3, r4, r5, r6, hxf⟩ := box7_in _ _ _ _ _ _ _ _ _ _ HL2.out.flt; have hxf0 := hxf 0; have hxf1 := hxf 1; have hxf2 := hxf 2; have hxf3 := hxf 3; have hxf4 := hxf 4; have hxf5 := hxf 5; have hxf6 := hxf 6; clear hxf hb6)
      refine bodyPost_ret (v := fv 0) (by unfold fv; simp [results, Tryd.results13, go_sem, r0, r1, r2, r3, r4, r5, r6]) rfl ?_
      exact ⟨by rw [HR.out], below_set7 HL2.out.bel (Nat.le_refl _) _ _ _ _ _ _ _⟩

set_option maxHeartbeats 4000000 in
theorem rvexpr_any (t : Nd) (x : Value) (w : World) (lo hi : Nat) (hr : NRep w lo hi t x) (hlo : lo ≤ w.heap.size) (hhi : hi ≤ w.heap.size) (hcn : cntAll [t] ≤ 1000000) :
    Calls Tryd.prog 15 #[x] w fun e w' => e = .returned (fltR (vldF [t] 3)) ∧ Below w.heap.size w w' := by
  obtain ⟨o, n, s, v, l⟩ := t
  obtain ⟨k, m, z, q, ql, qc, p, cap, rfl, _⟩ := hr.open
  obtain ⟨W1, hW1⟩ : ∃ W1, (w.alloc (.cells #[.int .i64 o, .int .i64 n, .string s, .int .i64 k, .int .i64 m, .string z, .slice q ql qc, .slice p l.length cap] 27)).alloc (.cells #[.int .i64 0, .bool false, .int .i64 0, .int .i64 0, .int .i64 0, .string ⟨#[]⟩, .slice none 0 0] 36) = W1 := ⟨_, rfl⟩
  have HO1 : Hid (OB w W1 (.cells #[.int .i64 o, .int .i64 n, .string s, .int .i64 k, .int .i64 m, .string z, .slice q ql qc, .slice p l.length cap] 27)) := hW1 ▸ OB.start w _
  obtain ⟨x0, x1, x2, x3, x4, x5, x6, x7, _⟩ := box8_in _ _ _ _ _ _ _ _ _ _ _ HO1.out.nod
  have HX2 := Lib.hid (heap_alloc_new W1 (.cells #[.int .i64 o, .int .i64 n, .string s, .int .i64 k, .int .i64 m, .string z, .slice q ql qc, .slice p l.length cap] 27))
  have HO2 := Lib.hid (HO1.out.step ((Below.refl W1.heap.size W1).alloc (Nat.le_refl _) (.cells #[.int .i64 o, .int .i64 n, .string s, .int .i64 k, .int .i64 m, .string z, .slice q ql qc, .slice p l.length cap] 27)))
  have hW1s := HO1.out.bel.size
  have HRow := Lib.hid (one_row (hr.below HO2.out.bel hhi) W1.heap.size 27 (by omega) (by omega) HX2.out)
  have HRE := Lib.hid (fun W (hb : Below w.heap.size w W) => hr.below hb hhi)
  obtain ⟨W2, hW2⟩ : ∃ W2, W1.alloc (.cells #[.int .i64 o, .int .i64 n, .string s, .int .i64 k, .int .i64 m, .string z, .slice q ql qc, .slice p l.length cap] 27) = W2 := ⟨_, rfl⟩
  rw [hW2] at HX2 HO2 HRow
  have hlt := heap_lt HX2.out
  have HTM := Lib.hid (rtooMany_any [.mk o n s v l] W2 lo (W1.heap.size + 1) _ 1 HRow.out (by simp) (by simp) (by omega))
  have HDP := Lib.hid (rdeep_any [.mk o n s v l] W2 lo (W1.heap.size + 1) _ 1 HRow.out (by omega) (by omega))
  obtain ⟨y0, y1, y2, y3, y4, y5, y6, y7, _⟩ := box8_in _ _ _ _ _ _ _ _ _ _ _ HO2.out.nod
  have hc1 : cnt (.mk o n s v l) ≤ 1000000 := by rw [cntAll] at hcn; omega
  have HC := Lib.hid (rodd_any (.mk o n s v l) _ 3 false W2 lo hi (HRE.out _ HO2.out.bel) (by have := HO2.out.bel.size; omega) (by omega) (by omega))
  rw [show rp 3 = 1 from rfl] at HC
  obtain ⟨D, hD⟩ : ∃ D, D = dpNAll [.mk o n s v l] := ⟨_, rfl⟩
  rw [← hD] at HDP
  have hdl : D ≤ 1000000 := by have := dpNAll_le [.mk o n s v l]; omega
  clear hr hcn HRow HX2 HRE
  by_cases h1 : 4096 < cntAll [.mk o n s v l]
  · have HF := Lib.hid (show fltR (vldF [.mk o n s v l] 3) = fv 104 from by unfold vldF; rw [if_pos h1]; rfl)
    rw [decide_eq_true h1] at HTM
    clear h1 hD
    go_enter Tryd.func15, Tryd.ntmps15
    go_wp2_with (first
      | (go_at_call 42; refine HTM.out.mono ?_; rintro e w2 ⟨rfl, rfl⟩)
      | (go_at_call 43; refine (bare_any _ _).mono ?_; unfold fv; rintro e w3 ⟨rfl, hb3⟩; have HO3 := Lib.hid (HO2.out.step hb3); obtain ⟨r0, r1, r2, r3, r4, r5, r6, hxf⟩ := box7_in _ _ _ _ _ _ _ _ _ _ HO3.out.flt; have hxf0 := hxf 0; have hxf1 := hxf 1; have hxf2 := hxf 2; have hxf3 := hxf 3; have hxf4 := hxf 4; have hxf5 := hxf 5; have hxf6 := hxf 6; clear hxf hb3))
    refine bodyPost_ret (v := fv 104) (by unfold fv; simp [results, Tryd.results15, go_sem, r0, r1, r2, r3, r4, r5, r6]) rfl ?_
    exact ⟨by rw [HF.out], below_set7 HO3.out.bel (Nat.le_succ _) _ _ _ _ _ _ _⟩
  rw [decide_eq_false h1] at HTM
  by_cases h2 : 40 < D
  · have HF := Lib.hid (show fltR (vldF [.mk o n s v l] 3) = fv 112 from by unfold vldF; rw [if_neg h1, if_pos (hD ▸ h2)]; rfl)
    have h2i : (40 : Int) < (D : Int) := by omega
    clear h1 hD h2
    go_enter Tryd.func15, Tryd.ntmps15
    go_wp2_with (first
      | (go_at_call 42; refine HTM.out.mono ?_; rintro e w2 ⟨rfl, rfl⟩)
      | (go_at_call 21; refine HDP.out.mono ?_; rintro e w2 ⟨rfl, rfl⟩)
      | (go_at_call 43; refine (bare_any _ _).mono ?_; unfold fv; rintro e w3 ⟨rfl, hb3⟩; have HO3 := Lib.hid (HO2.out.step hb3); obtain ⟨r0, r1, r2, r3, r4, r5, r6, hxf⟩ := box7_in _ _ _ _ _ _ _ _ _ _ HO3.out.flt; have hxf0 := hxf 0; have hxf1 := hxf 1; have hxf2 := hxf 2; have hxf3 := hxf 3; have hxf4 := hxf 4; have hxf5 := hxf 5; have hxf6 := hxf 6; clear hxf hb3))
    refine bodyPost_ret (v := fv 112) (by unfold fv; simp [results, Tryd.results15, go_sem, r0, r1, r2, r3, r4, r5, r6]) rfl ?_
    exact ⟨by rw [HF.out], below_set7 HO3.out.bel (Nat.le_succ _) _ _ _ _ _ _ _⟩
  have h2i : ¬ (40 : Int) < (D : Int) := by omega
  obtain ⟨f0, f1, f2, hf, _⟩ := fR_open (ckN (.mk o n s v l) 3 false)
  have HR := Lib.hid (show fltR (vldF [.mk o n s v l] 3) = .agg #[.int .i64 f0, .bool f1, .int .i64 f2, .int .i64 0, .int .i64 0, .string ByteArray.empty, .slice none 0 0] from by
    unfold vldF
    rw [if_neg h1, if_neg (hD ▸ h2), firstF, ← hf]
    cases ckN (.mk o n s v l) 3 false <;> rfl)
  rw [hf] at HC
  clear h1 hD h2 hf
  go_enter Tryd.func15, Tryd.ntmps15
  go_wp2_with (first
    | (go_at_call 42; refine HTM.out.mono ?_; rintro e w2 ⟨rfl, rfl⟩)
    | (go_at_call 21; refine HDP.out.mono ?_; rintro e w2 ⟨rfl, rfl⟩)
    | (go_at_call 44; refine HC.out.mono ?_; rintro e w3 ⟨rfl, hb3⟩; have HO3 := Lib.hid (HO2.out.step hb3); obtain ⟨r0, r1, r2, r3, r4, r5, r6, hxf⟩ := box7_in _ _ _ _ _ _ _ _ _ _ HO3.out.flt; have hxf0 := hxf 0; have hxf1 := hxf 1; have hxf2 := hxf 2; have hxf3 := hxf 3; have hxf4 := hxf 4; have hxf5 := hxf 5; have hxf6 := hxf 6; clear hxf hb3))
  refine bodyPost_ret (v := .agg #[.int .i64 f0, .bool f1, .int .i64 f2, .int .i64 0, .int .i64 0, .string ByteArray.empty, .slice none 0 0]) (by simp [results, Tryd.results15, go_sem, r0, r1, r2, r3, r4, r5, r6]) rfl ?_
  exact ⟨by rw [HR.out], below_set7 HO3.out.bel (Nat.le_succ _) _ _ _ _ _ _ _⟩
end Go.Proofs.YtelnakmlfpjeoaaDoor
namespace Go.Proofs.YtelnakmlfpjeoaaDoor
open Go.RowKit
set_option maxRecDepth 100000

def okF : Flt → Bool
  | .ok => true
  | _ => false
theorem okF_iff {F : Flt} (h : okF F = true) : F = .ok := by
  cases F with
  | ok => rfl
  | bare k => cases h
  | at_ n k => cases h
theorem fltR_open (F : Flt) : ∃ f0 f1 f2, fltR F = .agg #[.int .i64 f0, .bool f1, .int .i64 f2, .int .i64 0, .int .i64 0, .string ByteArray.empty, .slice none 0 0] ∧ (f0 == 0) = okF F := by
  cases F with
  | ok => exact ⟨_, _, _, rfl, rfl⟩
  | bare k => exact ⟨_, _, _, rfl, by show ((101 + (k : Int)) == 0) = false; simp; omega⟩
  | at_ n k => exact ⟨_, _, _, rfl, by show ((101 + (k : Int)) == 0) = false; simp; omega⟩

theorem field_code (f0 : Int) (f1 : Bool) (f2 : Int) (W : World) : (Instr.field 36 (.agg #[.int .i64 f0, .bool f1, .int .i64 f2, .int .i64 0, .int .i64 0, .string ByteArray.empty, .slice none 0 0]) 0).run Tryd.prog W = .ok (.int .i64 f0) W := by kernel_rfl
set_option maxHeartbeats 1000000 in
theorem wProgram_any (L : List Nd) (most : Int) (hm0 : 0 ≤ most) (hm1 : most ≤ 6000) (w : World) (lo hi : Nat) (p : Option Addr) (cap : Nat) (hall : NAll w lo hi L p) (hlc : L.length ≤ cap) (hcap : L.length * 112 ≤ 140737488355328) (hhi : hi ≤ w.heap.size) :
    Calls Tryd.prog 17 #[.slice p L.length cap, .int .i64 most] w fun e w' => e = .returned (.bool (decide (0 ≤ ndAll L most 0) && okF (vldF L 0))) ∧ Below w.heap.size w w' := by
  have HN := Lib.hid (wNodes_any L most hm0 hm1 w lo hi p cap hall hlc hcap hhi)
  by_cases h1 : 0 ≤ ndAll L most 0
  · have hc1 := ndAll_cnt L most 0 hm0 h1
    rw [decide_eq_true h1] at HN
    have HV := Lib.hid (fun W (hb : Below w.heap.size w W) => rvalid7_any L W lo hi p cap (hall.below hb hhi) hlc hcap (by have := hb.size; omega) (by omega))
    obtain ⟨f0, f1, f2, hf, hf0⟩ := fltR_open (vldF L 0)
    rw [hf] at HV
    have HF := Lib.hid (show (decide (0 ≤ ndAll L most 0) && okF (vldF L 0)) = (f0 == 0) from by rw [decide_eq_true h1, hf0]; rfl)
    have hfd := fun W => field_code f0 f1 f2 W
    clear hall h1 hc1 hf hf0
    go_enter Tryd.func17, Tryd.ntmps17
    go_wp2_with (first
      | (go_at_call 9; refine HN.out.mono ?_; rintro e w2 ⟨rfl, hb2⟩; have HB2 := Lib.hid hb2; clear hb2)
      | (go_at_call 13; refine (HV.out _ HB2.out).mono ?_; rintro e w3 ⟨rfl, hb3⟩; have HB3 := Lib.hid (HB2.out.trans (hb3.mono HB2.out.size)); clear hb3))
    go_ret
    exact ⟨ret_bool HF.out.symm, HB3.out⟩
  · have hd := decide_eq_false h1
    rw [hd] at HN
    rw [hd]
    clear hall h1 hd
    go_enter Tryd.func17, Tryd.ntmps17
    go_wp2_with (go_at_call 9; refine HN.out.mono ?_; rintro e w2 ⟨rfl, hb2⟩)
    go_ret
    exact ⟨ret_bool rfl, hb2⟩
end Go.Proofs.YtelnakmlfpjeoaaDoor
namespace Go.Proofs.YtelnakmlfpjeoaaDoor
open Go.RowKit
set_option maxRecDepth 100000

def NewN (w : World) (t : Nd) (e : Ending) (w' : World) : Prop := ∃ x, e = .returned x ∧ NRep w' w.heap.size w'.heap.size t x ∧ Below w.heap.size w w'
def NewNs (w : World) (l : List Nd) (e : Ending) (w' : World) : Prop := ∃ q c, e = .returned (.slice q l.length c) ∧ l.length ≤ c ∧ NAll w' w.heap.size w'.heap.size l q ∧ Below w.heap.size w w'
theorem Tryd.info_N : (Tryd.prog.info? 27).map (fun i => (i.zero, i.size, i.bytes)) = some (some (.agg #[.int .i64 0, .int .i64 0, .string ⟨#[]⟩, .int .i64 0, .int .i64 0, .string ⟨#[]⟩, .slice none 0 0, .slice none 0 0]), 8, 112) := by kernel_rfl
theorem nrep_form {w : World} {lo hi : Nat} {t : Nd} {x : Value} (h : NRep w lo hi t x) : ∃ (o n : Int) (s : ByteArray) (k m : Int) (z : ByteArray) (q : Option Addr) (ql qc : Nat) (r : Option Addr) (lc c : Nat), x = .agg #[.int .i64 o, .int .i64 n, .string s, .int .i64 k, .int .i64 m, .string z, .slice q ql qc, .slice r lc c] := by
  obtain ⟨o, n, s, v, l⟩ := t
  obtain ⟨k, m, z, q, ql, qc, p, cap, rfl, _⟩ := h.open
  exact ⟨_, _, _, _, _, _, _, _, _, _, _, _, rfl⟩
theorem held8 {a b c d e f g h r : Prop} (H : a ∧ b ∧ c ∧ d ∧ e ∧ f ∧ g ∧ h ∧ r) : a ∧ b ∧ c ∧ d ∧ e ∧ f ∧ g ∧ h := by
  obtain ⟨h1, h2, h3, h4, h5, h6, h7, h8, _⟩ := H; exact ⟨h1, h2, h3, h4, h5, h6, h7, h8⟩
def CopyNs (l : List Nd) : Prop := ∀ (w : World) (lo hi : Nat) (p : Option Addr) (cap : Nat), NAll w lo hi l p → l.length ≤ cap → l.length * 112 ≤ 140737488355328 → hi ≤ w.heap.size →
  Calls Tryd.prog 10 #[.slice p l.length cap] w (NewNs w l)
def CopyN (t : Nd) : Prop := ∀ (w : World) (lo hi : Nat) (x : Value), NRep w lo hi t x → hi ≤ w.heap.size → Calls Tryd.prog 38 #[x] w (NewN w t)

set_option maxHeartbeats 2000000 in
theorem copyNs_of (l : List Nd) (ih : ∀ t ∈ l, CopyN t) : CopyNs l := by
  intro w lo hi p cap hall _hlc hcap hhi
  cases hl : l with
  | nil =>
    simp only [List.length_nil]
    go_enter Tryd.func10, Tryd.ntmps10
    go_wp2
    go_ret
    exact ⟨none, 0, rfl, Nat.le_refl _, NAll.nil _ _ _ _, Below.refl _ _⟩
  | cons x xs =>
    have hpos : 0 < l.length := by rw [hl]; simp
    rw [← hl]
    clear hl
    have H := Lib.hid ih; clear ih
    have HALL := Lib.hid hall; clear hall
    obtain ⟨i0, hi0, hz0, hz1, hz2⟩ := info_parts Tryd.info_N
    have hmk : ∀ W : World, (Instr.makeSlice 22 (.int .i64 0) (.int .i64 (l.length : Int))).run Tryd.prog W = .ok (.slice (some ⟨W.heap.size, 0, none⟩) 0 l.length) (W.alloc (.cells (madeCells #[.int .i64 0, .int .i64 0, .string ⟨#[]⟩, .int .i64 0, .int .i64 0, .string ⟨#[]⟩, .slice none 0 0, .slice none 0 0] (l.length * 8)) 27)) := by
      intro W
      have h := run_make (P := Tryd.prog) W 22 27 i0 _ Tryd.underlying22 hi0 hz0 .i64 .i64 0 l.length (by omega) (by omega) (by rw [hz2]; omega) (by omega)
      rw [hz1] at h
      simpa [Value.cells] using h
    have hl0 : ((l.length : Int) == 0) = false := beq_eq_false_iff_ne.2 (by omega)
    go_enter Tryd.func10, Tryd.ntmps10
    go_wp2
    have hP := Lib.hid (NPart.start w (madeCells #[.int .i64 0, .int .i64 0, .string ⟨#[]⟩, .int .i64 0, .int .i64 0, .string ⟨#[]⟩, .slice none 0 0, .slice none 0 0] (l.length * 8)) l (size_madeCells _ _))
    have hW : Below w.heap.size w (w.alloc (.cells (madeCells #[.int .i64 0, .int .i64 0, .string ⟨#[]⟩, .int .i64 0, .int .i64 0, .string ⟨#[]⟩, .slice none 0 0, .slice none 0 0] (l.length * 8)) 27)) := (Below.refl _ _).alloc (Nat.le_refl _) _
    have hzz : l.length * 112 ≤ 140737488355328 := hcap
    clear hi0 hz0 hz1 hz2
    go_loopw [3, 4] (fun o i wr => ∃ j : Nat, j ≤ l.length ∧ i = .int .i64 j ∧ o = .slice (some ⟨w.heap.size, 0, none⟩) j l.length ∧ Hid (NPart wr w.heap.size l j) ∧ Hid (Below w.heap.size w wr)) (fun _ i _ => l.length - (intOf i).toNat)
    case atStart => exact ⟨0, Nat.zero_le _, rfl, rfl, hP, hW⟩
    case round =>
      obtain ⟨j, hj, rfl, rfl, HP, HBR⟩ := hrel
      have hz := HBR.out.size
      have hzl := HP.out.lt
      by_cases hlt : j < l.length
      · obtain ⟨b, off, o, n, s, v, ll, k, m, z, q, ql, qc, r, c, rfl, _, hbhi, hli, h0, h1, h2, h3, h4, h5, h6, h7, hrep⟩ := (HALL.out.below HBR.out hhi).item j hlt
        have HC := Lib.hid (H.out _ (List.getElem_mem hlt) _ lo hi _ hrep (by omega))
        clear hrep hli
        go_wp2_with (go_at_call 38; refine HC.out.mono ?_; rintro e w2 ⟨x2, rfl, hv, hb2⟩; obtain ⟨o2, n2, s2, k2, m2, z2, q2, ql2, qc2, r2, lc2, c2, rfl⟩ := nrep_form hv; have HV := Lib.hid hv; clear hv; have hbz := hb2.size; have HP2 := Lib.hid (HP.out.below hb2); have HB2 := Lib.hid (HBR.out.trans (hb2.mono hz)); clear hb2; have hwl : w.heap.size < w2.heap.size := (by omega); obtain ⟨⟨u0, hu0⟩, ⟨u1, hu1⟩, ⟨u2, hu2⟩, ⟨u3, hu3⟩, ⟨u4, hu4⟩, ⟨u5, hu5⟩, ⟨u6, hu6⟩, ⟨u7, hu7⟩, hfz⟩ := HP2.out.room j hlt; have hf0 := hfz (j * 8); have hf1 := hfz (j * 8 + 1); have hf2 := hfz (j * 8 + 2); have hf3 := hfz (j * 8 + 3); have hf4 := hfz (j * 8 + 4); have hf5 := hfz (j * 8 + 5); have hf6 := hfz (j * 8 + 6); have hf7 := hfz (j * 8 + 7); clear hfz)
        go_roundw
        case rel =>
          refine ⟨j + 1, by omega, by go_num, by go_num, ?_, ?_⟩
          · exact NPart.below (NPart.step HP2.out hlt _ _ _ _ _ _ _ _ (HV.out.wide (by omega) (Nat.le_refl _))) ((Below.refl _ _).alloc (Nat.le_refl _) _)
          · exact (below_set8 HB2.out (Nat.le_refl _) _ _ _ _ _ _ _ _).alloc (by rw [size_set8]; omega) _
        case measure => simp [intOf]; omega
      · have hjl : j = l.length := by omega
        subst hjl
        go_wp2
        go_ret
        exact ⟨_, _, rfl, Nat.le_refl _, HP.out.done, HBR.out⟩

set_option maxHeartbeats 4000000 in
theorem copyN_of (t : Nd) (ih : CopyNs t.l) : CopyN t := by
  intro w lo hi x hr hhi
  obtain ⟨o, n, s, v, l⟩ := t
  simp only [Nd.l] at ih
  obtain ⟨k, m, z, q, ql, qc, p, cap, rfl, hio, hin, hs, hrv, hlc, hcap, hall⟩ := hr.open
  have HCV := Lib.hid (fun W (hb : Below w.heap.size w W) => value_any v W lo hi _ (hrv.below hb hhi) (by have := hb.size; omega))
  have HCN := Lib.hid (fun W (hb : Below w.heap.size w W) => ih W lo hi p cap (hall.below hb hhi) hlc hcap (by have := hb.size; omega))
  obtain ⟨W1, hW1⟩ : ∃ W1, (w.alloc (.cells #[.int .i64 o, .int .i64 n, .string s, .int .i64 k, .int .i64 m, .string z, .slice q ql qc, .slice p l.length cap] 27)).alloc (.cells #[.int .i64 0, .int .i64 0, .string ⟨#[]⟩, .int .i64 0, .int .i64 0, .string ⟨#[]⟩, .slice none 0 0, .slice none 0 0] 27) = W1 := ⟨_, rfl⟩
  have HB1 : Hid (Below w.heap.size w W1) := hW1 ▸ (((Below.refl w.heap.size w).alloc (Nat.le_refl _) _).alloc (by simp) _)
  have HX : Hid (W1.heap[w.heap.size]? = some (.cells #[.int .i64 o, .int .i64 n, .string s, .int .i64 k, .int .i64 m, .string z, .slice q ql qc, .slice p l.length cap] 27 (0, 0))) := hW1 ▸ heap_alloc_ _ _ _ _ (heap_alloc_new w _)
  have HY : Hid (W1.heap[w.heap.size + 1]? = some (.cells #[.int .i64 0, .int .i64 0, .string ⟨#[]⟩, .int .i64 0, .int .i64 0, .string ⟨#[]⟩, .slice none 0 0, .slice none 0 0] 27 (0, 0))) := hW1 ▸ (by have h := heap_alloc_new (w.alloc (.cells #[.int .i64 o, .int .i64 n, .string s, .int .i64 k, .int .i64 m, .string z, .slice q ql qc, .slice p l.length cap] 27)) (.cells #[.int .i64 0, .int .i64 0, .string ⟨#[]⟩, .int .i64 0, .int .i64 0, .string ⟨#[]⟩, .slice none 0 0, .slice none 0 0] 27); rw [World.size_alloc] at h; exact h)
  have HSF := Lib.hid (fun W (hb : Below W1.heap.size W1 W) => box8_in _ _ _ _ _ _ _ _ _ _ _ (heap_old HX.out hb))
  have HD5 := Lib.hid (Below.refl W1.heap.size W1).drew
  obtain ⟨d0, d1, d2, d3, d4, d5, d6, d7, _⟩ := HSF.out _ HD5.out
  clear hr ih hrv hall
  go_enter Tryd.func38, Tryd.ntmps38
  go_upto_region 1 with fail
  go_region_held3 (fun W' => W'.cell? ⟨w.heap.size, 0, none⟩ = some (.int .i64 o) ∧ W'.cell? ⟨w.heap.size, 1, none⟩ = some (.int .i64 n) ∧ W'.cell? ⟨w.heap.size, 2, none⟩ = some (.string s) ∧ W'.cell? ⟨w.heap.size, 3, none⟩ = some (.int .i64 k) ∧ W'.cell? ⟨w.heap.size, 4, none⟩ = some (.int .i64 m) ∧ W'.cell? ⟨w.heap.size, 5, none⟩ = some (.string z) ∧ W'.cell? ⟨w.heap.size, 6, none⟩ = some (.slice q ql qc) ∧ W'.cell? ⟨w.heap.size, 7, none⟩ = some (.slice p l.length cap)) (first | with_reducible exact held8 (HSF.out _ HD5.out) | with_reducible exact held8 (HSF.out _ HD6.out) | with_reducible exact held8 (HSF.out _ HD7.out) | with_reducible exact held8 (HSF.out _ (below_set8 HD7.out (Nat.le_refl _) _ _ _ _ _ _ _ _)) | go_keep | (go_show; fail)) (first
    | (go_at_call 60; (with_reducible refine (HCV.out _ (HB1.out.trans (HD5.out.mono HB1.out.size))).mono ?_); rintro e w6 ⟨x6, rfl, hv6, hb6⟩; obtain ⟨k6, m6, z6, q6, ql6, qc6, rfl⟩ := rep_form hv6; have HV6 := Lib.hid hv6; have HD6 := Lib.hid (HD5.out.trans (hb6.mono HD5.out.size)); clear hv6 hb6; obtain ⟨a0, a1, a2, a3, a4, a5, a6, a7, _⟩ := HSF.out _ HD6.out)
    | (go_at_call 10; (with_reducible refine (HCN.out _ (HB1.out.trans (HD6.out.mono HB1.out.size))).mono ?_); rintro e w7 ⟨q7, c7, rfl, hlc7, hn7, hb7⟩; have HN7 := Lib.hid hn7; have HB7 := Lib.hid hb7; have HD7 := Lib.hid (HD6.out.trans (hb7.mono HD6.out.size)); clear hn7 hb7; obtain ⟨b0, b1, b2, b3, b4, b5, b6, b7, _⟩ := HSF.out _ HD7.out; obtain ⟨y0, y1, y2, y3, y4, y5, y6, y7, hyf⟩ := box8_in _ _ _ _ _ _ _ _ _ _ _ (heap_old HY.out HD7.out); have hyf0 := hyf 0; have hyf1 := hyf 1; have hyf2 := hyf 2; have hyf3 := hyf 3; have hyf4 := hyf 4; have hyf5 := hyf 5; have hyf6 := hyf 6; have hyf7 := hyf 7; clear hyf))
  go_wp2
  refine bodyPost_ret (v := .agg #[.int .i64 o, .int .i64 n, .string s, .int .i64 k6, .int .i64 m6, .string z6, .slice q6 ql6 qc6, .slice q7 l.length c7]) (by simp [results, Tryd.results38, go_sem, y0, y1, y2, y3, y4, y5, y6, y7]) rfl ?_
  have hb7 := HB1.out.trans (HD7.out.mono HB1.out.size)
  have h61 := (HB1.out.trans (HD6.out.mono HB1.out.size)).size
  refine ⟨_, rfl, ?_, below_set8 hb7 (Nat.le_succ _) _ _ _ _ _ _ _ _⟩
  have hN : NRep w7 (w.heap.size + 2) w7.heap.size (.mk o n s v l) (.agg #[.int .i64 o, .int .i64 n, .string s, .int .i64 k6, .int .i64 m6, .string z6, .slice q6 ql6 qc6, .slice q7 l.length c7]) := by
    unfold NRep
    refine ⟨k6, m6, z6, q6, ql6, qc6, q7, c7, rfl, hio, hin, hs, (HV6.out.below HB7.out (Nat.le_refl _)).keep ?_ HB7.out.size (fun _ _ _ => rfl), hlc7, hcap, HN7.out.wide ?_ (Nat.le_refl _)⟩
    · have := HD5.out.size; rw [← hW1] at this ⊢; simp
    · have := HD6.out.size; rw [← hW1] at this; simp at this; omega
  exact (hN.keep8 (Or.inl (by omega)) _ _ _ _ _ _ _ _).wide (by omega) (by rw [size_set8]; exact Nat.le_refl _)
theorem copyN_any : ∀ t : Nd, CopyN t := Nd.ind_ (fun _ _ _ _ _ ih => copyN_of _ (copyNs_of _ ih))
theorem copyNs_any (L : List Nd) : CopyNs L := copyNs_of L (fun t _ => copyN_any t)
end Go.Proofs.YtelnakmlfpjeoaaDoor
namespace Go.Proofs.YtelnakmlfpjeoaaDoor
open Go.RowKit
set_option maxRecDepth 100000

/-- A slice of nodes whose row is one's own. -/
def OwnAt (w : World) (B : Nat) (q : Option Addr) (n c : Nat) : Prop := ∃ xs, w.ownsRow B 27 8 (.slice q n c) n xs
theorem OwnAt.below {w w' : World} {B n c : Nat} {q : Option Addr} (h : OwnAt w B q n c) (hb : Below w.heap.size w w') : OwnAt w' B q n c := by
  obtain ⟨xs, h1, h2⟩ := h
  refine ⟨xs, h1, ?_⟩
  rcases h2 with h2 | ⟨g, cap, cur, hv, hg, hh, r⟩
  · exact .inl h2
  · exact .inr ⟨g, cap, cur, hv, hg, heap_old hh hb, r⟩
theorem OwnAt.mono {w : World} {B B' n c : Nat} {q : Option Addr} (h : OwnAt w B q n c) (hb : B' ≤ B) : OwnAt w B' q n c := by
  obtain ⟨xs, h1, h2⟩ := h
  refine ⟨xs, h1, ?_⟩
  rcases h2 with h2 | ⟨g, cap, cur, hv, hg, hh, r⟩
  · exact .inl h2
  · exact .inr ⟨g, cap, cur, hv, by omega, hh, r⟩
theorem OwnAt.setCell {w : World} {B n c : Nat} {q : Option Addr} (h : OwnAt w B q n c) {g : Nat} (hg : g < B) (o : Nat) (u : Value) : OwnAt (w.setCell ⟨g, o, none⟩ u) B q n c := by
  obtain ⟨xs, h1, h2⟩ := h
  refine ⟨xs, h1, ?_⟩
  rcases h2 with h2 | ⟨g2, cap, cur, hv, hg2, hh, r⟩
  · exact .inl h2
  · exact .inr ⟨g2, cap, cur, hv, hg2, by rw [Below.heap_setCell _ _ _ _ (by show g2 ≠ g; omega)]; exact hh, r⟩
theorem OwnAt.set8 {w : World} {B n c : Nat} {q : Option Addr} (h : OwnAt w B q n c) {g : Nat} (hg : g < B) (o : Nat) (c0 c1 c2 c3 c4 c5 c6 c7 : Value) : OwnAt (set8 w g o c0 c1 c2 c3 c4 c5 c6 c7) B q n c :=
  (((((((h.setCell hg _ c0).setCell hg _ c1).setCell hg _ c2).setCell hg _ c3).setCell hg _ c4).setCell hg _ c5).setCell hg _ c6).setCell hg _ c7
/-- The lists of the first j items are one's own. -/
def Owns (w : World) (bo : Nat) (l : List Nd) (j : Nat) : Prop := ∀ i (h : i < l.length), i < j → ∃ r, w.cell? ⟨bo, i * 8 + 7, none⟩ = some (.slice r l[i].l.length l[i].l.length) ∧ OwnAt w (bo + 1) r l[i].l.length l[i].l.length
theorem Owns.below {w w' : World} {bo j : Nat} {l : List Nd} (h : Owns w bo l j) (hbo : bo < w.heap.size) (hb : Below w.heap.size w w') : Owns w' bo l j := fun i hi hj => by
  obtain ⟨r, h1, h2⟩ := h i hi hj
  exact ⟨r, (hb.cell (p := ⟨bo, i * 8 + 7, none⟩) hbo).trans h1, h2.below hb⟩
theorem cell_set8_other {w : World} {g o m : Nat} (hm : m < o ∨ o + 8 ≤ m) (c0 c1 c2 c3 c4 c5 c6 c7 : Value) : (set8 w g o c0 c1 c2 c3 c4 c5 c6 c7).cell? ⟨g, m, none⟩ = w.cell? ⟨g, m, none⟩ := by
  unfold set8
  have hne : ∀ (W : World) (d : Nat) (u : Value), d < 8 → (W.setCell ⟨g, o + d, none⟩ u).cell? ⟨g, m, none⟩ = W.cell? ⟨g, m, none⟩ := fun W d u hd => World.cell?_setCell_other W _ _ u (fun e => by injection e with _ e _; omega)
  have h0 : ∀ (W : World) (u : Value), (W.setCell ⟨g, o, none⟩ u).cell? ⟨g, m, none⟩ = W.cell? ⟨g, m, none⟩ := fun W u => hne W 0 u (by omega)
  rw [hne _ 7 _ (by omega), hne _ 6 _ (by omega), hne _ 5 _ (by omega), hne _ 4 _ (by omega), hne _ 3 _ (by omega), hne _ 2 _ (by omega), hne _ 1 _ (by omega), h0]

def NewC (w : World) (l : List Nd) (e : Ending) (w' : World) : Prop := Below w.heap.size w w' ∧ ((l = [] ∧ e = .returned (.slice none 0 0)) ∨ ∃ bo, w.heap.size ≤ bo ∧ e = .returned (.slice (some ⟨bo, 0, none⟩) l.length l.length) ∧ NPart w' bo l l.length ∧ Owns w' bo l l.length)
theorem NewC.all {w : World} {l : List Nd} {e : Ending} {w' : World} (h : NewC w l e w') (hl : l.length * 112 ≤ 140737488355328) : ∃ q, e = .returned (.slice q l.length l.length) ∧ NAll w' w.heap.size w'.heap.size l q ∧ Below w.heap.size w w' ∧ OwnAt w' w.heap.size q l.length l.length := by
  obtain ⟨hb, ⟨rfl, rfl⟩ | ⟨bo, hbo, rfl, hp, _⟩⟩ := h
  · exact ⟨none, rfl, NAll.nil _ _ _ _, hb, [], World.ownsRow_nil _ _ _ _⟩
  · refine ⟨_, rfl, hp.done.wide hbo (Nat.le_refl _), hb, ?_⟩
    obtain ⟨cs, h1, h2, _⟩ := hp
    exact ⟨cs.toList, by simp [h2], .inr ⟨bo, l.length, cs, rfl, hbo, h1, Nat.le_refl _, by unfold maxLen; omega, h2, List.take_of_length_le (by simp [h2])⟩⟩
def NewN2 (w : World) (t : Nd) (e : Ending) (w' : World) : Prop := ∃ (o n : Int) (s : ByteArray) (k m : Int) (z : ByteArray) (q : Option Addr) (ql qc : Nat) (r : Option Addr), e = .returned (.agg #[.int .i64 o, .int .i64 n, .string s, .int .i64 k, .int .i64 m, .string z, .slice q ql qc, .slice r t.l.length t.l.length]) ∧
  NRep w' w.heap.size w'.heap.size t (.agg #[.int .i64 o, .int .i64 n, .string s, .int .i64 k, .int .i64 m, .string z, .slice q ql qc, .slice r t.l.length t.l.length]) ∧ Below w.heap.size w w' ∧ OwnAt w' w.heap.size r t.l.length t.l.length
theorem Owns.step {w : World} {bo j : Nat} {l : List Nd} (h : Owns w bo l j) (hp : NPart w bo l j) (hj : j < l.length) (c0 c1 c2 c3 c4 c5 c6 : Value) (r : Option Addr) (ho : OwnAt w (bo + 1) r l[j].l.length l[j].l.length) :
    Owns (set8 w bo (j * 8) c0 c1 c2 c3 c4 c5 c6 (.slice r l[j].l.length l[j].l.length)) bo l (j + 1) := fun i hi hij => by
  by_cases e : i = j
  · subst e
    refine ⟨r, ?_, ho.set8 (Nat.lt_succ_self _) _ _ _ _ _ _ _ _ _⟩
    obtain ⟨cs, h1, h2, _⟩ := hp
    have hset : ∀ (w : World) (c : Array Value) (o : Nat) (u : Value), w.heap[bo]? = some (.cells c 27 (0, 0)) → (w.setCell ⟨bo, o, none⟩ u).heap[bo]? = some (.cells (c.setIfInBounds o u) 27 (0, 0)) := by
      intro w c o u hw
      simp [World.setCell, Array.getElem?_modify, hw]
    have k7 := hset _ _ (i * 8 + 7) (.slice r l[i].l.length l[i].l.length) (hset _ _ (i * 8 + 6) c6 (hset _ _ (i * 8 + 5) c5 (hset _ _ (i * 8 + 4) c4 (hset _ _ (i * 8 + 3) c3 (hset _ _ (i * 8 + 2) c2 (hset _ _ (i * 8 + 1) c1 (hset _ _ (i * 8) c0 h1)))))))
    rw [cell_of_row _ _ _ _ _ _ k7]
    simp [Array.getElem?_setIfInBounds]
    omega
  · obtain ⟨r', h1, h2⟩ := h i hi (by omega)
    exact ⟨r', (cell_set8_other (by omega) _ _ _ _ _ _ _ _).trans h1, h2.set8 (Nat.lt_succ_self _) _ _ _ _ _ _ _ _ _⟩
def CloneNs (l : List Nd) : Prop := ∀ (w : World) (lo hi : Nat) (p : Option Addr) (cap : Nat), NAll w lo hi l p → l.length ≤ cap → l.length * 112 ≤ 140737488355328 → hi ≤ w.heap.size →
  Calls Tryd.prog 27 #[.slice p l.length cap] w (NewC w l)
def CloneN (t : Nd) : Prop := ∀ (w : World) (lo hi : Nat) (x : Value), NRep w lo hi t x → hi ≤ w.heap.size → Calls Tryd.prog 53 #[x] w (NewN2 w t)

abbrev setV (W : World) (g : Nat) (c3 c4 c5 c6 : Value) : World := (((W.setCell ⟨g, 3, none⟩ c3).setCell ⟨g, 4, none⟩ c4).setCell ⟨g, 5, none⟩ c5).setCell ⟨g, 6, none⟩ c6
theorem heap_setV {W : World} {g : Nat} {d0 d1 d2 d3 d4 d5 d6 d7 : Value} {t : TypeId} (h : W.heap[g]? = some (.cells #[d0, d1, d2, d3, d4, d5, d6, d7] t (0, 0))) (c3 c4 c5 c6 : Value) :
    (setV W g c3 c4 c5 c6).heap[g]? = some (.cells #[d0, d1, d2, c3, c4, c5, c6, d7] t (0, 0)) := by
  have hset : ∀ (w : World) (c : Array Value) (o : Nat) (u : Value), w.heap[g]? = some (.cells c t (0, 0)) → (w.setCell ⟨g, o, none⟩ u).heap[g]? = some (.cells (c.setIfInBounds o u) t (0, 0)) := by
    intro w c o u hw
    simp [World.setCell, Array.getElem?_modify, hw]
  have k := hset _ _ 6 c6 (hset _ _ 5 c5 (hset _ _ 4 c4 (hset _ _ 3 c3 h)))
  simpa using k
theorem below_setV {B g : Nat} {a w : World} (h : Below B a w) (hg : B ≤ g) (c3 c4 c5 c6 : Value) : Below B a (setV w g c3 c4 c5 c6) := (((h.setCell hg c3).setCell hg c4).setCell hg c5).setCell hg c6
theorem other_setV {W : World} {g b : Nat} (h : b ≠ g) (c3 c4 c5 c6 : Value) : (setV W g c3 c4 c5 c6).heap[b]? = W.heap[b]? := by
  unfold setV
  rw [Below.heap_setCell _ _ _ _ h, Below.heap_setCell _ _ _ _ h, Below.heap_setCell _ _ _ _ h, Below.heap_setCell _ _ _ _ h]
theorem size_setV (W : World) (g : Nat) (c3 c4 c5 c6 : Value) : (setV W g c3 c4 c5 c6).heap.size = W.heap.size := by unfold setV; simp

set_option maxHeartbeats 2000000 in
theorem cloneN_of (t : Nd) (ih : CloneNs t.l) : CloneN t := by
  intro w lo hi x hr hhi
  obtain ⟨o, n, s, v, l⟩ := t
  simp only [Nd.l] at ih
  obtain ⟨k, m, z, q, ql, qc, p, cap, rfl, hio, hin, hs, hrv, hlc, hcap, hall⟩ := hr.open
  have HCN := Lib.hid (fun W (hb : Below w.heap.size w W) => ih W lo hi p cap (hall.below hb hhi) hlc hcap (by have := hb.size; omega))
  obtain ⟨W1, hW1⟩ : ∃ W1, (w.alloc (.cells #[.int .i64 o, .int .i64 n, .string s, .int .i64 k, .int .i64 m, .string z, .slice q ql qc, .slice p l.length cap] 27)).alloc (.cells #[.int .i64 0, .int .i64 0, .string ⟨#[]⟩, .int .i64 0, .int .i64 0, .string ⟨#[]⟩, .slice none 0 0, .slice none 0 0] 27) = W1 := ⟨_, rfl⟩
  have HB1 : Hid (Below w.heap.size w W1) := hW1 ▸ (((Below.refl w.heap.size w).alloc (Nat.le_refl _) _).alloc (by simp) _)
  have HX : Hid (W1.heap[w.heap.size]? = some (.cells #[.int .i64 o, .int .i64 n, .string s, .int .i64 k, .int .i64 m, .string z, .slice q ql qc, .slice p l.length cap] 27 (0, 0))) := hW1 ▸ heap_alloc_ _ _ _ _ (heap_alloc_new w _)
  have HY : Hid (W1.heap[w.heap.size + 1]? = some (.cells #[.int .i64 0, .int .i64 0, .string ⟨#[]⟩, .int .i64 0, .int .i64 0, .string ⟨#[]⟩, .slice none 0 0, .slice none 0 0] 27 (0, 0))) := hW1 ▸ (by have h := heap_alloc_new (w.alloc (.cells #[.int .i64 o, .int .i64 n, .string s, .int .i64 k, .int .i64 m, .string z, .slice q ql qc, .slice p l.length cap] 27)) (.cells #[.int .i64 0, .int .i64 0, .string ⟨#[]⟩, .int .i64 0, .int .i64 0, .string ⟨#[]⟩, .slice none 0 0, .slice none 0 0] 27); rw [World.size_alloc] at h; exact h)
  have hsz1 : W1.heap.size = w.heap.size + 2 := by rw [← hW1]; simp
  have HCV := Lib.hid (clone_any v W1 lo hi _ (hrv.below HB1.out hhi) (by omega))
  obtain ⟨d0, d1, d2, d3, d4, d5, d6, d7, _⟩ := box8_in _ _ _ _ _ _ _ _ _ _ _ HX.out
  clear hr ih hrv hall
  go_enter Tryd.func53, Tryd.ntmps53
  go_upto_region 2 with (go_at_call 78; refine HCV.out.mono ?_; rintro e w2 ⟨⟨v2, rfl, hv2, hb2⟩, _⟩; obtain ⟨k2, m2, z2, q2, ql2, qc2, rfl⟩ := rep_form hv2; have HV2 := Lib.hid hv2; have HX2 := Lib.hid (heap_old HX.out hb2); have HY2 := Lib.hid (heap_old HY.out hb2); have HB2 := Lib.hid (HB1.out.trans (hb2.mono HB1.out.size)); have HZ2 := Lib.hid hb2.size; clear hv2 hb2; obtain ⟨a0, a1, a2, a3, a4, a5, a6, a7, haf⟩ := box8_in _ _ _ _ _ _ _ _ _ _ _ HX2.out; have haf3 := haf 3; have haf4 := haf 4; have haf5 := haf 5; have haf6 := haf 6; clear haf)
  have HX3 := Lib.hid (heap_setV HX2.out (.int .i64 k2) (.int .i64 m2) (.string z2) (.slice q2 ql2 qc2))
  have HY3 := Lib.hid ((other_setV (W := w2) (g := w.heap.size) (b := w.heap.size + 1) (by omega) (.int .i64 k2) (.int .i64 m2) (.string z2) (.slice q2 ql2 qc2)).trans HY2.out)
  have HB3 := Lib.hid (below_setV HB2.out (Nat.le_refl _) (.int .i64 k2) (.int .i64 m2) (.string z2) (.slice q2 ql2 qc2))
  have HV3 : Hid (Rep (setV w2 w.heap.size (.int .i64 k2) (.int .i64 m2) (.string z2) (.slice q2 ql2 qc2)) (w.heap.size + 2) w2.heap.size v (.agg #[.int .i64 k2, .int .i64 m2, .string z2, .slice q2 ql2 qc2])) :=
    ((((HV2.out.setCell (Or.inl (show w.heap.size < W1.heap.size by omega)) _).setCell (Or.inl (show w.heap.size < W1.heap.size by omega)) _).setCell (Or.inl (show w.heap.size < W1.heap.size by omega)) _).setCell (Or.inl (show w.heap.size < W1.heap.size by omega)) _).keep (by omega) (Nat.le_refl _) (fun _ _ _ => rfl)
  have HZ3 := Lib.hid (size_setV w2 w.heap.size (.int .i64 k2) (.int .i64 m2) (.string z2) (.slice q2 ql2 qc2))
  unfold setV at HX3 HY3 HB3 HV3 HZ3
  generalize (((w2.setCell ⟨w.heap.size, 3, none⟩ (.int .i64 k2)).setCell ⟨w.heap.size, 4, none⟩ (.int .i64 m2)).setCell ⟨w.heap.size, 5, none⟩ (.string z2)).setCell ⟨w.heap.size, 6, none⟩ (.slice q2 ql2 qc2) = w3 at *
  obtain ⟨b0, b1, b2, b3, b4, b5, b6, b7, _⟩ := box8_in _ _ _ _ _ _ _ _ _ _ _ HX3.out
  have HCN3 := Lib.hid (HCN.out _ HB3.out)
  clear a0 a1 a2 a3 a4 a5 a6 a7 haf3 haf4 haf5 haf6 d0 d1 d2 d3 d4 d5 d6 d7 HX HY HX2 HY2 HCV HCN HV2
  go_upto_region 3 with (go_at_call 27; refine HCN3.out.mono ?_; intro e w4 h4; obtain ⟨q4, rfl, hn4, hb4, ho4⟩ := h4.all hcap; have HO4 := Lib.hid ho4; have HN4 := Lib.hid hn4; have HX4 := Lib.hid (heap_old HX3.out hb4); have HY4 := Lib.hid (heap_old HY3.out hb4); have HB4 := Lib.hid (HB3.out.trans (hb4.mono HB3.out.size)); have HV4 := Lib.hid (HV3.out.below hb4 (by rw [HZ3.out]; exact Nat.le_refl _)); have HZ4 := Lib.hid hb4.size; clear h4 hn4 hb4 ho4; obtain ⟨e0, e1, e2, e3, e4, e5, e6, e7, hef⟩ := box8_in _ _ _ _ _ _ _ _ _ _ _ HX4.out; have hef7 := hef 7; clear hef; obtain ⟨y0, y1, y2, y3, y4, y5, y6, y7, hyf⟩ := box8_in _ _ _ _ _ _ _ _ _ _ _ HY4.out; have hyf0 := hyf 0; have hyf1 := hyf 1; have hyf2 := hyf 2; have hyf3 := hyf 3; have hyf4 := hyf 4; have hyf5 := hyf 5; have hyf6 := hyf 6; have hyf7 := hyf 7; clear hyf)
  clear b0 b1 b2 b3 b4 b5 b6 b7
  go_wp2_with fail
  refine bodyPost_ret (v := .agg #[.int .i64 o, .int .i64 n, .string s, .int .i64 k2, .int .i64 m2, .string z2, .slice q2 ql2 qc2, .slice q4 l.length l.length]) (by simp [results, Tryd.results53, go_sem, y0, y1, y2, y3, y4, y5, y6, y7]) rfl ?_
  have hz3 := HZ3.out
  have hz2 := HZ2.out
  have hz4 := HZ4.out
  have hN : NRep w4 (w.heap.size + 2) w4.heap.size (.mk o n s v l) (.agg #[.int .i64 o, .int .i64 n, .string s, .int .i64 k2, .int .i64 m2, .string z2, .slice q2 ql2 qc2, .slice q4 l.length l.length]) := by
    unfold NRep
    exact ⟨k2, m2, z2, q2, ql2, qc2, q4, l.length, rfl, hio, hin, hs, HV4.out.keep (Nat.le_refl _) (by omega) (fun _ _ _ => rfl), Nat.le_refl _, hcap, HN4.out.wide (by omega) (Nat.le_refl _)⟩
  refine ⟨_, _, _, _, _, _, _, _, _, _, rfl, ((hN.setCell (p := ⟨w.heap.size, 7, none⟩) (Or.inl (by show w.heap.size < w.heap.size + 2; omega)) _).keep8 (g := w.heap.size + 1) (o := 0) (Or.inl (by omega)) _ _ _ _ _ _ _ _).wide (by omega) (by rw [size_set8]; simp), below_set8 (HB4.out.setCell (p := ⟨w.heap.size, 7, none⟩) (Nat.le_refl _) _) (Nat.le_succ _) _ _ _ _ _ _ _ _, ?_⟩
  exact (((HO4.out.setCell (g := w.heap.size) (by omega) _ _).set8 (g := w.heap.size + 1) (by omega) 0 _ _ _ _ _ _ _ _)).mono (by omega)

set_option maxHeartbeats 2000000 in
theorem cloneNs_of (l : List Nd) (ih : ∀ t ∈ l, CloneN t) : CloneNs l := by
  intro w lo hi p cap hall _hlc hcap hhi
  cases hl : l with
  | nil =>
    simp only [List.length_nil]
    go_enter Tryd.func27, Tryd.ntmps27
    go_wp2
    go_ret
    exact ⟨Below.refl _ _, .inl ⟨rfl, rfl⟩⟩
  | cons x xs =>
    have hpos : 0 < l.length := by rw [hl]; simp
    rw [← hl]
    clear hl
    have H := Lib.hid ih; clear ih
    have HALL := Lib.hid hall; clear hall
    obtain ⟨i0, hi0, hz0, hz1, hz2⟩ := info_parts Tryd.info_N
    have hmk : ∀ W : World, (Instr.makeSlice 22 (.int .i64 (l.length : Int)) (.int .i64 (l.length : Int))).run Tryd.prog W = .ok (.slice (some ⟨W.heap.size, 0, none⟩) l.length l.length) (W.alloc (.cells (madeCells #[.int .i64 0, .int .i64 0, .string ⟨#[]⟩, .int .i64 0, .int .i64 0, .string ⟨#[]⟩, .slice none 0 0, .slice none 0 0] (l.length * 8)) 27)) := by
      intro W
      have h := run_make (P := Tryd.prog) W 22 27 i0 _ Tryd.underlying22 hi0 hz0 .i64 .i64 l.length l.length (by omega) (by omega) (by rw [hz2]; omega) (by omega)
      rw [hz1] at h
      simpa [Value.cells] using h
    have hl0 : ((l.length : Int) == 0) = false := beq_eq_false_iff_ne.2 (by omega)
    go_enter Tryd.func27, Tryd.ntmps27
    go_wp2
    have hP := Lib.hid (NPart.start w (madeCells #[.int .i64 0, .int .i64 0, .string ⟨#[]⟩, .int .i64 0, .int .i64 0, .string ⟨#[]⟩, .slice none 0 0, .slice none 0 0] (l.length * 8)) l (size_madeCells _ _))
    have hW : Below w.heap.size w (w.alloc (.cells (madeCells #[.int .i64 0, .int .i64 0, .string ⟨#[]⟩, .int .i64 0, .int .i64 0, .string ⟨#[]⟩, .slice none 0 0, .slice none 0 0] (l.length * 8)) 27)) := (Below.refl _ _).alloc (Nat.le_refl _) _
    clear hi0 hz0 hz1 hz2
    go_loopw [14] (fun i wr => ∃ j : Nat, j ≤ l.length ∧ i = .int .i64 j ∧ Hid (NPart wr w.heap.size l j) ∧ Hid (Below w.heap.size w wr) ∧ Hid (Owns wr w.heap.size l j)) (fun i _ => l.length - (intOf i).toNat)
    case atStart => exact ⟨0, Nat.zero_le _, rfl, hP, hW, Lib.hid (fun i _ hi => absurd hi (by omega))⟩
    case round =>
      obtain ⟨j, hj, rfl, HP, HBR, HOW⟩ := hrel
      have hz := HBR.out.size
      have hzl := HP.out.lt
      by_cases hlt : j < l.length
      · obtain ⟨b, off, o, n, s, v, ll, k, m, z, q, ql, qc, r, c, hp, _, hbhi, hli, h0, h1, h2, h3, h4, h5, h6, h7, hrep⟩ := (HALL.out.below HBR.out hhi).item j hlt
        have HA := Lib.hid ((Below.refl wr.heap.size wr).alloc (Nat.le_refl _) (.cells #[.int .i64 o, .int .i64 n, .string s, .int .i64 k, .int .i64 m, .string z, .slice q ql qc, .slice r ll.length c] 27))
        have HC := Lib.hid (H.out _ (List.getElem_mem hlt) _ lo hi _ (hrep.below HA.out (by omega)) (by have := HA.out.size; omega))
        have hbw : b < wr.heap.size := by omega
        subst hp
        clear hrep hli
        go_wp2_with (go_at_call 53; refine HC.out.mono ?_; rintro e w2 ⟨o2, n2, s2, k2, m2, z2, q2, ql2, qc2, r2, rfl, hv, hb2, ho2⟩; have HV := Lib.hid hv; have HO2 := Lib.hid ho2; have HB2 := Lib.hid (HA.out.trans (hb2.mono HA.out.size)); have HZ := Lib.hid (show wr.heap.size + 1 ≤ (wr.alloc (.cells #[.int .i64 o, .int .i64 n, .string s, .int .i64 k, .int .i64 m, .string z, .slice q ql qc, .slice r ll.length c] 27)).heap.size from by simp); clear hv hb2 ho2; have HP2 := Lib.hid (HP.out.below HB2.out); have HB3 := Lib.hid (HBR.out.trans (HB2.out.mono hz)); obtain ⟨⟨u0, hu0⟩, ⟨u1, hu1⟩, ⟨u2, hu2⟩, ⟨u3, hu3⟩, ⟨u4, hu4⟩, ⟨u5, hu5⟩, ⟨u6, hu6⟩, ⟨u7, hu7⟩, hfz⟩ := HP2.out.room j hlt; have hf0 := hfz (j * 8); have hf1 := hfz (j * 8 + 1); have hf2 := hfz (j * 8 + 2); have hf3 := hfz (j * 8 + 3); have hf4 := hfz (j * 8 + 4); have hf5 := hfz (j * 8 + 5); have hf6 := hfz (j * 8 + 6); have hf7 := hfz (j * 8 + 7); clear hfz)
        go_roundw
        case rel =>
          have hz1 := HZ.out
          refine ⟨j + 1, by omega, by go_num, NPart.step HP2.out hlt _ _ _ _ _ _ _ _ (HV.out.wide (by omega) (Nat.le_refl _)), below_set8 HB3.out (Nat.le_refl _) _ _ _ _ _ _ _ _, ?_⟩
          exact Lib.hid (Owns.step (HOW.out.below hzl HB2.out) HP2.out hlt _ _ _ _ _ _ _ _ (HO2.out.mono (by omega)))
        case measure => simp [intOf]; omega
      · have hjl : j = l.length := by omega
        subst hjl
        go_wp2
        go_ret
        exact ⟨HBR.out, .inr ⟨_, Nat.le_refl _, rfl, HP.out, HOW.out⟩⟩
theorem cloneN_any : ∀ t : Nd, CloneN t := Nd.ind_ (fun _ _ _ _ _ ih => cloneN_of _ (cloneNs_of _ ih))
theorem cloneNs_any (L : List Nd) : CloneNs L := cloneNs_of L (fun t _ => cloneN_any t)
end Go.Proofs.YtelnakmlfpjeoaaDoor
namespace Go.Proofs.YtelnakmlfpjeoaaDoor
open Go.RowKit
set_option maxRecDepth 100000

/-- The function value of a function of the program. -/
abbrev fnV (i : Nat) : Value := .func (.func i) #[] #[]
def EqV1 (t : T) : Prop := ∀ (t' : T) (w : World) (lo hi lo' hi' : Nat) (v v' : Value), Rep w lo hi t v → hi ≤ w.heap.size → Rep w lo' hi' t' v' → hi' ≤ w.heap.size →
  Calls Tryd.prog 76 #[v, v'] w fun e w' => e = .returned (.bool (eqV t t')) ∧ Below w.heap.size w w'
def EqVs (l : List T) : Prop := ∀ (l' : List T) (w : World) (lo hi lo' hi' : Nat) (p p' : Option Addr) (cap cap' : Nat), RepAll w lo hi l p → hi ≤ w.heap.size → l.length * 56 ≤ 140737488355328 → RepAll w lo' hi' l' p' → hi' ≤ w.heap.size →
  Calls Tryd.prog 116 #[.slice p l.length cap, .slice p' l'.length cap', fnV 76] w fun e w' => e = .returned (.bool (eqAll l l')) ∧ Below w.heap.size w w'

set_option maxHeartbeats 1000000 in
theorem eqVs_of (l : List T) (ih : ∀ t ∈ l, EqV1 t) : EqVs l := by
  intro l' w lo hi lo' hi' p p' cap cap' hall hhi hlen hall' hhi'
  have H := Lib.hid ih; clear ih
  have HALL := Lib.hid hall; clear hall
  have HALL' := Lib.hid hall'; clear hall'
  by_cases hll : l.length = l'.length
  · have hne : ((l.length : Int) != (l'.length : Int)) = false := by simp [hll]
    have HLL := Lib.hid hll; clear hll
    go_enter Tryd.func116, Tryd.ntmps116
    go_wp2
    go_loopw [17] (fun i wr => ∃ j : Nat, j ≤ l.length ∧ i = .int .i64 j ∧ Hid (eqAll l l' = eqAll (l.drop j) (l'.drop j)) ∧ Hid (Below w.heap.size w wr)) (fun i _ => l.length - (intOf i).toNat)
    case atStart => exact ⟨0, Nat.zero_le _, rfl, rfl, Below.refl _ _⟩
    case round =>
      obtain ⟨j, hj, rfl, HO, HBR⟩ := hrel
      have hz := HBR.out.size
      by_cases hlt : j < l.length
      · have hlt' : j < l'.length := by have := HLL.out; omega
        obtain ⟨b, off, k1, n1, s1, l1, q1, cc1, rfl, _, hbhi, hli, h0, h1, h2, h3, hrep⟩ := (HALL.out.below HBR.out hhi).item j hlt
        obtain ⟨b', off', k1', n1', s1', l1', q1', cc1', rfl, _, hbhi', hli', h0', h1', h2', h3', hrep'⟩ := (HALL'.out.below HBR.out hhi').item j hlt'
        have HB2 := Lib.hid (((Below.refl wr.heap.size wr).alloc (Nat.le_refl _) (.cells #[.int .i64 k1, .int .i64 n1, .string s1, .slice q1 l1.length cc1] 25)).alloc (by simp) (.cells #[.int .i64 k1', .int .i64 n1', .string s1', .slice q1' l1'.length cc1'] 25))
        have HC := Lib.hid (H.out _ (List.getElem_mem hlt) l'[j] _ lo hi lo' hi' _ _ (hrep.below HB2.out (by omega)) (by have := HB2.out.size; omega) (hrep'.below HB2.out (by omega)) (by have := HB2.out.size; omega))
        have hA := Lib.hid (HO.out.trans (eqAll_drop l l' j hlt hlt'))
        have hbw : b < wr.heap.size := by omega
        have hbw' : b' < wr.heap.size := by omega
        obtain ⟨B, hB⟩ : ∃ B, B = eqV l[j] l'[j] := ⟨_, rfl⟩
        rw [← hB] at HC hA
        clear hB hli hli' hrep hrep'
        cases B with
        | false =>
          have HF := Lib.hid (show eqAll l l' = false from by rw [hA.out]; rfl)
          go_wp2_with (go_at_call 76; refine HC.out.mono ?_; rintro e w2 ⟨rfl, hb2⟩; have HB3 := Lib.hid (HBR.out.trans ((HB2.out.trans (hb2.mono HB2.out.size)).mono hz)); clear hb2)
          go_ret
          exact ⟨ret_bool HF.out.symm, HB3.out⟩
        | true =>
          have HF := Lib.hid (show eqAll l l' = eqAll (l.drop (j + 1)) (l'.drop (j + 1)) from by rw [hA.out]; rfl)
          go_wp2_with (go_at_call 76; refine HC.out.mono ?_; rintro e w2 ⟨rfl, hb2⟩; have HB3 := Lib.hid (HBR.out.trans ((HB2.out.trans (hb2.mono HB2.out.size)).mono hz)); clear hb2)
          go_roundw
          case rel => exact ⟨j + 1, by omega, by go_num, HF, HB3⟩
          case measure => simp [intOf]; omega
      · have hjl : j = l.length := by omega
        have HF := Lib.hid (show eqAll l l' = true from by rw [HO.out, hjl, List.drop_length, List.drop_of_length_le (by have := HLL.out; omega)]; simp [eqAll])
        go_wp2
        go_ret
        exact ⟨ret_bool HF.out.symm, HBR.out⟩
  · have hne : ((l.length : Int) != (l'.length : Int)) = true := by simp; omega
    have HE := Lib.hid (eqAll_len l l' hll)
    go_enter Tryd.func116, Tryd.ntmps116
    go_wp2
    go_ret
    exact ⟨ret_bool HE.out.symm, Below.refl _ _⟩

set_option maxHeartbeats 1000000 in
theorem eqV1_any : ∀ t, EqV1 t := by
  refine T.ind_ (fun k n s l ih t' w lo hi lo' hi' v v' hr hhi hr' hhi' => ?_)
  have hvs := eqVs_of l ih
  obtain ⟨k', n', s', l'⟩ := t'
  unfold Rep at hr hr'
  obtain ⟨p, cap, rfl, hk, hn, hs, hlc, hcap, hall⟩ := hr
  obtain ⟨p', cap', rfl, hk', hn', hs', hlc', hcap', hall'⟩ := hr'
  have HE := Lib.hid (show eqV (.mk k n s l) (.mk k' n' s' l') = (eqAll l l' && k == k' && n == n' && s.toList == s'.toList) from by rw [eqV])
  have HB := Lib.hid (((Below.refl w.heap.size w).alloc (Nat.le_refl _) (.cells #[.int .i64 k, .int .i64 n, .string s, .slice p l.length cap] 25)).alloc (by simp) (.cells #[.int .i64 k', .int .i64 n', .string s', .slice p' l'.length cap'] 25))
  have HC := Lib.hid (hvs l' _ lo hi lo' hi' p p' cap cap' (hall.below HB.out hhi) (by have := HB.out.size; omega) hcap (hall'.below HB.out hhi') (by have := HB.out.size; omega))
  clear ih hvs hall hall'
  cases hk1 : (k == k') with
  | false =>
    have HF := Lib.hid (show eqV (.mk k n s l) (.mk k' n' s' l') = false from by rw [HE.out, hk1]; simp)
    go_enter Tryd.func76, Tryd.ntmps76
    go_wp2
    go_ret
    exact ⟨ret_bool HF.out.symm, HB.out⟩
  | true =>
    cases hn1 : (n == n') with
    | false =>
      have HF := Lib.hid (show eqV (.mk k n s l) (.mk k' n' s' l') = false from by rw [HE.out, hn1]; simp)
      go_enter Tryd.func76, Tryd.ntmps76
      go_wp2
      go_ret
      exact ⟨ret_bool HF.out.symm, HB.out⟩
    | true =>
      cases hs1 : (s.toList == s'.toList) with
      | false =>
        have HF := Lib.hid (show eqV (.mk k n s l) (.mk k' n' s' l') = false from by rw [HE.out, hs1]; simp)
        go_enter Tryd.func76, Tryd.ntmps76
        go_wp2
        go_ret
        exact ⟨ret_bool HF.out.symm, HB.out⟩
      | true =>
        have HF := Lib.hid (show eqV (.mk k n s l) (.mk k' n' s' l') = eqAll l l' from by rw [HE.out, hk1, hn1, hs1]; simp)
        go_enter Tryd.func76, Tryd.ntmps76
        go_wp2_with (go_at_call 116; refine HC.out.mono ?_; rintro e w2 ⟨rfl, hb2⟩; have HB2 := Lib.hid (HB.out.trans (hb2.mono HB.out.size)); clear hb2)
        go_ret
        exact ⟨ret_bool HF.out.symm, HB2.out⟩

mutual
/-- The same, but for the lines. -/
def alN : Nd → Nd → Bool
  | .mk o _ s v l, .mk o' _ s' v' l' => o == o' && s.toList == s'.toList && eqV v v' && alAll l l'
def alAll : List Nd → List Nd → Bool
  | [], [] => true
  | t :: r, t' :: r' => alN t t' && alAll r r'
  | _, _ => false
end
theorem alAll_drop (l l' : List Nd) (j : Nat) (h : j < l.length) (h' : j < l'.length) : alAll (l.drop j) (l'.drop j) = (alN l[j] l'[j] && alAll (l.drop (j + 1)) (l'.drop (j + 1))) := by
  rw [List.drop_eq_getElem_cons h, List.drop_eq_getElem_cons h', alAll]
theorem alAll_len : ∀ (l l' : List Nd), l.length ≠ l'.length → alAll l l' = false
  | [], [], h => absurd rfl h
  | [], _ :: _, _ => by simp [alAll]
  | _ :: _, [], _ => by simp [alAll]
  | t :: r, t' :: r', h => by rw [alAll, alAll_len r r' (by simpa using h)]; simp

def EqN1 (t : Nd) : Prop := ∀ (t' : Nd) (w : World) (lo hi lo' hi' : Nat) (x x' : Value), NRep w lo hi t x → hi ≤ w.heap.size → NRep w lo' hi' t' x' → hi' ≤ w.heap.size →
  Calls Tryd.prog 51 #[x, x'] w fun e w' => e = .returned (.bool (alN t t')) ∧ Below w.heap.size w w'
def EqNs (L : List Nd) : Prop := ∀ (L' : List Nd) (w : World) (lo hi lo' hi' : Nat) (p p' : Option Addr) (cap cap' : Nat), NAll w lo hi L p → hi ≤ w.heap.size → L.length * 112 ≤ 140737488355328 → NAll w lo' hi' L' p' → hi' ≤ w.heap.size →
  Calls Tryd.prog 25 #[.slice p L.length cap, .slice p' L'.length cap'] w fun e w' => e = .returned (.bool (alAll L L')) ∧ Below w.heap.size w w'

set_option maxHeartbeats 2000000 in
theorem eqNf_of (L : List Nd) (ih : ∀ t ∈ L, EqN1 t) (L' : List Nd) (w : World) (lo hi lo' hi' : Nat) (p p' : Option Addr) (cap cap' : Nat) (hall : NAll w lo hi L p) (hhi : hi ≤ w.heap.size) (hlen : L.length * 112 ≤ 140737488355328) (hall' : NAll w lo' hi' L' p') (hhi' : hi' ≤ w.heap.size) :
    Calls Tryd.prog 50 #[.slice p L.length cap, .slice p' L'.length cap', fnV 51] w fun e w' => e = .returned (.bool (alAll L L')) ∧ Below w.heap.size w w' := by
  have H := Lib.hid ih; clear ih
  have HALL := Lib.hid hall; clear hall
  have HALL' := Lib.hid hall'; clear hall'
  by_cases hll : L.length = L'.length
  · have hne : ((L.length : Int) != (L'.length : Int)) = false := by simp [hll]
    have HLL := Lib.hid hll; clear hll
    go_enter Tryd.func50, Tryd.ntmps50
    go_wp2
    go_loopw [17] (fun i wr => ∃ j : Nat, j ≤ L.length ∧ i = .int .i64 j ∧ Hid (alAll L L' = alAll (L.drop j) (L'.drop j)) ∧ Hid (Below w.heap.size w wr)) (fun i _ => L.length - (intOf i).toNat)
    case atStart => exact ⟨0, Nat.zero_le _, rfl, rfl, Below.refl _ _⟩
    case round =>
      obtain ⟨j, hj, rfl, HO, HBR⟩ := hrel
      have hz := HBR.out.size
      by_cases hlt : j < L.length
      · have hlt' : j < L'.length := by have := HLL.out; omega
        obtain ⟨b, off, o, n, s, v, ll, k, m, z, q, ql, qc, r, c, hp, _, hbhi, hli, h0, h1, h2, h3, h4, h5, h6, h7, hrep⟩ := (HALL.out.below HBR.out hhi).item j hlt
        obtain ⟨b', off', o', n', s', v', ll', k', m', z', q', ql', qc', r', c', hp', _, hbhi', hli', h0', h1', h2', h3', h4', h5', h6', h7', hrep'⟩ := (HALL'.out.below HBR.out hhi').item j hlt'
        have HB2 := Lib.hid (((Below.refl wr.heap.size wr).alloc (Nat.le_refl _) (.cells #[.int .i64 o, .int .i64 n, .string s, .int .i64 k, .int .i64 m, .string z, .slice q ql qc, .slice r ll.length c] 27)).alloc (by simp) (.cells #[.int .i64 o', .int .i64 n', .string s', .int .i64 k', .int .i64 m', .string z', .slice q' ql' qc', .slice r' ll'.length c'] 27))
        have HC := Lib.hid (H.out _ (List.getElem_mem hlt) L'[j] _ lo hi lo' hi' _ _ (hrep.below HB2.out (by omega)) (by have := HB2.out.size; omega) (hrep'.below HB2.out (by omega)) (by have := HB2.out.size; omega))
        have hA := Lib.hid (HO.out.trans (alAll_drop L L' j hlt hlt'))
        have hbw : b < wr.heap.size := by omega
        have hbw' : b' < wr.heap.size := by omega
        obtain ⟨B, hB⟩ : ∃ B, B = alN L[j] L'[j] := ⟨_, rfl⟩
        rw [← hB] at HC hA
        subst hp hp'
        clear hB hli hli' hrep hrep'
        cases B with
        | false =>
          have HF := Lib.hid (show alAll L L' = false from by rw [hA.out]; rfl)
          go_wp2_with (go_at_call 51; refine HC.out.mono ?_; rintro e w2 ⟨rfl, hb2⟩; have HB3 := Lib.hid (HBR.out.trans ((HB2.out.trans (hb2.mono HB2.out.size)).mono hz)); clear hb2)
          go_ret
          exact ⟨ret_bool HF.out.symm, HB3.out⟩
        | true =>
          have HF := Lib.hid (show alAll L L' = alAll (L.drop (j + 1)) (L'.drop (j + 1)) from by rw [hA.out]; rfl)
          go_wp2_with (go_at_call 51; refine HC.out.mono ?_; rintro e w2 ⟨rfl, hb2⟩; have HB3 := Lib.hid (HBR.out.trans ((HB2.out.trans (hb2.mono HB2.out.size)).mono hz)); clear hb2)
          go_roundw
          case rel => exact ⟨j + 1, by omega, by go_num, HF, HB3⟩
          case measure => simp [intOf]; omega
      · have hjl : j = L.length := by omega
        have HF := Lib.hid (show alAll L L' = true from by rw [HO.out, hjl, List.drop_length, List.drop_of_length_le (by have := HLL.out; omega)]; simp [alAll])
        go_wp2
        go_ret
        exact ⟨ret_bool HF.out.symm, HBR.out⟩
  · have hne : ((L.length : Int) != (L'.length : Int)) = true := by simp; omega
    have HE := Lib.hid (alAll_len L L' hll)
    go_enter Tryd.func50, Tryd.ntmps50
    go_wp2
    go_ret
    exact ⟨ret_bool HE.out.symm, Below.refl _ _⟩
set_option maxHeartbeats 400000 in
theorem eqNs_of (L : List Nd) (ih : ∀ t ∈ L, EqN1 t) : EqNs L := by
  intro L' w lo hi lo' hi' p p' cap cap' hall hhi hlen hall' hhi'
  have HC := Lib.hid (eqNf_of L ih L' w lo hi lo' hi' p p' cap cap' hall hhi hlen hall' hhi')
  clear hall hall' ih
  go_enter Tryd.func25, Tryd.ntmps25
  go_wp2_with (go_at_call 50; refine HC.out.mono ?_; rintro e w2 ⟨rfl, hb2⟩)
  go_ret
  exact ⟨rfl, hb2⟩
set_option maxHeartbeats 2000000 in
theorem eqN1_of (t : Nd) (ih : EqNs t.l) : EqN1 t := by
  intro t' w lo hi lo' hi' x x' hr hhi hr' hhi'
  obtain ⟨o, n, s, v, l⟩ := t
  obtain ⟨o', n', s', v', l'⟩ := t'
  simp only [Nd.l] at ih
  obtain ⟨k, m, z, q, ql, qc, p, cap, rfl, _, _, _, hrv, _, hcap, hall⟩ := hr.open
  obtain ⟨k', m', z', q', ql', qc', p', cap', rfl, _, _, _, hrv', _, hcap', hall'⟩ := hr'.open
  have HE := Lib.hid (show alN (.mk o n s v l) (.mk o' n' s' v' l') = (o == o' && s.toList == s'.toList && eqV v v' && alAll l l') from by rw [alN])
  have HB := Lib.hid (((Below.refl w.heap.size w).alloc (Nat.le_refl _) (.cells #[.int .i64 o, .int .i64 n, .string s, .int .i64 k, .int .i64 m, .string z, .slice q ql qc, .slice p l.length cap] 27)).alloc (by simp) (.cells #[.int .i64 o', .int .i64 n', .string s', .int .i64 k', .int .i64 m', .string z', .slice q' ql' qc', .slice p' l'.length cap'] 27))
  have HX := Lib.hid (heap_alloc_ _ _ (.cells #[.int .i64 o', .int .i64 n', .string s', .int .i64 k', .int .i64 m', .string z', .slice q' ql' qc', .slice p' l'.length cap'] 27) _ (heap_alloc_new w (.cells #[.int .i64 o, .int .i64 n, .string s, .int .i64 k, .int .i64 m, .string z, .slice q ql qc, .slice p l.length cap] 27)))
  have HY := Lib.hid (heap_alloc_new (w.alloc (.cells #[.int .i64 o, .int .i64 n, .string s, .int .i64 k, .int .i64 m, .string z, .slice q ql qc, .slice p l.length cap] 27)) (.cells #[.int .i64 o', .int .i64 n', .string s', .int .i64 k', .int .i64 m', .string z', .slice q' ql' qc', .slice p' l'.length cap'] 27))
  have HV := Lib.hid (eqV1_any v v' _ lo hi lo' hi' _ _ (hrv.below HB.out hhi) (by have := HB.out.size; omega) (hrv'.below HB.out hhi') (by have := HB.out.size; omega))
  have HL := Lib.hid (fun W (hb : Below w.heap.size w W) => ih l' W lo hi lo' hi' p p' cap cap' (hall.below hb hhi) (by have := hb.size; omega) hcap (hall'.below hb hhi') (by have := hb.size; omega))
  clear hr hr' ih hrv hrv' hall hall'
  cases ho1 : (o == o') with
  | false =>
    have HF := Lib.hid (show alN (.mk o n s v l) (.mk o' n' s' v' l') = false from by rw [HE.out, ho1]; simp)
    go_enter Tryd.func51, Tryd.ntmps51
    go_wp2
    go_ret
    exact ⟨ret_bool HF.out.symm, HB.out⟩
  | true =>
    cases hs1 : (s.toList == s'.toList) with
    | false =>
      have HF := Lib.hid (show alN (.mk o n s v l) (.mk o' n' s' v' l') = false from by rw [HE.out, hs1]; simp)
      go_enter Tryd.func51, Tryd.ntmps51
      go_wp2
      go_ret
      exact ⟨ret_bool HF.out.symm, HB.out⟩
    | true =>
      cases hv1 : eqV v v' with
      | false =>
        have HF := Lib.hid (show alN (.mk o n s v l) (.mk o' n' s' v' l') = false from by rw [HE.out, hv1]; simp)
        rw [hv1] at HV
        go_enter Tryd.func51, Tryd.ntmps51
        go_wp2_with (go_at_call 76; refine HV.out.mono ?_; rintro e w2 ⟨rfl, hb2⟩; have HB2 := Lib.hid (HB.out.trans (hb2.mono HB.out.size)); clear hb2)
        go_ret
        exact ⟨ret_bool HF.out.symm, HB2.out⟩
      | true =>
        have HF := Lib.hid (show alN (.mk o n s v l) (.mk o' n' s' v' l') = alAll l l' from by rw [HE.out, ho1, hs1, hv1]; simp)
        rw [hv1] at HV
        go_enter Tryd.func51, Tryd.ntmps51
        go_wp2_with (first
          | (go_at_call 76; refine HV.out.mono ?_; rintro e w2 ⟨rfl, hb2⟩; have HB2 := Lib.hid (HB.out.trans (hb2.mono HB.out.size)); have HX2 := Lib.hid (heap_old HX.out hb2); have HY2 := Lib.hid (heap_old HY.out hb2); rw [World.size_alloc] at HY2; obtain ⟨x0, x1, x2, x3, x4, x5, x6, x7, _⟩ := box8_in _ _ _ _ _ _ _ _ _ _ _ HX2.out; obtain ⟨y0, y1, y2, y3, y4, y5, y6, y7, _⟩ := box8_in _ _ _ _ _ _ _ _ _ _ _ HY2.out; clear hb2)
          | (go_at_call 25; refine (HL.out _ HB2.out).mono ?_; rintro e w3 ⟨rfl, hb3⟩; have HB3 := Lib.hid (HB2.out.trans (hb3.mono HB2.out.size)); clear hb3))
        go_ret
        exact ⟨ret_bool HF.out.symm, HB3.out⟩
theorem eqN1_any : ∀ t : Nd, EqN1 t := Nd.ind_ (fun _ _ _ _ _ ih => eqN1_of _ (eqNs_of _ ih))
theorem eqNs_any (L : List Nd) : EqNs L := eqNs_of L (fun t _ => eqN1_any t)
end Go.Proofs.YtelnakmlfpjeoaaDoor
namespace Go.Proofs.YtelnakmlfpjeoaaDoor
open Go.RowKit
set_option maxRecDepth 100000

theorem alAll_self_of (l : List Nd) (h : ∀ t ∈ l, alN t t = true) : alAll l l = true := by
  induction l with
  | nil => simp [alAll]
  | cons x r ih => rw [alAll, h x (by simp), ih (fun t ht => h t (by simp [ht]))]; rfl
theorem alN_self : ∀ t, alN t t = true := Nd.ind_ (fun o n s v l ih => by rw [alN, alAll_self_of l ih, eqV_self]; simp)
theorem alAll_self (l : List Nd) : alAll l l = true := alAll_self_of l (fun t _ => alN_self t)
theorem alAll_set : ∀ (l : List Nd) (k : Nat) (h : k < l.length) (t : Nd), alAll l (l.set k t) = alN l[k] t
  | x :: r, 0, _, t => by rw [List.set_cons_zero, alAll, alAll_self]; simp
  | x :: r, k + 1, h, t => by rw [List.set_cons_succ, alAll, alN_self, alAll_set r k (by simpa using h) t]; simp
theorem alAll_set' : ∀ (l : List Nd) (k : Nat) (h : k < l.length) (t : Nd), alAll (l.set k t) l = alN t l[k]
  | x :: r, 0, _, t => by rw [List.set_cons_zero, alAll, alAll_self]; simp
  | x :: r, k + 1, h, t => by rw [List.set_cons_succ, alAll, alN_self, alAll_set' r k (by simpa using h) t]; simp
theorem cntAll_set : ∀ (l : List Nd) (k : Nat) (h : k < l.length) (t : Nd), cnt t = cnt l[k] → cntAll (l.set k t) = cntAll l
  | x :: r, 0, _, t, e => by rw [List.set_cons_zero, cntAll, cntAll]; simp at e; omega
  | x :: r, k + 1, h, t, e => by rw [List.set_cons_succ, cntAll, cntAll, cntAll_set r k (by simpa using h) t (by simpa using e)]
theorem dpNAll_set : ∀ (l : List Nd) (k : Nat) (h : k < l.length) (t : Nd), dpN t = dpN l[k] → dpNAll (l.set k t) = dpNAll l
  | x :: r, 0, _, t, e => by rw [List.set_cons_zero, dpNAll, dpNAll]; simp at e; omega
  | x :: r, k + 1, h, t, e => by rw [List.set_cons_succ, dpNAll, dpNAll, dpNAll_set r k (by simpa using h) t (by simpa using e)]
theorem firstF_mem : ∀ (l : List Nd) (a : Int), firstF l a = .ok → ∀ t ∈ l, ckN t a false = none
  | [], _, _, t, ht => absurd ht (by simp)
  | x :: r, a, h, t, ht => by
    rw [firstF] at h
    cases hc : ckN x a false with
    | some f => rw [hc] at h; cases h
    | none =>
      rw [hc] at h
      rcases List.mem_cons.1 ht with rfl | ht
      · exact hc
      · exact firstF_mem r a h t ht
theorem firstF_all : ∀ (l : List Nd) (a : Int), (∀ t ∈ l, ckN t a false = none) → firstF l a = .ok
  | [], _, _ => rfl
  | x :: r, a, h => by rw [firstF, h x (by simp)]; exact firstF_all r a (fun t ht => h t (by simp [ht]))
theorem vldF_parts {l : List Nd} {a : Int} (h : vldF l a = .ok) : cntAll l ≤ 4096 ∧ dpNAll l ≤ 40 ∧ firstF l a = .ok := by
  unfold vldF at h
  split at h
  · cases h
  · split at h
    · cases h
    · exact ⟨by omega, by omega, h⟩
theorem ckN_line {o n n' : Int} {s : ByteArray} {v : T} {l : List Nd} {a : Int} {lp : Bool} (h : ckN (.mk o n s v l) a lp = none) : ckN (.mk o n' s v l) a lp = none := by
  rw [ckN] at h ⊢
  split at h
  · cases h
  · rename_i h1
    rw [if_neg h1]
    split at h
    · cases h
    · rename_i h2
      rw [if_neg h2]; exact h
theorem vld_line {l : List Nd} {k : Nat} (hk : k < l.length) {o n n' : Int} {s : ByteArray} {v : T} {ll : List Nd} (hl : l[k] = .mk o n s v ll) (h : vldF l 0 = .ok) : vldF (l.set k (.mk o n' s v ll)) 0 = .ok := by
  obtain ⟨h1, h2, h3⟩ := vldF_parts h
  have hck : ckN (.mk o n s v ll) 0 false = none := hl ▸ firstF_mem l 0 h3 _ (List.getElem_mem hk)
  unfold vldF
  rw [cntAll_set l k hk _ (by rw [hl, cnt, cnt]), dpNAll_set l k hk _ (by rw [hl, dpN, dpN]), if_neg (by omega), if_neg (by omega)]
  refine firstF_all _ 0 (fun t ht => ?_)
  rcases List.mem_or_eq_of_mem_set ht with ht | rfl
  · exact firstF_mem l 0 h3 t ht
  · exact ckN_line hck
theorem ck_stmt {o n : Int} {s : ByteArray} {v : T} {l : List Nd} (h : ckN (.mk o n s v l) 0 false = none) : 40 ≤ o ∧ o ≤ 51 ∧ s.size ≤ 32 := by
  rw [ckN] at h
  split at h
  · cases h
  rename_i h1
  split at h
  · cases h
  rename_i h2
  have h1 : shapeBad o 0 false s v l.length = false := by simpa using h1
  have h2 : nameBad o s = false := by simpa using h2
  unfold shapeBad at h1
  simp only [Bool.or_eq_false_iff, Bool.not_eq_false', Bool.and_eq_false_iff] at h1
  obtain ⟨⟨⟨a1, _⟩, _⟩, a2⟩ := h1
  have a3 : isStmtB o = true := by unfold mayStandB at a1; rw [if_pos rfl] at a1; simp only [Bool.and_eq_true] at a1; exact a1.1
  unfold isStmtB at a3
  simp only [Bool.and_eq_true, decide_eq_true_eq] at a3
  refine ⟨a3.1.1, a3.1.2, ?_⟩
  rcases a2 with a2 | a2
  · have : s.size = 0 := by simpa using a2
    omega
  · unfold nameBad at h2
    rw [a2] at h2
    cases hn : isNameB s with
    | true =>
      unfold isNameB at hn
      have hl : s.data.toList.length = s.size := by simp
      cases hd : s.data.toList with
      | nil => rw [hd] at hl; simp at hl; omega
      | cons c r => rw [hd] at hn; simp at hn; omega
    | false =>
      rw [hn] at h2
      simp at h2
      have := h2.2
      simp [this]

/-- One cell of a node in a row turned. -/
theorem NPart.turn {w : World} {bo k d : Nat} {l : List Nd} (h : NPart w bo l l.length) (hk : k < l.length) (u : Value) (t' : Nd) (A : Nat → Value)
    (hA : ∀ e, e < 8 → (w.setCell ⟨bo, k * 8 + d, none⟩ u).cell? ⟨bo, k * 8 + e, none⟩ = some (A e)) (hd : d < 8)
    (hn : NRep (w.setCell ⟨bo, k * 8 + d, none⟩ u) (bo + 1) w.heap.size t' (.agg #[A 0, A 1, A 2, A 3, A 4, A 5, A 6, A 7])) :
    NPart (w.setCell ⟨bo, k * 8 + d, none⟩ u) bo (l.set k t') (l.set k t').length := by
  obtain ⟨cs, h1, h2, h3⟩ := h
  have hsetc : (w.setCell ⟨bo, k * 8 + d, none⟩ u).heap[bo]? = some (.cells (cs.setIfInBounds (k * 8 + d) u) 27 (0, 0)) := by
    simp [World.setCell, Array.getElem?_modify, h1]
  have hc : ∀ o, (w.setCell ⟨bo, k * 8 + d, none⟩ u).cell? ⟨bo, o, none⟩ = (cs.setIfInBounds (k * 8 + d) u)[o]? := fun o => cell_of_row _ _ o _ _ _ hsetc
  refine ⟨_, hsetc, by simp [h2], fun i hi _ => ?_⟩
  have hi' : i < l.length := by simpa using hi
  have hsz : (w.setCell ⟨bo, k * 8 + d, none⟩ u).heap.size = w.heap.size := by simp
  rw [hsz]
  by_cases e : i = k
  · subst e
    have hx : (l.set i t')[i] = t' := by simp
    rw [hx]
    have hA' := fun e he => (hc (i * 8 + e)).symm.trans (hA e he)
    exact ⟨A 0, A 1, A 2, A 3, A 4, A 5, A 6, A 7, hA' 0 (by omega), hA' 1 (by omega), hA' 2 (by omega), hA' 3 (by omega), hA' 4 (by omega), hA' 5 (by omega), hA' 6 (by omega), hA' 7 (by omega), hn⟩
  · have hx : (l.set k t')[i] = l[i] := by rw [List.getElem_set_ne (by omega)]
    rw [hx]
    obtain ⟨c0, c1, c2, c3, c4, c5, c6, c7, e0, e1, e2, e3, e4, e5, e6, e7, hr⟩ := h3 i hi' hi'
    have hne : ∀ m v, m < 8 → cs[i * 8 + m]? = some v → (cs.setIfInBounds (k * 8 + d) u)[i * 8 + m]? = some v := fun m v hm hv => by
      rw [Array.getElem?_setIfInBounds_ne (by omega)]; exact hv
    exact ⟨c0, c1, c2, c3, c4, c5, c6, c7, hne 0 _ (by omega) e0, hne 1 _ (by omega) e1, hne 2 _ (by omega) e2, hne 3 _ (by omega) e3, hne 4 _ (by omega) e4, hne 5 _ (by omega) e5, hne 6 _ (by omega) e6, hne 7 _ (by omega) e7, hr.setCell (Or.inl (Nat.lt_succ_self _)) _⟩

/-- The cells of a row of nodes. -/
theorem NAll.cells {w : World} {lo hi : Nat} : ∀ {l : List Nd} {p : Option Addr}, NAll w lo hi l p → ∃ olds : List Value, olds.length = l.length * 8 ∧ ∀ b, p = some b → ∀ j u, olds[j]? = some u → w.cell? (b.add j) = some u
  | [], _, _ => ⟨[], rfl, fun b _ j u h => by simp at h⟩
  | t :: r, p, h => by
    unfold NAll at h
    obtain ⟨a, c0, c1, c2, c3, c4, c5, c6, c7, rfl, _, _, h0, h1, h2, h3, h4, h5, h6, h7, _, hr⟩ := h
    obtain ⟨olds, hl, hc⟩ := hr.cells
    refine ⟨c0 :: c1 :: c2 :: c3 :: c4 :: c5 :: c6 :: c7 :: olds, by simp [hl]; omega, fun b hb j u hu => ?_⟩
    injection hb with hb
    subst hb
    match j with
    | 0 => simp at hu; subst hu; rw [add_zero]; exact h0
    | 1 => simp at hu; subst hu; exact h1
    | 2 => simp at hu; subst hu; exact h2
    | 3 => simp at hu; subst hu; exact h3
    | 4 => simp at hu; subst hu; exact h4
    | 5 => simp at hu; subst hu; exact h5
    | 6 => simp at hu; subst hu; exact h6
    | 7 => simp at hu; subst hu; exact h7
    | j + 8 =>
      have := hc _ rfl j u (by simpa using hu)
      rw [add_add] at this
      rw [show j + 8 = 8 + j by omega]; exact this
theorem NPart.item {w : World} {bo : Nat} {l : List Nd} (h : NPart w bo l l.length) (k : Nat) (hk : k < l.length) :
    ∃ (o n : Int) (s : ByteArray) (v : T) (ll : List Nd) (kk m : Int) (z : ByteArray) (q : Option Addr) (ql qc : Nat) (r : Option Addr) (c : Nat), l[k] = .mk o n s v ll ∧
      w.cell? ⟨bo, k * 8, none⟩ = some (.int .i64 o) ∧ w.cell? ⟨bo, k * 8 + 1, none⟩ = some (.int .i64 n) ∧ w.cell? ⟨bo, k * 8 + 2, none⟩ = some (.string s) ∧ w.cell? ⟨bo, k * 8 + 3, none⟩ = some (.int .i64 kk) ∧ w.cell? ⟨bo, k * 8 + 4, none⟩ = some (.int .i64 m) ∧ w.cell? ⟨bo, k * 8 + 5, none⟩ = some (.string z) ∧ w.cell? ⟨bo, k * 8 + 6, none⟩ = some (.slice q ql qc) ∧ w.cell? ⟨bo, k * 8 + 7, none⟩ = some (.slice r ll.length c) ∧
      NRep w (bo + 1) w.heap.size (.mk o n s v ll) (.agg #[.int .i64 o, .int .i64 n, .string s, .int .i64 kk, .int .i64 m, .string z, .slice q ql qc, .slice r ll.length c]) := by
  obtain ⟨cs, h1, h2, h3⟩ := h
  obtain ⟨c0, c1, c2, c3, c4, c5, c6, c7, e0, e1, e2, e3, e4, e5, e6, e7, hr⟩ := h3 k hk hk
  have hc : ∀ o, w.cell? ⟨bo, o, none⟩ = cs[o]? := fun o => cell_of_row _ _ o _ _ _ h1
  cases hlk : l[k] with
  | mk o n s v ll =>
    rw [hlk] at hr
    obtain ⟨kk, m, z, q, ql, qc, r, c, hx, _⟩ := hr.open
    simp only [Value.agg.injEq, Array.mk.injEq, List.cons.injEq, and_true] at hx
    obtain ⟨rfl, rfl, rfl, rfl, rfl, rfl, rfl, rfl⟩ := hx
    exact ⟨o, n, s, v, ll, kk, m, z, q, ql, qc, r, c, rfl, (hc _).trans e0, (hc _).trans e1, (hc _).trans e2, (hc _).trans e3, (hc _).trans e4, (hc _).trans e5, (hc _).trans e6, (hc _).trans e7, hr⟩
theorem NPart.turn2 {w : World} {bo k d : Nat} {l : List Nd} (h : NPart w bo l l.length) (hk : k < l.length) (hd : d < 8) (u : Value) (t' : Nd) (B : Nat → Value) (hB : ∀ e, e < 8 → w.cell? ⟨bo, k * 8 + e, none⟩ = some (B e))
    (hn : NRep (w.setCell ⟨bo, k * 8 + d, none⟩ u) (bo + 1) w.heap.size t' (.agg #[if 0 = d then u else B 0, if 1 = d then u else B 1, if 2 = d then u else B 2, if 3 = d then u else B 3, if 4 = d then u else B 4, if 5 = d then u else B 5, if 6 = d then u else B 6, if 7 = d then u else B 7])) :
    NPart (w.setCell ⟨bo, k * 8 + d, none⟩ u) bo (l.set k t') (l.set k t').length := by
  refine NPart.turn h hk u t' (fun e => if e = d then u else B e) (fun e he => ?_) hd hn
  obtain ⟨cs, h1, h2, _⟩ := h
  have hsetc : (w.setCell ⟨bo, k * 8 + d, none⟩ u).heap[bo]? = some (.cells (cs.setIfInBounds (k * 8 + d) u) 27 (0, 0)) := by
    simp [World.setCell, Array.getElem?_modify, h1]
  rw [cell_of_row _ _ _ _ _ _ hsetc]
  by_cases e1 : e = d
  · subst e1
    rw [if_pos rfl, Array.getElem?_setIfInBounds_self_of_lt (by omega)]
  · rw [if_neg e1, Array.getElem?_setIfInBounds_ne (by omega), ← cell_of_row _ _ _ _ _ _ h1]
    exact hB e he
theorem NRep.remk {w : World} {lo hi : Nat} {o n kk m : Int} {s z : ByteArray} {v : T} {l : List Nd} {q r : Option Addr} {ql qc c : Nat} (h : NRep w lo hi (.mk o n s v l) (.agg #[.int .i64 o, .int .i64 n, .string s, .int .i64 kk, .int .i64 m, .string z, .slice q ql qc, .slice r l.length c]))
    (o' n' : Int) (s' : ByteArray) (ho : I64 o') (hn : I64 n') (hs : s'.size ≤ 140737488355328) : NRep w lo hi (.mk o' n' s' v l) (.agg #[.int .i64 o', .int .i64 n', .string s', .int .i64 kk, .int .i64 m, .string z, .slice q ql qc, .slice r l.length c]) := by
  obtain ⟨_, _, _, h4, h5, h6, h7⟩ := h.parts
  unfold NRep
  exact ⟨kk, m, z, q, ql, qc, r, c, rfl, ho, hn, hs, h4, h5, h6, h7⟩
/-- An empty Block. -/
abbrev blkN : Nd := .mk 52 0 ⟨#[]⟩ zV []
theorem NAll.none_nil {w : World} {lo hi : Nat} {l : List Nd} (h : NAll w lo hi l none) : l = [] := by
  cases l with
  | nil => rfl
  | cons t r => unfold NAll at h; obtain ⟨a, _, _, _, _, _, _, _, _, e, _⟩ := h; cases e
/-- A row of nodes laid anew, with an empty Block behind. -/
theorem NAll.snoc {w w1 : World} {lo hi g : Nat} {ll : List Nd} {r : Option Addr} (h : NAll w lo hi ll r) (hhi : hi ≤ w.heap.size) (hb : Below w.heap.size w w1) {olds : List Value} (hoc : ∀ b, r = some b → ∀ j u, olds[j]? = some u → w.cell? (b.add j) = some u)
    (hrow : ∀ j, j < ll.length * 8 → ∃ u, w1.cell? ⟨g, j, none⟩ = some u ∧ olds[j]? = some u) (hlo : lo ≤ g) (hg : g < w1.heap.size)
    (b0 : w1.cell? ⟨g, ll.length * 8, none⟩ = some (.int .i64 52)) (b1 : w1.cell? ⟨g, ll.length * 8 + 1, none⟩ = some (.int .i64 0)) (b2 : w1.cell? ⟨g, ll.length * 8 + 2, none⟩ = some (.string ⟨#[]⟩)) (b3 : w1.cell? ⟨g, ll.length * 8 + 3, none⟩ = some (.int .i64 0))
    (b4 : w1.cell? ⟨g, ll.length * 8 + 4, none⟩ = some (.int .i64 0)) (b5 : w1.cell? ⟨g, ll.length * 8 + 5, none⟩ = some (.string ⟨#[]⟩)) (b6 : w1.cell? ⟨g, ll.length * 8 + 6, none⟩ = some (.slice none 0 0)) (b7 : w1.cell? ⟨g, ll.length * 8 + 7, none⟩ = some (.slice none 0 0)) :
    NAll w1 lo w1.heap.size (ll ++ [blkN]) (some ⟨g, 0, none⟩) := by
  refine NAll.of hlo hg _ 0 (fun i hi' => ?_)
  rw [Nat.zero_add]
  by_cases hlt : i < ll.length
  · obtain ⟨b, off, o, n, s, v, l2, k, m, z, q, ql, qc, r2, c, rfl, _, _, hli, h0, h1, h2, h3, h4, h5, h6, h7, hrep⟩ := h.item i hlt
    have hx : (ll ++ [blkN])[i] = ll[i] := by rw [List.getElem_append_left hlt]
    have hadd : ∀ n, Addr.add ⟨b, off, none⟩ n = ⟨b, off + n, none⟩ := by
      intro n; unfold Addr.add; split
      · rename_i h; subst h; rfl
      · rfl
    have key : ∀ (m : Nat) (X : Value), m < 8 → w.cell? ⟨b, off + (i * 8 + m), none⟩ = some X → w1.cell? ⟨g, i * 8 + m, none⟩ = some X := fun m X hm hX => by
      obtain ⟨u, e1, e2⟩ := hrow (i * 8 + m) (by omega)
      have := hoc _ rfl _ u e2
      rw [hadd, hX] at this
      injection this with this
      rw [e1, this]
    rw [hx]
    exact ⟨_, _, _, _, _, _, _, _, key 0 _ (by omega) h0, key 1 _ (by omega) (by rw [← Nat.add_assoc]; exact h1), key 2 _ (by omega) (by rw [← Nat.add_assoc]; exact h2), key 3 _ (by omega) (by rw [← Nat.add_assoc]; exact h3), key 4 _ (by omega) (by rw [← Nat.add_assoc]; exact h4), key 5 _ (by omega) (by rw [← Nat.add_assoc]; exact h5), key 6 _ (by omega) (by rw [← Nat.add_assoc]; exact h6), key 7 _ (by omega) (by rw [← Nat.add_assoc]; exact h7), (hrep.below hb hhi).wide (Nat.le_refl _) (Nat.le_trans hhi hb.size)⟩
  · have hie : i = ll.length := by simp at hi'; omega
    subst hie
    have hx : (ll ++ [blkN])[ll.length]'hi' = blkN := by simp
    rw [hx]
    exact ⟨_, _, _, _, _, _, _, _, b0, b1, b2, b3, b4, b5, b6, b7, NRep.mk_ (l := []) (by unfold I64; omega) (by unfold I64; omega) (Nat.le_refl _) (by simp) (NAll.nil _ _ _ _)⟩
theorem alN_snoc (o n n' : Int) (s : ByteArray) (v : T) (ll : List Nd) : alN (.mk o n s v ll) (.mk o n' s v (ll ++ [blkN])) = false ∧ alN (.mk o n' s v (ll ++ [blkN])) (.mk o n s v ll) = false := by
  rw [alN, alN, alAll_len ll _ (by simp), alAll_len _ ll (by simp)]; simp
theorem grown_below {w w' : World} (h : w.grownBy w' none) : Below w.heap.size w w' := ⟨h.os, h.tape, h.output, h.size, fun k hk => h.block k hk (by simp)⟩
theorem row_room8 {w : World} {g n : Nat} {cur : Array Value} {t : TypeId} (h : w.heap[g]? = some (.cells cur t (0, 0))) (hs : n * 8 + 8 ≤ cur.size) :
    (∃ u, w.cell? ⟨g, n * 8, none⟩ = some u) ∧ (∃ u, w.cell? ⟨g, n * 8 + 1, none⟩ = some u) ∧ (∃ u, w.cell? ⟨g, n * 8 + 2, none⟩ = some u) ∧ (∃ u, w.cell? ⟨g, n * 8 + 3, none⟩ = some u) ∧ (∃ u, w.cell? ⟨g, n * 8 + 4, none⟩ = some u) ∧ (∃ u, w.cell? ⟨g, n * 8 + 5, none⟩ = some u) ∧ (∃ u, w.cell? ⟨g, n * 8 + 6, none⟩ = some u) ∧ (∃ u, w.cell? ⟨g, n * 8 + 7, none⟩ = some u) ∧ ∀ o, w.frozen? ⟨g, o, none⟩ = false := by
  have hc : ∀ o, w.cell? ⟨g, o, none⟩ = cur[o]? := fun o => cell_of_row _ _ o _ _ _ h
  have hsm : ∀ o, o < cur.size → ∃ u, w.cell? ⟨g, o, none⟩ = some u := fun o ho => ⟨cur[o]'ho, by rw [hc]; exact Array.getElem?_eq_getElem ho⟩
  exact ⟨hsm _ (by omega), hsm _ (by omega), hsm _ (by omega), hsm _ (by omega), hsm _ (by omega), hsm _ (by omega), hsm _ (by omega), hsm _ (by omega), fun o => by simp [World.frozen?, h]⟩
theorem cells_set8 {w : World} {g o : Nat} {cur : Array Value} {t : TypeId} (h : w.heap[g]? = some (.cells cur t (0, 0))) (hs : o + 8 ≤ cur.size) (c0 c1 c2 c3 c4 c5 c6 c7 : Value) :
    (set8 w g o c0 c1 c2 c3 c4 c5 c6 c7).cell? ⟨g, o, none⟩ = some c0 ∧ (set8 w g o c0 c1 c2 c3 c4 c5 c6 c7).cell? ⟨g, o + 1, none⟩ = some c1 ∧ (set8 w g o c0 c1 c2 c3 c4 c5 c6 c7).cell? ⟨g, o + 2, none⟩ = some c2 ∧ (set8 w g o c0 c1 c2 c3 c4 c5 c6 c7).cell? ⟨g, o + 3, none⟩ = some c3 ∧
    (set8 w g o c0 c1 c2 c3 c4 c5 c6 c7).cell? ⟨g, o + 4, none⟩ = some c4 ∧ (set8 w g o c0 c1 c2 c3 c4 c5 c6 c7).cell? ⟨g, o + 5, none⟩ = some c5 ∧ (set8 w g o c0 c1 c2 c3 c4 c5 c6 c7).cell? ⟨g, o + 6, none⟩ = some c6 ∧ (set8 w g o c0 c1 c2 c3 c4 c5 c6 c7).cell? ⟨g, o + 7, none⟩ = some c7 := by
  have hset : ∀ (w : World) (c : Array Value) (o : Nat) (u : Value), w.heap[g]? = some (.cells c t (0, 0)) → (w.setCell ⟨g, o, none⟩ u).heap[g]? = some (.cells (c.setIfInBounds o u) t (0, 0)) := by
    intro w c o u hw
    simp [World.setCell, Array.getElem?_modify, hw]
  have k7 := hset _ _ (o + 7) c7 (hset _ _ (o + 6) c6 (hset _ _ (o + 5) c5 (hset _ _ (o + 4) c4 (hset _ _ (o + 3) c3 (hset _ _ (o + 2) c2 (hset _ _ (o + 1) c1 (hset _ _ o c0 h)))))))
  have hc : ∀ m, (set8 w g o c0 c1 c2 c3 c4 c5 c6 c7).cell? ⟨g, m, none⟩ = _ := fun m => cell_of_row _ _ m _ _ _ k7
  refine ⟨?_, ?_, ?_, ?_, ?_, ?_, ?_, ?_⟩ <;> rw [hc] <;> simp [Array.getElem?_setIfInBounds] <;> omega
theorem NRep.grow {w : World} {lo hi : Nat} {o n kk m : Int} {s z : ByteArray} {v : T} {l : List Nd} {q r r' : Option Addr} {ql qc c c' : Nat} (h : NRep w lo hi (.mk o n s v l) (.agg #[.int .i64 o, .int .i64 n, .string s, .int .i64 kk, .int .i64 m, .string z, .slice q ql qc, .slice r l.length c]))
    (hc : l.length + 1 ≤ c') (hl : (l.length + 1) * 112 ≤ 140737488355328) (hn : NAll w lo hi (l ++ [blkN]) r') : NRep w lo hi (.mk o n s v (l ++ [blkN])) (.agg #[.int .i64 o, .int .i64 n, .string s, .int .i64 kk, .int .i64 m, .string z, .slice q ql qc, .slice r' (l.length + 1) c']) := by
  obtain ⟨h1, h2, h3, h4, _⟩ := h.parts
  have e : (l ++ [blkN]).length = l.length + 1 := by simp
  unfold NRep
  exact ⟨kk, m, z, q, ql, qc, r', c', by rw [e], h1, h2, h3, h4, by rw [e]; exact hc, by rw [e]; exact hl, hn⟩
theorem setCell_comm (w : World) (b g m o : Nat) (u v : Value) (h : b ≠ g) : (w.setCell ⟨b, m, none⟩ u).setCell ⟨g, o, none⟩ v = (w.setCell ⟨g, o, none⟩ v).setCell ⟨b, m, none⟩ u := by
  unfold World.setCell
  simp only [World.mk.injEq, and_true]
  apply Array.ext
  · simp
  · intro i h1 h2
    simp only [Array.getElem_modify]
    by_cases e1 : g = i
    · by_cases e2 : b = i
      · exact absurd (e2.trans e1.symm) h
      · simp [e1, e2]
    · simp [e1]
theorem set8_comm (w : World) (g o b m : Nat) (h : b ≠ g) (c0 c1 c2 c3 c4 c5 c6 c7 u : Value) : set8 (w.setCell ⟨b, m, none⟩ u) g o c0 c1 c2 c3 c4 c5 c6 c7 = (set8 w g o c0 c1 c2 c3 c4 c5 c6 c7).setCell ⟨b, m, none⟩ u := by
  unfold set8
  rw [setCell_comm _ b g m _ u _ h, setCell_comm _ b g m _ u _ h, setCell_comm _ b g m _ u _ h, setCell_comm _ b g m _ u _ h, setCell_comm _ b g m _ u _ h, setCell_comm _ b g m _ u _ h, setCell_comm _ b g m _ u _ h, setCell_comm _ b g m _ u _ h]
theorem wrap_in (x : Int) : I64 (IntKind.i64.wrap x) := by
  unfold I64
  have h := IntKind.wrap_i64 x
  rw [h]; omega
end Go.Proofs.YtelnakmlfpjeoaaDoor
namespace Go.Proofs.YtelnakmlfpjeoaaDoor
open Go.RowKit
set_option maxRecDepth 100000

set_option maxHeartbeats 400000 in
theorem number6_any (n b : Int) (w : World) (hn : I64 n) (hb : 1 ≤ b) (hb2 : b ≤ 1000000) :
    Calls Tryd.prog 31 #[.int .i64 n, .int .i64 b] w fun e w' => e = .returned (.int .i64 (n % b)) ∧ w = w' := by
  obtain ⟨hn1, hn2⟩ := hn
  have ht := tmod_bounds n b hb
  have he := Lib.hid (emod_of_tmod n b hb)
  go_enter Tryd.func31, Tryd.ntmps31
  go_wp2
  · have h : n.tmod b < 0 := by assumption
    go_ret
    refine ⟨ret_int ?_, rfl⟩
    rw [he.out, if_pos h]
  · have h : 0 ≤ n.tmod b := by assumption
    go_ret
    refine ⟨ret_int ?_, rfl⟩
    rw [he.out, if_neg (by omega)]

end Go.Proofs.YtelnakmlfpjeoaaDoor
namespace Go.Proofs.YtelnakmlfpjeoaaDoor
open Go.RowKit
set_option maxRecDepth 100000

theorem xor_one {o : Int} (h1 : 40 ≤ o) (h2 : o ≤ 51) : bits .xor .i64 o 1 ≠ o ∧ I64 (bits .xor .i64 o 1) := by
  have h : o = 40 ∨ o = 41 ∨ o = 42 ∨ o = 43 ∨ o = 44 ∨ o = 45 ∨ o = 46 ∨ o = 47 ∨ o = 48 ∨ o = 49 ∨ o = 50 ∨ o = 51 := by omega
  unfold I64
  rcases h with rfl | rfl | rfl | rfl | rfl | rfl | rfl | rfl | rfl | rfl | rfl | rfl <;> decide
theorem app_one (s : ByteArray) (_h : s.size ≤ 32) : (s.toList == (s ++ (⟨#[120]⟩ : ByteArray)).toList) = false ∧ ((s ++ (⟨#[120]⟩ : ByteArray)).toList == s.toList) = false ∧ (s ++ (⟨#[120]⟩ : ByteArray)).size = s.size + 1 := by
  have hs : (s ++ (⟨#[120]⟩ : ByteArray)).size = s.size + 1 := by rw [ByteArray.size_append]; rfl
  have hne : s.toList ≠ (s ++ (⟨#[120]⟩ : ByteArray)).toList := fun e => by
    rw [Go.ByteArray.toList_eq, Go.ByteArray.toList_eq] at e
    have := congrArg List.length e
    have l1 : ∀ z : ByteArray, z.data.toList.length = z.size := fun z => by simp
    rw [l1, l1] at this
    omega
  exact ⟨by simpa using hne, by simpa using fun e => hne e.symm, hs⟩

set_option maxHeartbeats 4000000 in
theorem treeTurned_all (ad : Nat → Addr) (L : List Nd) (p : Option Addr) (cap : Nat) (a b : Int) (w : World) (hall : NAll w 0 w.heap.size L p) (hlc : L.length ≤ cap) (hcap : L.length * 112 ≤ 140737488355328) (ha : I64 a) (hb : I64 b) (hS : Sn w ad) :
    Calls Tryd.prog 6 #[.slice p L.length cap, .int .i64 a, .int .i64 b] w fun e w' => e = .returned (.bool true) ∧ Below w.heap.size w w' := by
  have HS := Lib.hid (fun W (hb : Below w.heap.size w W) => hS.below hb)
  have HALL := Lib.hid (fun W (hb : Below w.heap.size w W) => hall.below hb (Nat.le_refl _))
  have HPG := Lib.hid (fun W (hb : Below w.heap.size w W) => wProgram_any L 500 (by omega) (by omega) W 0 w.heap.size p cap (HALL.out W hb) hlc hcap hb.size)
  have HFI := Lib.hid (first7_any ad w hS)
  clear hall hS
  cases hpr : (decide (0 ≤ ndAll L 500 0) && okF (vldF L 0)) with
  | false =>
    have HPG1 := Lib.hid (fun W hb => by have := HPG.out W hb; rw [hpr] at this; exact this)
    clear HPG hpr
    go_enter Tryd.func6, Tryd.ntmps6
    go_wp2_with (first
      | (go_at_call 8; refine HFI.out.mono ?_; rintro e w2 ⟨rfl, hb2⟩; have HB2 := Lib.hid hb2; clear hb2)
      | (go_at_call 17; refine (HPG1.out _ HB2.out).mono ?_; rintro e w3 ⟨rfl, hb3⟩; have HB3 := Lib.hid (HB2.out.trans (hb3.mono HB2.out.size)); clear hb3))
    go_ret
    exact ⟨ret_bool rfl, HB3.out⟩
  | true =>
    have HPG1 := Lib.hid (fun W hb => by have := HPG.out W hb; rw [hpr] at this; exact this)
    rw [Bool.and_eq_true] at hpr
    have HOK := Lib.hid (okF_iff hpr.2)
    have hlen : L.length ≤ 4096 := by have := (vldF_parts HOK.out).1; have := len_cnt L; omega
    clear HPG hpr
    by_cases hl0 : L.length = 0
    · have hli : ((L.length : Int) == 0) = true := by simp [hl0]
      go_enter Tryd.func6, Tryd.ntmps6
      clear hl0
      go_wp2_with (first
        | (go_at_call 8; refine HFI.out.mono ?_; rintro e w2 ⟨rfl, hb2⟩; have HB2 := Lib.hid hb2; clear hb2)
        | (go_at_call 17; refine (HPG1.out _ HB2.out).mono ?_; rintro e w3 ⟨rfl, hb3⟩; have HB3 := Lib.hid (HB2.out.trans (hb3.mono HB2.out.size)); clear hb3))
      go_ret
      exact ⟨ret_bool rfl, HB3.out⟩
    · have hli : ((L.length : Int) == 0) = false := by simpa using hl0
      have hlp : (1 : Int) ≤ (L.length : Int) := by omega
      have hk0 := Int.emod_nonneg a (show (L.length : Int) ≠ 0 by omega)
      have hk1 := Int.emod_lt_of_pos a (show (0 : Int) < (L.length : Int) by omega)
      obtain ⟨k, hk⟩ : ∃ k : Nat, (k : Int) = a % (L.length : Int) := ⟨(a % (L.length : Int)).toNat, by omega⟩
      have HNB := Lib.hid (fun W => number6_any a (L.length : Int) W ha hlp (by omega))
      rw [← hk] at HNB
      have hkl : k < L.length := by omega
      have HLT := Lib.hid hkl
      have hkI : (k : Int) < (L.length : Int) := by omega
      have HCL := Lib.hid (fun W (hb : Below w.heap.size w W) => cloneNs_any L W 0 w.heap.size p cap (HALL.out W hb) hlc hcap hb.size)
      have HL0 := Lib.hid hl0
      clear hk0 hk1 hk hl0
      go_enter Tryd.func6, Tryd.ntmps6
      go_upto_region 8 with (first
        | (go_at_call 8; refine HFI.out.mono ?_; rintro e w2 ⟨rfl, hb2⟩; have HB2 := Lib.hid hb2; clear hb2)
        | (go_at_call 17; refine (HPG1.out _ HB2.out).mono ?_; rintro e w3 ⟨rfl, hb3⟩; have HB3 := Lib.hid (HB2.out.trans (hb3.mono HB2.out.size)); clear hb3)
        | (go_at_call 27; refine (HCL.out _ HB3.out).mono ?_; rintro e w4 ⟨hb4, ⟨h, _⟩ | ⟨bo, hbo, rfl, hp4, ho4⟩⟩; (exact absurd (by rw [h]; rfl) HL0.out); have HB4 := Lib.hid (HB3.out.trans (hb4.mono HB3.out.size)); have HP4 := Lib.hid hp4; have HO4 := Lib.hid ho4; have hbo2 := Nat.le_trans HB3.out.size hbo; clear hb4 hbo hp4 ho4)
        | (go_at_call 31; refine (HNB.out _).mono ?_; rintro e w5 ⟨rfl, rfl⟩))
      clear HPG1 HCL HFI
      obtain ⟨o, n, s, v, ll, kk, m, z, q, ql, qc, r, c, hli, h0, h1, h2, h3, h4, h5, h6, h7, hrep⟩ := HP4.out.item k hkl
      obtain ⟨r', e7, _⟩ := HO4.out k hkl hkl
      rw [hli] at e7
      simp only [Nd.l] at e7
      have e8 := h7.symm.trans e7
      simp only [Option.some.injEq, Value.slice.injEq] at e8
      obtain ⟨e81, _, e82⟩ := e8
      subst e81 e82
      have hck := firstF_mem L 0 (vldF_parts HOK.out).2.2 _ (List.getElem_mem hkl)
      rw [hli] at hck
      obtain ⟨ho1, ho2, hss⟩ := ck_stmt hck
      have hfz := (HP4.out.room k hkl).2.2.2.2.2.2.2.2
      have hf1 := hfz (k * 8 + 1)
      obtain ⟨n', hn'⟩ : ∃ n', IntKind.i64.wrap (n + 5) = n' := ⟨_, rfl⟩
      have hnI : I64 n' := hn' ▸ wrap_in _
      have HLI := Lib.hid hli
      have HREP := Lib.hid hrep
      have HP5 := Lib.hid (NPart.turn2 HP4.out hkl (d := 1) (by omega) (.int .i64 n') (.mk o n' s v ll) (fun e => match e with | 0 => .int .i64 o | 1 => .int .i64 n | 2 => .string s | 3 => .int .i64 kk | 4 => .int .i64 m | 5 => .string z | 6 => .slice q ql qc | _ => .slice r ll.length ll.length)
        (fun e he => match e, he with | 0, _ => h0 | 1, _ => h1 | 2, _ => h2 | 3, _ => h3 | 4, _ => h4 | 5, _ => h5 | 6, _ => h6 | 7, _ => h7)
        ((hrep.setCell (p := ⟨bo, k * 8 + 1, none⟩) (Or.inl (Nat.lt_succ_self _)) (.int .i64 n')).remk o n' s (by unfold I64; omega) hnI (by omega)))
      have HB5 := Lib.hid (HB4.out.setCell (p := ⟨bo, k * 8 + 1, none⟩) hbo2 (.int .i64 n'))
      have H75 := Lib.hid ((World.cell?_setCell_other w4 ⟨bo, k * 8 + 1, none⟩ ⟨bo, k * 8 + 7, none⟩ (.int .i64 n') (fun e => by injection e with _ e _; omega)).trans h7)
      clear hck hfz hli hrep e7
      go_upto_region 9 with fail
      clear h0 h1 h2 h3 h4 h5 h6 h7 hf1
      generalize w4.setCell ⟨bo, k * 8 + 1, none⟩ (.int .i64 n') = W5 at *
      have hC1 : (L.set k (.mk o n' s v ll)).length = L.length := List.length_set
      have hCk : (L.set k (.mk o n' s v ll))[k]'(by rw [hC1]; exact hkl) = .mk o n' s v ll := by simp
      have HAL1 := Lib.hid (show alAll L (L.set k (.mk o n' s v ll)) = true from by rw [alAll_set L k hkl, HLI.out, alN, alAll_self, eqV_self]; simp)
      have HVO := Lib.hid (vld_line (n' := n') hkl HLI.out HOK.out)
      generalize hC : L.set k (.mk o n' s v ll) = C1 at *
      have HC := Lib.hid hC
      clear hC
      have HSM := Lib.hid (fun W (hb : Below W5.heap.size W5 W) => (show Calls Tryd.prog 25 #[.slice p L.length cap, .slice (some ⟨bo, 0, none⟩) L.length L.length] W fun e w' => e = .returned (.bool true) ∧ Below W.heap.size W w' from by
        have := eqNs_any L C1 W 0 w.heap.size bo W.heap.size p (some ⟨bo, 0, none⟩) cap L.length (HALL.out W (HB5.out.trans (hb.mono HB5.out.size))) (HB5.out.trans (hb.mono HB5.out.size)).size hcap ((HP5.out.below hb).done) (Nat.le_refl _)
        rw [HAL1.out, hC1] at this; exact this))
      have HVL := Lib.hid (fun W (hb : Below W5.heap.size W5 W) => (show Calls Tryd.prog 12 #[.slice (some ⟨bo, 0, none⟩) L.length L.length] W fun e w' => e = .returned .nilIface ∧ Below W.heap.size W w' from by
        have := tvalid_any ad C1 W bo W.heap.size (some ⟨bo, 0, none⟩) L.length ((HP5.out.below hb).done) (Nat.le_refl _) (by omega) (by omega) (HS.out W (HB5.out.trans (hb.mono HB5.out.size)))
        rw [HVO.out, hC1] at this
        exact this.mono (fun e w' h => ⟨h.2, h.1⟩)))
      have HNB3 := Lib.hid (fun W => number6_any b 3 W hb (by omega) (by omega))
      have HSM1 := Lib.hid (HSM.out W5 (Below.refl _ _))
      have h30 := Int.emod_nonneg b (show (3 : Int) ≠ 0 by omega)
      have h31 := Int.emod_lt_of_pos b (show (0 : Int) < 3 by omega)
      have h3 : b % 3 = 0 ∨ b % 3 = 1 ∨ b % 3 = 2 := by omega
      clear h30 h31
      go_upto_region 11 with (first
        | (go_at_call 25; refine HSM1.out.mono ?_; rintro e w6 ⟨rfl, hb6⟩; have HB6 := Lib.hid hb6; have HVL1 := Lib.hid (HVL.out _ hb6); clear hb6)
        | (go_at_call 12; refine HVL1.out.mono ?_; rintro e w7 ⟨rfl, hb7⟩; have HB7 := Lib.hid (HB6.out.trans (hb7.mono HB6.out.size)); clear hb7))
      have HP7 := Lib.hid (HP5.out.below HB7.out)
      have HBW := Lib.hid (HB5.out.trans (HB7.out.mono HB5.out.size))
      have hklC : k < C1.length := by rw [hC1]; exact hkl
      obtain ⟨o2, n2, s2, v2, ll2, kk2, m2, z2, q2, ql2, qc2, r2, c2, hl2, g0, g1, g2, g3, g4, g5, g6, g7, hrep7⟩ := HP7.out.item k hklC
      rw [hCk] at hl2
      injection hl2 with e1 e2 e3 e4 e5
      subst e1 e2 e3 e4 e5
      have e8 := g7.symm.trans ((HB7.out.cell (p := ⟨bo, k * 8 + 7, none⟩) (by have := HP5.out.lt; exact this)).trans H75.out)
      simp only [Option.some.injEq, Value.slice.injEq] at e8
      obtain ⟨e81, _, e82⟩ := e8
      subst e81 e82
      have hfz := (HP7.out.room k hklC).2.2.2.2.2.2.2.2
      have hf0 := hfz (k * 8)
      have hf2 := hfz (k * 8 + 2)
      have hf7 := hfz (k * 8 + 7)
      have HREP7 := Lib.hid hrep7
      clear hrep7 hfz H75 HSM HVL HSM1 HVL1 HREP
      rcases h3 with h3 | h3 | h3
      · rw [h3] at HNB3
        clear h3
        obtain ⟨hx1, hx2⟩ := xor_one ho1 ho2
        have HP8 : Hid (NPart (w7.setCell ⟨bo, k * 8, none⟩ (.int .i64 (bits .xor .i64 o 1))) bo (C1.set k (.mk (bits .xor .i64 o 1) n' s v ll)) (C1.set k (.mk (bits .xor .i64 o 1) n' s v ll)).length) := NPart.turn2 HP7.out hklC (d := 0) (by omega) (.int .i64 (bits .xor .i64 o 1)) (.mk (bits .xor .i64 o 1) n' s v ll) (fun e => match e with | 0 => .int .i64 o | 1 => .int .i64 n' | 2 => .string s | 3 => .int .i64 kk2 | 4 => .int .i64 m2 | 5 => .string z2 | 6 => .slice q2 ql2 qc2 | _ => .slice r2 ll.length ll.length)
          (fun e he => match e, he with | 0, _ => g0 | 1, _ => g1 | 2, _ => g2 | 3, _ => g3 | 4, _ => g4 | 5, _ => g5 | 6, _ => g6 | 7, _ => g7)
          ((HREP7.out.setCell (p := ⟨bo, k * 8, none⟩) (Or.inl (Nat.lt_succ_self _)) (.int .i64 (bits .xor .i64 o 1))).remk (bits .xor .i64 o 1) n' s hx2 hnI (by omega))
        have HBX := Lib.hid (HBW.out.setCell (p := ⟨bo, k * 8, none⟩) hbo2 (.int .i64 (bits .xor .i64 o 1)))
        go_upto_region 17 with (go_at_call 31; refine (HNB3.out _).mono ?_; rintro e w8 ⟨rfl, rfl⟩)
        generalize w7.setCell ⟨bo, k * 8, none⟩ (.int .i64 (bits .xor .i64 o 1)) = W8 at *
        have HAf := Lib.hid (show alN (.mk o n s v ll) (.mk (bits .xor .i64 o 1) n' s v ll) = false from by rw [alN, show (o == bits .xor .i64 o 1) = false from by simpa using fun h => hx1 h.symm]; simp)
        have HAg := Lib.hid (show alN (.mk (bits .xor .i64 o 1) n' s v ll) (.mk o n s v ll) = false from by rw [alN, show (bits .xor .i64 o 1 == o) = false from by simpa using hx1]; simp)
        clear hx1 hx2 g0 g1 g2 g3 g4 g5 g6 g7
        have hC2 : C1.set k (.mk (bits .xor .i64 o 1) n' s v ll) = L.set k (.mk (bits .xor .i64 o 1) n' s v ll) := by rw [← HC.out, List.set_set]
        rw [hC2] at HP8
        have hlen2 : (L.set k (.mk (bits .xor .i64 o 1) n' s v ll)).length = L.length := List.length_set
        have HS1 := Lib.hid (show Calls Tryd.prog 25 #[.slice p L.length cap, .slice (some ⟨bo, 0, none⟩) L.length L.length] W8 fun e w' => e = .returned (.bool false) ∧ Below W8.heap.size W8 w' from by
          have := eqNs_any L (L.set k (.mk (bits .xor .i64 o 1) n' s v ll)) W8 0 w.heap.size bo W8.heap.size p (some ⟨bo, 0, none⟩) cap L.length (HALL.out W8 HBX.out) HBX.out.size hcap HP8.out.done (Nat.le_refl _)
          rw [alAll_set L k hkl, HLI.out, HAf.out, hlen2] at this; exact this)
        have HS2 := Lib.hid (fun W (hb : Below W8.heap.size W8 W) => (show Calls Tryd.prog 25 #[.slice (some ⟨bo, 0, none⟩) L.length L.length, .slice p L.length cap] W fun e w' => e = .returned (.bool false) ∧ Below W.heap.size W w' from by
          have := eqNs_any (L.set k (.mk (bits .xor .i64 o 1) n' s v ll)) L W bo W.heap.size 0 w.heap.size (some ⟨bo, 0, none⟩) p L.length cap ((HP8.out.below hb).done) (Nat.le_refl _) (by rw [hlen2]; exact hcap) (HALL.out W (HBX.out.trans (hb.mono HBX.out.size))) (HBX.out.trans (hb.mono HBX.out.size)).size
          rw [alAll_set' L k hkl, HLI.out, HAg.out, hlen2] at this; exact this))
        clear HP8 hC2 hlen2
        go_wp2_with (first
          | (go_at_call 25; (with_reducible refine HS1.out.mono ?_); rintro e w9 ⟨rfl, hb9⟩; have HB9 := Lib.hid hb9; clear hb9)
          | (go_at_call 25; (with_reducible refine (HS2.out _ HB9.out).mono ?_); rintro e w10 ⟨rfl, hb10⟩; have HB10 := Lib.hid (HB9.out.trans (hb10.mono HB9.out.size)); clear hb10))
        go_ret
        exact ⟨ret_bool rfl, HBX.out.trans (HB10.out.mono HBX.out.size)⟩
      · rw [h3] at HNB3
        clear h3
        obtain ⟨hy1, hy2, hy3⟩ := app_one s hss
        have HP8 : Hid (NPart (w7.setCell ⟨bo, k * 8 + 2, none⟩ (.string (s ++ ⟨#[120]⟩))) bo (C1.set k (.mk o n' (s ++ ⟨#[120]⟩) v ll)) (C1.set k (.mk o n' (s ++ ⟨#[120]⟩) v ll)).length) := NPart.turn2 HP7.out hklC (d := 2) (by omega) (.string (s ++ ⟨#[120]⟩)) (.mk o n' (s ++ ⟨#[120]⟩) v ll) (fun e => match e with | 0 => .int .i64 o | 1 => .int .i64 n' | 2 => .string s | 3 => .int .i64 kk2 | 4 => .int .i64 m2 | 5 => .string z2 | 6 => .slice q2 ql2 qc2 | _ => .slice r2 ll.length ll.length)
          (fun e he => match e, he with | 0, _ => g0 | 1, _ => g1 | 2, _ => g2 | 3, _ => g3 | 4, _ => g4 | 5, _ => g5 | 6, _ => g6 | 7, _ => g7)
          ((HREP7.out.setCell (p := ⟨bo, k * 8 + 2, none⟩) (Or.inl (Nat.lt_succ_self _)) (.string (s ++ ⟨#[120]⟩))).remk o n' (s ++ ⟨#[120]⟩) (by unfold I64; omega) hnI (by omega))
        have HBX := Lib.hid (HBW.out.setCell (p := ⟨bo, k * 8 + 2, none⟩) hbo2 (.string (s ++ ⟨#[120]⟩)))
        go_upto_region 17 with (go_at_call 31; refine (HNB3.out _).mono ?_; rintro e w8 ⟨rfl, rfl⟩)
        generalize w7.setCell ⟨bo, k * 8 + 2, none⟩ (.string (s ++ ⟨#[120]⟩)) = W8 at *
        have HAf := Lib.hid (show alN (.mk o n s v ll) (.mk o n' (s ++ ⟨#[120]⟩) v ll) = false from by rw [alN, hy1]; simp)
        have HAg := Lib.hid (show alN (.mk o n' (s ++ ⟨#[120]⟩) v ll) (.mk o n s v ll) = false from by rw [alN, hy2]; simp)
        clear hy1 hy2 hy3 g0 g1 g2 g3 g4 g5 g6 g7
        have hC2 : C1.set k (.mk o n' (s ++ ⟨#[120]⟩) v ll) = L.set k (.mk o n' (s ++ ⟨#[120]⟩) v ll) := by rw [← HC.out, List.set_set]
        rw [hC2] at HP8
        have hlen2 : (L.set k (.mk o n' (s ++ ⟨#[120]⟩) v ll)).length = L.length := List.length_set
        have HS1 := Lib.hid (show Calls Tryd.prog 25 #[.slice p L.length cap, .slice (some ⟨bo, 0, none⟩) L.length L.length] W8 fun e w' => e = .returned (.bool false) ∧ Below W8.heap.size W8 w' from by
          have := eqNs_any L (L.set k (.mk o n' (s ++ ⟨#[120]⟩) v ll)) W8 0 w.heap.size bo W8.heap.size p (some ⟨bo, 0, none⟩) cap L.length (HALL.out W8 HBX.out) HBX.out.size hcap HP8.out.done (Nat.le_refl _)
          rw [alAll_set L k hkl, HLI.out, HAf.out, hlen2] at this; exact this)
        have HS2 := Lib.hid (fun W (hb : Below W8.heap.size W8 W) => (show Calls Tryd.prog 25 #[.slice (some ⟨bo, 0, none⟩) L.length L.length, .slice p L.length cap] W fun e w' => e = .returned (.bool false) ∧ Below W.heap.size W w' from by
          have := eqNs_any (L.set k (.mk o n' (s ++ ⟨#[120]⟩) v ll)) L W bo W.heap.size 0 w.heap.size (some ⟨bo, 0, none⟩) p L.length cap ((HP8.out.below hb).done) (Nat.le_refl _) (by rw [hlen2]; exact hcap) (HALL.out W (HBX.out.trans (hb.mono HBX.out.size))) (HBX.out.trans (hb.mono HBX.out.size)).size
          rw [alAll_set' L k hkl, HLI.out, HAg.out, hlen2] at this; exact this))
        clear HP8 hC2 hlen2
        go_wp2_with (first
          | (go_at_call 25; (with_reducible refine HS1.out.mono ?_); rintro e w9 ⟨rfl, hb9⟩; have HB9 := Lib.hid hb9; clear hb9)
          | (go_at_call 25; (with_reducible refine (HS2.out _ HB9.out).mono ?_); rintro e w10 ⟨rfl, hb10⟩; have HB10 := Lib.hid (HB9.out.trans (hb10.mono HB9.out.size)); clear hb10))
        go_ret
        exact ⟨ret_bool rfl, HBX.out.trans (HB10.out.mono HBX.out.size)⟩
      · rw [h3] at HNB3
        clear h3
        obtain ⟨i0, hi0, hz0, hz1, hz2⟩ := info_parts Tryd.info_N
        obtain ⟨_, _, _, _, _, hl112, hnl⟩ := HREP7.out.parts
        obtain ⟨olds, hol, hoc⟩ := hnl.cells
        have HOC := Lib.hid hoc
        have HNL := Lib.hid hnl
        have HBZ := Lib.hid (((Below.refl w7.heap.size w7).alloc (Nat.le_refl _) (.cells #[.int .i64 0, .int .i64 0, .string ⟨#[]⟩, .int .i64 0, .int .i64 0, .string ⟨#[]⟩, .slice none 0 0, .slice none 0 0] 27)).drew)
        have HZ := Lib.hid (show ((w7.alloc (.cells #[.int .i64 0, .int .i64 0, .string ⟨#[]⟩, .int .i64 0, .int .i64 0, .string ⟨#[]⟩, .slice none 0 0, .slice none 0 0] 27)).drew).heap[w7.heap.size]? = some (.cells #[.int .i64 0, .int .i64 0, .string ⟨#[]⟩, .int .i64 0, .int .i64 0, .string ⟨#[]⟩, .slice none 0 0, .slice none 0 0] 27) from heap_alloc_new w7 (.cells #[.int .i64 0, .int .i64 0, .string ⟨#[]⟩, .int .i64 0, .int .i64 0, .string ⟨#[]⟩, .slice none 0 0, .slice none 0 0] 27))
        have HOC2 := Lib.hid (show ∀ b, r2 = some b → ∀ j u, olds[j]? = some u → ((w7.alloc (.cells #[.int .i64 0, .int .i64 0, .string ⟨#[]⟩, .int .i64 0, .int .i64 0, .string ⟨#[]⟩, .slice none 0 0, .slice none 0 0] 27)).drew).cell? (b.add j) = some u from by
          intro b hb j u hj
          have h := HOC.out b hb j u hj
          exact (HBZ.out.cell (World.block_lt_of_cell? w7 _ h)).trans h)
        have HNO := Lib.hid (show r2 = none → ll.length = 0 ∧ ll.length = 0 from fun e => by subst e; rw [HNL.out.none_nil]; exact ⟨rfl, rfl⟩)
        have HNW := Lib.hid (show ∀ j u, ([.int .i64 0, .int .i64 0, .string ⟨#[]⟩, .int .i64 0, .int .i64 0, .string ⟨#[]⟩, .slice none 0 0, .slice none 0 0] : List Value)[j]? = some u → ((w7.alloc (.cells #[.int .i64 0, .int .i64 0, .string ⟨#[]⟩, .int .i64 0, .int .i64 0, .string ⟨#[]⟩, .slice none 0 0, .slice none 0 0] 27)).drew).cell? ((⟨w7.heap.size, 0, none⟩ : Addr).add j) = some u from by
          intro j u hj
          have hadd : (⟨w7.heap.size, 0, none⟩ : Addr).add j = ⟨w7.heap.size, j, none⟩ := by unfold Addr.add; split <;> simp_all
          rw [hadd, cell_of_row _ _ _ _ _ _ HZ.out, ← hj]; simp)
        have hbw7 : bo < w7.heap.size := HP7.out.lt
        have hl112' : (ll.length + 1) * 112 ≤ 140737488355328 + 112 := by omega
        have hcnl : ll.length ≤ 4096 := by
          have h1 := (vldF_parts HOK.out).1
          have h2 := cntAll_mem (List.getElem_mem hkl)
          rw [HLI.out, cnt] at h2
          have := len_cnt ll
          omega
        go_upto_region 12 with (go_at_call 31; refine (HNB3.out _).mono ?_; rintro e w8 ⟨rfl, rfl⟩)
        go_region_law (refine step_append_grows rfl (.tmp 57) (.tmp 60) 22 rfl 27 i0 _ 8 112 Tryd.underlying22 hi0 hz0 hz1 hz2 rfl (by decide) r2 ll.length ll.length olds rfl HNO.out hol HOC2.out ⟨w7.heap.size, 0, none⟩ 1 1 [.int .i64 0, .int .i64 0, .string ⟨#[]⟩, .int .i64 0, .int .i64 0, .string ⟨#[]⟩, .slice none 0 0, .slice none 0 0] rfl rfl HNW.out (by simp only [List.forall_mem_cons]; exact ⟨rfl, rfl, rfl, rfl, rfl, rfl, rfl, rfl, fun _ h => absurd h (by simp)⟩) (by omega) (by unfold maxLen; omega) (by omega) ?_; intro v8 w8 hown hgrow; obtain ⟨hlx, hown⟩ := hown; rcases hown with ⟨_, h0⟩ | ⟨g8, c8, cur, rfl, hge, hh8, hnc, hcm, hcs, htk⟩; (exact absurd h0 (by omega)); have HB8 := Lib.hid (HBZ.out.trans ((grown_below hgrow).mono HBZ.out.size)); have HH8 := Lib.hid hh8; have HTK := Lib.hid htk; have hgb : bo < g8 := (by have h1 := HP7.out.lt; have h2 := HBZ.out.size; omega); have hgw : w7.heap.size ≤ g8 := Nat.le_trans HBZ.out.size hge; have hneq : bo ≠ g8 := Nat.ne_of_lt hgb; have hneq2 : g8 ≠ bo := Nat.ne_of_gt hgb; have hcz : ll.length * 8 + 8 ≤ cur.size := (by rw [hcs]; omega); obtain ⟨⟨u0, hu0⟩, ⟨u1, hu1⟩, ⟨u2, hu2⟩, ⟨u3, hu3⟩, ⟨u4, hu4⟩, ⟨u5, hu5⟩, ⟨u6, hu6⟩, ⟨u7, hu7⟩, hfz8⟩ := row_room8 hh8 hcz; have hv0 := hfz8 (ll.length * 8); have hv1 := hfz8 (ll.length * 8 + 1); have hv2 := hfz8 (ll.length * 8 + 2); have hv3 := hfz8 (ll.length * 8 + 3); have hv4 := hfz8 (ll.length * 8 + 4); have hv5 := hfz8 (ll.length * 8 + 5); have hv6 := hfz8 (ll.length * 8 + 6); have hv7 := hfz8 (ll.length * 8 + 7); have g78 := (HB8.out.cell (p := ⟨bo, k * 8 + 7, none⟩) HP7.out.lt).trans g7; have f78 := ((HP7.out.below HB8.out).room k hklC).2.2.2.2.2.2.2.2 (k * 8 + 7); have hl1 : (ll.length : Int) < (ll.length : Int) + 1 := (by omega); clear hgrow hh8 htk hge hfz8)
        all_goals (focus (
            have hln : (ll.length + 1) * 8 = ll.length * 8 + 8 := by omega
            have HB9 := Lib.hid (below_set8 (o := ll.length * 8) HB8.out hgw (.int .i64 52) (.int .i64 0) (.string ⟨#[]⟩) (.int .i64 0) (.int .i64 0) (.string ⟨#[]⟩) (.slice none 0 0) (.slice none 0 0))
            obtain ⟨i0_, i1_, i2_, i3_, i4_, i5_, i6_, i7_⟩ := cells_set8 HH8.out hcz (.int .i64 52) (.int .i64 0) (.string ⟨#[]⟩) (.int .i64 0) (.int .i64 0) (.string ⟨#[]⟩) (.slice none 0 0) (.slice none 0 0)
            have hsz9 := size_set8 w8 g8 (ll.length * 8) (.int .i64 52) (.int .i64 0) (.string ⟨#[]⟩) (.int .i64 0) (.int .i64 0) (.string ⟨#[]⟩) (.slice none 0 0) (.slice none 0 0)
            have HNL9 := Lib.hid (NAll.snoc HNL.out (Nat.le_refl _) HB9.out HOC.out (olds := olds) (g := g8) (fun j hj => by
              rw [cell_set8_other (Or.inl hj), cell_of_row _ _ _ _ _ _ HH8.out]
              have e1 := congrArg (fun x => x[j]?) HTK.out
              have hjl : j < olds.length := by rw [hol]; exact hj
              have hjc : j < cur.size := by omega
              simp only [List.getElem?_take, List.getElem?_append_left hjl] at e1
              rw [if_pos (by omega)] at e1
              exact ⟨olds[j], by rw [← List.getElem?_eq_getElem hjl, ← e1]; simp, List.getElem?_eq_getElem hjl⟩) (by omega) (by rw [hsz9]; exact heap_lt HH8.out) i0_ i1_ i2_ i3_ i4_ i5_ i6_ i7_)
            have HP9 := Lib.hid (HP7.out.below HB9.out)
            have HREP9 := Lib.hid (HREP7.out.keep (Nat.le_refl _) HB9.out.size (fun _ _ h => HB9.out.cell h))
            have j0 := (HB9.out.cell (p := ⟨bo, k * 8, none⟩) HP7.out.lt).trans g0
            have j1 := (HB9.out.cell (p := ⟨bo, k * 8 + 1, none⟩) HP7.out.lt).trans g1
            have j2 := (HB9.out.cell (p := ⟨bo, k * 8 + 2, none⟩) HP7.out.lt).trans g2
            have j3 := (HB9.out.cell (p := ⟨bo, k * 8 + 3, none⟩) HP7.out.lt).trans g3
            have j4 := (HB9.out.cell (p := ⟨bo, k * 8 + 4, none⟩) HP7.out.lt).trans g4
            have j5 := (HB9.out.cell (p := ⟨bo, k * 8 + 5, none⟩) HP7.out.lt).trans g5
            have j6 := (HB9.out.cell (p := ⟨bo, k * 8 + 6, none⟩) HP7.out.lt).trans g6
            have j7 := (HB9.out.cell (p := ⟨bo, k * 8 + 7, none⟩) HP7.out.lt).trans g7
            have HBX := Lib.hid ((HBW.out.trans (HB9.out.mono HBW.out.size)).setCell (p := ⟨bo, k * 8 + 7, none⟩) hbo2 (.slice (some ⟨g8, 0, none⟩) (ll.length + 1) c8))
            have HP8 := Lib.hid (NPart.turn2 HP9.out hklC (d := 7) (by omega) (.slice (some ⟨g8, 0, none⟩) (ll.length + 1) c8) (.mk o n' s v (ll ++ [blkN])) (fun e => match e with | 0 => .int .i64 o | 1 => .int .i64 n' | 2 => .string s | 3 => .int .i64 kk2 | 4 => .int .i64 m2 | 5 => .string z2 | 6 => .slice q2 ql2 qc2 | _ => .slice r2 ll.length ll.length)
              (fun e he => match e, he with | 0, _ => j0 | 1, _ => j1 | 2, _ => j2 | 3, _ => j3 | 4, _ => j4 | 5, _ => j5 | 6, _ => j6 | 7, _ => j7)
              ((HREP9.out.setCell (p := ⟨bo, k * 8 + 7, none⟩) (Or.inl (Nat.lt_succ_self _)) (.slice (some ⟨g8, 0, none⟩) (ll.length + 1) c8)).grow (by omega) (by omega) (HNL9.out.setCell (p := ⟨bo, k * 8 + 7, none⟩) (Or.inl (Nat.lt_succ_self _)) (.slice (some ⟨g8, 0, none⟩) (ll.length + 1) c8))))
            have HAf := Lib.hid (alN_snoc o n n' s v ll).1
            have HAg := Lib.hid (alN_snoc o n n' s v ll).2
            clear j0 j1 j2 j3 j4 j5 j6 j7 i0_ i1_ i2_ i3_ i4_ i5_ i6_ i7_ hu0 hu1 hu2 hu3 hu4 hu5 hu6 hu7 hv0 hv1 hv2 hv3 hv4 hv5 hv6 hv7 g0 g1 g2 g3 g4 g5 g6 g7 g78 f78 HOC2 HNW HOC hoc hnl hsz9
            have hcm9 := set8_comm w8 g8 (ll.length * 8) bo (k * 8 + 7) hneq (.int .i64 52) (.int .i64 0) (.string ⟨#[]⟩) (.int .i64 0) (.int .i64 0) (.string ⟨#[]⟩) (.slice none 0 0) (.slice none 0 0) (.slice (some ⟨g8, 0, none⟩) (ll.length + 1) c8)
            unfold set8 at HBX HP8 hcm9
            go_upto_region 17 with fail
            first | rw [hcm9] | skip
            clear hcm9
            generalize ((((((((w8.setCell ⟨g8, ll.length * 8, none⟩ (.int .i64 52)).setCell ⟨g8, ll.length * 8 + 1, none⟩ (.int .i64 0)).setCell ⟨g8, ll.length * 8 + 2, none⟩ (.string ⟨#[]⟩)).setCell ⟨g8, ll.length * 8 + 3, none⟩ (.int .i64 0)).setCell ⟨g8, ll.length * 8 + 4, none⟩ (.int .i64 0)).setCell ⟨g8, ll.length * 8 + 5, none⟩ (.string ⟨#[]⟩)).setCell ⟨g8, ll.length * 8 + 6, none⟩ (.slice none 0 0)).setCell ⟨g8, ll.length * 8 + 7, none⟩ (.slice none 0 0)).setCell ⟨bo, k * 8 + 7, none⟩ (.slice (some ⟨g8, 0, none⟩) (ll.length + 1) c8) = W8 at *
            clear HB9 HNL9 HP9 HREP9
            have hC2 : C1.set k (.mk o n' s v (ll ++ [blkN])) = L.set k (.mk o n' s v (ll ++ [blkN])) := by rw [← HC.out, List.set_set]
            rw [hC2] at HP8
            have hlen2 : (L.set k (.mk o n' s v (ll ++ [blkN]))).length = L.length := List.length_set
            have HS1 := Lib.hid (show Calls Tryd.prog 25 #[.slice p L.length cap, .slice (some ⟨bo, 0, none⟩) L.length L.length] W8 fun e w' => e = .returned (.bool false) ∧ Below W8.heap.size W8 w' from by
              have := eqNs_any L (L.set k (.mk o n' s v (ll ++ [blkN]))) W8 0 w.heap.size bo W8.heap.size p (some ⟨bo, 0, none⟩) cap L.length (HALL.out W8 HBX.out) HBX.out.size hcap HP8.out.done (Nat.le_refl _)
              rw [alAll_set L k hkl, HLI.out, HAf.out, hlen2] at this; exact this)
            have HS2 := Lib.hid (fun W (hb : Below W8.heap.size W8 W) => (show Calls Tryd.prog 25 #[.slice (some ⟨bo, 0, none⟩) L.length L.length, .slice p L.length cap] W fun e w' => e = .returned (.bool false) ∧ Below W.heap.size W w' from by
              have := eqNs_any (L.set k (.mk o n' s v (ll ++ [blkN]))) L W bo W.heap.size 0 w.heap.size (some ⟨bo, 0, none⟩) p L.length cap ((HP8.out.below hb).done) (Nat.le_refl _) (by rw [hlen2]; exact hcap) (HALL.out W (HBX.out.trans (hb.mono HBX.out.size))) (HBX.out.trans (hb.mono HBX.out.size)).size
              rw [alAll_set' L k hkl, HLI.out, HAg.out, hlen2] at this; exact this))
            clear HP8 hC2 hlen2
            go_wp2_with (first
              | (go_at_call 25; (with_reducible refine HS1.out.mono ?_); rintro e w9 ⟨rfl, hb9⟩; have HB9 := Lib.hid hb9; clear hb9)
              | (go_at_call 25; (with_reducible refine (HS2.out _ HB9.out).mono ?_); rintro e w10 ⟨rfl, hb10⟩; have HB10 := Lib.hid (HB9.out.trans (hb10.mono HB9.out.size)); clear hb10))
            go_ret
            exact ⟨ret_bool rfl, HBX.out.trans (HB10.out.mono HBX.out.size)⟩))
end Go.Proofs.YtelnakmlfpjeoaaDoor
