/- The walk of the statement on which programs may be. -/
import Derived.Test.YtelnakmlfpjeoaaDoorSameV
import Derived.Test.YtelnakmlfpjeoaaDoorNt
import Derived.Test.YtelnakmlfpjeoaaDoorTh2
import Derived.Test.YtelnakmlfpjeoaaDoorFew
import Derived.Handy
import Derived.Test.YtelnakmlfpjeoaaDoorCopy
import Derived.Test.YtelnakmlfpjeoaaDoorTm
import Derived.Deep.RegionHeld3
import Derived.Test.YtelnakmlfpjeoaaDoorRo6
import Derived.Test.YtelnakmlfpjeoaaDoorRt
import Derived.Test.YtelnakmlfpjeoaaDoorSeeAt
namespace Go.Proofs.YtelnakmlfpjeoaaDoor
open Go.RowKit
set_option maxRecDepth 100000

def SameNs (L : List Nd) : Prop := ∀ (w : World) (lo hi : Nat) (p : Option Addr) (cap : Nat), NAll w lo hi L p → hi ≤ w.heap.size → L.length * 112 ≤ 140737488355328 →
  ∀ (lo' hi' : Nat) (p' : Option Addr) (cap' : Nat), NAll w lo' hi' L p' → hi' ≤ w.heap.size →
  Calls Tryd.prog 16 #[.slice p L.length cap, .slice p' L.length cap'] w fun e w' => e = .returned (.bool true) ∧ Below w.heap.size w w'
def SameN1 (t : Nd) : Prop := ∀ (w : World) (lo hi lo' hi' : Nat) (x x' : Value), NRep w lo hi t x → hi ≤ w.heap.size → NRep w lo' hi' t x' → hi' ≤ w.heap.size →
  Calls Tryd.prog 30 #[x, x'] w fun e w' => e = .returned (.bool true) ∧ Below w.heap.size w w'

set_option maxHeartbeats 1000000 in
theorem sameN_of (t : Nd) (ih : SameNs t.l) : SameN1 t := by
  intro w lo hi lo' hi' x x' hr hhi hr' hhi'
  obtain ⟨o, n, s, v, l⟩ := t
  simp only [Nd.l] at ih
  obtain ⟨k, m, z, q, ql, qc, p, cap, rfl, _, _, hs, hrv, hlc, hcap, hall⟩ := hr.open
  obtain ⟨k', m', z', q', ql', qc', p', cap', rfl, _, _, hs', hrv', hlc', hcap', hall'⟩ := hr'.open
  have HB := Lib.hid (((Below.refl w.heap.size w).alloc (Nat.le_refl _) (.cells #[.int .i64 o, .int .i64 n, .string s, .int .i64 k, .int .i64 m, .string z, .slice q ql qc, .slice p l.length cap] 27)).alloc (by simp) (.cells #[.int .i64 o, .int .i64 n, .string s, .int .i64 k', .int .i64 m', .string z', .slice q' ql' qc', .slice p' l.length cap'] 27))
  have HX := Lib.hid (heap_alloc_ _ _ (.cells #[.int .i64 o, .int .i64 n, .string s, .int .i64 k', .int .i64 m', .string z', .slice q' ql' qc', .slice p' l.length cap'] 27) _ (heap_alloc_new w (.cells #[.int .i64 o, .int .i64 n, .string s, .int .i64 k, .int .i64 m, .string z, .slice q ql qc, .slice p l.length cap] 27)))
  have HY := Lib.hid (heap_alloc_new (w.alloc (.cells #[.int .i64 o, .int .i64 n, .string s, .int .i64 k, .int .i64 m, .string z, .slice q ql qc, .slice p l.length cap] 27)) (.cells #[.int .i64 o, .int .i64 n, .string s, .int .i64 k', .int .i64 m', .string z', .slice q' ql' qc', .slice p' l.length cap'] 27))
  have HL := Lib.hid (fun W (hb : Below w.heap.size w W) => ih W lo hi p cap (hall.below hb hhi) (by have := hb.size; omega) hcap lo' hi' p' cap' (hall'.below hb hhi') (by have := hb.size; omega))
  have HV := Lib.hid (fun W (hb : Below w.heap.size w W) => by
    have h := sameValue_any v v W lo hi lo' hi' _ _ (hrv.below hb hhi) (by have := hb.size; omega) (hrv'.below hb hhi') (by have := hb.size; omega)
    rw [eqV_self] at h; exact h)
  have HL2 := Lib.hid (HL.out _ HB.out)
  clear hr hr' ih hrv hrv' hall hall'
  go_enter Tryd.func30, Tryd.ntmps30
  go_wp2_with (first
    | (go_at_call 16; refine HL2.out.mono ?_; rintro e w2 ⟨rfl, hb2⟩; have HB2 := Lib.hid (HB.out.trans (hb2.mono HB.out.size)); have HX2 := Lib.hid (heap_old HX.out hb2); have HY2 := Lib.hid (heap_old HY.out hb2); rw [World.size_alloc] at HY2; obtain ⟨x0, x1, x2, x3, x4, x5, x6, x7, _⟩ := box8_in _ _ _ _ _ _ _ _ _ _ _ HX2.out; obtain ⟨y0, y1, y2, y3, y4, y5, y6, y7, _⟩ := box8_in _ _ _ _ _ _ _ _ _ _ _ HY2.out; clear hb2)
    | (go_at_call 52; refine (HV.out _ HB2.out).mono ?_; rintro e w3 ⟨rfl, hb3⟩; have HB3 := Lib.hid (HB2.out.trans (hb3.mono HB2.out.size)); obtain ⟨u0, u1, u2, u3, u4, u5, u6, u7, _⟩ := box8_in _ _ _ _ _ _ _ _ _ _ _ (heap_old HX2.out hb3); obtain ⟨v0, v1, v2, v3, v4, v5, v6, v7, _⟩ := box8_in _ _ _ _ _ _ _ _ _ _ _ (heap_old HY2.out hb3); clear hb3))
  go_ret
  exact ⟨ret_bool (by simp), HB3.out⟩

set_option maxHeartbeats 2000000 in
theorem sameNs_of (L : List Nd) (ih : ∀ t ∈ L, SameN1 t) : SameNs L := by
  intro w lo hi p cap hall hhi hcap lo' hi' p' cap' hall' hhi'
  have H := Lib.hid ih; clear ih
  have HALL := Lib.hid hall; clear hall
  have HALL' := Lib.hid hall'; clear hall'
  have hne : ((L.length : Int) != (L.length : Int)) = false := by simp
  go_enter Tryd.func16, Tryd.ntmps16
  go_wp2
  go_loopw [5] (fun i wr => ∃ j : Nat, j ≤ L.length ∧ i = .int .i64 j ∧ Below w.heap.size w wr) (fun i _ => L.length - (intOf i).toNat)
  case atStart => exact ⟨0, Nat.zero_le _, rfl, Below.refl _ _⟩
  case round =>
    obtain ⟨j, hj, rfl, hbr⟩ := hrel
    have hz := hbr.size
    by_cases hlt : j < L.length
    · obtain ⟨b, off, o, n, s, v, ll, k, m, z, q, ql, qc, r, c, rfl, _, hbhi, hli, h0, h1, h2, h3, h4, h5, h6, h7, hrep⟩ := (HALL.out.below hbr hhi).item j hlt
      obtain ⟨b', off', o', n', s', v', ll', k', m', z', q', ql', qc', r', c', rfl, _, hbhi', hli', h0', h1', h2', h3', h4', h5', h6', h7', hrep'⟩ := (HALL'.out.below hbr hhi').item j hlt
      rw [hli] at hli'
      injection hli' with e1 e2 e3 e4 e5
      subst e1 e2 e3 e4 e5
      have hlj : L[j] ∈ L := List.getElem_mem hlt
      rw [hli] at hlj hrep hrep'
      have HC := Lib.hid (fun (W : World) (hb : Below wr.heap.size wr W) => H.out _ hlj W lo hi lo' hi' _ _ (hrep.below hb (by omega)) (by have := hb.size; omega) (hrep'.below hb (by omega)) (by have := hb.size; omega))
      have HC2 := Lib.hid (HC.out _ (Below.refl _ _).drew)
      clear hli hrep hrep' hlj HC
      have hbw : b < wr.heap.size := by omega
      have hbw' : b' < wr.heap.size := by omega
      go_wp2
      go_region_held3 (fun w' => w'.cell? ⟨b, off + j * 8, none⟩ = some (.int .i64 o) ∧ w'.cell? ⟨b, off + j * 8 + 1, none⟩ = some (.int .i64 n) ∧ w'.cell? ⟨b, off + j * 8 + 2, none⟩ = some (.string s) ∧ w'.cell? ⟨b, off + j * 8 + 3, none⟩ = some (.int .i64 k) ∧ w'.cell? ⟨b, off + j * 8 + 4, none⟩ = some (.int .i64 m) ∧ w'.cell? ⟨b, off + j * 8 + 5, none⟩ = some (.string z) ∧ w'.cell? ⟨b, off + j * 8 + 6, none⟩ = some (.slice q ql qc) ∧ w'.cell? ⟨b, off + j * 8 + 7, none⟩ = some (.slice r ll.length c) ∧ w'.cell? ⟨b', off' + j * 8, none⟩ = some (.int .i64 o) ∧ w'.cell? ⟨b', off' + j * 8 + 1, none⟩ = some (.int .i64 n) ∧ w'.cell? ⟨b', off' + j * 8 + 2, none⟩ = some (.string s) ∧ w'.cell? ⟨b', off' + j * 8 + 3, none⟩ = some (.int .i64 k') ∧ w'.cell? ⟨b', off' + j * 8 + 4, none⟩ = some (.int .i64 m') ∧ w'.cell? ⟨b', off' + j * 8 + 5, none⟩ = some (.string z') ∧ w'.cell? ⟨b', off' + j * 8 + 6, none⟩ = some (.slice q' ql' qc') ∧ w'.cell? ⟨b', off' + j * 8 + 7, none⟩ = some (.slice r' ll.length c')) (first | exact ⟨h0, h1, h2, h3, h4, h5, h6, h7, h0', h1', h2', h3', h4', h5', h6', h7'⟩ | exact ⟨(hb2.cell (p := ⟨b, _, none⟩) hbw).trans h0, (hb2.cell (p := ⟨b, _, none⟩) hbw).trans h1, (hb2.cell (p := ⟨b, _, none⟩) hbw).trans h2, (hb2.cell (p := ⟨b, _, none⟩) hbw).trans h3, (hb2.cell (p := ⟨b, _, none⟩) hbw).trans h4, (hb2.cell (p := ⟨b, _, none⟩) hbw).trans h5, (hb2.cell (p := ⟨b, _, none⟩) hbw).trans h6, (hb2.cell (p := ⟨b, _, none⟩) hbw).trans h7, (hb2.cell (p := ⟨b', _, none⟩) hbw').trans h0', (hb2.cell (p := ⟨b', _, none⟩) hbw').trans h1', (hb2.cell (p := ⟨b', _, none⟩) hbw').trans h2', (hb2.cell (p := ⟨b', _, none⟩) hbw').trans h3', (hb2.cell (p := ⟨b', _, none⟩) hbw').trans h4', (hb2.cell (p := ⟨b', _, none⟩) hbw').trans h5', (hb2.cell (p := ⟨b', _, none⟩) hbw').trans h6', (hb2.cell (p := ⟨b', _, none⟩) hbw').trans h7'⟩) (first | (go_at_call 30; refine HC2.out.mono ?_; rintro e w2 ⟨rfl, hb2⟩; obtain ⟨hc2, hf2⟩ := below_bcell hb2))
      go_wp2
      go_roundw
      case rel => exact ⟨j + 1, by omega, by go_num, hbr.drew.trans (hb2.mono (by simp; omega))⟩
      case measure => simp [intOf]; omega
    · have hjl : j = L.length := by omega
      subst hjl
      go_wp2
      go_ret
      exact ⟨ret_bool rfl, hbr⟩
theorem sameN_any : ∀ t : Nd, SameN1 t := Nd.ind_ (fun _ _ _ _ l ih => sameN_of _ (sameNs_of l ih))
theorem sameNs_any (L : List Nd) : SameNs L := sameNs_of L (fun t _ => sameN_any t)
end Go.Proofs.YtelnakmlfpjeoaaDoor
namespace Go.Proofs.YtelnakmlfpjeoaaDoor
open Go.RowKit
set_option maxRecDepth 100000

mutual
/-- How many nodes are left of so many; below 0: more. -/
def ndN : Nd → Int → Int → Int
  | .mk _ _ s v l, left, deep => if left - 1 - (s.size : Int) / 16 < 0 ∨ 60 < deep then -1 else if fewT v (left - 1 - (s.size : Int) / 16) 0 < 0 then -1 else if ndAll l (fewT v (left - 1 - (s.size : Int) / 16) 0) (deep + 1) < 0 then -1 else ndAll l (fewT v (left - 1 - (s.size : Int) / 16) 0) (deep + 1)
def ndAll : List Nd → Int → Int → Int
  | [], left, _ => left
  | t :: r, left, deep => if ndN t left deep < 0 then -1 else ndAll r (ndN t left deep) deep
end
theorem ndAll_drop (l : List Nd) (j : Nat) (h : j < l.length) (y d : Int) : ndAll (l.drop j) y d = if ndN l[j] y d < 0 then -1 else ndAll (l.drop (j + 1)) (ndN l[j] y d) d := by
  rw [List.drop_eq_getElem_cons h, ndAll]
/-- What is left, with what was counted, is no more than there was. -/
theorem ndAll_cnt_of (l : List Nd) (H : ∀ t ∈ l, ∀ (y d : Int), 0 ≤ y → 0 ≤ ndN t y d → ndN t y d + (cnt t : Int) ≤ y) : ∀ (y d : Int), 0 ≤ y → 0 ≤ ndAll l y d → ndAll l y d + (cntAll l : Int) ≤ y := by
  induction l with
  | nil => intro y d _ _; rw [ndAll, cntAll]; omega
  | cons x r ihr =>
    intro y d hy h
    rw [ndAll] at h ⊢
    by_cases hx : ndN x y d < 0
    · rw [if_pos hx] at h; omega
    · rw [if_neg hx] at h ⊢
      have h1 := H x (by simp) y d hy (by omega)
      have h2 := ihr (fun t ht => H t (by simp [ht])) (ndN x y d) d (by omega) h
      rw [cntAll]; omega
theorem ndN_cnt : ∀ (t : Nd) (y d : Int), 0 ≤ y → 0 ≤ ndN t y d → ndN t y d + (cnt t : Int) ≤ y := by
  refine Nd.ind_ (fun o n s v l ih y d hy h => ?_)
  rw [ndN] at h ⊢
  by_cases h1 : y - 1 - (s.size : Int) / 16 < 0 ∨ 60 < d
  · rw [if_pos h1] at h; omega
  rw [if_neg h1] at h ⊢
  have hf := few_le v (y - 1 - (s.size : Int) / 16) 0 (by omega)
  by_cases h2 : fewT v (y - 1 - (s.size : Int) / 16) 0 < 0
  · rw [if_pos h2] at h; omega
  rw [if_neg h2] at h ⊢
  by_cases h3 : ndAll l (fewT v (y - 1 - (s.size : Int) / 16) 0) (d + 1) < 0
  · rw [if_pos h3] at h; omega
  rw [if_neg h3] at h ⊢
  have h4 := ndAll_cnt_of l ih _ (d + 1) (by omega) h
  rw [cnt]; omega
theorem ndAll_cnt (l : List Nd) (y d : Int) (hy : 0 ≤ y) (h : 0 ≤ ndAll l y d) : ndAll l y d + (cntAll l : Int) ≤ y := ndAll_cnt_of l (fun t _ => ndN_cnt t) y d hy h
theorem ndAll_neg : ∀ (l : List Nd) (y d : Int), ndAll l y d < 0 → 0 ≤ y → ndAll l y d = -1
  | [], y, d, h, hy => by rw [ndAll] at h; omega
  | x :: r, y, d, h, hy => by
    rw [ndAll] at h ⊢
    by_cases hx : ndN x y d < 0
    · rw [if_pos hx]
    · rw [if_neg hx] at h ⊢; exact ndAll_neg r _ d h (by omega)

theorem ndN_b1 {o n : Int} {s : ByteArray} {v : T} {l : List Nd} {x d : Int} (h : x - 1 - (s.size : Int) / 16 < 0 ∨ 60 < d) : ndN (.mk o n s v l) x d = -1 := by rw [ndN, if_pos h]
theorem ndN_b2 {o n : Int} {s : ByteArray} {v : T} {l : List Nd} {x d : Int} (h1 : ¬ (x - 1 - (s.size : Int) / 16 < 0 ∨ 60 < d)) (h : fewT v (x - 1 - (s.size : Int) / 16) 0 < 0) : ndN (.mk o n s v l) x d = -1 := by rw [ndN, if_neg h1, if_pos h]
theorem ndN_b3 {o n : Int} {s : ByteArray} {v : T} {l : List Nd} {x d : Int} (h1 : ¬ (x - 1 - (s.size : Int) / 16 < 0 ∨ 60 < d)) (h2 : ¬ fewT v (x - 1 - (s.size : Int) / 16) 0 < 0) (h : ndAll l (fewT v (x - 1 - (s.size : Int) / 16) 0) (d + 1) < 0) : ndN (.mk o n s v l) x d = -1 := by rw [ndN, if_neg h1, if_neg h2, if_pos h]
theorem ndN_ok {o n : Int} {s : ByteArray} {v : T} {l : List Nd} {x d : Int} (h1 : ¬ (x - 1 - (s.size : Int) / 16 < 0 ∨ 60 < d)) (h2 : ¬ fewT v (x - 1 - (s.size : Int) / 16) 0 < 0) (h : ¬ ndAll l (fewT v (x - 1 - (s.size : Int) / 16) 0) (d + 1) < 0) : ndN (.mk o n s v l) x d = ndAll l (fewT v (x - 1 - (s.size : Int) / 16) 0) (d + 1) := by rw [ndN, if_neg h1, if_neg h2, if_neg h]

def NdsOk (L : List Nd) : Prop := ∀ (w : World) (lo hi : Nat) (p : Option Addr) (cap : Nat) (y d : Int), NAll w lo hi L p → L.length ≤ cap → L.length * 112 ≤ 140737488355328 → hi ≤ w.heap.size → 0 ≤ y → y ≤ 6000 → 0 ≤ d → d ≤ 61 →
  Calls Tryd.prog 37 #[.slice p L.length cap, .int .i64 y, .int .i64 d] w fun e w' => e = .returned (.int .i64 (ndAll L y d)) ∧ Below w.heap.size w w'

set_option maxHeartbeats 1000000 in
theorem nds_of (L : List Nd) (ih : ∀ t ∈ L, NdsOk t.l) : NdsOk L := by
  intro w lo hi p cap y d hall hlc hcap hhi hy0 hy1 hd0 hd1
  have HIH := Lib.hid ih
  have HALL := Lib.hid hall
  clear ih hall
  go_enter Tryd.func37, Tryd.ntmps37
  go_wp2
  go_loopw [1, 7] (fun o i wr => ∃ (j : Nat) (x : Int), j ≤ L.length ∧ i = .int .i64 j ∧ o = .int .i64 x ∧ 0 ≤ x ∧ x ≤ 6000 ∧ Hid (ndAll L y d = ndAll (L.drop j) x d) ∧ Hid (Below w.heap.size w wr)) (fun _ i _ => L.length - (intOf i).toNat)
  case atStart => exact ⟨0, _, Nat.zero_le _, rfl, rfl, hy0, hy1, rfl, Below.refl _ _⟩
  case round =>
    obtain ⟨j, x, hj, rfl, rfl, hx0, hx1, HO, HBR⟩ := hrel
    have hz := HBR.out.size
    by_cases hlt : j < L.length
    · obtain ⟨b, off, o, n, s, v, ll, k, m, z, q, ql, qc, r, c, hp, _, hbhi, hli, h0, h1, h2, h3, h4, h5, h6, h7, hrep⟩ := (HALL.out.below HBR.out hhi).item j hlt
      have hA0 := ndAll_drop L j hlt x d
      have hih := HIH.out _ (List.getElem_mem hlt)
      rw [hli] at hA0 hrep hih
      simp only [Nd.l] at hih
      have hAA := Lib.hid (HO.out.trans hA0)
      obtain ⟨_, _, e1, erep, e2, e3, e4⟩ := hrep.parts
      have hbw : b < wr.heap.size := by omega
      subst hp
      clear hA0 hli HO hrep
      by_cases hc : x - 1 - (s.size : Int) / 16 < 0
      · have HF := Lib.hid (show ndAll L y d = -1 from by rw [hAA.out, ndN_b1 (.inl hc)]; rfl)
        clear hih erep e4 hAA
        go_wp2
        all_goals
          go_ret
          exact ⟨ret_int HF.out.symm, HBR.out⟩
      by_cases hd : 60 < d
      · have HF := Lib.hid (show ndAll L y d = -1 from by rw [hAA.out, ndN_b1 (.inr hd)]; rfl)
        clear hih erep e4 hAA
        go_wp2
        all_goals
          go_ret
          exact ⟨ret_int HF.out.symm, HBR.out⟩
      obtain ⟨y1, hy1e⟩ : ∃ y1, y1 = x - 1 - (s.size : Int) / 16 := ⟨_, rfl⟩
      have hle := few_le v y1 0 (by omega)
      have HV := Lib.hid (few_any v wr lo hi _ y1 0 erep (by omega) (by omega) (by omega) (by omega) (by omega))
      by_cases hf : fewT v y1 0 < 0
      · have HF := Lib.hid (show ndAll L y d = -1 from by rw [hAA.out, ndN_b2 (by omega) (hy1e ▸ hf)]; rfl)
        clear hih erep e4 hAA
        rw [hy1e] at HV hf
        go_wp2_with (go_at_call 59; refine HV.out.mono ?_; rintro e w2 ⟨rfl, hb2⟩; have HB2 := Lib.hid (HBR.out.trans (hb2.mono hz)); clear hb2)
        go_ret
        exact ⟨ret_int HF.out.symm, HB2.out⟩
      obtain ⟨y2, hy2e⟩ : ∃ y2, y2 = fewT v y1 0 := ⟨_, rfl⟩
      have HN := Lib.hid (fun (w2 : World) (hb2 : Below wr.heap.size wr w2) => hih w2 lo hi r c y2 (d + 1) (e4.below hb2 (by omega)) e2 e3 (by have := hb2.size; omega) (by omega) (by omega) (by omega) (by omega))
      by_cases hn : ndAll ll y2 (d + 1) < 0
      · have HF := Lib.hid (show ndAll L y d = -1 from by rw [hAA.out, ndN_b3 (by omega) (hy1e ▸ hf) (by rw [← hy1e, ← hy2e]; exact hn)]; rfl)
        clear hih erep e4 hAA
        rw [hy1e] at HV
        rw [hy1e] at hy2e
        rw [hy2e] at HN hn
        rw [hy1e] at hf
        go_wp2_with (first
          | (go_at_call 59; refine HV.out.mono ?_; rintro e w2 ⟨rfl, hb2⟩; have HB2 := Lib.hid (HBR.out.trans (hb2.mono hz)); have HN2 := Lib.hid (HN.out _ hb2); have h7w := (hb2.cell (p := ⟨b, off + j * 8 + 7, none⟩) hbw).trans h7; clear hb2)
          | (go_at_call 37; refine HN2.out.mono ?_; rintro e w3 ⟨rfl, hb3⟩; have HB3 := Lib.hid (HB2.out.trans (hb3.mono HB2.out.size)); clear hb3))
        go_ret
        exact ⟨ret_int HF.out.symm, HB3.out⟩
      · have hcn := ndAll_cnt ll y2 (d + 1) (by omega) (by omega)
        obtain ⟨y3, hy3e⟩ : ∃ y3, y3 = ndAll ll y2 (d + 1) := ⟨_, rfl⟩
        have HF := Lib.hid (show ndAll L y d = ndAll (L.drop (j + 1)) y3 d from by rw [hAA.out, ndN_ok (by omega) (hy1e ▸ hf) (by rw [← hy1e, ← hy2e]; exact hn), ← hy1e, ← hy2e, ← hy3e, if_neg (by rw [hy3e]; exact hn)])
        rw [← hy3e] at hn hcn
        have HN' := Lib.hid (fun w2 hb2 => by have := HN.out w2 hb2; rw [← hy3e] at this; exact this)
        have HV' := Lib.hid (by have := HV.out; rw [← hy2e] at this; rw [hy1e] at this; exact this)
        have hy2f : ¬ y2 < 0 := by omega
        have hy3b : y3 ≤ 6000 := by omega
        clear hih erep e4 hAA HN HV hy1e hy2e hy3e hf hcn
        go_wp2_with (first
          | (go_at_call 59; refine HV'.out.mono ?_; rintro e w2 ⟨rfl, hb2⟩; have HB2 := Lib.hid (HBR.out.trans (hb2.mono hz)); have HN2 := Lib.hid (HN'.out _ hb2); have h7w := (hb2.cell (p := ⟨b, off + j * 8 + 7, none⟩) hbw).trans h7; clear hb2)
          | (go_at_call 37; refine HN2.out.mono ?_; rintro e w3 ⟨rfl, hb3⟩; have HB3 := Lib.hid (HB2.out.trans (hb3.mono HB2.out.size)); clear hb3))
        go_roundw
        case rel => exact ⟨j + 1, y3, by omega, by go_num, rfl, by omega, hy3b, HF, HB3⟩
        case measure => simp [intOf]; omega
    · have hjl : j = L.length := by omega
      have HF := Lib.hid (show ndAll L y d = x from by rw [HO.out, hjl, List.drop_length, ndAll])
      go_wp2
      go_ret
      exact ⟨ret_int HF.out.symm, HBR.out⟩
theorem nds_any (L : List Nd) : NdsOk L := by
  have key : ∀ t : Nd, NdsOk t.l := Nd.ind_ (fun o n s v l ih => nds_of l ih)
  exact nds_of L (fun t _ => key t)

set_option maxHeartbeats 400000 in
theorem wNodes_any (L : List Nd) (most : Int) (hm0 : 0 ≤ most) (hm1 : most ≤ 6000) (w : World) (lo hi : Nat) (p : Option Addr) (cap : Nat) (hall : NAll w lo hi L p) (hlc : L.length ≤ cap) (hcap : L.length * 112 ≤ 140737488355328) (hhi : hi ≤ w.heap.size) :
    Calls Tryd.prog 9 #[.slice p L.length cap, .int .i64 most] w fun e w' => e = .returned (.bool (decide (0 ≤ ndAll L most 0))) ∧ Below w.heap.size w w' := by
  have HC := Lib.hid (nds_any L w lo hi p cap most 0 hall hlc hcap hhi hm0 hm1 (by omega) (by omega))
  clear hall
  go_enter Tryd.func9, Tryd.ntmps9
  go_wp2_with (go_at_call 37; refine HC.out.mono ?_; rintro e w2 ⟨rfl, hb2⟩)
  go_ret
  exact ⟨rfl, hb2⟩
end Go.Proofs.YtelnakmlfpjeoaaDoor
namespace Go.Proofs.YtelnakmlfpjeoaaDoor
open Go.RowKit
set_option maxRecDepth 100000

def NewN (w : World) (t : Nd) (e : Ending) (w' : World) : Prop := ∃ x, e = .returned x ∧ NRep w' w.heap.size w'.heap.size t x ∧ Below w.heap.size w w'
def NewNs (w : World) (l : List Nd) (e : Ending) (w' : World) : Prop := ∃ q c, e = .returned (.slice q l.length c) ∧ l.length ≤ c ∧ NAll w' w.heap.size w'.heap.size l q ∧ Below w.heap.size w w'
theorem Tryd.info_N : (Tryd.prog.info? 27).map (fun i => (i.zero, i.size, i.bytes)) = some (some (.agg #[.int .i64 0, .int .i64 0, .string ⟨#[]⟩, .int .i64 0, .int .i64 0, .string ⟨#[]⟩, .slice none 0 0, .slice none 0 0]), 8, 112) := by kernel_rfl
theorem nrep_form {w : World} {lo hi : Nat} {t : Nd} {x : Value} (h : NRep w lo hi t x) : ∃ (o n : Int) (s : ByteArray) (k m : Int) (z : ByteArray) (q : Option Addr) (ql qc : Nat) (r : Option Addr) (lc c : Nat), x = .agg #[.int .i64 o, .int .i64 n, .string s, .int .i64 k, .int .i64 m, .string z, .slice q ql qc, .slice r lc c] := by
  obtain ⟨o, n, s, v, l⟩ := t
  obtain ⟨k, m, z, q, ql, qc, p, cap, rfl, _⟩ := h.open
  exact ⟨_, _, _, _, _, _, _, _, _, _, _, _, rfl⟩
theorem held8 {a b c d e f g h r : Prop} (H : a ∧ b ∧ c ∧ d ∧ e ∧ f ∧ g ∧ h ∧ r) : a ∧ b ∧ c ∧ d ∧ e ∧ f ∧ g ∧ h := by
  obtain ⟨h1, h2, h3, h4, h5, h6, h7, h8, _⟩ := H; exact ⟨h1, h2, h3, h4, h5, h6, h7, h8⟩
def CopyNs (l : List Nd) : Prop := ∀ (w : World) (lo hi : Nat) (p : Option Addr) (cap : Nat), NAll w lo hi l p → l.length ≤ cap → l.length * 112 ≤ 140737488355328 → hi ≤ w.heap.size →
  Calls Tryd.prog 10 #[.slice p l.length cap] w (NewNs w l)
def CopyN (t : Nd) : Prop := ∀ (w : World) (lo hi : Nat) (x : Value), NRep w lo hi t x → hi ≤ w.heap.size → Calls Tryd.prog 38 #[x] w (NewN w t)

set_option maxHeartbeats 2000000 in
theorem copyNs_of (l : List Nd) (ih : ∀ t ∈ l, CopyN t) : CopyNs l := by
  intro w lo hi p cap hall _hlc hcap hhi
  cases hl : l with
  | nil =>
    simp only [List.length_nil]
    go_enter Tryd.func10, Tryd.ntmps10
    go_wp2
    go_ret
    exact ⟨none, 0, rfl, Nat.le_refl _, NAll.nil _ _ _ _, Below.refl _ _⟩
  | cons x xs =>
    have hpos : 0 < l.length := by rw [hl]; simp
    rw [← hl]
    clear hl
    have H := Lib.hid ih; clear ih
    have HALL := Lib.hid hall; clear hall
    obtain ⟨i0, hi0, hz0, hz1, hz2⟩ := info_parts Tryd.info_N
    have hmk : ∀ W : World, (Instr.makeSlice 22 (.int .i64 0) (.int .i64 (l.length : Int))).run Tryd.prog W = .ok (.slice (some ⟨W.heap.size, 0, none⟩) 0 l.length) (W.alloc (.cells (madeCells #[.int .i64 0, .int .i64 0, .string ⟨#[]⟩, .int .i64 0, .int .i64 0, .string ⟨#[]⟩, .slice none 0 0, .slice none 0 0] (l.length * 8)) 27)) := by
      intro W
      have h := run_make (P := Tryd.prog) W 22 27 i0 _ Tryd.underlying22 hi0 hz0 .i64 .i64 0 l.length (by omega) (by omega) (by rw [hz2]; omega) (by omega)
      rw [hz1] at h
      simpa [Value.cells] using h
    have hl0 : ((l.length : Int) == 0) = false := beq_eq_false_iff_ne.2 (by omega)
    go_enter Tryd.func10, Tryd.ntmps10
    go_wp2
    have hP := Lib.hid (NPart.start w (madeCells #[.int .i64 0, .int .i64 0, .string ⟨#[]⟩, .int .i64 0, .int .i64 0, .string ⟨#[]⟩, .slice none 0 0, .slice none 0 0] (l.length * 8)) l (size_madeCells _ _))
    have hW : Below w.heap.size w (w.alloc (.cells (madeCells #[.int .i64 0, .int .i64 0, .string ⟨#[]⟩, .int .i64 0, .int .i64 0, .string ⟨#[]⟩, .slice none 0 0, .slice none 0 0] (l.length * 8)) 27)) := (Below.refl _ _).alloc (Nat.le_refl _) _
    have hzz : l.length * 112 ≤ 140737488355328 := hcap
    clear hi0 hz0 hz1 hz2
    go_loopw [3, 4] (fun o i wr => ∃ j : Nat, j ≤ l.length ∧ i = .int .i64 j ∧ o = .slice (some ⟨w.heap.size, 0, none⟩) j l.length ∧ Hid (NPart wr w.heap.size l j) ∧ Hid (Below w.heap.size w wr)) (fun _ i _ => l.length - (intOf i).toNat)
    case atStart => exact ⟨0, Nat.zero_le _, rfl, rfl, hP, hW⟩
    case round =>
      obtain ⟨j, hj, rfl, rfl, HP, HBR⟩ := hrel
      have hz := HBR.out.size
      have hzl := HP.out.lt
      by_cases hlt : j < l.length
      · obtain ⟨b, off, o, n, s, v, ll, k, m, z, q, ql, qc, r, c, rfl, _, hbhi, hli, h0, h1, h2, h3, h4, h5, h6, h7, hrep⟩ := (HALL.out.below HBR.out hhi).item j hlt
        have HC := Lib.hid (H.out _ (List.getElem_mem hlt) _ lo hi _ hrep (by omega))
        clear hrep hli
        go_wp2_with (go_at_call 38; refine HC.out.mono ?_; rintro e w2 ⟨x2, rfl, hv, hb2⟩; obtain ⟨o2, n2, s2, k2, m2, z2, q2, ql2, qc2, r2, lc2, c2, rfl⟩ := nrep_form hv; have HV := Lib.hid hv; clear hv; have hbz := hb2.size; have HP2 := Lib.hid (HP.out.below hb2); have HB2 := Lib.hid (HBR.out.trans (hb2.mono hz)); clear hb2; have hwl : w.heap.size < w2.heap.size := (by omega); obtain ⟨⟨u0, hu0⟩, ⟨u1, hu1⟩, ⟨u2, hu2⟩, ⟨u3, hu3⟩, ⟨u4, hu4⟩, ⟨u5, hu5⟩, ⟨u6, hu6⟩, ⟨u7, hu7⟩, hfz⟩ := HP2.out.room j hlt; have hf0 := hfz (j * 8); have hf1 := hfz (j * 8 + 1); have hf2 := hfz (j * 8 + 2); have hf3 := hfz (j * 8 + 3); have hf4 := hfz (j * 8 + 4); have hf5 := hfz (j * 8 + 5); have hf6 := hfz (j * 8 + 6); have hf7 := hfz (j * 8 + 7); clear hfz)
        go_roundw
        case rel =>
          refine ⟨j + 1, by omega, by go_num, by go_num, ?_, ?_⟩
          · exact NPart.below (NPart.step HP2.out hlt _ _ _ _ _ _ _ _ (HV.out.wide (by omega) (Nat.le_refl _))) ((Below.refl _ _).alloc (Nat.le_refl _) _)
          · exact (below_set8 HB2.out (Nat.le_refl _) _ _ _ _ _ _ _ _).alloc (by rw [size_set8]; omega) _
        case measure => simp [intOf]; omega
      · have hjl : j = l.length := by omega
        subst hjl
        go_wp2
        go_ret
        exact ⟨_, _, rfl, Nat.le_refl _, HP.out.done, HBR.out⟩

set_option maxHeartbeats 4000000 in
theorem copyN_of (t : Nd) (ih : CopyNs t.l) : CopyN t := by
  intro w lo hi x hr hhi
  obtain ⟨o, n, s, v, l⟩ := t
  simp only [Nd.l] at ih
  obtain ⟨k, m, z, q, ql, qc, p, cap, rfl, hio, hin, hs, hrv, hlc, hcap, hall⟩ := hr.open
  have HCV := Lib.hid (fun W (hb : Below w.heap.size w W) => value_any v W lo hi _ (hrv.below hb hhi) (by have := hb.size; omega))
  have HCN := Lib.hid (fun W (hb : Below w.heap.size w W) => ih W lo hi p cap (hall.below hb hhi) hlc hcap (by have := hb.size; omega))
  obtain ⟨W1, hW1⟩ : ∃ W1, (w.alloc (.cells #[.int .i64 o, .int .i64 n, .string s, .int .i64 k, .int .i64 m, .string z, .slice q ql qc, .slice p l.length cap] 27)).alloc (.cells #[.int .i64 0, .int .i64 0, .string ⟨#[]⟩, .int .i64 0, .int .i64 0, .string ⟨#[]⟩, .slice none 0 0, .slice none 0 0] 27) = W1 := ⟨_, rfl⟩
  have HB1 : Hid (Below w.heap.size w W1) := hW1 ▸ (((Below.refl w.heap.size w).alloc (Nat.le_refl _) _).alloc (by simp) _)
  have HX : Hid (W1.heap[w.heap.size]? = some (.cells #[.int .i64 o, .int .i64 n, .string s, .int .i64 k, .int .i64 m, .string z, .slice q ql qc, .slice p l.length cap] 27 (0, 0))) := hW1 ▸ heap_alloc_ _ _ _ _ (heap_alloc_new w _)
  have HY : Hid (W1.heap[w.heap.size + 1]? = some (.cells #[.int .i64 0, .int .i64 0, .string ⟨#[]⟩, .int .i64 0, .int .i64 0, .string ⟨#[]⟩, .slice none 0 0, .slice none 0 0] 27 (0, 0))) := hW1 ▸ (by have h := heap_alloc_new (w.alloc (.cells #[.int .i64 o, .int .i64 n, .string s, .int .i64 k, .int .i64 m, .string z, .slice q ql qc, .slice p l.length cap] 27)) (.cells #[.int .i64 0, .int .i64 0, .string ⟨#[]⟩, .int .i64 0, .int .i64 0, .string ⟨#[]⟩, .slice none 0 0, .slice none 0 0] 27); rw [World.size_alloc] at h; exact h)
  have HSF := Lib.hid (fun W (hb : Below W1.heap.size W1 W) => box8_in _ _ _ _ _ _ _ _ _ _ _ (heap_old HX.out hb))
  have HD5 := Lib.hid (Below.refl W1.heap.size W1).drew
  obtain ⟨d0, d1, d2, d3, d4, d5, d6, d7, _⟩ := HSF.out _ HD5.out
  clear hr ih hrv hall
  go_enter Tryd.func38, Tryd.ntmps38
  go_upto_region 1 with fail
  go_region_held3 (fun W' => W'.cell? ⟨w.heap.size, 0, none⟩ = some (.int .i64 o) ∧ W'.cell? ⟨w.heap.size, 1, none⟩ = some (.int .i64 n) ∧ W'.cell? ⟨w.heap.size, 2, none⟩ = some (.string s) ∧ W'.cell? ⟨w.heap.size, 3, none⟩ = some (.int .i64 k) ∧ W'.cell? ⟨w.heap.size, 4, none⟩ = some (.int .i64 m) ∧ W'.cell? ⟨w.heap.size, 5, none⟩ = some (.string z) ∧ W'.cell? ⟨w.heap.size, 6, none⟩ = some (.slice q ql qc) ∧ W'.cell? ⟨w.heap.size, 7, none⟩ = some (.slice p l.length cap)) (first | with_reducible exact held8 (HSF.out _ HD5.out) | with_reducible exact held8 (HSF.out _ HD6.out) | with_reducible exact held8 (HSF.out _ HD7.out) | with_reducible exact held8 (HSF.out _ (below_set8 HD7.out (Nat.le_refl _) _ _ _ _ _ _ _ _)) | go_keep | (go_show; fail)) (first
    | (go_at_call 60; (with_reducible refine (HCV.out _ (HB1.out.trans (HD5.out.mono HB1.out.size))).mono ?_); rintro e w6 ⟨x6, rfl, hv6, hb6⟩; obtain ⟨k6, m6, z6, q6, ql6, qc6, rfl⟩ := rep_form hv6; have HV6 := Lib.hid hv6; have HD6 := Lib.hid (HD5.out.trans (hb6.mono HD5.out.size)); clear hv6 hb6; obtain ⟨a0, a1, a2, a3, a4, a5, a6, a7, _⟩ := HSF.out _ HD6.out)
    | (go_at_call 10; (with_reducible refine (HCN.out _ (HB1.out.trans (HD6.out.mono HB1.out.size))).mono ?_); rintro e w7 ⟨q7, c7, rfl, hlc7, hn7, hb7⟩; have HN7 := Lib.hid hn7; have HB7 := Lib.hid hb7; have HD7 := Lib.hid (HD6.out.trans (hb7.mono HD6.out.size)); clear hn7 hb7; obtain ⟨b0, b1, b2, b3, b4, b5, b6, b7, _⟩ := HSF.out _ HD7.out; obtain ⟨y0, y1, y2, y3, y4, y5, y6, y7, hyf⟩ := box8_in _ _ _ _ _ _ _ _ _ _ _ (heap_old HY.out HD7.out); have hyf0 := hyf 0; have hyf1 := hyf 1; have hyf2 := hyf 2; have hyf3 := hyf 3; have hyf4 := hyf 4; have hyf5 := hyf 5; have hyf6 := hyf 6; have hyf7 := hyf 7; clear hyf))
  go_wp2
  refine bodyPost_ret (v := .agg #[.int .i64 o, .int .i64 n, .string s, .int .i64 k6, .int .i64 m6, .string z6, .slice q6 ql6 qc6, .slice q7 l.length c7]) (by simp [results, Tryd.results38, go_sem, y0, y1, y2, y3, y4, y5, y6, y7]) rfl ?_
  have hb7 := HB1.out.trans (HD7.out.mono HB1.out.size)
  have h61 := (HB1.out.trans (HD6.out.mono HB1.out.size)).size
  refine ⟨_, rfl, ?_, below_set8 hb7 (Nat.le_succ _) _ _ _ _ _ _ _ _⟩
  have hN : NRep w7 (w.heap.size + 2) w7.heap.size (.mk o n s v l) (.agg #[.int .i64 o, .int .i64 n, .string s, .int .i64 k6, .int .i64 m6, .string z6, .slice q6 ql6 qc6, .slice q7 l.length c7]) := by
    unfold NRep
    refine ⟨k6, m6, z6, q6, ql6, qc6, q7, c7, rfl, hio, hin, hs, (HV6.out.below HB7.out (Nat.le_refl _)).keep ?_ HB7.out.size (fun _ _ _ => rfl), hlc7, hcap, HN7.out.wide ?_ (Nat.le_refl _)⟩
    · have := HD5.out.size; rw [← hW1] at this ⊢; simp
    · have := HD6.out.size; rw [← hW1] at this; simp at this; omega
  exact (hN.keep8 (Or.inl (by omega)) _ _ _ _ _ _ _ _).wide (by omega) (by rw [size_set8]; exact Nat.le_refl _)
theorem copyN_any : ∀ t : Nd, CopyN t := Nd.ind_ (fun _ _ _ _ _ ih => copyN_of _ (copyNs_of _ ih))
theorem copyNs_any (L : List Nd) : CopyNs L := copyNs_of L (fun t _ => copyN_any t)
end Go.Proofs.YtelnakmlfpjeoaaDoor
namespace Go.Proofs.YtelnakmlfpjeoaaDoor
open Go.RowKit
set_option maxRecDepth 100000

/-- A fault of the whole, as the document's words lay it. -/
def fltR : Flt → Value
  | .ok => fv 0
  | .bare k => fv (101 + k)
  | .at_ n k => fp (101 + k) n
structure VB (w W : World) (g : Nat) : Prop where
  bel : Below w.heap.size w W
  flt : W.heap[g]? = some (.cells #[.int .i64 0, .bool false, .int .i64 0, .int .i64 0, .int .i64 0, .string ⟨#[]⟩, .slice none 0 0] 36 (0, 0))
theorem VB.step {w W W' : World} {g : Nat} (h : VB w W g) (hb : Below W.heap.size W W') : VB w W' g := ⟨h.bel.trans (hb.mono h.bel.size), heap_old h.flt hb⟩
theorem fR_open (F : Option (Int × Nat)) : ∃ f0 f1 f2, fR F = .agg #[.int .i64 f0, .bool f1, .int .i64 f2, .int .i64 0, .int .i64 0, .string ByteArray.empty, .slice none 0 0] ∧ ((F = none ∧ f0 = 0) ∨ (f0 ≠ 0 ∧ ∃ fl fk, F = some (fl, fk))) := by
  cases F with
  | none => exact ⟨_, _, _, rfl, .inl ⟨rfl, rfl⟩⟩
  | some f => exact ⟨_, _, _, rfl, .inr ⟨by omega, f.1, f.2, rfl⟩⟩

set_option maxHeartbeats 1000000 in
theorem rvalid7_any (L : List Nd) (w : World) (lo hi : Nat) (p : Option Addr) (cap : Nat) (hall : NAll w lo hi L p) (hlc : L.length ≤ cap) (hcap : L.length * 112 ≤ 140737488355328) (hhi : hi ≤ w.heap.size) (hcn : cntAll L ≤ 1000000) :
    Calls Tryd.prog 13 #[.slice p L.length cap] w fun e w' => e = .returned (fltR (vldF L 0)) ∧ Below w.heap.size w w' := by
  have HALL := Lib.hid hall
  have hll := len_cnt L
  have HV := Lib.hid (show VB w (w.alloc (.cells #[.int .i64 0, .bool false, .int .i64 0, .int .i64 0, .int .i64 0, .string ⟨#[]⟩, .slice none 0 0] 36)) w.heap.size from ⟨(Below.refl _ _).alloc (Nat.le_refl _) _, heap_alloc_new w _⟩)
  have HTM := Lib.hid (fun (W : World) (hb : Below w.heap.size w W) => rtooMany_any L W lo hi p cap (hall.below hb hhi) hlc hcap (by have := hb.size; omega))
  have HDP := Lib.hid (fun (W : World) (hb : Below w.heap.size w W) => rdeep_any L W lo hi p cap (hall.below hb hhi) (by have := hb.size; omega) (by omega))
  obtain ⟨W1, hW1⟩ : ∃ W1, w.alloc (.cells #[.int .i64 0, .bool false, .int .i64 0, .int .i64 0, .int .i64 0, .string ⟨#[]⟩, .slice none 0 0] 36) = W1 := ⟨_, rfl⟩
  rw [hW1] at HV
  have hdl := dpNAll_le L
  clear hall
  by_cases h1 : 4096 < cntAll L
  · have HF := Lib.hid (show fltR (vldF L 0) = fv 104 from by unfold vldF; rw [if_pos h1]; rfl)
    have HM1 := Lib.hid (by have := HTM.out W1 HV.out.bel; rw [decide_eq_true h1] at this; exact this)
    clear h1 HTM HDP
    go_enter Tryd.func13, Tryd.ntmps13
    go_wp2_with (first
      | (go_at_call 42; refine HM1.out.mono ?_; rintro e w2 ⟨rfl, rfl⟩)
      | (go_at_call 43; refine (bare_any _ _).mono ?_; unfold fv; rintro e w3 ⟨rfl, hb3⟩; have HV3 := Lib.hid (HV.out.step hb3); obtain ⟨r0, r1, r2, r3, r4, r5, r6, hxf⟩ := box7_in _ _ _ _ _ _ _ _ _ _ HV3.out.flt; have hxf0 := hxf 0; have hxf1 := hxf 1; have hxf2 := hxf 2; have hxf3 := hxf 3; have hxf4 := hxf 4; have hxf5 := hxf 5; have hxf6 := hxf 6; clear hxf hb3))
    refine bodyPost_ret (v := fv 104) (by unfold fv; simp [results, Tryd.results13, go_sem, r0, r1, r2, r3, r4, r5, r6]) rfl ?_
    exact ⟨by rw [HF.out], below_set7 HV3.out.bel (Nat.le_refl _) _ _ _ _ _ _ _⟩
  have HM1 := Lib.hid (by have := HTM.out W1 HV.out.bel; rw [decide_eq_false h1] at this; exact this)
  have HD1 := Lib.hid (HDP.out W1 HV.out.bel)
  by_cases h2 : 40 < dpNAll L
  · have HF := Lib.hid (show fltR (vldF L 0) = fv 112 from by unfold vldF; rw [if_neg h1, if_pos h2]; rfl)
    have h2i : (40 : Int) < (dpNAll L : Int) := by omega
    clear h1 HTM HDP h2 hdl
    go_enter Tryd.func13, Tryd.ntmps13
    go_wp2_with (first
      | (go_at_call 42; refine HM1.out.mono ?_; rintro e w2 ⟨rfl, rfl⟩)
      | (go_at_call 21; refine HD1.out.mono ?_; rintro e w2 ⟨rfl, rfl⟩)
      | (go_at_call 43; refine (bare_any _ _).mono ?_; unfold fv; rintro e w3 ⟨rfl, hb3⟩; have HV3 := Lib.hid (HV.out.step hb3); obtain ⟨r0, r1, r2, r3, r4, r5, r6, hxf⟩ := box7_in _ _ _ _ _ _ _ _ _ _ HV3.out.flt; have hxf0 := hxf 0; have hxf1 := hxf 1; have hxf2 := hxf 2; have hxf3 := hxf 3; have hxf4 := hxf 4; have hxf5 := hxf 5; have hxf6 := hxf 6; clear hxf hb3))
    refine bodyPost_ret (v := fv 112) (by unfold fv; simp [results, Tryd.results13, go_sem, r0, r1, r2, r3, r4, r5, r6]) rfl ?_
    exact ⟨by rw [HF.out], below_set7 HV3.out.bel (Nat.le_refl _) _ _ _ _ _ _ _⟩
  have HF := Lib.hid (show vldF L 0 = firstF L 0 from by unfold vldF; rw [if_neg h1, if_neg h2])
  have h2i : ¬ (40 : Int) < (dpNAll L : Int) := by omega
  clear h1 HTM HDP h2 hdl
  go_enter Tryd.func13, Tryd.ntmps13
  go_wp2_with (first
    | (go_at_call 42; refine HM1.out.mono ?_; rintro e w2 ⟨rfl, rfl⟩)
    | (go_at_call 21; refine HD1.out.mono ?_; rintro e w2 ⟨rfl, rfl⟩))
  clear h2i HM1 HD1
  go_loopw [3] (fun i wr => ∃ j : Nat, j ≤ L.length ∧ i = .int .i64 j ∧ Hid (VB w wr w.heap.size) ∧ Hid (firstF (L.drop j) 0 = firstF L 0)) (fun i _ => L.length - (intOf i).toNat)
  case atStart => exact ⟨0, Nat.zero_le _, rfl, HV, Lib.hid rfl⟩
  case round =>
    obtain ⟨j, hj, rfl, HL, HD⟩ := hrel
    by_cases hlj : j < L.length
    · obtain ⟨b, off, o, n, s, v, ll, k, m, z, q, ql, qc, r, c, hp, _, hbhi, hli, h0, h1, h2, h3, h4, h5, h6, h7, hrep⟩ := (HALL.out.below HL.out.bel hhi).item j hlj
      have hmem : L[j] ∈ L := List.getElem_mem hlj
      have hcm := cntAll_mem hmem
      have hwr := HL.out.bel.size
      have HC := Lib.hid (rodd_any L[j] _ 0 false wr lo hi hrep (by omega) (by omega) (by omega))
      rw [show rp 0 = 9 from rfl] at HC
      have HDR := Lib.hid (firstF_drop L j hlj 0)
      have hbw : b < wr.heap.size := by omega
      subst hp
      clear hrep hmem hcm hli
      obtain ⟨F, hF⟩ : ∃ F, F = ckN L[j] 0 false := ⟨_, rfl⟩
      rw [← hF] at HC
      obtain ⟨f0, f1, f2, hf, hF0⟩ := fR_open F
      rw [hf] at HC
      have HFF := Lib.hid hf
      clear hf
      rcases hF0 with ⟨hFn, hf0⟩ | ⟨hf0, fl, fk, hFs⟩
      · subst hf0
        rw [← hF, hFn] at HDR
        clear hF HFF
        go_wp2_with (go_at_call 44; refine HC.out.mono ?_; rintro e w7 ⟨rfl, hb7⟩; have HL7 := Lib.hid (HL.out.step hb7); clear hb7)
        go_roundw
        case rel => exact ⟨j + 1, by omega, by go_num, Lib.hid (HL7.out.step ((Below.refl w7.heap.size w7).alloc (Nat.le_refl _) _)), Lib.hid (HDR.out.symm.trans HD.out)⟩
        case measure => simp [intOf]; omega
      · have hb0 : (f0 != 0) = true := by simpa using hf0
        rw [← hF, hFs] at HDR
        have HR := Lib.hid (show fltR (vldF L 0) = .agg #[.int .i64 f0, .bool f1, .int .i64 f2, .int .i64 0, .int .i64 0, .string ByteArray.empty, .slice none 0 0] from by
          rw [HF.out, ← HD.out, HDR.out]
          have := HFF.out
          rw [hFs] at this; exact this)
        clear hf0 hF HFF
        go_upto_region 10 with (go_at_call 44; refine HC.out.mono ?_; rintro e w7 ⟨rfl, hb7⟩; have HL7 := Lib.hid (HL.out.step hb7); clear hb7)
        have H7 := heap_alloc_new w7 (.cells #[.int .i64 f0, .bool f1, .int .i64 f2, .int .i64 0, .int .i64 0, .string ByteArray.empty, .slice none 0 0] 36)
        have HL8 := Lib.hid (HL7.out.step ((Below.refl w7.heap.size w7).alloc (Nat.le_refl _) (.cells #[.int .i64 f0, .bool f1, .int .i64 f2, .int .i64 0, .int .i64 0, .string ByteArray.empty, .slice none 0 0] 36)))
        have hne : w7.heap.size ≠ w.heap.size := by have := heap_lt HL7.out.flt; omega
        generalize w7.alloc (.cells #[.int .i64 f0, .bool f1, .int .i64 f2, .int .i64 0, .int .i64 0, .string ByteArray.empty, .slice none 0 0] 36) = W4 at *
        obtain ⟨g0, g1, g2, g3, g4, g5, g6, _⟩ := box7_in W4 w7.heap.size _ _ _ _ _ _ _ _ H7
        obtain ⟨r0, r1, r2, r3, r4, r5, r6, hxf⟩ := box7_in _ _ _ _ _ _ _ _ _ _ HL8.out.flt
        have hxf0 := hxf 0; have hxf1 := hxf 1; have hxf2 := hxf 2; have hxf3 := hxf 3; have hxf4 := hxf 4; have hxf5 := hxf 5; have hxf6 := hxf 6
        clear hxf H7 HL7 h0 h1 h2 h3 h4 h5 h6 h7 HC
        generalize w7.heap.size = g7 at *
        clear w7
        go_wp2_with fail
        refine bodyPost_ret (v := .agg #[.int .i64 f0, .bool f1, .int .i64 f2, .int .i64 0, .int .i64 0, .string ByteArray.empty, .slice none 0 0]) (by simp [results, Tryd.results13, go_sem, r0, r1, r2, r3, r4, r5, r6]) rfl ?_
        exact ⟨by rw [HR.out], below_set7 HL8.out.bel (Nat.le_refl _) _ _ _ _ _ _ _⟩
    · have hje : j = L.length := by omega
      have HR := Lib.hid (show fltR (vldF L 0) = fv 0 from by rw [HF.out, ← HD.out, hje, List.drop_length, firstF]; rfl)
      go_wp2_with (go_at_call 45; refine (none_any _).mono ?_; unfold fv; rintro e w6 ⟨rfl, hb6⟩; have HL2 := Lib.hid (HL.out.step hb6); obtain ⟨r0, r1, r2, r3, r4, r5, r6, hxf⟩ := box7_in _ _ _ _ _ _ _ _ _ _ HL2.out.flt; have hxf0 := hxf 0; have hxf1 := hxf 1; have hxf2 := hxf 2; have hxf3 := hxf 3; have hxf4 := hxf 4; have hxf5 := hxf 5; have hxf6 := hxf 6; clear hxf hb6)
      refine bodyPost_ret (v := fv 0) (by unfold fv; simp [results, Tryd.results13, go_sem, r0, r1, r2, r3, r4, r5, r6]) rfl ?_
      exact ⟨by rw [HR.out], below_set7 HL2.out.bel (Nat.le_refl _) _ _ _ _ _ _ _⟩

set_option maxHeartbeats 4000000 in
theorem rvexpr_any (t : Nd) (x : Value) (w : World) (lo hi : Nat) (hr : NRep w lo hi t x) (hlo : lo ≤ w.heap.size) (hhi : hi ≤ w.heap.size) (hcn : cntAll [t] ≤ 1000000) :
    Calls Tryd.prog 15 #[x] w fun e w' => e = .returned (fltR (vldF [t] 3)) ∧ Below w.heap.size w w' := by
  obtain ⟨o, n, s, v, l⟩ := t
  obtain ⟨k, m, z, q, ql, qc, p, cap, rfl, _⟩ := hr.open
  obtain ⟨W1, hW1⟩ : ∃ W1, (w.alloc (.cells #[.int .i64 o, .int .i64 n, .string s, .int .i64 k, .int .i64 m, .string z, .slice q ql qc, .slice p l.length cap] 27)).alloc (.cells #[.int .i64 0, .bool false, .int .i64 0, .int .i64 0, .int .i64 0, .string ⟨#[]⟩, .slice none 0 0] 36) = W1 := ⟨_, rfl⟩
  have HO1 : Hid (OB w W1 (.cells #[.int .i64 o, .int .i64 n, .string s, .int .i64 k, .int .i64 m, .string z, .slice q ql qc, .slice p l.length cap] 27)) := hW1 ▸ OB.start w _
  obtain ⟨x0, x1, x2, x3, x4, x5, x6, x7, _⟩ := box8_in _ _ _ _ _ _ _ _ _ _ _ HO1.out.nod
  have HX2 := Lib.hid (heap_alloc_new W1 (.cells #[.int .i64 o, .int .i64 n, .string s, .int .i64 k, .int .i64 m, .string z, .slice q ql qc, .slice p l.length cap] 27))
  have HO2 := Lib.hid (HO1.out.step ((Below.refl W1.heap.size W1).alloc (Nat.le_refl _) (.cells #[.int .i64 o, .int .i64 n, .string s, .int .i64 k, .int .i64 m, .string z, .slice q ql qc, .slice p l.length cap] 27)))
  have hW1s := HO1.out.bel.size
  have HRow := Lib.hid (one_row (hr.below HO2.out.bel hhi) W1.heap.size 27 (by omega) (by omega) HX2.out)
  have HRE := Lib.hid (fun W (hb : Below w.heap.size w W) => hr.below hb hhi)
  obtain ⟨W2, hW2⟩ : ∃ W2, W1.alloc (.cells #[.int .i64 o, .int .i64 n, .string s, .int .i64 k, .int .i64 m, .string z, .slice q ql qc, .slice p l.length cap] 27) = W2 := ⟨_, rfl⟩
  rw [hW2] at HX2 HO2 HRow
  have hlt := heap_lt HX2.out
  have HTM := Lib.hid (rtooMany_any [.mk o n s v l] W2 lo (W1.heap.size + 1) _ 1 HRow.out (by simp) (by simp) (by omega))
  have HDP := Lib.hid (rdeep_any [.mk o n s v l] W2 lo (W1.heap.size + 1) _ 1 HRow.out (by omega) (by omega))
  obtain ⟨y0, y1, y2, y3, y4, y5, y6, y7, _⟩ := box8_in _ _ _ _ _ _ _ _ _ _ _ HO2.out.nod
  have hc1 : cnt (.mk o n s v l) ≤ 1000000 := by rw [cntAll] at hcn; omega
  have HC := Lib.hid (rodd_any (.mk o n s v l) _ 3 false W2 lo hi (HRE.out _ HO2.out.bel) (by have := HO2.out.bel.size; omega) (by omega) (by omega))
  rw [show rp 3 = 1 from rfl] at HC
  obtain ⟨D, hD⟩ : ∃ D, D = dpNAll [.mk o n s v l] := ⟨_, rfl⟩
  rw [← hD] at HDP
  have hdl : D ≤ 1000000 := by have := dpNAll_le [.mk o n s v l]; omega
  clear hr hcn HRow HX2 HRE
  by_cases h1 : 4096 < cntAll [.mk o n s v l]
  · have HF := Lib.hid (show fltR (vldF [.mk o n s v l] 3) = fv 104 from by unfold vldF; rw [if_pos h1]; rfl)
    rw [decide_eq_true h1] at HTM
    clear h1 hD
    go_enter Tryd.func15, Tryd.ntmps15
    go_wp2_with (first
      | (go_at_call 42; refine HTM.out.mono ?_; rintro e w2 ⟨rfl, rfl⟩)
      | (go_at_call 43; refine (bare_any _ _).mono ?_; unfold fv; rintro e w3 ⟨rfl, hb3⟩; have HO3 := Lib.hid (HO2.out.step hb3); obtain ⟨r0, r1, r2, r3, r4, r5, r6, hxf⟩ := box7_in _ _ _ _ _ _ _ _ _ _ HO3.out.flt; have hxf0 := hxf 0; have hxf1 := hxf 1; have hxf2 := hxf 2; have hxf3 := hxf 3; have hxf4 := hxf 4; have hxf5 := hxf 5; have hxf6 := hxf 6; clear hxf hb3))
    refine bodyPost_ret (v := fv 104) (by unfold fv; simp [results, Tryd.results15, go_sem, r0, r1, r2, r3, r4, r5, r6]) rfl ?_
    exact ⟨by rw [HF.out], below_set7 HO3.out.bel (Nat.le_succ _) _ _ _ _ _ _ _⟩
  rw [decide_eq_false h1] at HTM
  by_cases h2 : 40 < D
  · have HF := Lib.hid (show fltR (vldF [.mk o n s v l] 3) = fv 112 from by unfold vldF; rw [if_neg h1, if_pos (hD ▸ h2)]; rfl)
    have h2i : (40 : Int) < (D : Int) := by omega
    clear h1 hD h2
    go_enter Tryd.func15, Tryd.ntmps15
    go_wp2_with (first
      | (go_at_call 42; refine HTM.out.mono ?_; rintro e w2 ⟨rfl, rfl⟩)
      | (go_at_call 21; refine HDP.out.mono ?_; rintro e w2 ⟨rfl, rfl⟩)
      | (go_at_call 43; refine (bare_any _ _).mono ?_; unfold fv; rintro e w3 ⟨rfl, hb3⟩; have HO3 := Lib.hid (HO2.out.step hb3); obtain ⟨r0, r1, r2, r3, r4, r5, r6, hxf⟩ := box7_in _ _ _ _ _ _ _ _ _ _ HO3.out.flt; have hxf0 := hxf 0; have hxf1 := hxf 1; have hxf2 := hxf 2; have hxf3 := hxf 3; have hxf4 := hxf 4; have hxf5 := hxf 5; have hxf6 := hxf 6; clear hxf hb3))
    refine bodyPost_ret (v := fv 112) (by unfold fv; simp [results, Tryd.results15, go_sem, r0, r1, r2, r3, r4, r5, r6]) rfl ?_
    exact ⟨by rw [HF.out], below_set7 HO3.out.bel (Nat.le_succ _) _ _ _ _ _ _ _⟩
  have h2i : ¬ (40 : Int) < (D : Int) := by omega
  obtain ⟨f0, f1, f2, hf, _⟩ := fR_open (ckN (.mk o n s v l) 3 false)
  have HR := Lib.hid (show fltR (vldF [.mk o n s v l] 3) = .agg #[.int .i64 f0, .bool f1, .int .i64 f2, .int .i64 0, .int .i64 0, .string ByteArray.empty, .slice none 0 0] from by
    unfold vldF
    rw [if_neg h1, if_neg (hD ▸ h2), firstF, ← hf]
    cases ckN (.mk o n s v l) 3 false <;> rfl)
  rw [hf] at HC
  clear h1 hD h2 hf
  go_enter Tryd.func15, Tryd.ntmps15
  go_wp2_with (first
    | (go_at_call 42; refine HTM.out.mono ?_; rintro e w2 ⟨rfl, rfl⟩)
    | (go_at_call 21; refine HDP.out.mono ?_; rintro e w2 ⟨rfl, rfl⟩)
    | (go_at_call 44; refine HC.out.mono ?_; rintro e w3 ⟨rfl, hb3⟩; have HO3 := Lib.hid (HO2.out.step hb3); obtain ⟨r0, r1, r2, r3, r4, r5, r6, hxf⟩ := box7_in _ _ _ _ _ _ _ _ _ _ HO3.out.flt; have hxf0 := hxf 0; have hxf1 := hxf 1; have hxf2 := hxf 2; have hxf3 := hxf 3; have hxf4 := hxf 4; have hxf5 := hxf 5; have hxf6 := hxf 6; clear hxf hb3))
  refine bodyPost_ret (v := .agg #[.int .i64 f0, .bool f1, .int .i64 f2, .int .i64 0, .int .i64 0, .string ByteArray.empty, .slice none 0 0]) (by simp [results, Tryd.results15, go_sem, r0, r1, r2, r3, r4, r5, r6]) rfl ?_
  exact ⟨by rw [HR.out], below_set7 HO3.out.bel (Nat.le_succ _) _ _ _ _ _ _ _⟩
end Go.Proofs.YtelnakmlfpjeoaaDoor
namespace Go.Proofs.YtelnakmlfpjeoaaDoor
open Go.RowKit
set_option maxRecDepth 100000

def FltOk : Flt → Prop
  | .ok => True
  | .bare k => k < 17
  | .at_ _ k => k < 17
mutual
theorem ckN_lt : ∀ (t : Nd) (a : Int) (lp : Bool) (f : Int × Nat), ckN t a lp = some f → f.2 < 17
  | .mk o n s v l, a, lp, f, h => by
    rw [ckN] at h
    split at h
    · injection h with h; subst h; show (2 : Nat) < 17; omega
    · split at h
      · injection h with h; subst h; show (5 : Nat) < 17; omega
      · exact ckL_lt l 0 o a (loopIn o lp) _ f h
theorem ckL_lt : ∀ (l : List Nd) (i : Nat) (o a : Int) (lp : Bool) (last : Int) (f : Int × Nat), ckL l i o a lp last = some f → f.2 < 17
  | [], _, _, _, _, _, _, h => by rw [ckL] at h; cases h
  | t :: r, i, o, a, lp, last, f, h => by
    rw [ckL] at h
    cases hc : ckN t (placeInN o a i last) lp with
    | some g => rw [hc] at h; injection h with h; subst h; exact ckN_lt t _ lp g hc
    | none => rw [hc] at h; exact ckL_lt r (i + 1) o a lp last f h
end
theorem firstF_ok : ∀ (l : List Nd) (a : Int), FltOk (firstF l a)
  | [], _ => trivial
  | t :: r, a => by
    rw [firstF]
    cases hc : ckN t a false with
    | some f => exact ckN_lt t a false f hc
    | none => exact firstF_ok r a
theorem vldF_ok (l : List Nd) (a : Int) : FltOk (vldF l a) := by
  unfold vldF
  split
  · show (3 : Nat) < 17; omega
  · split
    · show (11 : Nat) < 17; omega
    · exact firstF_ok l a

/-- What the program answered is seen as the fault. -/
theorem see_flt (ad : Nat → Addr) (F : Flt) (hF : FltOk F) (w0 : World) (e : Ending) (w1 : World) (h : VPost ad F w0 e w1) :
    ∃ v, e = .returned v ∧ Hid (∀ W, Below w1.heap.size w1 W → Sents W ad → Calls Tryd.prog 11 #[v, fltR F] W fun e w' => e = .returned (.bool true) ∧ Below W.heap.size W w') := by
  obtain ⟨hb, h⟩ := h
  cases F with
  | ok =>
    refine ⟨_, h, Lib.hid fun W _ hS => ?_⟩
    have := seeSame_any ad none (fun _ h => by cases h) 0 W hS
    exact this
  | bare k =>
    refine ⟨_, h, Lib.hid fun W _ hS => ?_⟩
    have := seeSame_any ad (some k) (fun j h => by injection h with h; subst h; exact hF) (101 + k) W hS
    rw [show (errCode (some k) == 101 + (k : Int)) = true from by simp [errCode]] at this
    exact this
  | at_ n k =>
    obtain ⟨bk, he, hle, hbx⟩ := h
    refine ⟨_, he, Lib.hid fun W hW hS => ?_⟩
    exact seeSame_at ad k hF bk n W hS (heap_old hbx hW)

set_option maxHeartbeats 4000000 in
theorem treeValid_all (ad : Nat → Addr) (L : List Nd) (t : Nd) (p : Option Addr) (cap : Nat) (x : Value) (w : World) (hall : NAll w 0 w.heap.size L p) (hlc : L.length ≤ cap) (hcap : L.length * 112 ≤ 140737488355328) (hr : NRep w 0 w.heap.size t x) (hS : Sents w ad) :
    Calls Tryd.prog 3 #[.slice p L.length cap, x] w fun e w' => e = .returned (.bool true) ∧ Below w.heap.size w w' := by
  obtain ⟨o, n, s, v, l⟩ := t
  obtain ⟨k, m, z, q, ql, qc, r, c, rfl, _⟩ := hr.open
  obtain ⟨W1, hW1⟩ : ∃ W1, w.alloc (.cells #[.int .i64 o, .int .i64 n, .string s, .int .i64 k, .int .i64 m, .string z, .slice q ql qc, .slice r l.length c] 27) = W1 := ⟨_, rfl⟩
  have HB1 : Hid (Below w.heap.size w W1) := hW1 ▸ ((Below.refl w.heap.size w).alloc (Nat.le_refl _) _)
  have HX1 : Hid (W1.heap[w.heap.size]? = some (.cells #[.int .i64 o, .int .i64 n, .string s, .int .i64 k, .int .i64 m, .string z, .slice q ql qc, .slice r l.length c] 27 (0, 0))) := hW1 ▸ heap_alloc_new w _
  have HS := Lib.hid (fun W (hb : Below w.heap.size w W) => hS.below hb)
  have HALL := Lib.hid (fun W (hb : Below w.heap.size w W) => hall.below hb (Nat.le_refl _))
  have HREP := Lib.hid (fun W (hb : Below w.heap.size w W) => hr.below hb (Nat.le_refl _))
  have HN1 := Lib.hid (fun W (hb : Below w.heap.size w W) => wNodes_any L 5000 (by omega) (by omega) W 0 w.heap.size p cap (HALL.out W hb) hlc hcap hb.size)
  have HROW := Lib.hid (fun (W : World) (g : Nat) (hb : Below w.heap.size w W) (hg : w.heap.size ≤ g) (hx : W.heap[g]? = some (.cells #[.int .i64 o, .int .i64 n, .string s, .int .i64 k, .int .i64 m, .string z, .slice q ql qc, .slice r l.length c] 27 (0, 0))) =>
    (show Calls Tryd.prog 9 #[.slice (some ⟨g, 0, none⟩) 1 1, .int .i64 5000] W fun e w' => e = .returned (.bool (decide (0 ≤ ndAll [.mk o n s v l] 5000 0))) ∧ Below W.heap.size W w' from wNodes_any [.mk o n s v l] 5000 (by omega) (by omega) W 0 (g + 1) (some ⟨g, 0, none⟩) 1 (one_row (HREP.out W hb) g _ hg (Nat.zero_le _) hx) (by simp) (by simp) (heap_lt hx)))
  have HFI := Lib.hid (fun W (hb : Below w.heap.size w W) => first7_any ad W (HS.out W hb))
  clear hall hr hS
  by_cases h1 : 0 ≤ ndAll L 5000 0
  · by_cases h2 : 0 ≤ ndAll [.mk o n s v l] 5000 0
    · have hc1 := ndAll_cnt L 5000 0 (by omega) h1
      have hc2 := ndAll_cnt [.mk o n s v l] 5000 0 (by omega) h2
      have HN1b := Lib.hid (fun W hb => by have := HN1.out W hb; rw [decide_eq_true h1] at this; exact this)
      have HROWb := Lib.hid (fun W g hb hg hx => by have := HROW.out W g hb hg hx; rw [decide_eq_true h2] at this; exact this)
      have HCP := Lib.hid (fun W (hb : Below w.heap.size w W) => copyNs_any L W 0 w.heap.size p cap (HALL.out W hb) hlc hcap hb.size)
      have HTV := Lib.hid (fun W (hb : Below w.heap.size w W) => tvalid_any ad L W 0 w.heap.size p cap (HALL.out W hb) hb.size hlc hcap (HS.out W hb))
      have HRV := Lib.hid (fun W (hb : Below w.heap.size w W) => rvalid7_any L W 0 w.heap.size p cap (HALL.out W hb) hlc hcap hb.size (by omega))
      have HTE := Lib.hid (fun W (hb : Below w.heap.size w W) => texpr_any ad (.mk o n s v l) _ W 0 w.heap.size (HREP.out W hb) (Nat.zero_le _) hb.size (HS.out W hb))
      have HRE := Lib.hid (fun W (hb : Below w.heap.size w W) => rvexpr_any (.mk o n s v l) _ W 0 w.heap.size (HREP.out W hb) (Nat.zero_le _) hb.size (by omega))
      have HF1 := Lib.hid (vldF_ok L 0)
      have HF2 := Lib.hid (vldF_ok [.mk o n s v l] 3)
      obtain ⟨F1, hF1⟩ : ∃ F1, F1 = vldF L 0 := ⟨_, rfl⟩
      obtain ⟨F2, hF2⟩ : ∃ F2, F2 = vldF [.mk o n s v l] 3 := ⟨_, rfl⟩
      rw [← hF1] at HTV HRV HF1
      rw [← hF2] at HTE HRE HF2
      clear HN1 HROW h1 h2 hc1 hc2 hF1 hF2
      obtain ⟨x0, x1, x2, x3, x4, x5, x6, x7, _⟩ := box8_in _ _ _ _ _ _ _ _ _ _ _ HX1.out
      go_enter Tryd.func3, Tryd.ntmps3
      go_upto_region 7 with (first
        | (go_at_call 8; refine (HFI.out _ HB1.out).mono ?_; rintro e w2 ⟨rfl, hb2⟩; have HB2 := Lib.hid (HB1.out.trans (hb2.mono HB1.out.size)); have HX2 := Lib.hid (heap_old HX1.out hb2); obtain ⟨y0, y1, y2, y3, y4, y5, y6, y7, _⟩ := box8_in _ _ _ _ _ _ _ _ _ _ _ HX2.out; clear hb2)
        | (go_at_call 9; refine (HN1b.out _ HB2.out).mono ?_; clear HN1b; rintro e w3 ⟨rfl, hb3⟩; have HB3 := Lib.hid (HB2.out.trans (hb3.mono HB2.out.size)); have HX3 := Lib.hid (heap_old HX2.out hb3); obtain ⟨z0, z1, z2, z3, z4, z5, z6, z7, _⟩ := box8_in _ _ _ _ _ _ _ _ _ _ _ HX3.out; clear hb3)
        | (go_at_call 9; refine (HROWb.out _ _ (HB3.out.alloc HB3.out.size _) HB3.out.size (heap_alloc_new w3 _)).mono ?_; rintro e w5 ⟨rfl, hb5⟩; have HB5 := Lib.hid ((HB3.out.alloc HB3.out.size _).trans (hb5.mono (HB3.out.alloc HB3.out.size _).size)); have HX5 := Lib.hid (heap_old (heap_alloc_ _ _ _ _ HX3.out) hb5); obtain ⟨u0, u1, u2, u3, u4, u5, u6, u7, _⟩ := box8_in _ _ _ _ _ _ _ _ _ _ _ HX5.out; clear hb5)
        | (go_at_call 10; (with_reducible refine (HCP.out _ HB5.out).mono ?_); rintro e w6 ⟨q6, c6, rfl, hq6, hn6, hb6⟩; have HN6 := Lib.hid hn6; have HB6 := Lib.hid (HB5.out.trans (hb6.mono HB5.out.size)); have HX6 := Lib.hid (heap_old HX5.out hb6); clear hn6 hb6))
      have HSF := Lib.hid (fun W (hb : Below w6.heap.size w6 W) => heap_old HX6.out hb)
      have HD6 := Lib.hid (Below.refl w6.heap.size w6).drew
      have HSN := Lib.hid (fun W (hb : Below w6.heap.size w6 W) => sameNs_any L W 0 w.heap.size p cap (HALL.out W (HB6.out.trans (hb.mono HB6.out.size))) (HB6.out.trans (hb.mono HB6.out.size)).size hcap w5.heap.size w6.heap.size q6 c6 (HN6.out.below hb (Nat.le_refl _)) hb.size)
      obtain ⟨e0, e1, e2, e3, e4, e5, e6, e7, _⟩ := box8_in _ _ _ _ _ _ _ _ _ _ _ (HSF.out _ HD6.out)
      clear x0 x1 x2 x3 x4 x5 x6 x7 y0 y1 y2 y3 y4 y5 y6 y7 z0 z1 z2 z3 z4 z5 z6 z7 u0 u1 u2 u3 u4 u5 u6 u7
      go_region_held3 (fun W' => W'.cell? ⟨w.heap.size, 0, none⟩ = some (.int .i64 o) ∧ W'.cell? ⟨w.heap.size, 1, none⟩ = some (.int .i64 n) ∧ W'.cell? ⟨w.heap.size, 2, none⟩ = some (.string s) ∧ W'.cell? ⟨w.heap.size, 3, none⟩ = some (.int .i64 k) ∧ W'.cell? ⟨w.heap.size, 4, none⟩ = some (.int .i64 m) ∧ W'.cell? ⟨w.heap.size, 5, none⟩ = some (.string z) ∧ W'.cell? ⟨w.heap.size, 6, none⟩ = some (.slice q ql qc) ∧ W'.cell? ⟨w.heap.size, 7, none⟩ = some (.slice r l.length c)) (first | with_reducible exact held8 (box8_in _ _ _ _ _ _ _ _ _ _ _ (HSF.out _ HD6.out)) | with_reducible exact held8 (box8_in _ _ _ _ _ _ _ _ _ _ _ (HSF.out _ HD7.out)) | with_reducible exact held8 (box8_in _ _ _ _ _ _ _ _ _ _ _ (HSF.out _ HD8.out)) | with_reducible exact held8 (box8_in _ _ _ _ _ _ _ _ _ _ _ (HSF.out _ HD9.out)) | with_reducible exact held8 (box8_in _ _ _ _ _ _ _ _ _ _ _ (HSF.out _ HD10.out)) | with_reducible exact held8 (box8_in _ _ _ _ _ _ _ _ _ _ _ (HSF.out _ HD11.out)) | with_reducible exact held8 (box8_in _ _ _ _ _ _ _ _ _ _ _ (HSF.out _ HD12.out)) | with_reducible exact held8 (box8_in _ _ _ _ _ _ _ _ _ _ _ (HSF.out _ HD13.out)) | (go_show; fail)) (first
        | (go_at_call 12; (with_reducible refine (HTV.out _ (HB6.out.trans (HD6.out.mono HB6.out.size))).mono ?_); intro e w7 h7; obtain ⟨v7, rfl, HS7⟩ := see_flt ad F1 HF1.out _ _ _ h7; have HD7 := Lib.hid (HD6.out.trans (h7.1.mono HD6.out.size)); obtain ⟨a0, a1, a2, a3, a4, a5, a6, a7, _⟩ := box8_in _ _ _ _ _ _ _ _ _ _ _ (HSF.out _ HD7.out); clear h7)
        | (go_at_call 13; (with_reducible refine (HRV.out _ (HB6.out.trans (HD7.out.mono HB6.out.size))).mono ?_); rintro e w8 ⟨rfl, hb8⟩; have HD8 := Lib.hid (HD7.out.trans (hb8.mono HD7.out.size)); have HC8 := Lib.hid (HS7.out w8 hb8 (HS.out _ (HB6.out.trans (HD8.out.mono HB6.out.size)))); obtain ⟨b0, b1, b2, b3, b4, b5, b6, b7, _⟩ := box8_in _ _ _ _ _ _ _ _ _ _ _ (HSF.out _ HD8.out); clear hb8)
        | (go_at_call 11; (with_reducible refine HC11.out.mono ?_); rintro e w12 ⟨rfl, hb12⟩; have HD12 := Lib.hid (HD11.out.trans (hb12.mono HD11.out.size)); obtain ⟨f0, f1, f2, f3, f4, f5, f6, f7, _⟩ := box8_in _ _ _ _ _ _ _ _ _ _ _ (HSF.out _ HD12.out); clear hb12)
        | (go_at_call 11; (with_reducible refine HC8.out.mono ?_); rintro e w9 ⟨rfl, hb9⟩; have HD9 := Lib.hid (HD8.out.trans (hb9.mono HD8.out.size)); obtain ⟨d0, d1, d2, d3, d4, d5, d6, d7, _⟩ := box8_in _ _ _ _ _ _ _ _ _ _ _ (HSF.out _ HD9.out); clear hb9)
        | (go_at_call 14; (with_reducible refine (HTE.out _ (HB6.out.trans (HD9.out.mono HB6.out.size))).mono ?_); intro e w10 h10; obtain ⟨v10, rfl, HS10⟩ := see_flt ad F2 HF2.out _ _ _ h10; have HD10 := Lib.hid (HD9.out.trans (h10.1.mono HD9.out.size)); obtain ⟨g0, g1, g2, g3, g4, g5, g6, g7, _⟩ := box8_in _ _ _ _ _ _ _ _ _ _ _ (HSF.out _ HD10.out); clear h10)
        | (go_at_call 15; (with_reducible refine (HRE.out _ (HB6.out.trans (HD10.out.mono HB6.out.size))).mono ?_); rintro e w11 ⟨rfl, hb11⟩; have HD11 := Lib.hid (HD10.out.trans (hb11.mono HD10.out.size)); have HC11 := Lib.hid (HS10.out w11 hb11 (HS.out _ (HB6.out.trans (HD11.out.mono HB6.out.size)))); obtain ⟨h0, h1, h2, h3, h4, h5, h6, h7, _⟩ := box8_in _ _ _ _ _ _ _ _ _ _ _ (HSF.out _ HD11.out); clear hb11)
        | (go_at_call 16; (with_reducible refine (HSN.out _ HD12.out).mono ?_); rintro e w13 ⟨rfl, hb13⟩; have HD13 := Lib.hid (HD12.out.trans (hb13.mono HD12.out.size)); clear hb13))
      go_wp2
      go_ret
      exact ⟨ret_bool rfl, HB6.out.trans (HD13.out.mono HB6.out.size)⟩
    · have hf2 : decide (0 ≤ ndAll [.mk o n s v l] 5000 0) = false := decide_eq_false h2
      have HN1b := Lib.hid (fun W hb => by have := HN1.out W hb; rw [decide_eq_true h1] at this; exact this)
      have HROWb := Lib.hid (fun W g hb hg hx => by have := HROW.out W g hb hg hx; rw [hf2] at this; exact this)
      clear HN1 HROW h1 h2 hf2
      obtain ⟨x0, x1, x2, x3, x4, x5, x6, x7, _⟩ := box8_in _ _ _ _ _ _ _ _ _ _ _ HX1.out
      go_enter Tryd.func3, Tryd.ntmps3
      go_wp2_with (first
        | (go_at_call 8; refine (HFI.out _ HB1.out).mono ?_; rintro e w2 ⟨rfl, hb2⟩; have HB2 := Lib.hid (HB1.out.trans (hb2.mono HB1.out.size)); have HX2 := Lib.hid (heap_old HX1.out hb2); obtain ⟨y0, y1, y2, y3, y4, y5, y6, y7, _⟩ := box8_in _ _ _ _ _ _ _ _ _ _ _ HX2.out; clear hb2)
        | (go_at_call 9; refine (HN1b.out _ HB2.out).mono ?_; clear HN1b; rintro e w3 ⟨rfl, hb3⟩; have HB3 := Lib.hid (HB2.out.trans (hb3.mono HB2.out.size)); have HX3 := Lib.hid (heap_old HX2.out hb3); obtain ⟨z0, z1, z2, z3, z4, z5, z6, z7, _⟩ := box8_in _ _ _ _ _ _ _ _ _ _ _ HX3.out; clear hb3)
        | (go_at_call 9; refine (HROWb.out _ _ (HB3.out.alloc HB3.out.size _) HB3.out.size (heap_alloc_new w3 _)).mono ?_; rintro e w5 ⟨rfl, hb5⟩; have HB5 := Lib.hid ((HB3.out.alloc HB3.out.size _).trans (hb5.mono (HB3.out.alloc HB3.out.size _).size)); have HX5 := Lib.hid (heap_old (heap_alloc_ _ _ _ _ HX3.out) hb5); obtain ⟨u0, u1, u2, u3, u4, u5, u6, u7, _⟩ := box8_in _ _ _ _ _ _ _ _ _ _ _ HX5.out; clear hb5))
      go_ret
      exact ⟨ret_bool rfl, HB5.out⟩
  · have HN1b := Lib.hid (fun W hb => by have := HN1.out W hb; rw [decide_eq_false h1] at this; exact this)
    clear HN1 HROW h1
    go_enter Tryd.func3, Tryd.ntmps3
    go_wp2_with (first
      | (go_at_call 8; refine (HFI.out _ HB1.out).mono ?_; rintro e w2 ⟨rfl, hb2⟩; have HB2 := Lib.hid (HB1.out.trans (hb2.mono HB1.out.size)); have HX2 := Lib.hid (heap_old HX1.out hb2); obtain ⟨y0, y1, y2, y3, y4, y5, y6, y7, _⟩ := box8_in _ _ _ _ _ _ _ _ _ _ _ HX2.out; clear hb2)
      | (go_at_call 9; refine (HN1b.out _ HB2.out).mono ?_; clear HN1b; rintro e w3 ⟨rfl, hb3⟩; have HB3 := Lib.hid (HB2.out.trans (hb3.mono HB2.out.size)); have HX3 := Lib.hid (heap_old HX2.out hb3); obtain ⟨z0, z1, z2, z3, z4, z5, z6, z7, _⟩ := box8_in _ _ _ _ _ _ _ _ _ _ _ HX3.out; clear hb3))
    go_ret
    exact ⟨ret_bool rfl, HB3.out⟩
end Go.Proofs.YtelnakmlfpjeoaaDoor
