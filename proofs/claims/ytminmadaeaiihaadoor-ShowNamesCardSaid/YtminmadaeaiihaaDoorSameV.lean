/- The document's plain equality of values: SameValue, SameValues. -/
import Derived.Test.YtminmadaeaiihaaDoorSmall
import Derived.Deep.QuietTactic
import Derived.Deep.RegionHeld3
import Derived.BigQuiet
namespace Go.Proofs.YtminmadaeaiihaaDoor
open Go.RowKit

mutual
def eqV : T → T → Bool
  | .mk k n s l, .mk k' n' s' l' => eqAll l l' && k == k' && n == n' && s.toList == s'.toList
def eqAll : List T → List T → Bool
  | [], [] => true
  | t :: r, t' :: r' => eqV t t' && eqAll r r'
  | _, _ => false
end
theorem eqAll_drop (l l' : List T) (j : Nat) (h : j < l.length) (h' : j < l'.length) : eqAll (l.drop j) (l'.drop j) = (eqV l[j] l'[j] && eqAll (l.drop (j + 1)) (l'.drop (j + 1))) := by
  rw [List.drop_eq_getElem_cons h, List.drop_eq_getElem_cons h', eqAll]
theorem eqAll_len : ∀ (l l' : List T), l.length ≠ l'.length → eqAll l l' = false
  | [], [], h => absurd rfl h
  | [], _ :: _, _ => by simp [eqAll]
  | _ :: _, [], _ => by simp [eqAll]
  | t :: r, t' :: r', h => by rw [eqAll, eqAll_len r r' (by simpa using h)]; simp
theorem eqAll_self (l : List T) (h : ∀ t ∈ l, eqV t t = true) : eqAll l l = true := by
  induction l with
  | nil => simp [eqAll]
  | cons x r ih => rw [eqAll, h x (by simp), ih (fun t ht => h t (by simp [ht]))]; rfl
theorem eqV_self : ∀ t, eqV t t = true := T.ind_ (fun k n s l ih => by rw [eqV, eqAll_self l ih]; simp)

set_option maxHeartbeats 1000000 in
theorem sameValues_any (l : List T) (w : World) (lo hi : Nat) (p : Option Addr) (cap : Nat) (hall : RepAll w lo hi l p) (hhi : hi ≤ w.heap.size) (hlen : l.length ≤ 9000000000000000000)
    (l' : List T) (lo' hi' : Nat) (p' : Option Addr) (cap' : Nat) (hall' : RepAll w lo' hi' l' p') (hhi' : hi' ≤ w.heap.size)
    (ih : ∀ t ∈ l, ∀ (t' : T) (w : World) (lo hi lo' hi' : Nat) (v v' : Value), Rep w lo hi t v → hi ≤ w.heap.size → Rep w lo' hi' t' v' → hi' ≤ w.heap.size →
      Calls Tryd.prog 38 #[v, v'] w fun e w' => e = .returned (.bool (eqV t t')) ∧ Below w.heap.size w w') :
    Calls Tryd.prog 59 #[.slice p l.length cap, .slice p' l'.length cap'] w fun e w' => e = .returned (.bool (eqAll l l')) ∧ Below w.heap.size w w' := by
  have H := Lib.hid ih; clear ih
  have HALL := Lib.hid hall; clear hall
  have HALL' := Lib.hid hall'; clear hall'
  by_cases hll : l.length = l'.length
  · have hne : ((l.length : Int) != (l'.length : Int)) = false := by simp [hll]
    have HLL := Lib.hid hll; clear hll
    go_enter Tryd.func59, Tryd.ntmps59
    go_wp2
    go_loopw [5] (fun i wr => ∃ j : Nat, j ≤ l.length ∧ i = .int .i64 j ∧ Hid (eqAll l l' = eqAll (l.drop j) (l'.drop j)) ∧ Below w.heap.size w wr) (fun i _ => l.length - (intOf i).toNat)
    case atStart => exact ⟨0, Nat.zero_le _, rfl, rfl, Below.refl _ _⟩
    case round =>
      obtain ⟨j, hj, rfl, HO, hbr⟩ := hrel
      have hz := hbr.size
      by_cases hlt : j < l.length
      · have hlt' : j < l'.length := by have := HLL.out; omega
        obtain ⟨b, off, k1, n1, s1, l1, q1, cc1, rfl, _, hbhi, hli, h0, h1, h2, h3, hrep⟩ := (HALL.out.below hbr hhi).item j hlt
        obtain ⟨b', off', k1', n1', s1', l1', q1', cc1', rfl, _, hbhi', hli', h0', h1', h2', h3', hrep'⟩ := (HALL'.out.below hbr hhi').item j hlt'
        have hA0 := eqAll_drop l l' j hlt hlt'
        rw [hli, hli'] at hA0
        have hA := Lib.hid (HO.out.trans hA0); clear hA0
        have hlj : l[j] ∈ l := List.getElem_mem hlt
        rw [hli] at hlj hrep
        rw [hli'] at hrep'
        clear hli hli'
        have hbw : b < wr.heap.size := by omega
        have hbw' : b' < wr.heap.size := by omega
        go_wp2
        go_region_held3 (fun w' => w'.cell? ⟨b, off + j * 4, none⟩ = some (.int .i64 k1) ∧ w'.cell? ⟨b, off + j * 4 + 1, none⟩ = some (.int .i64 n1) ∧ w'.cell? ⟨b, off + j * 4 + 2, none⟩ = some (.string s1) ∧ w'.cell? ⟨b, off + j * 4 + 3, none⟩ = some (.slice q1 l1.length cc1) ∧ w'.cell? ⟨b', off' + j * 4, none⟩ = some (.int .i64 k1') ∧ w'.cell? ⟨b', off' + j * 4 + 1, none⟩ = some (.int .i64 n1') ∧ w'.cell? ⟨b', off' + j * 4 + 2, none⟩ = some (.string s1') ∧ w'.cell? ⟨b', off' + j * 4 + 3, none⟩ = some (.slice q1' l1'.length cc1')) (first | exact ⟨h0, h1, h2, h3, h0', h1', h2', h3'⟩ | exact ⟨(hb2.cell (p := ⟨b, _, none⟩) hbw).trans h0, (hb2.cell (p := ⟨b, _, none⟩) hbw).trans h1, (hb2.cell (p := ⟨b, _, none⟩) hbw).trans h2, (hb2.cell (p := ⟨b, _, none⟩) hbw).trans h3, (hb2.cell (p := ⟨b', _, none⟩) hbw').trans h0', (hb2.cell (p := ⟨b', _, none⟩) hbw').trans h1', (hb2.cell (p := ⟨b', _, none⟩) hbw').trans h2', (hb2.cell (p := ⟨b', _, none⟩) hbw').trans h3'⟩) (first | (go_at_call 38; refine (H.out _ hlj _ _ lo hi lo' hi' _ _ hrep.drew (by simp; omega) hrep'.drew (by simp; omega)).mono ?_; rintro e w2 ⟨rfl, hb2⟩; obtain ⟨hc2, hf2⟩ := below_bcell hb2))
        go_wp2
        · have h : (!eqV (T.mk k1 n1 s1 l1) (T.mk k1' n1' s1' l1')) = true := by assumption
          go_ret
          refine ⟨ret_bool ?_, hbr.drew.trans (hb2.mono (by simp; omega))⟩
          rw [hA.out, show eqV (T.mk k1 n1 s1 l1) (T.mk k1' n1' s1' l1') = false from by simpa using h]; rfl
        · have h : (!eqV (T.mk k1 n1 s1 l1) (T.mk k1' n1' s1' l1')) = false := by assumption
          go_roundw
          case rel =>
            refine ⟨j + 1, by omega, by go_num, ?_, hbr.drew.trans (hb2.mono (by simp; omega))⟩
            show _ = _
            rw [hA.out, show eqV (T.mk k1 n1 s1 l1) (T.mk k1' n1' s1' l1') = true from by simpa using h]; rfl
          case measure => simp [intOf]; omega
      · have hjl : j = l.length := by omega
        subst hjl
        go_wp2
        go_ret
        refine ⟨ret_bool ?_, hbr⟩
        rw [HO.out, List.drop_length, List.drop_of_length_le (by have := HLL.out; omega)]; simp [eqAll]
  · have hne : ((l.length : Int) != (l'.length : Int)) = true := by simp; omega
    have HE := Lib.hid (eqAll_len l l' hll)
    go_enter Tryd.func59, Tryd.ntmps59
    go_wp2
    go_ret
    exact ⟨ret_bool HE.out.symm, Below.refl _ _⟩

set_option maxHeartbeats 1000000 in
theorem sameValue_any : ∀ (t t' : T) (w : World) (lo hi lo' hi' : Nat) (v v' : Value), Rep w lo hi t v → hi ≤ w.heap.size → Rep w lo' hi' t' v' → hi' ≤ w.heap.size →
      Calls Tryd.prog 38 #[v, v'] w fun e w' => e = .returned (.bool (eqV t t')) ∧ Below w.heap.size w w' := by
  refine T.ind_ (fun k n s l ih t' w lo hi lo' hi' v v' hr hhi hr' hhi' => ?_)
  match t', hr' with
  | .mk k' n' s' l', hr' =>
    unfold Rep at hr hr'
    obtain ⟨p, cap, rfl, hk, hn, hs, hlc, hcap, hall⟩ := hr
    obtain ⟨p', cap', rfl, hk', hn', hs', hlc', hcap', hall'⟩ := hr'
    have H := Lib.hid ih; clear ih
    have HE : Hid (eqV (.mk k n s l) (.mk k' n' s' l') = (eqAll l l' && k == k' && n == n' && s.toList == s'.toList)) := by show _ = _; rw [eqV]
    have HALL := Lib.hid hall; clear hall
    have HALL' := Lib.hid hall'; clear hall'
    cases hE : eqAll l l' with
    | false =>
      go_enter Tryd.func38, Tryd.ntmps38
      go_wp2_with (go_at_call 59; refine (sameValues_any l _ lo hi p cap ((HALL.out.alloc (by omega) _).alloc (by simp; omega) _) (by simp; omega) (by omega) l' lo' hi' p' cap' ((HALL'.out.alloc (by omega) _).alloc (by simp; omega) _) (by simp; omega) H.out).mono ?_; rintro e w2 ⟨rfl, hb2⟩; obtain ⟨hc2, hf2⟩ := below_bcell hb2)
      all_goals
        go_ret
        refine ⟨ret_bool ?_, (((Below.refl _ _).alloc (Nat.le_refl _) _).alloc (by simp) _).trans (hb2.mono (by simp; omega))⟩
        rw [HE.out]
        simp [*]
    | true =>
      go_enter Tryd.func38, Tryd.ntmps38
      go_wp2_with (go_at_call 59; refine (sameValues_any l _ lo hi p cap ((HALL.out.alloc (by omega) _).alloc (by simp; omega) _) (by simp; omega) (by omega) l' lo' hi' p' cap' ((HALL'.out.alloc (by omega) _).alloc (by simp; omega) _) (by simp; omega) H.out).mono ?_; rintro e w2 ⟨rfl, hb2⟩; obtain ⟨hc2, hf2⟩ := below_bcell hb2)
      all_goals
        go_ret
        refine ⟨ret_bool ?_, (((Below.refl _ _).alloc (Nat.le_refl _) _).alloc (by simp) _).trans (hb2.mono (by simp; omega))⟩
        rw [HE.out]
        simp [*]

end Go.Proofs.YtminmadaeaiihaaDoor
