/- Contracts of val's order, of the list comparison that it uses, and of Same. -/
import Derived.Test.YtjipchloebbldaaSmall
namespace Go.Proofs.Ytjipchloebbldaa
open Go.RowKit

mutual
/-- The order of two values: below 0, 0, above 0. -/
def ord : T → T → Int
  | .mk k n s l, .mk k' n' s' l' => if k ≠ k' then cmpI k k' else if k = 2 then Lib.compareBytes s.data.toList s'.data.toList else if k = 4 then ordAll l l' else cmpI n n'
def ordAll : List T → List T → Int
  | [], [] => 0
  | [], _ :: _ => -1
  | _ :: _, [] => 1
  | t :: r, t' :: r' => if ord t t' ≠ 0 then ord t t' else ordAll r r'
end

theorem ordAll_drop (l l' : List T) (j : Nat) (h : j < l.length) (h' : j < l'.length) : ordAll (l.drop j) (l'.drop j) = if ord l[j] l'[j] ≠ 0 then ord l[j] l'[j] else ordAll (l.drop (j + 1)) (l'.drop (j + 1)) := by
  rw [List.drop_eq_getElem_cons h, List.drop_eq_getElem_cons h', ordAll]

set_option maxHeartbeats 1000000 in
theorem compareFunc_any (l : List T) (w : World) (lo hi : Nat) (p : Option Addr) (cap : Nat) (hall : RepAll w lo hi l p) (hhi : hi ≤ w.heap.size) (hcap : l.length ≤ 9000000000000000000)
    (l' : List T) (lo' hi' : Nat) (p' : Option Addr) (cap' : Nat) (hall' : RepAll w lo' hi' l' p') (hhi' : hi' ≤ w.heap.size)
    (ih : ∀ t ∈ l, ∀ (t' : T) (w : World) (lo hi lo' hi' : Nat) (v v' : Value), Rep w lo hi t v → hi ≤ w.heap.size → Rep w lo' hi' t' v' → hi' ≤ w.heap.size →
      Calls Try.prog 55 #[v, v'] w fun e w' => e = .returned (.int .i64 (ord t t')) ∧ Below w.heap.size w w') :
    Calls Try.prog 70 #[.slice p l.length cap, .slice p' l'.length cap', .func (.func 55) #[] #[]] w fun e w' => e = .returned (.int .i64 (ordAll l l')) ∧ Below w.heap.size w w' := by
  have H := Lib.hid ih; clear ih
  go_enter Try.func70, Try.ntmps70
  go_wp2
  go_loopw [13] (fun i wr => ∃ j : Nat, j ≤ l.length ∧ j ≤ l'.length ∧ i = .int .i64 j ∧ ordAll l l' = ordAll (l.drop j) (l'.drop j) ∧ Below w.heap.size w wr) (fun i _ => l.length - (intOf i).toNat)
  case atStart => exact ⟨0, Nat.zero_le _, Nat.zero_le _, rfl, rfl, Below.refl _ _⟩
  case round =>
    obtain ⟨j, hj, hj', rfl, hord0, hbr⟩ := hrel
    have hord := Lib.hid hord0; clear hord0
    have hz := hbr.size
    by_cases hlt : j < l.length
    · by_cases hlt' : j < l'.length
      · obtain ⟨b, off, k1, n1, s1, l1, q1, cc1, rfl, _, hbhi, hli, h0, h1, h2, h3, hrep⟩ := (hall.below hbr hhi).item j hlt
        obtain ⟨b', off', k1', n1', s1', l1', q1', cc1', rfl, _, hbhi', hli', h0', h1', h2', h3', hrep'⟩ := (hall'.below hbr hhi').item j hlt'
        have hA0 := ordAll_drop l l' j hlt hlt'
        rw [hli, hli'] at hA0
        have hA := Lib.hid (hord.out.trans hA0); clear hA0
        have hlj : l[j] ∈ l := List.getElem_mem hlt
        rw [hli] at hlj hrep
        rw [hli'] at hrep'
        clear hli hli'
        have hbw : b < wr.heap.size := by omega
        have hbw' : b' < wr.heap.size := by omega
        go_wp2_with (go_at_call 55; refine (H.out _ hlj _ _ lo hi lo' hi' _ _ ((hrep.alloc (by omega) _).alloc (by simp; omega) _) (by simp; omega) ((hrep'.alloc (by omega) _).alloc (by simp; omega) _) (by simp; omega)).mono ?_; rintro e w2 ⟨rfl, hb2⟩; obtain ⟨hc2, hf2⟩ := below_bcell hb2)
        · have h : (ord (T.mk k1 n1 s1 l1) (T.mk k1' n1' s1' l1') != 0) = true := by assumption
          go_ret
          refine ⟨ret_int ?_, ((hbr.alloc (by omega) _).alloc (by simp; omega) _).trans (hb2.mono (by simp; omega))⟩
          rw [hA.out, if_pos (by simpa using h)]
        · have h : (ord (T.mk k1 n1 s1 l1) (T.mk k1' n1' s1' l1') != 0) = false := by assumption
          go_roundw
          case rel =>
            refine ⟨j + 1, by omega, by omega, by go_num, ?_, ((hbr.alloc (by omega) _).alloc (by simp; omega) _).trans (hb2.mono (by simp; omega))⟩
            rw [hA.out, if_neg (by simpa using h)]
          case measure => simp [intOf]; omega
      · have hjl : j = l'.length := by omega
        subst hjl
        obtain ⟨b, off, k1, n1, s1, l1, q1, cc1, rfl, _, hbhi, hli, h0, h1, h2, h3, hrep⟩ := (hall.below hbr hhi).item l'.length hlt
        have hli := Lib.hid hli
        go_wp2
        go_ret
        refine ⟨ret_int ?_, hbr.alloc (by omega) _⟩
        rw [hord.out, List.drop_length, List.drop_eq_getElem_cons hlt, ordAll]
    · have hjl : j = l.length := by omega
      subst hjl
      go_wp2
      · have h : l.length < l'.length := by assumption
        go_ret
        refine ⟨ret_int ?_, hbr⟩
        rw [hord.out, List.drop_length, List.drop_eq_getElem_cons h, ordAll]
      · go_ret
        refine ⟨ret_int ?_, hbr⟩
        rw [hord.out, List.drop_length, List.drop_of_length_le (by omega), ordAll]

set_option maxHeartbeats 1000000 in
theorem order_any : ∀ (t t' : T) (w : World) (lo hi lo' hi' : Nat) (v v' : Value), Rep w lo hi t v → hi ≤ w.heap.size → Rep w lo' hi' t' v' → hi' ≤ w.heap.size →
      Calls Try.prog 55 #[v, v'] w fun e w' => e = .returned (.int .i64 (ord t t')) ∧ Below w.heap.size w w' := by
  refine T.ind_ (fun k n s l ih t' w lo hi lo' hi' v v' hr hhi hr' hhi' => ?_)
  match t', hr' with
  | .mk k' n' s' l', hr' =>
    unfold Rep at hr hr'
    obtain ⟨p, cap, rfl, hk, hn, hs, hlc, hcap, hall⟩ := hr
    obtain ⟨p', cap', rfl, hk', hn', hs', hlc', hcap', hall'⟩ := hr'
    have H := Lib.hid ih; clear ih
    have hE : ord (.mk k n s l) (.mk k' n' s' l') = if k ≠ k' then cmpI k k' else if k = 2 then Lib.compareBytes s.data.toList s'.data.toList else if k = 4 then ordAll l l' else cmpI n n' := by rw [ord]
    have HE := Lib.hid hE; clear hE
    by_cases hkk : k = k'
    · subst hkk
      by_cases hk2 : k = 2
      · subst hk2
        go_enter Try.func55, Try.ntmps55
        go_wp2_with (go_at_call 69; refine (strCompare_any _ _ _).mono ?_; rintro e w2 ⟨rfl, rfl⟩)
        go_ret
        refine ⟨ret_int ?_, by go_grown⟩
        rw [HE.out]; simp
      by_cases hk4 : k = 4
      · subst hk4
        go_enter Try.func55, Try.ntmps55
        go_wp2_with (go_at_call 70; refine (compareFunc_any l _ lo hi p cap ((hall.alloc (by omega) _).alloc (by simp; omega) _) (by simp; omega) (by omega) l' lo' hi' p' cap' ((hall'.alloc (by omega) _).alloc (by simp; omega) _) (by simp; omega) H.out).mono ?_; rintro e w2 ⟨rfl, hb2⟩)
        go_ret
        refine ⟨ret_int ?_, (((Below.refl _ _).alloc (Nat.le_refl _) _).alloc (by simp) _).trans (hb2.mono (by simp; omega))⟩
        rw [HE.out]; simp
      · have hk2' : (k == 2) = false := by simpa using hk2
        have hk4' : (k == 4) = false := by simpa using hk4
        go_enter Try.func55, Try.ntmps55
        go_wp2_with (go_at_call 71; refine (cmpInt64_any _ _ _).mono ?_; rintro e w2 ⟨rfl, rfl⟩)
        go_ret
        refine ⟨ret_int ?_, by go_grown⟩
        rw [HE.out, if_neg (by simp), if_neg hk2, if_neg hk4]
    · have hkk' : (k != k') = true := by simpa using hkk
      go_enter Try.func55, Try.ntmps55
      go_wp2_with (go_at_call 68; refine (cmpInt_any _ _ _).mono ?_; rintro e w2 ⟨rfl, rfl⟩)
      go_ret
      refine ⟨ret_int ?_, by go_grown⟩
      rw [HE.out, if_pos hkk]

/-- Same, in Bool's words. -/
def sameB (t t' : T) : Bool := ord t t' == 0
set_option maxHeartbeats 400000 in
theorem same_any (t t' : T) (w : World) (lo hi lo' hi' : Nat) (v v' : Value) (hr : Rep w lo hi t v) (hhi : hi ≤ w.heap.size) (hr' : Rep w lo' hi' t' v') (hhi' : hi' ≤ w.heap.size) :
      Calls Try.prog 35 #[v, v'] w fun e w' => e = .returned (.bool (sameB t t')) ∧ Below w.heap.size w w' := by
  have hr0 := hr
  have hr0' := hr'
  match t, t', hr0, hr0' with
  | .mk k n s l, .mk k' n' s' l', hr0, hr0' =>
    unfold Rep at hr0 hr0'
    obtain ⟨p, cap, rfl, _⟩ := hr0
    obtain ⟨p', cap', rfl, _⟩ := hr0'
    go_enter Try.func35, Try.ntmps35
    go_wp2_with (go_at_call 55; refine (order_any _ _ _ lo hi lo' hi' _ _ ((hr.alloc (by omega) _).alloc (by simp; omega) _) (by simp; omega) ((hr'.alloc (by omega) _).alloc (by simp; omega) _) (by simp; omega)).mono ?_; rintro e w2 ⟨rfl, hb2⟩)
    go_ret
    exact ⟨rfl, (((Below.refl _ _).alloc (Nat.le_refl _) _).alloc (by simp) _).trans (hb2.mono (by simp; omega))⟩

end Go.Proofs.Ytjipchloebbldaa
