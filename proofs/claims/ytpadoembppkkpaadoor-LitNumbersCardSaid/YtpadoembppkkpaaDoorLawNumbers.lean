/- The walk of the statement on numbers' texts. -/
import Derived.Test.YtpadoembppkkpaaDoorLaw2
import Derived.Test.YtpadoembppkkpaaDoorVal
namespace Go.Proofs.YtpadoembppkkpaaDoor
open Go.RowKit
set_option maxRecDepth 100000

theorem numOf_itoa {n : Int} (h : I64 n) : numOf (Lib.itoa n) = (n, true) := by
  have e := numC_itoa (most := 9223372036854775807) (n := n) (r := []) (by unfold I64 at h; omega) (by unfold I64 at h; omega) rfl
  rw [List.append_nil] at e
  unfold numOf; rw [e]
theorem numOf_zero {n : Int} : numOf (48 :: Lib.itoa n) = (0, false) := by
  have h := (itoa_head n []).2
  have e : numC 9223372036854775807 (48 :: Lib.itoa n) = (some 0, Lib.itoa n) := rfl
  unfold numOf; rw [e]
  cases hq : Lib.itoa n with
  | nil => rw [hq] at h; simp at h
  | cons c r => rfl
theorem numOf_plus {n : Int} : numOf (43 :: Lib.itoa n) = (0, false) := by
  have e : numC 9223372036854775807 (43 :: Lib.itoa n) = (none, 43 :: Lib.itoa n) := rfl
  unfold numOf; rw [e]
theorem numOf_space {n : Int} (h : I64 n) : numOf (Lib.itoa n ++ [32]) = (0, false) := by
  have e := numC_itoa (most := 9223372036854775807) (n := n) (r := [32]) (by unfold I64 at h; omega) (by unfold I64 at h; omega) rfl
  unfold numOf; rw [e]
theorem num_far {n : Int} (h : I64 n) (hf : ¬ (-2147483648 ≤ n ∧ n ≤ 2147483647)) : ∃ r, numC 2147483647 (Lib.itoa n) = (none, r) := by
  rcases hq : numC 2147483647 (Lib.itoa n) with ⟨o, r⟩
  cases o with
  | none => exact ⟨r, rfl⟩
  | some m =>
    have h0 : (hd 48 (Lib.itoa n) && hdD ((Lib.itoa n).drop 1)) = false := by
      by_cases hn : n < 0
      · unfold Lib.itoa; rw [if_pos hn]; rfl
      · have e : Lib.itoa n = Lib.decDigits n.toNat := by unfold Lib.itoa; rw [if_neg hn]
        have := (dec_head n.toNat (by omega) []).1
        rw [List.append_nil] at this
        rw [e, this]; rfl
    rw [← num_is_numC h0] at hq
    obtain ⟨e1, e2, e3, e4⟩ := num_sound (by omega) hq
    have ha := numC_itoa (most := 9223372036854775807) (n := n) (r := []) (by unfold I64 at h; omega) (by unfold I64 at h; omega) rfl
    have hb := numC_itoa (most := 9223372036854775807) (n := m) (r := r) (by omega) (by omega) e4
    rw [List.append_nil, e1, hb] at ha
    simp only [Prod.mk.injEq, Option.some.injEq] at ha
    omega

/-- A text that is none: an error is told. -/
theorem read_none (eD eM eR eS : Value) (aY : Addr) (hP : Ptrs eD eM eR eS) (s : ByteArray) (w : World) (hs : s.size ≤ 140737488355328) (he : Env w eD eM eR eS aY) (r : Bs) (hg : Go .val s.data.toList (.bad r)) :
    Calls Tryd.prog 24 #[.string s] w fun e w' => (∃ a, e = .returned (.tuple #[zeroV, .iface 66 (.pointer (some a))])) ∧ Below w.heap.size w w' := by
  refine (read_any eD eM eR eS aY hP s w hs he.errs he.syn he.names).mono fun e w' hp => ?_
  obtain ⟨hb, h⟩ := hp
  refine ⟨?_, hb⟩
  rcases h with ⟨p, b, hp, h, h2, _⟩ | ⟨t1, t2, h1, h2, h3⟩
  · exact ⟨_, h2⟩
  · cases Go.det hg h1
/-- Whatever a text is: a value and an error are told. -/
theorem read_form (eD eM eR eS : Value) (aY : Addr) (hP : Ptrs eD eM eR eS) (s : ByteArray) (w : World) (hs : s.size ≤ 140737488355328) (he : Env w eD eM eR eS aY) :
    Calls Tryd.prog 24 #[.string s] w fun e w' => (∃ k n u p l c x, e = .returned (.tuple #[.agg #[.int .i64 k, .int .i64 n, .string u, .slice p l c], x])) ∧ Below w.heap.size w w' := by
  refine (read_any eD eM eR eS aY hP s w hs he.errs he.syn he.names).mono fun e w' hp => ?_
  obtain ⟨hb, h⟩ := hp
  refine ⟨?_, hb⟩
  rcases h with ⟨p, b, hp, h, h2, _⟩ | ⟨t1, t2, h1, h2, ⟨_, v, h3, h4⟩ | ⟨_, h3⟩⟩
  · exact ⟨_, _, _, _, _, _, _, h2⟩
  · obtain ⟨k, n, u, p, l, c, rfl⟩ := rep_form h4
    exact ⟨_, _, _, _, _, _, _, h3⟩
  · exact ⟨_, _, _, _, _, _, _, h3⟩

theorem litNumber_val (s : ByteArray) (w : World) (hs : s.size ≤ 140737488355328) (q : Int × Bool) (hq : numOf s.data.toList = q) :
    Calls Tryd.prog 33 #[.string s] w fun e w' => e = .returned (.tuple #[.int .i64 q.1, .bool q.2]) ∧ Below w.heap.size w w' := by
  subst hq; exact litNumber_any s w hs
theorem cat_list (a b : ByteArray) : (a ++ b).data.toList = a.data.toList ++ b.data.toList := by simp
theorem cat_size (a b : ByteArray) : (a ++ b).size = a.size + b.size := by simp

set_option maxHeartbeats 400000 in
theorem numbers_pad (eD eM eR eS : Value) (aY : Addr) (hP : Ptrs eD eM eR eS) (n : Int) (pad : ByteArray) (w : World) (he : Env w eD eM eR eS aY) (hn : I64 n) (hp : pad.size ≤ 10) (h1 : ¬ pad.toList = []) :
    Calls Tryd.prog 7 #[.int .i64 n, .string pad] w fun e w' => e = .returned (.bool true) ∧ Below w.heap.size w w' := by
  have hpb : (!pad.toList.isEmpty) = true := by simp [h1]
  have HE := Lib.hid he; clear he
  have hsz : ∀ W, Hid (Rep W 0 0 (.mk 0 n ByteArray.empty []) (.agg #[.int .i64 0, .int .i64 n, .string ByteArray.empty, .slice none 0 0])) := fun W => by
    show Rep _ _ _ _ _
    unfold Rep
    exact ⟨none, 0, rfl, by unfold I64; omega, hn, by simp, Nat.le_refl _, by simp, by unfold RepAll; trivial⟩
  have hodd := Lib.hid (odd_of_ok (.mk 0 n ByteArray.empty []) 1 0 (by rw [okT]; exact .inl ⟨rfl, hn, rfl, rfl⟩) (by simp [dp]) (by simp [sz, szAll])).1
  have HTX := Lib.hid (tx0 n ByteArray.empty [])
  obtain ⟨S, hS⟩ : ∃ S : Bs, S = Lib.itoa n := ⟨_, rfl⟩
  have HS := Lib.hid hS
  have hl := Lib.itoa_length_le n hn.1 hn.2
  rw [← hS] at hl
  rw [← hS] at HTX
  clear hS
  have hSz : (⟨S.toArray⟩ : ByteArray).size ≤ 30 := by show S.toArray.size ≤ _; simp; omega
  have HSz := Lib.hid hSz
  have hpd : decide ((10 : Int) < (pad.size : Int)) = false := by simp; omega
  have HPZ := Lib.hid hp
  have HI := Lib.hid hn
  have F0 := Lib.hid (show numOf (⟨S.toArray⟩ : ByteArray).data.toList = (n, true) from by show numOf S = _; rw [HS.out]; exact numOf_itoa HI.out)
  have F1 := Lib.hid (show numOf (⟨#[48]⟩ ++ ⟨S.toArray⟩ : ByteArray).data.toList = (0, false) from by rw [cat_list]; show numOf (48 :: S) = _; rw [HS.out]; exact numOf_zero)
  have F2 := Lib.hid (show numOf (⟨#[43]⟩ ++ ⟨S.toArray⟩ : ByteArray).data.toList = (0, false) from by rw [cat_list]; show numOf (43 :: S) = _; rw [HS.out]; exact numOf_plus)
  have F3 := Lib.hid (show numOf (⟨S.toArray⟩ ++ ⟨#[32]⟩ : ByteArray).data.toList = (0, false) from by rw [cat_list]; show numOf (S ++ [32]) = _; rw [HS.out]; exact numOf_space HI.out)
  have Z0 := Lib.hid (show (⟨S.toArray⟩ : ByteArray).size ≤ 140737488355328 from by omega)
  have Z1 := Lib.hid (show (⟨#[48]⟩ ++ ⟨S.toArray⟩ : ByteArray).size ≤ 140737488355328 from by rw [cat_size]; have e : (⟨#[48]⟩ : ByteArray).size = 1 := rfl; omega)
  have Z2 := Lib.hid (show (⟨#[43]⟩ ++ ⟨S.toArray⟩ : ByteArray).size ≤ 140737488355328 from by rw [cat_size]; have e : (⟨#[43]⟩ : ByteArray).size = 1 := rfl; omega)
  have Z3 := Lib.hid (show (⟨S.toArray⟩ ++ ⟨#[32]⟩ : ByteArray).size ≤ 140737488355328 from by rw [cat_size]; have e : (⟨#[32]⟩ : ByteArray).size = 1 := rfl; omega)
  have Z4 := Lib.hid (show (⟨#[35]⟩ ++ pad ++ ⟨S.toArray⟩ : ByteArray).size ≤ 140737488355328 from by rw [cat_size, cat_size]; have e : (⟨#[35]⟩ : ByteArray).size = 1 := rfl; omega)
  clear hn
  go_enter Tryd.func7, Tryd.ntmps7
  go_wp2_with (first
    | (go_at_call 21; refine (first2_any eD eM eR eS aY hP _ HE.out).mono ?_; rintro e w1 ⟨rfl, hb1⟩; have HB1 := Lib.hid hb1; have HE1 := Lib.hid (HE.out.below hb1); clear hb1)
    | (go_at_call 15; refine (vI_any n _).mono ?_; rintro e w2 ⟨rfl, hb2⟩; have HB2 := Lib.hid (HB1.out.trans (hb2.mono HB1.out.size)); have HE2 := Lib.hid (HE1.out.below hb2); clear hb2)
    | (go_at_call 23; refine (text_any eD eM eR eS aY hP _ _ 0 0 _ (hsz _).out (Nat.zero_le _) HE2.out hodd.out).mono ?_; rintro e w3 ⟨rfl, hb3⟩; rw [HTX.out]; have HB3 := Lib.hid (HB2.out.trans (hb3.mono HB2.out.size)); have HE3 := Lib.hid (HE2.out.below hb3); clear hb3))
  with_reducible refine (litNumber_val _ w3 Z0.out _ F0.out).mono ?_
  rintro e w4 ⟨rfl, hb4⟩
  have HB4 := Lib.hid (HB3.out.trans (hb4.mono HB3.out.size)); have HE4 := Lib.hid (HE3.out.below hb4); clear hb4
  go_wp2_with fail
  with_reducible refine (litNumber_val _ w4 Z1.out _ F1.out).mono ?_
  rintro e w5 ⟨rfl, hb5⟩
  have HB5 := Lib.hid (HB4.out.trans (hb5.mono HB4.out.size)); have HE5 := Lib.hid (HE4.out.below hb5); clear hb5
  go_wp2_with fail
  with_reducible refine (litNumber_val _ w5 Z2.out _ F2.out).mono ?_
  rintro e w6 ⟨rfl, hb6⟩
  have HB6 := Lib.hid (HB5.out.trans (hb6.mono HB5.out.size)); have HE6 := Lib.hid (HE5.out.below hb6); clear hb6
  go_wp2_with fail
  with_reducible refine (litNumber_val _ w6 Z3.out _ F3.out).mono ?_
  rintro e w7 ⟨rfl, hb7⟩
  have HB7 := Lib.hid (HB6.out.trans (hb7.mono HB6.out.size)); have HE7 := Lib.hid (HE6.out.below hb7); clear hb7
  go_wp2_with fail
  with_reducible refine (read_form eD eM eR eS aY hP _ w7 Z4.out HE7.out).mono ?_
  rintro e w8 ⟨⟨k, m, u, p, l, c, x, rfl⟩, hb8⟩
  have HB8 := Lib.hid (HB7.out.trans (hb8.mono HB7.out.size)); clear hb8
  go_wp2_with fail
  go_ret
  exact ⟨rfl, HB8.out.alloc HB8.out.size _⟩

set_option maxHeartbeats 400000 in
theorem numbers_in (eD eM eR eS : Value) (aY : Addr) (hP : Ptrs eD eM eR eS) (n : Int) (pad : ByteArray) (w : World) (he : Env w eD eM eR eS aY) (hn : I64 n) (hp : pad.size ≤ 10) (h0 : pad = ByteArray.empty) (hr : -2147483648 ≤ n ∧ n ≤ 2147483647) :
    Calls Tryd.prog 7 #[.int .i64 n, .string pad] w fun e w' => e = .returned (.bool true) ∧ Below w.heap.size w w' := by
  have hpl : pad.toList = [] := by
    subst h0; simp
  have hpb : (!pad.toList.isEmpty) = false := by rw [hpl]; rfl
  have H0 := Lib.hid h0
  clear h0 hpl
  have hok : okT (.mk 1 n ByteArray.empty []) := by rw [okT]; exact .inr (.inl ⟨rfl, hr.1, hr.2, rfl, rfl⟩)
  have HOK := Lib.hid hok
  have HOD := Lib.hid (odd_of_ok (.mk 1 n ByteArray.empty []) 1 0 hok (by simp [dp]) (by simp [sz, szAll])).1
  obtain ⟨hr1, hr2⟩ := hr
  clear hok
  have HE := Lib.hid he; clear he
  have hsz : ∀ W, Hid (Rep W 0 0 (.mk 0 n ByteArray.empty []) (.agg #[.int .i64 0, .int .i64 n, .string ByteArray.empty, .slice none 0 0])) := fun W => by
    show Rep _ _ _ _ _
    unfold Rep
    exact ⟨none, 0, rfl, by unfold I64; omega, hn, by simp, Nat.le_refl _, by simp, by unfold RepAll; trivial⟩
  have hodd := Lib.hid (odd_of_ok (.mk 0 n ByteArray.empty []) 1 0 (by rw [okT]; exact .inl ⟨rfl, hn, rfl, rfl⟩) (by simp [dp]) (by simp [sz, szAll])).1
  have HTX := Lib.hid (tx0 n ByteArray.empty [])
  obtain ⟨S, hS⟩ : ∃ S : Bs, S = Lib.itoa n := ⟨_, rfl⟩
  have HS := Lib.hid hS
  have hl := Lib.itoa_length_le n hn.1 hn.2
  rw [← hS] at hl
  rw [← hS] at HTX
  clear hS
  have hSz : (⟨S.toArray⟩ : ByteArray).size ≤ 30 := by show S.toArray.size ≤ _; simp; omega
  have HSz := Lib.hid hSz
  have hpd : decide ((10 : Int) < (pad.size : Int)) = false := by simp; omega
  have HPZ := Lib.hid hp
  have HI := Lib.hid hn
  have F0 := Lib.hid (show numOf (⟨S.toArray⟩ : ByteArray).data.toList = (n, true) from by show numOf S = _; rw [HS.out]; exact numOf_itoa HI.out)
  have F1 := Lib.hid (show numOf (⟨#[48]⟩ ++ ⟨S.toArray⟩ : ByteArray).data.toList = (0, false) from by rw [cat_list]; show numOf (48 :: S) = _; rw [HS.out]; exact numOf_zero)
  have F2 := Lib.hid (show numOf (⟨#[43]⟩ ++ ⟨S.toArray⟩ : ByteArray).data.toList = (0, false) from by rw [cat_list]; show numOf (43 :: S) = _; rw [HS.out]; exact numOf_plus)
  have F3 := Lib.hid (show numOf (⟨S.toArray⟩ ++ ⟨#[32]⟩ : ByteArray).data.toList = (0, false) from by rw [cat_list]; show numOf (S ++ [32]) = _; rw [HS.out]; exact numOf_space HI.out)
  have Z0 := Lib.hid (show (⟨S.toArray⟩ : ByteArray).size ≤ 140737488355328 from by omega)
  have Z1 := Lib.hid (show (⟨#[48]⟩ ++ ⟨S.toArray⟩ : ByteArray).size ≤ 140737488355328 from by rw [cat_size]; have e : (⟨#[48]⟩ : ByteArray).size = 1 := rfl; omega)
  have Z2 := Lib.hid (show (⟨#[43]⟩ ++ ⟨S.toArray⟩ : ByteArray).size ≤ 140737488355328 from by rw [cat_size]; have e : (⟨#[43]⟩ : ByteArray).size = 1 := rfl; omega)
  have Z3 := Lib.hid (show (⟨S.toArray⟩ ++ ⟨#[32]⟩ : ByteArray).size ≤ 140737488355328 from by rw [cat_size]; have e : (⟨#[32]⟩ : ByteArray).size = 1 := rfl; omega)
  have F4 := Lib.hid (show (⟨#[35]⟩ ++ pad ++ ⟨S.toArray⟩ : ByteArray).data.toList = tx (.mk 1 n ByteArray.empty []) from by rw [cat_list, cat_list, tx1, ← HS.out, H0.out]; rfl)
  have Z4 := Lib.hid (show (⟨#[35]⟩ ++ pad ++ ⟨S.toArray⟩ : ByteArray).size ≤ 140737488355328 from by rw [cat_size, cat_size]; have e : (⟨#[35]⟩ : ByteArray).size = 1 := rfl; omega)
  clear hn
  go_enter Tryd.func7, Tryd.ntmps7
  go_wp2_with (first
    | (go_at_call 21; refine (first2_any eD eM eR eS aY hP _ HE.out).mono ?_; rintro e w1 ⟨rfl, hb1⟩; have HB1 := Lib.hid hb1; have HE1 := Lib.hid (HE.out.below hb1); clear hb1)
    | (go_at_call 15; refine (vI_any n _).mono ?_; rintro e w2 ⟨rfl, hb2⟩; have HB2 := Lib.hid (HB1.out.trans (hb2.mono HB1.out.size)); have HE2 := Lib.hid (HE1.out.below hb2); clear hb2)
    | (go_at_call 23; refine (text_any eD eM eR eS aY hP _ _ 0 0 _ (hsz _).out (Nat.zero_le _) HE2.out hodd.out).mono ?_; rintro e w3 ⟨rfl, hb3⟩; rw [HTX.out]; have HB3 := Lib.hid (HB2.out.trans (hb3.mono HB2.out.size)); have HE3 := Lib.hid (HE2.out.below hb3); clear hb3))
  with_reducible refine (litNumber_val _ w3 Z0.out _ F0.out).mono ?_
  rintro e w4 ⟨rfl, hb4⟩
  have HB4 := Lib.hid (HB3.out.trans (hb4.mono HB3.out.size)); have HE4 := Lib.hid (HE3.out.below hb4); clear hb4
  go_wp2_with fail
  with_reducible refine (litNumber_val _ w4 Z1.out _ F1.out).mono ?_
  rintro e w5 ⟨rfl, hb5⟩
  have HB5 := Lib.hid (HB4.out.trans (hb5.mono HB4.out.size)); have HE5 := Lib.hid (HE4.out.below hb5); clear hb5
  go_wp2_with fail
  with_reducible refine (litNumber_val _ w5 Z2.out _ F2.out).mono ?_
  rintro e w6 ⟨rfl, hb6⟩
  have HB6 := Lib.hid (HB5.out.trans (hb6.mono HB5.out.size)); have HE6 := Lib.hid (HE5.out.below hb6); clear hb6
  go_wp2_with fail
  with_reducible refine (litNumber_val _ w6 Z3.out _ F3.out).mono ?_
  rintro e w7 ⟨rfl, hb7⟩
  have HB7 := Lib.hid (HB6.out.trans (hb7.mono HB6.out.size)); have HE7 := Lib.hid (HE6.out.below hb7); clear hb7
  go_wp2_with fail
  with_reducible refine (read_tx eD eM eR eS aY hP _ _ w7 Z4.out HE7.out HOK.out HOD.out F4.out).mono ?_
  rintro e w8 ⟨⟨v, rfl, hv⟩, hb8⟩
  unfold Rep at hv
  obtain ⟨p, cap, rfl, _⟩ := hv
  have HB8 := Lib.hid (HB7.out.trans (hb8.mono HB7.out.size)); clear hb8
  go_wp2_with fail
  go_ret
  exact ⟨rfl, HB8.out.alloc HB8.out.size _⟩

set_option maxHeartbeats 400000 in
theorem numbers_out (eD eM eR eS : Value) (aY : Addr) (hP : Ptrs eD eM eR eS) (n : Int) (pad : ByteArray) (w : World) (he : Env w eD eM eR eS aY) (hn : I64 n) (hp : pad.size ≤ 10) (h0 : pad = ByteArray.empty) (hr : ¬ (-2147483648 ≤ n ∧ n ≤ 2147483647)) :
    Calls Tryd.prog 7 #[.int .i64 n, .string pad] w fun e w' => e = .returned (.bool true) ∧ Below w.heap.size w w' := by
  have hpl : pad.toList = [] := by
    subst h0; simp
  have hpb : (!pad.toList.isEmpty) = false := by rw [hpl]; rfl
  have H0 := Lib.hid h0
  clear h0 hpl
  obtain ⟨r, hfar⟩ := num_far hn hr
  have HF := Lib.hid hfar
  clear hfar
  have HE := Lib.hid he; clear he
  have hsz : ∀ W, Hid (Rep W 0 0 (.mk 0 n ByteArray.empty []) (.agg #[.int .i64 0, .int .i64 n, .string ByteArray.empty, .slice none 0 0])) := fun W => by
    show Rep _ _ _ _ _
    unfold Rep
    exact ⟨none, 0, rfl, by unfold I64; omega, hn, by simp, Nat.le_refl _, by simp, by unfold RepAll; trivial⟩
  have hodd := Lib.hid (odd_of_ok (.mk 0 n ByteArray.empty []) 1 0 (by rw [okT]; exact .inl ⟨rfl, hn, rfl, rfl⟩) (by simp [dp]) (by simp [sz, szAll])).1
  have HTX := Lib.hid (tx0 n ByteArray.empty [])
  obtain ⟨S, hS⟩ : ∃ S : Bs, S = Lib.itoa n := ⟨_, rfl⟩
  have HS := Lib.hid hS
  have hl := Lib.itoa_length_le n hn.1 hn.2
  rw [← hS] at hl
  rw [← hS] at HTX
  clear hS
  have hSz : (⟨S.toArray⟩ : ByteArray).size ≤ 30 := by show S.toArray.size ≤ _; simp; omega
  have HSz := Lib.hid hSz
  have hpd : decide ((10 : Int) < (pad.size : Int)) = false := by simp; omega
  have HPZ := Lib.hid hp
  have HI := Lib.hid hn
  have F0 := Lib.hid (show numOf (⟨S.toArray⟩ : ByteArray).data.toList = (n, true) from by show numOf S = _; rw [HS.out]; exact numOf_itoa HI.out)
  have F1 := Lib.hid (show numOf (⟨#[48]⟩ ++ ⟨S.toArray⟩ : ByteArray).data.toList = (0, false) from by rw [cat_list]; show numOf (48 :: S) = _; rw [HS.out]; exact numOf_zero)
  have F2 := Lib.hid (show numOf (⟨#[43]⟩ ++ ⟨S.toArray⟩ : ByteArray).data.toList = (0, false) from by rw [cat_list]; show numOf (43 :: S) = _; rw [HS.out]; exact numOf_plus)
  have F3 := Lib.hid (show numOf (⟨S.toArray⟩ ++ ⟨#[32]⟩ : ByteArray).data.toList = (0, false) from by rw [cat_list]; show numOf (S ++ [32]) = _; rw [HS.out]; exact numOf_space HI.out)
  have Z0 := Lib.hid (show (⟨S.toArray⟩ : ByteArray).size ≤ 140737488355328 from by omega)
  have Z1 := Lib.hid (show (⟨#[48]⟩ ++ ⟨S.toArray⟩ : ByteArray).size ≤ 140737488355328 from by rw [cat_size]; have e : (⟨#[48]⟩ : ByteArray).size = 1 := rfl; omega)
  have Z2 := Lib.hid (show (⟨#[43]⟩ ++ ⟨S.toArray⟩ : ByteArray).size ≤ 140737488355328 from by rw [cat_size]; have e : (⟨#[43]⟩ : ByteArray).size = 1 := rfl; omega)
  have Z3 := Lib.hid (show (⟨S.toArray⟩ ++ ⟨#[32]⟩ : ByteArray).size ≤ 140737488355328 from by rw [cat_size]; have e : (⟨#[32]⟩ : ByteArray).size = 1 := rfl; omega)
  have F4 := Lib.hid (show Go .val (⟨#[35]⟩ ++ pad ++ ⟨S.toArray⟩ : ByteArray).data.toList (.bad r) from by
    rw [cat_list, cat_list, H0.out]
    show Go .val (35 :: S) _
    have h1 : one (35 :: S) = .bad r := by unfold one; rw [if_neg (by simp [hd]), if_pos (show hd 35 (35 :: S) = true from rfl)]; show res 1 (numC 2147483647 S) = _; rw [HS.out, HF.out]; rfl
    rw [← h1]
    exact Go.one rfl)
  have Z4 := Lib.hid (show (⟨#[35]⟩ ++ pad ++ ⟨S.toArray⟩ : ByteArray).size ≤ 140737488355328 from by rw [cat_size, cat_size]; have e : (⟨#[35]⟩ : ByteArray).size = 1 := rfl; omega)
  clear hn
  go_enter Tryd.func7, Tryd.ntmps7
  go_wp2_with (first
    | (go_at_call 21; refine (first2_any eD eM eR eS aY hP _ HE.out).mono ?_; rintro e w1 ⟨rfl, hb1⟩; have HB1 := Lib.hid hb1; have HE1 := Lib.hid (HE.out.below hb1); clear hb1)
    | (go_at_call 15; refine (vI_any n _).mono ?_; rintro e w2 ⟨rfl, hb2⟩; have HB2 := Lib.hid (HB1.out.trans (hb2.mono HB1.out.size)); have HE2 := Lib.hid (HE1.out.below hb2); clear hb2)
    | (go_at_call 23; refine (text_any eD eM eR eS aY hP _ _ 0 0 _ (hsz _).out (Nat.zero_le _) HE2.out hodd.out).mono ?_; rintro e w3 ⟨rfl, hb3⟩; rw [HTX.out]; have HB3 := Lib.hid (HB2.out.trans (hb3.mono HB2.out.size)); have HE3 := Lib.hid (HE2.out.below hb3); clear hb3))
  with_reducible refine (litNumber_val _ w3 Z0.out _ F0.out).mono ?_
  rintro e w4 ⟨rfl, hb4⟩
  have HB4 := Lib.hid (HB3.out.trans (hb4.mono HB3.out.size)); have HE4 := Lib.hid (HE3.out.below hb4); clear hb4
  go_wp2_with fail
  with_reducible refine (litNumber_val _ w4 Z1.out _ F1.out).mono ?_
  rintro e w5 ⟨rfl, hb5⟩
  have HB5 := Lib.hid (HB4.out.trans (hb5.mono HB4.out.size)); have HE5 := Lib.hid (HE4.out.below hb5); clear hb5
  go_wp2_with fail
  with_reducible refine (litNumber_val _ w5 Z2.out _ F2.out).mono ?_
  rintro e w6 ⟨rfl, hb6⟩
  have HB6 := Lib.hid (HB5.out.trans (hb6.mono HB5.out.size)); have HE6 := Lib.hid (HE5.out.below hb6); clear hb6
  go_wp2_with fail
  with_reducible refine (litNumber_val _ w6 Z3.out _ F3.out).mono ?_
  rintro e w7 ⟨rfl, hb7⟩
  have HB7 := Lib.hid (HB6.out.trans (hb7.mono HB6.out.size)); have HE7 := Lib.hid (HE6.out.below hb7); clear hb7
  go_wp2_with fail
  with_reducible refine (read_none eD eM eR eS aY hP _ w7 Z4.out HE7.out r F4.out).mono ?_
  rintro e w8 ⟨⟨a, rfl⟩, hb8⟩
  have HB8 := Lib.hid (HB7.out.trans (hb8.mono HB7.out.size)); clear hb8
  have hr2 : n < -2147483648 ∨ 2147483647 < n := by omega
  rcases hr2 with hr2 | hr2
  · have hd1 : decide (-2147483648 ≤ n) = false := by simp; omega
    go_wp2_with fail
    go_ret
    exact ⟨rfl, HB8.out.alloc HB8.out.size _⟩
  · have hd1 : decide (n ≤ 2147483647) = false := by simp; omega
    have hd2 : decide (-2147483648 ≤ n) = true := by simp; omega
    go_wp2_with fail
    go_ret
    exact ⟨rfl, HB8.out.alloc HB8.out.size _⟩

set_option maxHeartbeats 400000 in
theorem numbers_long (eD eM eR eS : Value) (aY : Addr) (hP : Ptrs eD eM eR eS) (n : Int) (pad : ByteArray) (w : World) (he : Env w eD eM eR eS aY) (hp : 10 < pad.size) (hpm : pad.size ≤ 9223372036854775807) :
    Calls Tryd.prog 7 #[.int .i64 n, .string pad] w fun e w' => e = .returned (.bool true) ∧ Below w.heap.size w w' := by
  have HE := Lib.hid he; clear he
  go_enter Tryd.func7, Tryd.ntmps7
  go_wp2_with (go_at_call 21; refine (first2_any eD eM eR eS aY hP _ HE.out).mono ?_; rintro e w1 ⟨rfl, hb1⟩)
  go_ret
  exact ⟨rfl, hb1⟩

theorem numbers_all (eD eM eR eS : Value) (aY : Addr) (hP : Ptrs eD eM eR eS) (n : Int) (pad : ByteArray) (w : World) (he : Env w eD eM eR eS aY) (hn : I64 n) (hpm : pad.size ≤ 9223372036854775807) :
    Calls Tryd.prog 7 #[.int .i64 n, .string pad] w fun e w' => e = .returned (.bool true) ∧ Below w.heap.size w w' := by
  by_cases hp : pad.size ≤ 10
  · rcases str_cases pad with h | ⟨_, h1⟩
    · by_cases hr : -2147483648 ≤ n ∧ n ≤ 2147483647
      · exact numbers_in eD eM eR eS aY hP n pad w he hn hp h hr
      · exact numbers_out eD eM eR eS aY hP n pad w he hn hp h hr
    · exact numbers_pad eD eM eR eS aY hP n pad w he hn hp h1
  · exact numbers_long eD eM eR eS aY hP n pad w he (by omega) hpm

end Go.Proofs.YtpadoembppkkpaaDoor
