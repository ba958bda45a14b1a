/- The walk of the statement on plain texts. -/
import Derived.Test.YtpadoembppkkpaaDoorLaw2
import Derived.Test.YtpadoembppkkpaaDoorRight
import Derived.Test.YtpadoembppkkpaaDoorVal
namespace Go.Proofs.YtpadoembppkkpaaDoor
open Go.RowKit
set_option maxRecDepth 100000

theorem plain_early_right (eD eM eR eS : Value) (aY : Addr) (hP : Ptrs eD eM eR eS) (t : T) (v : Value) (s : ByteArray) (w : World) (lo hi : Nat) (hr : Rep w lo hi t v) (hhi : hi ≤ w.heap.size) (he : Env w eD eM eR eS aY) (h : rightB t = false) :
    Calls Tryd.prog 9 #[v, .string s] w fun e w' => e = .returned (.bool true) ∧ Below w.heap.size w w' := by
  have HE := Lib.hid he; clear he
  have HR := Lib.hid hr
  have H := Lib.hid h; clear h
  obtain ⟨k, n, sv, p, len, cap, rfl⟩ := rep_form hr
  clear hr
  have H1 : ∀ o : Obj, Hid (Below w.heap.size w (w.alloc o)) := fun o => (Below.refl _ _).alloc (Nat.le_refl _) _
  go_enter Tryd.func9, Tryd.ntmps9
  go_wp2_with (first
    | (go_at_call 21; refine (first2_any eD eM eR eS aY hP _ (HE.out.below (H1 _).out)).mono ?_; rintro e w1 ⟨rfl, hb1⟩; have HB1 := Lib.hid ((H1 _).out.trans (hb1.mono (by simp))); have HV1 := Lib.hid (heap_old (heap_alloc_new w _) hb1); obtain ⟨x0, x1, x2, x3, _⟩ := box4_in _ _ _ _ _ _ _ HV1.out; clear hb1)
    | (go_at_call 22; refine (right_any t _ lo hi _ (HR.out.below HB1.out hhi) (by have := HB1.out.size; omega)).mono ?_; rintro e w2 ⟨rfl, hb2⟩; rw [H.out]; have HB2 := Lib.hid (HB1.out.trans (hb2.mono HB1.out.size)); clear hb2))
  go_ret
  exact ⟨rfl, HB2.out⟩

theorem plain_early_long (eD eM eR eS : Value) (aY : Addr) (hP : Ptrs eD eM eR eS) (t : T) (v : Value) (s : ByteArray) (w : World) (lo hi : Nat) (hr : Rep w lo hi t v) (hhi : hi ≤ w.heap.size) (he : Env w eD eM eR eS aY) (h : rightB t = true) (hs : 200 < s.size) (_hsm : s.size ≤ 9223372036854775807) :
    Calls Tryd.prog 9 #[v, .string s] w fun e w' => e = .returned (.bool true) ∧ Below w.heap.size w w' := by
  have HE := Lib.hid he; clear he
  have HR := Lib.hid hr
  have H := Lib.hid h; clear h
  obtain ⟨k, n, sv, p, len, cap, rfl⟩ := rep_form hr
  clear hr
  have hsd : decide ((200 : Int) < (s.size : Int)) = true := by simp; omega
  have H1 : ∀ o : Obj, Hid (Below w.heap.size w (w.alloc o)) := fun o => (Below.refl _ _).alloc (Nat.le_refl _) _
  go_enter Tryd.func9, Tryd.ntmps9
  go_wp2_with (first
    | (go_at_call 21; refine (first2_any eD eM eR eS aY hP _ (HE.out.below (H1 _).out)).mono ?_; rintro e w1 ⟨rfl, hb1⟩; have HB1 := Lib.hid ((H1 _).out.trans (hb1.mono (by simp))); have HV1 := Lib.hid (heap_old (heap_alloc_new w _) hb1); obtain ⟨x0, x1, x2, x3, _⟩ := box4_in _ _ _ _ _ _ _ HV1.out; clear hb1)
    | (go_at_call 22; refine (right_any t _ lo hi _ (HR.out.below HB1.out hhi) (by have := HB1.out.size; omega)).mono ?_; rintro e w2 ⟨rfl, hb2⟩; rw [H.out]; have HB2 := Lib.hid (HB1.out.trans (hb2.mono HB1.out.size)); clear hb2))
  go_ret
  exact ⟨rfl, HB2.out⟩

theorem plain_early_odd (eD eM eR eS : Value) (aY : Addr) (hP : Ptrs eD eM eR eS) (t : T) (v : Value) (s : ByteArray) (w : World) (lo hi : Nat) (hr : Rep w lo hi t v) (hhi : hi ≤ w.heap.size) (he : Env w eD eM eR eS aY) (h : rightB t = true) (hs : s.size ≤ 200) (hp : printed s = false) :
    Calls Tryd.prog 9 #[v, .string s] w fun e w' => e = .returned (.bool true) ∧ Below w.heap.size w w' := by
  have HE := Lib.hid he; clear he
  have HR := Lib.hid hr
  have H := Lib.hid h; clear h
  have HPR := Lib.hid hp; clear hp
  obtain ⟨k, n, sv, p, len, cap, rfl⟩ := rep_form hr
  clear hr
  have hsd : decide ((200 : Int) < (s.size : Int)) = false := by simp; omega
  have H1 : ∀ o : Obj, Hid (Below w.heap.size w (w.alloc o)) := fun o => (Below.refl _ _).alloc (Nat.le_refl _) _
  go_enter Tryd.func9, Tryd.ntmps9
  go_wp2_with (first
    | (go_at_call 21; refine (first2_any eD eM eR eS aY hP _ (HE.out.below (H1 _).out)).mono ?_; rintro e w1 ⟨rfl, hb1⟩; have HB1 := Lib.hid ((H1 _).out.trans (hb1.mono (by simp))); have HV1 := Lib.hid (heap_old (heap_alloc_new w _) hb1); obtain ⟨x0, x1, x2, x3, _⟩ := box4_in _ _ _ _ _ _ _ HV1.out; clear hb1)
    | (go_at_call 22; refine (right_any t _ lo hi _ (HR.out.below HB1.out hhi) (by have := HB1.out.size; omega)).mono ?_; rintro e w2 ⟨rfl, hb2⟩; rw [H.out]; have HB2 := Lib.hid (HB1.out.trans (hb2.mono HB1.out.size)); clear hb2)
    | (go_at_call 20; refine (printed_any s _ (by omega)).mono ?_; rintro e w3 ⟨rfl, rfl⟩; rw [HPR.out]))
  go_ret
  exact ⟨rfl, HB2.out⟩

set_option maxHeartbeats 1000000 in
theorem plain_main (eD eM eR eS : Value) (aY : Addr) (hP : Ptrs eD eM eR eS) (k n : Int) (sv : ByteArray) (l : List T) (v : Value) (s : ByteArray) (w : World) (lo hi : Nat) (hr : Rep w lo hi (.mk k n sv l) v) (hhi : hi ≤ w.heap.size) (he : Env w eD eM eR eS aY) (h : rightB (.mk k n sv l) = true) (hs : s.size ≤ 200) (hp : printed s = true) :
    Calls Tryd.prog 9 #[v, .string s] w fun e w' => e = .returned (.bool true) ∧ Below w.heap.size w w' := by
  have hodd : (odd (.mk k n sv l) 1 0).1 = 0 := by simpa [rightB, oddCode] using h
  have HO := Lib.hid hodd
  have HE := Lib.hid he; clear he
  have HR := Lib.hid hr
  have H := Lib.hid h; clear h
  have HPR := Lib.hid hp
  have hok2 : okT (.mk 2 0 s []) := by rw [okT]; exact .inr (.inr (.inl ⟨rfl, rfl, rfl, (printedL_iff _).1 hp⟩))
  have HO2 := Lib.hid (odd_of_ok (.mk 2 0 s []) 1 0 hok2 (by simp [dp]) (by simp [sz, szAll]; omega)).1
  unfold Rep at hr
  obtain ⟨p, cap, rfl, _⟩ := hr
  have hsd : decide ((200 : Int) < (s.size : Int)) = false := by simp; omega
  have H1 : ∀ o : Obj, Hid (Below w.heap.size w (w.alloc o)) := fun o => (Below.refl _ _).alloc (Nat.le_refl _) _
  have HR2 : ∀ W, Hid (Rep W 0 0 (.mk 2 0 s []) (.agg #[.int .i64 2, .int .i64 0, .string s, .slice none 0 0])) := fun W => by
    show Rep _ _ _ _ _
    unfold Rep
    exact ⟨none, 0, rfl, by unfold I64; omega, by unfold I64; omega, by omega, Nat.le_refl _, by simp, by unfold RepAll; trivial⟩
  have HPL3 := Lib.hid (show plainOf (.mk 2 0 s []) = s from rfl)
  clear hp hodd hok2
  generalize hT : (T.mk k n sv l) = t at HO HR H
  have hk3 : k = 2 ∨ k = 4 ∨ (k ≠ 2 ∧ k ≠ 4) := by omega
  have HPL := Lib.hid (show plainOf t = if k = 2 then sv else if k = 4 then ⟨#[123, 108, 105, 115, 116, 125]⟩ else ⟨(tx t).toArray⟩ from by rw [← hT]; rfl)
  clear hT
  rcases hk3 with rfl | rfl | ⟨hk2, hk4⟩
  · have HPL2 := Lib.hid (HPL.out.trans (if_pos rfl))
    clear HPL
    go_enter Tryd.func9, Tryd.ntmps9
    go_wp2_with (first
      | (go_at_call 21; refine (first2_any eD eM eR eS aY hP _ (HE.out.below (H1 _).out)).mono ?_; rintro e w1 ⟨rfl, hb1⟩; have HB1 := Lib.hid ((H1 _).out.trans (hb1.mono (by simp))); have HE1 := Lib.hid (HE.out.below HB1.out); have HV1 := Lib.hid (heap_old (heap_alloc_new w _) hb1); obtain ⟨x0, x1, x2, x3, _⟩ := box4_in _ _ _ _ _ _ _ HV1.out; clear hb1)
      | (go_at_call 22; refine (right_any t _ lo hi _ (HR.out.below HB1.out hhi) (by have := HB1.out.size; omega)).mono ?_; rintro e w2 ⟨rfl, hb2⟩; rw [H.out]; have HB2 := Lib.hid (HB1.out.trans (hb2.mono HB1.out.size)); have HE2 := Lib.hid (HE1.out.below hb2); have HV2 := Lib.hid (heap_old HV1.out hb2); obtain ⟨x0, x1, x2, x3, _⟩ := box4_in _ _ _ _ _ _ _ HV2.out; clear hb2)
      | (go_at_call 20; refine (printed_any s _ (by omega)).mono ?_; rintro e w3 ⟨rfl, rfl⟩; rw [HPR.out])
      | (go_at_call 26; refine (plain_any eD eM eR eS aY hP t _ lo hi _ (HR.out.below HB2.out hhi) (by have := HB2.out.size; omega) HE2.out HO.out).mono ?_; rintro e w4 ⟨rfl, hb4⟩; rw [HPL2.out]; have HB4 := Lib.hid (HB2.out.trans (hb4.mono HB2.out.size)); have HE4 := Lib.hid (HE2.out.below hb4); have HV4 := Lib.hid (heap_old HV2.out hb4); obtain ⟨x0, x1, x2, x3, _⟩ := box4_in _ _ _ _ _ _ _ HV4.out; clear hb4))
    go_loop [7, 8] (fun nn i => ∃ j m : Nat, j ≤ s.size ∧ i = .int .i64 j ∧ nn = .int .i64 m ∧ m ≤ 2 + 2 * j ∧ Hid (m = 2 + (esc (s.data.toList.take j)).length)) (fun _ i => s.size - (intOf i).toNat)
    case atStart => exact ⟨0, 2, Nat.zero_le _, rfl, rfl, by omega, Lib.hid (by simp [esc])⟩
    case round =>
      obtain ⟨j, m, hj, rfl, rfl, hm, hmm⟩ := hrel
      by_cases hjs : j < s.size
      · have htk : s.data.toList.take (j + 1) = s.data.toList.take j ++ [s[j]] := by
          rw [List.take_succ_eq_append_getElem (by simpa using hjs)]; rfl
        have hes := esc_snoc (s.data.toList.take j) s[j]
        rw [← htk] at hes
        by_cases h1 : (s[j]).toNat = 34 ∨ (s[j]).toNat = 92
        · have HM2 := Lib.hid (show m + 2 = 2 + (esc (s.data.toList.take (j + 1))).length from by rw [hes, if_pos h1, hmm.out]; simp; omega)
          have h2 : ((s[j]).toNat : Int) = 34 ∨ ((s[j]).toNat : Int) = 92 := by omega
          clear hes htk h1
          rcases h2 with h2 | h2
          all_goals
            go_wp2
            go_round
            case measure => simp [intOf]; omega
            case rel => exact ⟨j + 1, m + 2, by omega, by go_num, by go_num, by omega, HM2⟩
        · have HM2 := Lib.hid (show m + 1 = 2 + (esc (s.data.toList.take (j + 1))).length from by rw [hes, if_neg h1, hmm.out]; simp; omega)
          have h2 : ((s[j].toNat : Int) == 34) = false := by simp; omega
          have h3 : ((s[j].toNat : Int) == 92) = false := by simp; omega
          clear hes htk h1
          go_wp2
          go_round
          case measure => simp [intOf]; omega
          case rel => exact ⟨j + 1, m + 1, by omega, by go_num, by go_num, by omega, HM2⟩
      · have hje : j = s.size := by omega
        subst hje
        have HM2 := Lib.hid (show m = 2 + (esc s.data.toList).length from by have := hmm.out; rwa [List.take_of_length_le (by simp)] at this)
        obtain ⟨X, hX⟩ : ∃ X : ByteArray, X = ⟨(tx (.mk 2 0 s [])).toArray⟩ := ⟨_, rfl⟩
        have hXl : X.data.toList = 34 :: (esc s.data.toList ++ [34]) := by rw [hX, ← tx2 0 s []]
        have hXs : X.size = m := by
          have := congrArg List.length hXl
          simp at this
          have := HM2.out
          omega
        have hm2 : 2 ≤ m := by have := HM2.out; omega
        have hXe : ((X.size : Int) == (m : Int)) = true := by rw [hXs]; simp
        have hl0 : 0 < X.size := by omega
        have hl1 : m - 1 < X.size := by omega
        have hg0 : X.data.toList[0]'(by simpa using hl0) = 34 := by simp only [hXl]; rfl
        have hg1 : X.data.toList[m - 1]'(by simpa using hl1) = 34 := by
          have e : m - 1 = (34 :: esc s.data.toList).length := by have := HM2.out; simp; omega
          simp only [hXl]
          have e2 : (34 :: (esc s.data.toList ++ [34]))[m - 1]? = some 34 := by
            rw [e, ← List.cons_append, List.getElem?_append_right (Nat.le_refl _)]; simp
          exact (List.getElem_eq_iff _).2 e2
        have hx0 : ((X[0]'hl0).toNat : Int) = 34 := by
          have : X[0]'hl0 = 34 := hg0
          rw [this]; rfl
        have hx1 : ((X[m - 1]'hl1).toNat : Int) = 34 := by
          have : X[m - 1]'hl1 = 34 := hg1
          rw [this]; rfl
        have hb1 : m ≤ X.size := by omega
        clear hg0 hg1 hXs
        have HX := Lib.hid hX
        clear hX hXl
        go_wp2_with (first
          | (go_at_call 17; refine (vS_any s _).mono ?_; rintro e w6 ⟨rfl, hb6⟩; have HB4 := Lib.hid (HB4.out.trans (hb6.mono HB4.out.size)); have HE4 := Lib.hid (HE4.out.below hb6); clear hb6)
          | (go_at_call 23; refine (text_any eD eM eR eS aY hP (.mk 2 0 s []) _ 0 0 _ (HR2 _).out (Nat.zero_le _) HE4.out HO2.out).mono ?_; rintro e w5 ⟨rfl, hb5⟩; rw [← HX.out]; have HB4 := Lib.hid (HB4.out.trans (hb5.mono HB4.out.size)); have HE4 := Lib.hid (HE4.out.below hb5); clear hb5)
          | (go_at_call 26; refine (plain_any eD eM eR eS aY hP (.mk 2 0 s []) _ 0 0 _ (HR2 _).out (Nat.zero_le _) HE4.out HO2.out).mono ?_; rintro e w4 ⟨rfl, hb4⟩; rw [HPL3.out]; have HB4 := Lib.hid (HB4.out.trans (hb4.mono HB4.out.size)); clear hb4))
        go_ret
        exact ⟨rfl, HB4.out⟩
  · have HPL2 := Lib.hid (HPL.out.trans ((if_neg (by omega)).trans (if_pos rfl)))
    clear HPL
    go_enter Tryd.func9, Tryd.ntmps9
    go_wp2_with (first
      | (go_at_call 21; refine (first2_any eD eM eR eS aY hP _ (HE.out.below (H1 _).out)).mono ?_; rintro e w1 ⟨rfl, hb1⟩; have HB1 := Lib.hid ((H1 _).out.trans (hb1.mono (by simp))); have HE1 := Lib.hid (HE.out.below HB1.out); have HV1 := Lib.hid (heap_old (heap_alloc_new w _) hb1); obtain ⟨x0, x1, x2, x3, _⟩ := box4_in _ _ _ _ _ _ _ HV1.out; clear hb1)
      | (go_at_call 22; refine (right_any t _ lo hi _ (HR.out.below HB1.out hhi) (by have := HB1.out.size; omega)).mono ?_; rintro e w2 ⟨rfl, hb2⟩; rw [H.out]; have HB2 := Lib.hid (HB1.out.trans (hb2.mono HB1.out.size)); have HE2 := Lib.hid (HE1.out.below hb2); have HV2 := Lib.hid (heap_old HV1.out hb2); obtain ⟨x0, x1, x2, x3, _⟩ := box4_in _ _ _ _ _ _ _ HV2.out; clear hb2)
      | (go_at_call 20; refine (printed_any s _ (by omega)).mono ?_; rintro e w3 ⟨rfl, rfl⟩; rw [HPR.out])
      | (go_at_call 26; refine (plain_any eD eM eR eS aY hP t _ lo hi _ (HR.out.below HB2.out hhi) (by have := HB2.out.size; omega) HE2.out HO.out).mono ?_; rintro e w4 ⟨rfl, hb4⟩; rw [HPL2.out]; have HB4 := Lib.hid (HB2.out.trans (hb4.mono HB2.out.size)); have HE4 := Lib.hid (HE2.out.below hb4); have HV4 := Lib.hid (heap_old HV2.out hb4); obtain ⟨x0, x1, x2, x3, _⟩ := box4_in _ _ _ _ _ _ _ HV4.out; clear hb4))
    go_loop [7, 8] (fun nn i => ∃ j m : Nat, j ≤ s.size ∧ i = .int .i64 j ∧ nn = .int .i64 m ∧ m ≤ 2 + 2 * j ∧ Hid (m = 2 + (esc (s.data.toList.take j)).length)) (fun _ i => s.size - (intOf i).toNat)
    case atStart => exact ⟨0, 2, Nat.zero_le _, rfl, rfl, by omega, Lib.hid (by simp [esc])⟩
    case round =>
      obtain ⟨j, m, hj, rfl, rfl, hm, hmm⟩ := hrel
      by_cases hjs : j < s.size
      · have htk : s.data.toList.take (j + 1) = s.data.toList.take j ++ [s[j]] := by
          rw [List.take_succ_eq_append_getElem (by simpa using hjs)]; rfl
        have hes := esc_snoc (s.data.toList.take j) s[j]
        rw [← htk] at hes
        by_cases h1 : (s[j]).toNat = 34 ∨ (s[j]).toNat = 92
        · have HM2 := Lib.hid (show m + 2 = 2 + (esc (s.data.toList.take (j + 1))).length from by rw [hes, if_pos h1, hmm.out]; simp; omega)
          have h2 : ((s[j]).toNat : Int) = 34 ∨ ((s[j]).toNat : Int) = 92 := by omega
          clear hes htk h1
          rcases h2 with h2 | h2
          all_goals
            go_wp2
            go_round
            case measure => simp [intOf]; omega
            case rel => exact ⟨j + 1, m + 2, by omega, by go_num, by go_num, by omega, HM2⟩
        · have HM2 := Lib.hid (show m + 1 = 2 + (esc (s.data.toList.take (j + 1))).length from by rw [hes, if_neg h1, hmm.out]; simp; omega)
          have h2 : ((s[j].toNat : Int) == 34) = false := by simp; omega
          have h3 : ((s[j].toNat : Int) == 92) = false := by simp; omega
          clear hes htk h1
          go_wp2
          go_round
          case measure => simp [intOf]; omega
          case rel => exact ⟨j + 1, m + 1, by omega, by go_num, by go_num, by omega, HM2⟩
      · have hje : j = s.size := by omega
        subst hje
        have HM2 := Lib.hid (show m = 2 + (esc s.data.toList).length from by have := hmm.out; rwa [List.take_of_length_le (by simp)] at this)
        obtain ⟨X, hX⟩ : ∃ X : ByteArray, X = ⟨(tx (.mk 2 0 s [])).toArray⟩ := ⟨_, rfl⟩
        have hXl : X.data.toList = 34 :: (esc s.data.toList ++ [34]) := by rw [hX, ← tx2 0 s []]
        have hXs : X.size = m := by
          have := congrArg List.length hXl
          simp at this
          have := HM2.out
          omega
        have hm2 : 2 ≤ m := by have := HM2.out; omega
        have hXe : ((X.size : Int) == (m : Int)) = true := by rw [hXs]; simp
        have hl0 : 0 < X.size := by omega
        have hl1 : m - 1 < X.size := by omega
        have hg0 : X.data.toList[0]'(by simpa using hl0) = 34 := by simp only [hXl]; rfl
        have hg1 : X.data.toList[m - 1]'(by simpa using hl1) = 34 := by
          have e : m - 1 = (34 :: esc s.data.toList).length := by have := HM2.out; simp; omega
          simp only [hXl]
          have e2 : (34 :: (esc s.data.toList ++ [34]))[m - 1]? = some 34 := by
            rw [e, ← List.cons_append, List.getElem?_append_right (Nat.le_refl _)]; simp
          exact (List.getElem_eq_iff _).2 e2
        have hx0 : ((X[0]'hl0).toNat : Int) = 34 := by
          have : X[0]'hl0 = 34 := hg0
          rw [this]; rfl
        have hx1 : ((X[m - 1]'hl1).toNat : Int) = 34 := by
          have : X[m - 1]'hl1 = 34 := hg1
          rw [this]; rfl
        have hb1 : m ≤ X.size := by omega
        clear hg0 hg1 hXs
        have HX := Lib.hid hX
        clear hX hXl
        go_wp2_with (first
          | (go_at_call 17; refine (vS_any s _).mono ?_; rintro e w6 ⟨rfl, hb6⟩; have HB4 := Lib.hid (HB4.out.trans (hb6.mono HB4.out.size)); have HE4 := Lib.hid (HE4.out.below hb6); clear hb6)
          | (go_at_call 23; refine (text_any eD eM eR eS aY hP (.mk 2 0 s []) _ 0 0 _ (HR2 _).out (Nat.zero_le _) HE4.out HO2.out).mono ?_; rintro e w5 ⟨rfl, hb5⟩; rw [← HX.out]; have HB4 := Lib.hid (HB4.out.trans (hb5.mono HB4.out.size)); have HE4 := Lib.hid (HE4.out.below hb5); clear hb5)
          | (go_at_call 26; refine (plain_any eD eM eR eS aY hP (.mk 2 0 s []) _ 0 0 _ (HR2 _).out (Nat.zero_le _) HE4.out HO2.out).mono ?_; rintro e w4 ⟨rfl, hb4⟩; rw [HPL3.out]; have HB4 := Lib.hid (HB4.out.trans (hb4.mono HB4.out.size)); clear hb4))
        go_ret
        exact ⟨rfl, HB4.out⟩
  · have HPL2 := Lib.hid (HPL.out.trans ((if_neg hk2).trans (if_neg hk4)))
    clear HPL
    have hkb2 : (k == 2) = false := by simpa using hk2
    have hkb4 : (k == 4) = false := by simpa using hk4
    go_enter Tryd.func9, Tryd.ntmps9
    go_wp2_with (first
      | (go_at_call 21; refine (first2_any eD eM eR eS aY hP _ (HE.out.below (H1 _).out)).mono ?_; rintro e w1 ⟨rfl, hb1⟩; have HB1 := Lib.hid ((H1 _).out.trans (hb1.mono (by simp))); have HE1 := Lib.hid (HE.out.below HB1.out); have HV1 := Lib.hid (heap_old (heap_alloc_new w _) hb1); obtain ⟨x0, x1, x2, x3, _⟩ := box4_in _ _ _ _ _ _ _ HV1.out; clear hb1)
      | (go_at_call 22; refine (right_any t _ lo hi _ (HR.out.below HB1.out hhi) (by have := HB1.out.size; omega)).mono ?_; rintro e w2 ⟨rfl, hb2⟩; rw [H.out]; have HB2 := Lib.hid (HB1.out.trans (hb2.mono HB1.out.size)); have HE2 := Lib.hid (HE1.out.below hb2); have HV2 := Lib.hid (heap_old HV1.out hb2); obtain ⟨x0, x1, x2, x3, _⟩ := box4_in _ _ _ _ _ _ _ HV2.out; clear hb2)
      | (go_at_call 20; refine (printed_any s _ (by omega)).mono ?_; rintro e w3 ⟨rfl, rfl⟩; rw [HPR.out])
      | (go_at_call 26; refine (plain_any eD eM eR eS aY hP t _ lo hi _ (HR.out.below HB2.out hhi) (by have := HB2.out.size; omega) HE2.out HO.out).mono ?_; rintro e w4 ⟨rfl, hb4⟩; rw [HPL2.out]; have HB4 := Lib.hid (HB2.out.trans (hb4.mono HB2.out.size)); have HE4 := Lib.hid (HE2.out.below hb4); have HV4 := Lib.hid (heap_old HV2.out hb4); obtain ⟨x0, x1, x2, x3, _⟩ := box4_in _ _ _ _ _ _ _ HV4.out; clear hb4)
      | (go_at_call 23; refine (text_any eD eM eR eS aY hP t _ lo hi _ (HR.out.below HB4.out hhi) (by have := HB4.out.size; omega) HE4.out HO.out).mono ?_; rintro e w5 ⟨rfl, hb5⟩; have HB4 := Lib.hid (HB4.out.trans (hb5.mono HB4.out.size)); have HE4 := Lib.hid (HE4.out.below hb5); clear hb5))
    go_loop [7, 8] (fun nn i => ∃ j m : Nat, j ≤ s.size ∧ i = .int .i64 j ∧ nn = .int .i64 m ∧ m ≤ 2 + 2 * j ∧ Hid (m = 2 + (esc (s.data.toList.take j)).length)) (fun _ i => s.size - (intOf i).toNat)
    case atStart => exact ⟨0, 2, Nat.zero_le _, rfl, rfl, by omega, Lib.hid (by simp [esc])⟩
    case round =>
      obtain ⟨j, m, hj, rfl, rfl, hm, hmm⟩ := hrel
      by_cases hjs : j < s.size
      · have htk : s.data.toList.take (j + 1) = s.data.toList.take j ++ [s[j]] := by
          rw [List.take_succ_eq_append_getElem (by simpa using hjs)]; rfl
        have hes := esc_snoc (s.data.toList.take j) s[j]
        rw [← htk] at hes
        by_cases h1 : (s[j]).toNat = 34 ∨ (s[j]).toNat = 92
        · have HM2 := Lib.hid (show m + 2 = 2 + (esc (s.data.toList.take (j + 1))).length from by rw [hes, if_pos h1, hmm.out]; simp; omega)
          have h2 : ((s[j]).toNat : Int) = 34 ∨ ((s[j]).toNat : Int) = 92 := by omega
          clear hes htk h1
          rcases h2 with h2 | h2
          all_goals
            go_wp2
            go_round
            case measure => simp [intOf]; omega
            case rel => exact ⟨j + 1, m + 2, by omega, by go_num, by go_num, by omega, HM2⟩
        · have HM2 := Lib.hid (show m + 1 = 2 + (esc (s.data.toList.take (j + 1))).length from by rw [hes, if_neg h1, hmm.out]; simp; omega)
          have h2 : ((s[j].toNat : Int) == 34) = false := by simp; omega
          have h3 : ((s[j].toNat : Int) == 92) = false := by simp; omega
          clear hes htk h1
          go_wp2
          go_round
          case measure => simp [intOf]; omega
          case rel => exact ⟨j + 1, m + 1, by omega, by go_num, by go_num, by omega, HM2⟩
      · have hje : j = s.size := by omega
        subst hje
        have HM2 := Lib.hid (show m = 2 + (esc s.data.toList).length from by have := hmm.out; rwa [List.take_of_length_le (by simp)] at this)
        obtain ⟨X, hX⟩ : ∃ X : ByteArray, X = ⟨(tx (.mk 2 0 s [])).toArray⟩ := ⟨_, rfl⟩
        have hXl : X.data.toList = 34 :: (esc s.data.toList ++ [34]) := by rw [hX, ← tx2 0 s []]
        have hXs : X.size = m := by
          have := congrArg List.length hXl
          simp at this
          have := HM2.out
          omega
        have hm2 : 2 ≤ m := by have := HM2.out; omega
        have hXe : ((X.size : Int) == (m : Int)) = true := by rw [hXs]; simp
        have hl0 : 0 < X.size := by omega
        have hl1 : m - 1 < X.size := by omega
        have hg0 : X.data.toList[0]'(by simpa using hl0) = 34 := by simp only [hXl]; rfl
        have hg1 : X.data.toList[m - 1]'(by simpa using hl1) = 34 := by
          have e : m - 1 = (34 :: esc s.data.toList).length := by have := HM2.out; simp; omega
          simp only [hXl]
          have e2 : (34 :: (esc s.data.toList ++ [34]))[m - 1]? = some 34 := by
            rw [e, ← List.cons_append, List.getElem?_append_right (Nat.le_refl _)]; simp
          exact (List.getElem_eq_iff _).2 e2
        have hx0 : ((X[0]'hl0).toNat : Int) = 34 := by
          have : X[0]'hl0 = 34 := hg0
          rw [this]; rfl
        have hx1 : ((X[m - 1]'hl1).toNat : Int) = 34 := by
          have : X[m - 1]'hl1 = 34 := hg1
          rw [this]; rfl
        have hb1 : m ≤ X.size := by omega
        clear hg0 hg1 hXs
        have HX := Lib.hid hX
        clear hX hXl
        go_wp2_with (first
          | (go_at_call 17; refine (vS_any s _).mono ?_; rintro e w6 ⟨rfl, hb6⟩; have HB4 := Lib.hid (HB4.out.trans (hb6.mono HB4.out.size)); have HE4 := Lib.hid (HE4.out.below hb6); clear hb6)
          | (go_at_call 23; refine (text_any eD eM eR eS aY hP (.mk 2 0 s []) _ 0 0 _ (HR2 _).out (Nat.zero_le _) HE4.out HO2.out).mono ?_; rintro e w5 ⟨rfl, hb5⟩; rw [← HX.out]; have HB4 := Lib.hid (HB4.out.trans (hb5.mono HB4.out.size)); have HE4 := Lib.hid (HE4.out.below hb5); clear hb5)
          | (go_at_call 26; refine (plain_any eD eM eR eS aY hP (.mk 2 0 s []) _ 0 0 _ (HR2 _).out (Nat.zero_le _) HE4.out HO2.out).mono ?_; rintro e w4 ⟨rfl, hb4⟩; rw [HPL3.out]; have HB4 := Lib.hid (HB4.out.trans (hb4.mono HB4.out.size)); clear hb4))
        go_ret
        exact ⟨rfl, HB4.out⟩

theorem plain_all (eD eM eR eS : Value) (aY : Addr) (hP : Ptrs eD eM eR eS) (t : T) (v : Value) (s : ByteArray) (w : World) (lo hi : Nat) (hr : Rep w lo hi t v) (hhi : hi ≤ w.heap.size) (he : Env w eD eM eR eS aY) (hsm : s.size ≤ 9223372036854775807) :
    Calls Tryd.prog 9 #[v, .string s] w fun e w' => e = .returned (.bool true) ∧ Below w.heap.size w w' := by
  cases h : rightB t with
  | false => exact plain_early_right eD eM eR eS aY hP t v s w lo hi hr hhi he h
  | true =>
    by_cases hs : s.size ≤ 200
    · cases hp : printed s with
      | false => exact plain_early_odd eD eM eR eS aY hP t v s w lo hi hr hhi he h hs hp
      | true =>
        obtain ⟨k, n, sv, l⟩ := t
        exact plain_main eD eM eR eS aY hP k n sv l v s w lo hi hr hhi he h hs hp
    · exact plain_early_long eD eM eR eS aY hP t v s w lo hi hr hhi he h (by omega) hsm

end Go.Proofs.YtpadoembppkkpaaDoor
