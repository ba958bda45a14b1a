/- The walk of the statement on keys and signs. -/
import Derived.Test.YtkbcokehlmagcaaDoorZ36
import Derived.Test.YtkbcokehlmagcaaDoorZ02
import Derived.Test.YtkbcokehlmagcaaDoorZ08
import Derived.Test.YtkbcokehlmagcaaDoorZ06
import Derived.Deep.DeepCutAuto
namespace Go.Proofs.YtkbcokehlmagcaaDoor
open Go.RowKit
set_option maxRecDepth 100000

/-- x, so many times. -/
abbrev xs (n : Nat) : Bs := List.replicate n 120
theorem xs_R (n : Nat) : ∀ c ∈ xs n, isR c = true := fun c hc => by obtain ⟨_, rfl⟩ := List.mem_replicate.1 hc; decide
theorem xs_in (n : Nat) : isIn (xs n) keysB = false := by
  have h : ∀ l : List Bs, (∀ k ∈ l, ∃ c q, k = c :: q ∧ c ≠ 120) → isIn (xs n) l = false := by
    intro l
    induction l with
    | nil => intro _; rfl
    | cons k r ih =>
      intro hk
      obtain ⟨c, q, rfl, hc⟩ := hk k (by simp)
      rw [isIn, if_neg, ih (fun k hk' => hk k (by simp [hk']))]
      intro e
      cases n with
      | zero => cases e
      | succ n => rw [xs, List.replicate_succ] at e; injection e with e _; exact hc e.symm
  refine h keysB (fun k hk => ?_)
  have hall : keysB.all (fun k => match k with | [] => false | c :: _ => c != 120) = true := by decide
  have := List.all_eq_true.1 hall k hk
  cases k with
  | nil => cases this
  | cons c q => exact ⟨c, q, rfl, by simpa using this⟩
theorem xs_C : ∀ n, hasC (xs n) = false
  | 0 => rfl
  | n + 1 => by rw [xs, List.replicate_succ, hasC, if_neg (by decide)]; exact xs_C n
theorem xs_word {n : Nat} (hn : 0 < n) : wordL (xs n) = if n ≤ 32 then .ok 1 (xs n) zT [] else .bad false := by
  have hr : runB (xs n) = xs n := by
    have := runB_app (xs n) [] (xs_R n) rfl
    rwa [List.append_nil] at this
  have hk : kindL (xs n) = (1, decide (n ≤ 32)) := by
    unfold kindL
    rw [xs_in, xs_C]
    simp
  cases n with
  | zero => omega
  | succ n =>
    have e : xs (n + 1) = 120 :: xs n := List.replicate_succ
    rw [e] at hr hk ⊢
    rw [wordL_cons]
    rw [if_neg (by simp [hd]), if_neg (by simp [hd]), if_neg (by decide), if_neg (by decide), if_pos (by simp [isS])]
    unfold nameWord
    rw [hr, hk]
    by_cases h : n + 1 ≤ 32
    · rw [if_pos (by simpa using h), if_pos h]; simp
    · rw [if_neg (by simpa using h), if_neg h]
theorem xs_beg {n : Nat} (hn : 0 < n) : begW (xs n) = true := by
  cases n with
  | zero => omega
  | succ n => rw [xs, List.replicate_succ]; rfl
theorem xs_ok {n : Nat} (hn : 0 < n) (h : n ≤ 32) : Lx 1 (xs n) (.ok [⟨1, 1, xs n, zT⟩]) := by
  obtain ⟨h1, h2⟩ := skipL_self (n := 1) (xs_beg hn)
  exact Lx.cons (R := .ok []) h1 h2 (by rw [xs_word hn, if_pos h]) (Lx.done rfl)
theorem xs_bad {n : Nat} (h : ¬ n ≤ 32) : Lx 1 (xs n) (.bad 1 false) := by
  obtain ⟨h1, h2⟩ := skipL_self (n := 1) (xs_beg (show 0 < n by omega))
  exact Lx.bad h1 h2 (by rw [xs_word (by omega), if_neg h])

theorem str_self (s : ByteArray) : (⟨s.data.toList.toArray⟩ : ByteArray) = s := ba_ext rfl
/-- All of a key, or a sign. -/
theorem all_self (eD eM eR eS : Value) (aY : Addr) (hP : Ptrs eD eM eR eS) (s : ByteArray) (k : Int) (w : World) (he : LEnv w eD eM eR eS aY) (hs : s.size ≤ 32768) (hx : Lx 1 s.data.toList (.ok [⟨k, 1, s.data.toList, zT⟩])) :
    Calls Tryd.prog 8 #[.string s] w fun e w' => (∃ g cap, e = .returned (.tuple #[.slice (some ⟨g, 0, none⟩) 1 cap, .nilIface]) ∧ 1 ≤ cap ∧ w'.cell? ⟨g, 0, none⟩ = some (.int .i64 k) ∧ w'.cell? ⟨g, 2, none⟩ = some (.string s)) ∧ Below w.heap.size w w' := by
  refine (all_ok eD eM eR eS aY hP s w he hs (by simp) hx).mono fun e w' h => ?_
  obtain ⟨⟨g, cap, h1, h2⟩, hb⟩ := h
  obtain ⟨q, c, h3, h4, h5, _⟩ := h2.at_ 0 (by simp)
  have hc := h2.cap
  exact ⟨⟨g, cap, h1, hc, by simpa using h3, by rw [← str_self s]; simpa using h5⟩, hb⟩

/-- A row of bytes, x up to j. -/
structure BR (w : World) (g N j : Nat) : Prop where
  row : ∃ cs : Array Value, w.heap[g]? = some (.cells cs 5 (0, 0)) ∧ cs.size = N ∧ ∀ i, i < j → cs[i]? = some (.int .u8 120)
theorem BR.step {w : World} {g N j : Nat} (h : BR w g N j) (hj : j < N) : (∃ v, w.cell? ⟨g, j, none⟩ = some v) ∧ w.frozen? ⟨g, j, none⟩ = false ∧ BR (w.setCell ⟨g, j, none⟩ (.int .u8 120)) g N (j + 1) := by
  obtain ⟨cs, h1, h2, h3⟩ := h
  refine ⟨?_, by simp [World.frozen?, h1], ⟨cs.setIfInBounds j (.int .u8 120), heap_setCell_same _ _ _ _ _ _ h1, by simpa using h2, fun i hi => ?_⟩⟩
  · rw [cell_of_row _ _ _ _ _ _ h1]; exact ⟨cs[j]'(by omega), Array.getElem?_eq_getElem (by omega)⟩
  · rw [Array.getElem?_setIfInBounds]
    by_cases e : j = i
    · subst e; rw [if_pos rfl, if_pos (by omega)]
    · rw [if_neg e]; exact h3 i (by omega)
theorem BR.conv {w : World} {g N : Nat} (h : BR w g N N) : (convert 39 9 (.slice (some ⟨g, 0, none⟩) N N)).run Tryd.prog w = .ok (.string ⟨(xs N).toArray⟩) w := by
  obtain ⟨cs, h1, h2, h3⟩ := h
  have := run_convert_bytes_back (P := Tryd.prog) w 39 9 5 ⟨g, 0, none⟩ N (xs N) Tryd.underlying39 Tryd.underlying5 Tryd.underlying9 (fun j hj => by
    have hj' : j < N := by simpa using hj
    have hadd : (⟨g, 0, none⟩ : Addr).add j = ⟨g, j, none⟩ := by unfold Addr.add; split <;> simp_all
    rw [hadd, cell_of_row _ _ _ _ _ _ h1, h3 j hj']
    simp)
  rwa [List.length_replicate] at this
theorem mkbytes (n : Nat) (h : n ≤ 1000000) (W : World) : (Instr.makeSlice 39 (.int .i64 (n : Int)) (.int .i64 (n : Int))).run Tryd.prog W = .ok (.slice (some ⟨W.heap.size, 0, none⟩) n n) (W.alloc (.cells (madeCells #[.int .u8 0] n) 5)) := by
  obtain ⟨i0, hi0, hz0, hz1, hz2⟩ := info_parts Tryd.info_u8
  have h := run_make (P := Tryd.prog) W 39 5 i0 _ Tryd.underlying39 hi0 hz0 .i64 .i64 (n : Int) (n : Int) (by omega) (by omega) (by rw [hz2]; omega) (by omega)
  rw [hz1] at h
  simpa [Value.cells] using h
theorem BR.start (W : World) (n : Nat) : BR (W.alloc (.cells (madeCells #[.int .u8 0] n) 5)) W.heap.size n 0 :=
  ⟨_, heap_alloc_new W _, size_madeCells _ _, fun i hi => by omega⟩

set_option maxHeartbeats 1000000 in
theorem words_all (ad : Nat → Addr) (hP : Ptrs (ev (ad 11)) (ev (ad 3)) (ev (ad 4)) (ev (ad 2))) (x : Int) (hx : I64 x) (w : World) (he : LEnv w (ev (ad 11)) (ev (ad 3)) (ev (ad 4)) (ev (ad 2)) (ad 10)) (hS : Sents w ad) :
    Calls Tryd.prog 4 #[.int .i64 x] w fun e w' => e = .returned (.bool true) ∧ Below w.heap.size w w' := by
  have HE := Lib.hid he; clear he
  have HS := Lib.hid hS; clear hS
  go_enter Tryd.func4, Tryd.ntmps4
  go_wp2_with (first
    | (go_at_call 7; refine (first6_any _ _ _ _ _ hP _ HE.out).mono ?_; rintro e w1 ⟨rfl, hb1⟩; have HB1 := Lib.hid hb1; have HE1 := Lib.hid (HE.out.below hb1); clear hb1)
    | (go_at_call 12; refine (keys_any w1 HE1.out.tab).mono ?_; rintro e w2 ⟨rfl, hk2, hb2⟩; have HK2 := Lib.hid hk2; have HE2 := Lib.hid (HE1.out.below hb2); have HB2 := Lib.hid (HB1.out.trans (hb2.mono HB1.out.size)); have hgk := heap_lt' hk2; generalize w1.heap.size = gk at *; clear hk2 hb2)
    | (go_at_call 13; refine (signs_any w2 HE2.out.tab).mono ?_; rintro e w3 ⟨rfl, hk3, hb3⟩; have HK3 := Lib.hid hk3; have HKK := Lib.hid (heap_old HK2.out hb3); have HE3 := Lib.hid (HE2.out.below hb3); have HB3 := Lib.hid (HB2.out.trans (hb3.mono HB2.out.size)); have hgs := heap_lt' hk3; have hgk3 := Nat.lt_of_lt_of_le hgk hb3.size; generalize w2.heap.size = gs at *; clear hk3 hb3))
  go_loopw [6] (fun i wr => ∃ j : Nat, i = .int .i64 j ∧ j ≤ 19 ∧ Hid (Below w3.heap.size w3 wr)) (fun i _ => 19 - (intOf i).toNat)
  case atStart => exact ⟨0, rfl, by omega, Lib.hid (Below.refl _ _)⟩
  case round =>
    obtain ⟨j, rfl, hj, hbr⟩ := hrel
    by_cases hj19 : j < 19
    · have hc0 : wr.cell? ⟨gk, j, none⟩ = some (.string (keyS j)) := by
        rw [cell_of_row _ _ _ _ _ _ (heap_old HKK.out hbr.out)]; exact keysA_at j hj19
      have sA := Lib.hid (all_self _ _ _ _ _ hP (keyS j) 2 wr (HE3.out.below hbr.out) (keyS_small j hj19) (key_lx j hj19))
      generalize keyS j = K at *
      have hgr := Nat.lt_of_lt_of_le hgk3 hbr.out.size
      go_wp2_with (first
        | (go_at_call 8; refine sA.out.mono ?_; rintro e w5 ⟨⟨g, cap, rfl, hcap, x0, x2⟩, hb5⟩; have hc5 := (hb5.cell (p := ⟨gk, j, none⟩) hgr).trans hc0; have HB5 := Lib.hid (hbr.out.trans (hb5.mono hbr.out.size)); clear hb5)
        | go_quiet (fail))
      go_roundw
      case measure => simp [intOf]; omega
      case rel => exact ⟨j + 1, by go_num, by omega, Lib.hid (below_drewN HB5.out _)⟩
    · have hje : j = 19 := by omega
      subst hje
      clear hj19
      rw [show ((19 : Nat) : Int) = 19 from rfl]
      go_wp2
      go_loopw [9] (fun i wr2 => ∃ j : Nat, i = .int .i64 j ∧ j ≤ 33 ∧ Hid (Below w3.heap.size w3 wr2)) (fun i _ => 33 - (intOf i).toNat)
      case atStart => exact ⟨0, rfl, by omega, hbr⟩
      case round =>
        clear hbr
        obtain ⟨j, rfl, hj, hbr⟩ := hrel
        by_cases hj33 : j < 33
        · have hc0 : wr.cell? ⟨gs, j, none⟩ = some (.string (signS j)) := by
            rw [cell_of_row _ _ _ _ _ _ (heap_old HK3.out hbr.out)]; exact signsA_at j hj33
          have sA := Lib.hid (all_self _ _ _ _ _ hP (signS j) 4 wr (HE3.out.below hbr.out) (signS_small j hj33) (sign_lx j hj33))
          generalize signS j = K at *
          have hgr := Nat.lt_of_lt_of_le hgs hbr.out.size
          go_wp2_with (first
            | (go_at_call 8; refine sA.out.mono ?_; rintro e w5 ⟨⟨g, cap, rfl, hcap, x0, x2⟩, hb5⟩; have hc5 := (hb5.cell (p := ⟨gs, j, none⟩) hgr).trans hc0; have HB5 := Lib.hid (hbr.out.trans (hb5.mono hbr.out.size)); clear hb5)
            | go_quiet (fail))
          go_roundw
          case measure => simp [intOf]; omega
          case rel => exact ⟨j + 1, by go_num, by omega, Lib.hid (below_drewN HB5.out _)⟩
        · have hje : j = 33 := by omega
          subst hje
          rw [show ((33 : Nat) : Int) = 33 from rfl]
          clear hj33 HK3 HKK hgk3 hgs hgk HK2
          obtain ⟨N, hN⟩ : ∃ N : Nat, x % 40000 = (N : Int) := ⟨(x % 40000).toNat, by omega⟩
          have hN2 : N < 40000 := by omega
          have HNM := Lib.hid (fun w => number6_any x 40000 w hx (by omega) (by omega))
          rw [hN] at HNM
          have HW4 := Lib.hid (HB3.out.trans (hbr.out.mono HB3.out.size))
          have HE4 := Lib.hid (HE3.out.below hbr.out)
          have HS4 := Lib.hid (HS.out.below HW4.out)
          have hmk := mkbytes N (by omega) wr
          have HBR := Lib.hid (BR.start wr N)
          clear hx hN HB3 HE3 HS hbr HE HE1 HE2 HB1 HB2
          have HAL := Lib.hid ((Below.refl wr.heap.size wr).alloc (Nat.le_refl _) (.cells (madeCells #[.int .u8 0] N) 5))
          go_wp2_with (go_at_call 9; refine (HNM.out _).mono ?_; rintro e w6 ⟨rfl, rfl⟩)
          go_loopw [13] (fun i wq => ∃ j : Nat, i = .int .i64 j ∧ j ≤ N ∧ Hid (BR wq wr.heap.size N j) ∧ Hid (Below wr.heap.size wr wq)) (fun i _ => N - (intOf i).toNat)
          case atStart => exact ⟨0, rfl, by omega, HBR, HAL⟩
          case round =>
            obtain ⟨j, rfl, hj, hbr, hbe⟩ := hrel
            by_cases hjN : j < N
            · obtain ⟨⟨v0, hv0⟩, hf0, hst⟩ := hbr.out.step hjN
              have HST := Lib.hid hst
              clear hst
              go_wp2
              go_roundw
              case measure => simp [intOf]; omega
              case rel => exact ⟨j + 1, by go_num, by omega, HST, Lib.hid (hbe.out.setCell (Nat.le_refl _) _)⟩
            · have hje : j = N := by omega
              subst hje
              have hcv := hbr.out.conv
              have HE5 := Lib.hid (HE4.out.below hbe.out)
              have HS5 := Lib.hid (HS4.out.below (hbe.out))
              have HW5 := Lib.hid (HW4.out.trans (hbe.out.mono HW4.out.size))
              have hsz : (⟨(xs j).toArray⟩ : ByteArray).size = j := by show (xs j).toArray.size = j; simp
              have HL : (⟨(xs j).toArray⟩ : ByteArray).data.toList = xs j := rfl
              clear hjN hbr HBR HAL hmk HNM
              by_cases hbig : 32768 < j
              · have sA := Lib.hid (all_many _ _ _ _ _ hP ⟨(xs j).toArray⟩ wr HE5.out (by omega) (by omega))
                have sI := Lib.hid (fun (W : World) (h : Sents W ad) => is_any ad (some 3) (by intro k hk; injection hk with hk; omega) 104 W h)
                clear hsz HL
                go_wp2_with (first
                  | (go_at_call 8; refine sA.out.mono ?_; rintro e w7 ⟨rfl, hb7⟩; have HB7 := Lib.hid hb7; clear hb7)
                  | (go_at_call 14; refine (sI.out _ (HS5.out.below HB7.out)).mono ?_; rintro e w8 ⟨rfl, hb8⟩))
                go_ret
                exact ⟨rfl, HW5.out.trans ((HB7.out.trans (hb8.mono HB7.out.size)).mono HW5.out.size)⟩
              · by_cases h32 : 32 < j
                · have sA := Lib.hid (all_bad _ _ _ _ _ hP ⟨(xs j).toArray⟩ wr HE5.out (by omega) (xs_bad (n := j) (by omega)))
                  have sP := Lib.hid (fun (W : World) => placed_any 111 1 (by omega) W)
                  have sS := Lib.hid (fun (W : World) (b : Nat) (h1 : Sents W ad) (h2 : W.heap[b]? = some (.cells #[.int .i64 1, ev (ad 10)] 55 (0, 0))) => seeSame_at ad 10 (by omega) b 1 W h1 h2)
                  unfold fp at sP sS
                  clear hsz HL
                  go_wp2_with (first
                    | (go_at_call 8; refine sA.out.mono ?_; rintro e w7 ⟨⟨bk, rfl, hbk, hbx⟩, hb7⟩; have HB7 := Lib.hid hb7; have HX7 := Lib.hid hbx; clear hb7 hbx)
                    | (go_at_call 16; refine (sP.out _).mono ?_; rintro e w8 ⟨rfl, hb8⟩; have HB8 := Lib.hid (HB7.out.trans (hb8.mono HB7.out.size)); have HX8 := Lib.hid (heap_old HX7.out hb8); clear hb8)
                    | (go_at_call 15; refine (sS.out _ bk (HS5.out.below HB8.out) HX8.out).mono ?_; rintro e w9 ⟨rfl, hb9⟩))
                  go_ret
                  exact ⟨rfl, HW5.out.trans ((HB8.out.trans (hb9.mono HB8.out.size)).mono HW5.out.size)⟩
                · by_cases h0 : 0 < j
                  · have sA := Lib.hid (all_ok _ _ _ _ _ hP ⟨(xs j).toArray⟩ wr HE5.out (by omega) (by simp) (xs_ok h0 (by omega)))
                    have hmin : min (j : Int) 1 = 1 := by omega
                    clear hsz HL
                    go_wp2_with (go_at_call 8; refine sA.out.mono ?_; rintro e w7 ⟨⟨g7, cap7, rfl, _⟩, hb7⟩; have HB7 := Lib.hid hb7; clear hb7)
                    go_ret
                    exact ⟨by simp, HW5.out.trans (HB7.out.mono HW5.out.size)⟩
                  · have hj0 : j = 0 := by omega
                    subst hj0
                    have sA := Lib.hid (all_none _ _ _ _ _ hP ⟨(xs 0).toArray⟩ wr HE5.out (by omega) (Lx.done rfl))
                    clear hsz HL
                    go_wp2_with (go_at_call 8; refine sA.out.mono ?_; rintro e w7 ⟨⟨p7, cap7, rfl⟩, hb7⟩; have HB7 := Lib.hid hb7; clear hb7)
                    go_ret
                    exact ⟨rfl, HW5.out.trans (HB7.out.mono HW5.out.size)⟩

end Go.Proofs.YtkbcokehlmagcaaDoor
