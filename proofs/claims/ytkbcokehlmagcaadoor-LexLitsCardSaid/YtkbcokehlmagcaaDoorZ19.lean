/- The document's texts of values: the same texts. -/
import Derived.Test.YtkbcokehlmagcaaDoorZ17
import Derived.Test.YtkbcokehlmagcaaDoorZ13
import Derived.Lib.AppendIntMem
import Derived.WalkSpells
import Derived.Laws.Concat
import Derived.Test.YtkbcokehlmagcaaDoorZ15
namespace Go.Proofs.YtkbcokehlmagcaaDoor
open Go.RowKit
set_option maxRecDepth 100000

section
attribute [local go_sem ↓] run_string_add
def strB (l : Bs) : ByteArray := ⟨l.toArray⟩
theorem strB_size (l : Bs) : (strB l).size = l.length := by show l.toArray.size = _; simp
theorem strB_app (l m : Bs) : strB l ++ strB m = strB (l ++ m) := by
  apply ByteArray.ext; apply Array.ext'; simp [strB]
theorem strB_list (s : ByteArray) : strB s.data.toList = s := by
  apply ByteArray.ext; apply Array.ext'; simp [strB]
theorem ext_one (s : ByteArray) (j : Nat) (h : j < s.size) : s.extract j (j + 1) = strB [s[j]] := by
  apply ByteArray.ext; apply Array.ext'
  have hl : j < s.data.toList.length := by simpa using h
  simp [strB]
  rw [List.take_one, List.head?_drop]
  simp [h]
  rfl

theorem ret_str {a b : ByteArray} (h : a = b) : Ending.returned (.string a) = .returned (.string b) := by rw [h]
theorem esc_ge (l : Bs) : l.length ≤ (esc l).length := by
  induction l with
  | nil => simp [esc]
  | cons c r ih => rw [esc]; split <;> simp <;> omega

set_option maxHeartbeats 2000000 in
theorem refQuoted_any (s : ByteArray) (w : World) (hlen : (esc s.data.toList).length ≤ 4000000) :
    Calls Tryd.prog 50 #[.string s] w fun e w' => e = .returned (.string (strB (34 :: (esc s.data.toList ++ [34])))) ∧ w = w' := by
  have hss : s.size ≤ 4000000 := by
    have := esc_ge s.data.toList
    have h2 : s.data.toList.length = s.size := by simp
    omega
  go_enter Tryd.func50, Tryd.ntmps50
  go_wp2
  go_loop [3, 4] (fun o i => ∃ (j : Nat) (O : ByteArray), j ≤ s.size ∧ i = .int .i64 j ∧ o = .string O ∧ Hid (O = strB (34 :: esc (s.data.toList.take j)))) (fun _ i => s.size - (intOf i).toNat)
  case atStart => exact ⟨0, _, Nat.zero_le _, rfl, rfl, Lib.hid rfl⟩
  case round =>
    obtain ⟨j, O, hj, rfl, rfl, hO⟩ := hrel
    have hel := esc_take_le s.data.toList j
    have hz0 : O.size ≤ 4000001 := by rw [hO.out, strB_size]; simp; omega
    have hz : (O.size : Int) ≤ 4000001 := by omega
    clear hel hz0
    by_cases hlt : j < s.size
    · have htk : s.data.toList.take (j + 1) = s.data.toList.take j ++ [s[j]] := by
        rw [List.take_succ_eq_append_getElem (by simpa using hlt)]; rfl
      have hes := esc_snoc (s.data.toList.take j) s[j]
      rw [← htk] at hes
      obtain ⟨P, hP⟩ : ∃ P, s.extract j (j + 1) = P := ⟨_, rfl⟩
      have hP1 : P = strB [s[j]] := hP.symm.trans (ext_one s j hlt)
      have hPz : (P.size : Int) ≤ 1 := by rw [hP1, strB_size]; simp
      have hji : (j : Int) ≤ (j : Int) + 1 := by omega
      have hji2 : (j : Int) + 1 ≤ (s.size : Int) := by omega
      by_cases h1 : (s[j]).toNat = 34 ∨ (s[j]).toNat = 92
      · rw [if_pos h1] at hes
        have HE := Lib.hid (show (O ++ ⟨#[92]⟩) ++ P = strB (34 :: esc (s.data.toList.take (j + 1))) from by
          rw [hO.out, hP1]; show (_ ++ strB [92]) ++ _ = _; rw [strB_app, strB_app, hes]; simp)
        clear hes htk hP1
        rcases h1 with h1 | h1
        · have e1 : (((s[j]).toNat : Int) == 34) = true := by simp; omega
          go_wp2
          go_round
          case measure => show s.size - ((j : Int) + 1).toNat < s.size - ((j : Int)).toNat; omega
          case rel => exact ⟨j + 1, _, by omega, by go_num, rfl, HE⟩
        · have e1 : (((s[j]).toNat : Int) == 34) = false := by simp; omega
          have e2 : (((s[j]).toNat : Int) == 92) = true := by simp; omega
          go_wp2
          go_round
          case measure => show s.size - ((j : Int) + 1).toNat < s.size - ((j : Int)).toNat; omega
          case rel => exact ⟨j + 1, _, by omega, by go_num, rfl, HE⟩
      · rw [if_neg h1] at hes
        have HE := Lib.hid (show O ++ P = strB (34 :: esc (s.data.toList.take (j + 1))) from by
          rw [hO.out, hP1, strB_app, hes]; simp)
        clear hes htk hP1
        have e1 : (((s[j]).toNat : Int) == 34) = false := by simp; omega
        have e2 : (((s[j]).toNat : Int) == 92) = false := by simp; omega
        go_wp2
        go_round
        case measure => show s.size - ((j : Int) + 1).toNat < s.size - ((j : Int)).toNat; omega
        case rel => exact ⟨j + 1, _, by omega, by go_num, rfl, HE⟩
    · have hje : j = s.size := by omega
      subst hje
      rw [List.take_of_length_le (by simp)] at hO
      go_wp2
      have HF := Lib.hid (show O ++ ⟨#[34]⟩ = strB (34 :: (esc s.data.toList ++ [34])) from by
        rw [hO.out]; show _ ++ strB [34] = _; rw [strB_app]; rfl)
      go_ret
      exact ⟨ret_str HF.out, rfl⟩
abbrev TabI (w : World) : Prop := Lib.TabIs Tryd.prog w "internal/strconv.uint64pow10" .u64 Lib.pow10Tab
theorem TabI.below {w w' : World} (h : TabI w) (hb : Below w.heap.size w w') : TabI w' := Lib.tabBelow_of_tabIs h w' hb
theorem fmt_any (n : Int) (hn : I64 n) (w : World) (h : TabI w) (P : ByteArray) (hP : P = strB (Lib.itoa n)) :
    Calls Tryd.prog 49 #[.int .i64 n, .int .i64 10] w fun e w' => e = .returned (.string P) ∧ Below w.heap.size w w' := by
  subst hP
  refine (Tryd.strconv_FormatInt_10 n hn.1 hn.2 w h).mono ?_
  rintro e w' ⟨rfl, k, os, rfl⟩
  exact ⟨rfl, Lib.below_grow _ _ (Nat.le_refl _) _ _⟩

/-- What the document's text of a value comes to. -/
def RTxt (t : T) : Prop := ∀ (W : World) (lo hi : Nat) (v : Value), Rep W lo hi t v → hi ≤ W.heap.size → (tx t).length ≤ 4000000 → TabI W →
  Calls Tryd.prog 31 #[v] W fun e w' => e = .returned (.string (strB (tx t))) ∧ Below W.heap.size W w'

set_option maxHeartbeats 4000000 in
theorem refText_one (k n : Int) (s : ByteArray) (l : List T) (ih : ∀ t ∈ l, RTxt t) : RTxt (.mk k n s l) := by
  intro w lo hi v hr hhi hlen hT
  have hr' := hr
  unfold Rep at hr'
  obtain ⟨p, cap, rfl, hk, hn, hs, hlc, hll, hra⟩ := hr'
  have HRA := Lib.hid hra
  have HIH := Lib.hid ih
  have HT := Lib.hid hT
  have HN := Lib.hid hn
  have H1 : ∀ o : Obj, Hid (Below w.heap.size w (w.alloc o)) := fun o => (Below.refl _ _).alloc (Nat.le_refl _) _
  clear hra hT hr ih
  by_cases h0 : k = 0
  · subst h0
    rw [tx0]
    go_enter Tryd.func31, Tryd.ntmps31
    go_wp2_with (go_at_call 49; refine (fmt_any n HN.out _ (HT.out.below (H1 _).out) _ rfl).mono ?_; rintro e w3 ⟨rfl, hb3⟩; have HB3 := Lib.hid ((H1 _).out.trans (hb3.mono (by simp))); clear hb3)
    go_ret
    exact ⟨rfl, HB3.out⟩
  · by_cases h1 : k = 1
    · subst h1
      rw [tx1]
      obtain ⟨P, hP⟩ : ∃ P, P = strB (Lib.itoa n) := ⟨_, rfl⟩
      have hPz : (P.size : Int) ≤ 30 := by
        have := Lib.itoa_length_le n hn.1 hn.2
        rw [hP, strB_size]; omega
      have HP := Lib.hid hP; clear hP
      have HE := Lib.hid (show (⟨#[35]⟩ : ByteArray) ++ P = strB (35 :: Lib.itoa n) from by rw [HP.out]; show strB [35] ++ _ = _; rw [strB_app]; rfl)
      go_enter Tryd.func31, Tryd.ntmps31
      go_wp2_with (go_at_call 49; refine (fmt_any n HN.out _ (HT.out.below (H1 _).out) _ HP.out).mono ?_; rintro e w3 ⟨rfl, hb3⟩; have HB3 := Lib.hid ((H1 _).out.trans (hb3.mono (by simp))); clear hb3)
      go_ret
      exact ⟨ret_str HE.out, HB3.out⟩
    · by_cases h2 : k = 2
      · subst h2
        rw [tx2] at hlen ⊢
        simp at hlen
        have hqb : (esc s.data.toList).length ≤ 4000000 := by omega
        go_enter Tryd.func31, Tryd.ntmps31
        go_wp2_with (go_at_call 50; refine (refQuoted_any s _ hqb).mono ?_; rintro e w3 ⟨rfl, rfl⟩)
        go_ret
        exact ⟨rfl, (H1 _).out⟩
      · by_cases h3 : k = 3
        · subst h3
          rw [tx3]
          go_enter Tryd.func31, Tryd.ntmps31
          go_wp2_with (go_at_call 51; refine (refName_any n _).mono ?_; rintro e w3 ⟨rfl, rfl⟩)
          go_ret
          exact ⟨rfl, (H1 _).out⟩
        · have e : tx (.mk k n s l) = 123 :: (txs l ++ [125]) := by rw [tx, if_neg h0, if_neg h1, if_neg h2, if_neg h3]
          rw [e] at hlen ⊢
          simp at hlen
          clear e
          have k0 : (k == 0) = false := beq_eq_false_iff_ne.2 h0
          have k1 : (k == 1) = false := beq_eq_false_iff_ne.2 h1
          have k2 : (k == 2) = false := beq_eq_false_iff_ne.2 h2
          have k3 : (k == 3) = false := beq_eq_false_iff_ne.2 h3
          go_enter Tryd.func31, Tryd.ntmps31
          go_wp2
          go_loopw [3, 4] (fun o i wr => ∃ (j : Nat) (O : ByteArray), j ≤ l.length ∧ i = .int .i64 j ∧ o = .string O ∧ Hid (O = strB (123 :: txs (l.take j))) ∧ Hid (wr.heap[w.heap.size]? = some (.cells #[.int .i64 k, .int .i64 n, .string s, .slice p l.length cap] 32 (0, 0))) ∧ Hid (Below w.heap.size w wr) ∧ w.heap.size < wr.heap.size) (fun _ i _ => l.length - (intOf i).toNat)
          case atStart => exact ⟨0, _, Nat.zero_le _, rfl, rfl, Lib.hid rfl, Lib.hid (heap_alloc_new w _), H1 _, by simp⟩
          case round =>
            obtain ⟨j, O, hj, rfl, rfl, hO, hX, hB, hlt⟩ := hrel
            obtain ⟨x0, x1, x2, x3, _⟩ := box4_in _ _ _ _ _ _ _ hX.out
            have hz0 : O.size ≤ 4000000 ∧ (txs (l.take j)).length ≤ (txs l).length := by
              have h : (txs (l.take j)).length ≤ (txs l).length := by
                cases j with
                | zero => simp [txs]
                | succ i => exact txs_take_le l i (by omega)
              refine ⟨?_, h⟩
              rw [hO.out, strB_size]; simp; omega
            have hz : (O.size : Int) ≤ 4000000 := by omega
            by_cases hjl : j < l.length
            · obtain ⟨b, off, k2, n2, s2, ll, q, c, rfl, hlo, hhi2, hli, c0, c1, c2, c3, hrep⟩ := (HRA.out.below hB.out hhi).item j hjl
              have HREP := Lib.hid hrep
              have HMEM := Lib.hid (HIH.out l[j] (List.getElem_mem hjl))
              have htk : l.take (j + 1) = l.take j ++ [l[j]] := List.take_succ_eq_append_getElem hjl
              have hsn := txs_snoc (l.take j) l[j]
              rw [← htk] at hsn
              have htl : (l.take j).length = j := by rw [List.length_take]; omega
              rw [htl] at hsn
              have hle := txs_take_le l j hjl
              have hti : (tx l[j]).length ≤ 4000000 := by
                have := hsn
                by_cases hj0 : j = 0
                · rw [if_pos hj0] at this; rw [this] at hle; omega
                · rw [if_neg hj0] at this; rw [this] at hle; simp at hle; omega
              have hbl : b < wr.heap.size := by omega
              have HTW := Lib.hid (HT.out.below hB.out)
              generalize l[j] = t at *
              obtain ⟨P, hP⟩ : ∃ P, P = strB (tx t) := ⟨_, rfl⟩
              have hPz : (P.size : Int) ≤ 4000000 := by rw [hP, strB_size]; omega
              have HC := Lib.hid (fun (W : World) (V : Value) (h1 : Rep W lo hi t V) (h2 : hi ≤ W.heap.size) (h3 : TabI W) => by
                have := HMEM.out W lo hi V h1 h2 hti h3
                rw [← hP] at this; exact this)
              clear hrep htk htl hli hti
              by_cases hj0 : j = 0
              · rw [if_pos hj0] at hsn
                subst hj0
                have HE := Lib.hid (show O ++ P = strB (123 :: txs (l.take (0 + 1))) from by rw [hO.out, hP, strB_app, hsn]; rfl)
                clear hP hsn hle
                simp only [Nat.zero_mul, Nat.add_zero] at c0 c1 c2 c3
                go_wp2_with (go_at_call 31; refine (HC.out _ _ HREP.out (by omega) HTW.out).mono ?_; rintro e w3 ⟨rfl, hb3⟩; have HB3 := Lib.hid hb3; clear hb3)
                go_roundw
                case measure => show l.length - (((0 : Nat) : Int) + 1).toNat < l.length - (((0 : Nat) : Int)).toNat; omega
                case rel => exact ⟨0 + 1, _, by omega, by go_num, rfl, HE, Lib.hid (heap_old hX.out HB3.out), Lib.hid (hB.out.trans (HB3.out.mono hB.out.size)), Nat.lt_of_lt_of_le hlt HB3.out.size⟩
              · rw [if_neg hj0] at hsn
                have hj0' : 0 < j := by omega
                have HE := Lib.hid (show (O ++ ⟨#[44, 32]⟩) ++ P = strB (123 :: txs (l.take (j + 1))) from by rw [hO.out, hP]; show (_ ++ strB [44, 32]) ++ _ = _; rw [strB_app, strB_app, hsn]; simp)
                clear hP hsn hle
                go_wp2_with (go_at_call 31; refine (HC.out _ _ HREP.out (by omega) HTW.out).mono ?_; rintro e w3 ⟨rfl, hb3⟩; have HB3 := Lib.hid hb3; clear hb3)
                go_roundw
                case measure => show l.length - ((j : Int) + 1).toNat < l.length - ((j : Int)).toNat; omega
                case rel => exact ⟨j + 1, _, by omega, by go_num, rfl, HE, Lib.hid (heap_old hX.out HB3.out), Lib.hid (hB.out.trans (HB3.out.mono hB.out.size)), Nat.lt_of_lt_of_le hlt HB3.out.size⟩
            · have hje : j = l.length := by omega
              subst hje
              rw [List.take_length] at hO
              have HF := Lib.hid (show O ++ ⟨#[125]⟩ = strB (123 :: (txs l ++ [125])) from by rw [hO.out]; show _ ++ strB [125] = _; rw [strB_app]; rfl)
              go_wp2
              go_ret
              exact ⟨ret_str HF.out, hB.out⟩
/-- The document's text of a value. -/
theorem refText_any (t : T) : RTxt t := T.ind_ (P := fun t => RTxt t) (fun k n s l ih => refText_one k n s l ih) t
end
end Go.Proofs.YtkbcokehlmagcaaDoor
