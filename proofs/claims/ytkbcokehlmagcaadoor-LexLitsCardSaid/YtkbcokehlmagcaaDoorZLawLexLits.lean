/- The walk of the statement on literals as words. -/
import Derived.Test.YtkbcokehlmagcaaDoorZ36
import Derived.Test.YtkbcokehlmagcaaDoorZ28
import Derived.Test.YtkbcokehlmagcaaDoorZ08
import Derived.Deep.RegionHeld3
import Derived.Deep.DeepCutAuto
namespace Go.Proofs.YtkbcokehlmagcaaDoor
open Go.RowKit
set_option maxRecDepth 100000

theorem tx_small {t : T} (h : litT t) (hs : sz t ≤ 4096) : (tx t).length + 1 ≤ 32768 := by
  match t, h with
  | .mk k n s l, h =>
    rcases h with ⟨rfl, h1, h2, rfl, rfl⟩ | ⟨rfl, h1, h2, rfl, rfl⟩ | ⟨rfl, rfl, rfl, h1⟩ | ⟨rfl, h1, h2, rfl, rfl⟩
    · rw [tx0]; have := Lib.itoa_length_le n (by omega) (by omega); omega
    · rw [tx1]; have := Lib.itoa_length_le n (by omega) (by omega); simp; omega
    · rw [tx2]
      have := esc_len2 s.data.toList
      have hz : sz (.mk 2 0 s []) = 1 + s.size := by simp [sz, szAll]
      have hl : s.data.toList.length = s.size := by simp
      simp only [List.length_cons, List.length_append, List.length_nil]
      omega
    · rw [tx3]
      have h8 : ∀ i : Fin 15, (nameOf ((i : Nat) : Int)).length ≤ 9 := by decide
      have := fifteen (P := fun n => (nameOf n).length ≤ 9) h8 h1 h2
      omega
theorem litT_of {k n : Int} {s : ByteArray} {l : List T} (h : okT (.mk k n s l)) (h4 : k ≠ 4) (h0 : k = 0 → 0 ≤ n) : litT (.mk k n s l) := by
  rw [okT] at h
  rcases h with ⟨rfl, h1, h2, h3⟩ | ⟨rfl, h1, h2, h3, h5⟩ | ⟨rfl, h1, h2, h3⟩ | ⟨rfl, h1, h2, h3, h5⟩ | ⟨rfl, _⟩
  · exact .inl ⟨rfl, h0 rfl, by unfold I64 at h1; omega, h2, h3⟩
  · exact .inr (.inl ⟨rfl, h1, h2, h3, h5⟩)
  · exact .inr (.inr (.inl ⟨rfl, h1, h2, h3⟩))
  · exact .inr (.inr (.inr ⟨rfl, h1, h2, h3, h5⟩))
  · exact absurd rfl h4

set_option maxHeartbeats 400000 in
/-- What is not asked of. -/
theorem lits_not (ad : Nat → Addr) (hP : Ptrs (ev (ad 11)) (ev (ad 3)) (ev (ad 4)) (ev (ad 2))) (k n : Int) (s : ByteArray) (l : List T) (w : World) (lo hi : Nat) (v : Value) (hr : Rep w lo hi (.mk k n s l) v) (hhi : hi ≤ w.heap.size) (he : LEnv w (ev (ad 11)) (ev (ad 3)) (ev (ad 4)) (ev (ad 2)) (ad 10))
    (hn : rightB (.mk k n s l) = false ∨ (rightB (.mk k n s l) = true ∧ (k = 4 ∨ (k = 0 ∧ n < 0)))) :
    Calls Tryd.prog 5 #[v] w fun e w' => e = .returned (.bool true) ∧ Below w.heap.size w w' := by
  have HE := Lib.hid he; clear he
  have HR := Lib.hid hr
  unfold Rep at hr
  obtain ⟨p, cap, rfl, _⟩ := hr
  have H1 : ∀ o : Obj, Hid (Below w.heap.size w (w.alloc o)) := fun o => (Below.refl _ _).alloc (Nat.le_refl _) _
  have AR := fun (rb : Bool) (h : rightB (.mk k n s l) = rb) => Lib.hid (fun (W : World) (h1 : Rep W lo hi (.mk k n s l) (.agg #[.int .i64 k, .int .i64 n, .string s, .slice p l.length cap])) (h2 : hi ≤ W.heap.size) => by
    have := right_any (.mk k n s l) W lo hi _ h1 h2
    rw [h] at this; exact this)
  rcases hn with hn | ⟨hn, rfl | ⟨rfl, hneg⟩⟩
  all_goals
    have AR' := AR _ hn
    clear AR hn
    go_enter Tryd.func5, Tryd.ntmps5
    go_wp2_with (first
      | (go_at_call 7; refine (first6_any _ _ _ _ _ hP _ (HE.out.below (H1 _).out)).mono ?_; rintro e w1 ⟨rfl, hb1⟩; have HB1 := Lib.hid ((H1 _).out.trans (hb1.mono (by simp))); have HX1 := Lib.hid (heap_old (heap_alloc_new w _) hb1); obtain ⟨x0, x1, x2, x3, _⟩ := box4_in _ _ _ _ _ _ _ HX1.out; clear hb1)
      | (go_at_call 17; refine (AR'.out _ (HR.out.below HB1.out hhi) (by have := HB1.out.size; omega)).mono ?_; rintro e w2 ⟨rfl, hb2⟩; have HB2 := Lib.hid (HB1.out.trans (hb2.mono HB1.out.size)); have HX2 := Lib.hid (heap_old HX1.out hb2); obtain ⟨y0, y1, y2, y3, _⟩ := box4_in _ _ _ _ _ _ _ HX2.out; clear hb2))
    go_ret
    exact ⟨rfl, HB2.out⟩

set_option maxHeartbeats 1000000 in
theorem lits_main0 (ad : Nat → Addr) (hP : Ptrs (ev (ad 11)) (ev (ad 3)) (ev (ad 4)) (ev (ad 2))) (k n : Int) (s : ByteArray) (w : World) (lo hi : Nat) (v : Value) (hr : Rep w lo hi (.mk k n s []) v) (hhi : hi ≤ w.heap.size) (he : LEnv w (ev (ad 11)) (ev (ad 3)) (ev (ad 4)) (ev (ad 2)) (ad 10)) (hS : Sents w ad) (hTab : TabI w)
    (hR : rightB (.mk k n s []) = true) (h0 : (odd (.mk k n s []) 1 0).1 = 0) (hl : litT (.mk k n s [])) (hk4 : ¬ k = 4) (hbk : (k == 0) = false) :
    Calls Tryd.prog 5 #[v] w fun e w' => e = .returned (.bool true) ∧ Below w.heap.size w w' := by
  have HE := Lib.hid he; clear he
  have HS := Lib.hid hS; clear hS
  have HTB := Lib.hid hTab; clear hTab
  have HR := Lib.hid hr
  have hsm := tx_small hl (odd_sz h0)
  unfold Rep at hr
  obtain ⟨p, cap, rfl, hik, hin, hss, _⟩ := hr
  have H1 : ∀ o : Obj, Hid (Below w.heap.size w (w.alloc o)) := fun o => (Below.refl _ _).alloc (Nat.le_refl _) _
  have AR := Lib.hid (fun (W : World) (h1 : Rep W lo hi (.mk k n s []) (.agg #[.int .i64 k, .int .i64 n, .string s, .slice p ([] : List T).length cap])) (h2 : hi ≤ W.heap.size) => by
    have := right_any (.mk k n s []) W lo hi _ h1 h2
    rw [hR] at this; exact this)
  have AT := Lib.hid (fun (W : World) (h1 : Rep W lo hi (.mk k n s []) (.agg #[.int .i64 k, .int .i64 n, .string s, .slice p ([] : List T).length cap])) (h2 : hi ≤ W.heap.size) (h3 : TabI W) => refTextR_any (.mk k n s []) W lo hi _ h1 h2 h3 h0 hR)
  obtain ⟨X, hX⟩ : ∃ X, X = strB (tx (.mk k n s [])) := ⟨_, rfl⟩
  have hXl : X.data.toList = tx (.mk k n s []) := by rw [hX]; rfl
  have hXs : X.size + 1 ≤ 32768 := by
    have e : X.data.toList.length = X.size := by simp
    rw [← e, hXl]; exact hsm
  rw [← hX] at AT
  have A1 := Lib.hid (fun W he => all_ok (ev (ad 11)) (ev (ad 3)) (ev (ad 4)) (ev (ad 2)) (ad 10) hP X W he (by omega) (by simp) (show Lx 1 X.data.toList (.ok [⟨3, 1, [], .mk k n s []⟩]) from by rw [hXl]; exact lit_all hl))
  have hX1s : (X ++ ⟨#[120]⟩ : ByteArray).size ≤ 32768 := by rw [show (X ++ ⟨#[120]⟩ : ByteArray).size = X.size + 1 from by simp; rfl]; omega
  have hX1l : (X ++ ⟨#[120]⟩ : ByteArray).data.toList = tx (.mk k n s []) ++ [120] := by rw [show (X ++ ⟨#[120]⟩ : ByteArray).data.toList = X.data.toList ++ [120] from by simp, hXl]
  have SV := Lib.hid (fun (W : World) (q : Option Addr) (c : Nat) => by
    have h : ∀ q c, Rep W 0 0 (.mk k n s []) (.agg #[.int .i64 k, .int .i64 n, .string s, .slice q 0 c]) := fun q c => by
      unfold Rep
      exact ⟨q, c, rfl, hik, hin, hss, Nat.zero_le _, by simp, by unfold RepAll; trivial⟩
    have := sameValue_any _ _ W 0 0 0 0 _ _ (h q c) (Nat.zero_le _) (h p cap) (Nat.zero_le _)
    rw [eqV_self] at this; exact this)
  have hi1 : (X.size : Int) ≤ 100000 := by omega
  have hk4' : (k == 4) = false := by simpa using hk4
  have hl0 : ([] : List T).length = 0 := rfl
  rw [hl0] at AR AT
  have HR' := Lib.hid (show Rep w lo hi (.mk k n s []) (.agg #[.int .i64 k, .int .i64 n, .string s, .slice p 0 cap]) from HR.out)
  clear HR hss hin hik hsm hX hR h0
  go_enter Tryd.func5, Tryd.ntmps5
  go_upto_region 8 with (first
    | (go_at_call 7; refine (first6_any _ _ _ _ _ hP _ (HE.out.below (H1 _).out)).mono ?_; rintro e w1 ⟨rfl, hb1⟩; have HB1 := Lib.hid ((H1 _).out.trans (hb1.mono (by simp))); have HX1 := Lib.hid (heap_old (heap_alloc_new w _) hb1); obtain ⟨x0, x1, x2, x3, _⟩ := box4_in _ _ _ _ _ _ _ HX1.out; clear hb1)
    | (go_at_call 17; refine (AR.out _ (HR'.out.below HB1.out hhi) (by have := HB1.out.size; omega)).mono ?_; rintro e w2 ⟨rfl, hb2⟩; have HB2 := Lib.hid (HB1.out.trans (hb2.mono HB1.out.size)); have HX2 := Lib.hid (heap_old HX1.out hb2); obtain ⟨y0, y1, y2, y3, _⟩ := box4_in _ _ _ _ _ _ _ HX2.out; clear hb2)
    | (go_at_call 18; refine (AT.out _ (HR'.out.below HB2.out hhi) (by have := HB2.out.size; omega) (HTB.out.below HB2.out)).mono ?_; rintro e w3 ⟨rfl, hb3⟩; have HB3 := Lib.hid (HB2.out.trans (hb3.mono HB2.out.size)); have HX3 := Lib.hid (heap_old HX2.out hb3); clear hb3)
    | (go_at_call 8; refine (A1.out _ (HE.out.below HB3.out)).mono ?_; rintro e w4 ⟨⟨g4, cap4, rfl, hr4⟩, hb4⟩; have HB4 := Lib.hid (HB3.out.trans (hb4.mono HB3.out.size)); have HX4 := Lib.hid (heap_old HX3.out hb4); have HR4 := Lib.hid hr4; clear hb4 hr4))
  clear x0 x1 x2 x3 y0 y1 y2 y3 HX1 HX2 HX3
  have hcp := HR4.out.cap
  obtain ⟨q4, c4, t0, t1, _, t3, t4, t5, t6⟩ := HR4.out.at_ 0 (by simp)
  simp only [List.getElem_cons_zero, Nat.zero_mul, Nat.zero_add, T.k, T.n, T.s] at t0 t1 t3 t4 t5 t6
  obtain ⟨b0, b1, b2, b3, _⟩ := box4_in _ _ _ _ _ _ _ HX4.out
  have hg4 := HR4.out.hi
  have hgb := heap_lt' HX4.out
  have HSF : Hid (∀ W', Below w4.heap.size w4 W' → W'.cell? ⟨g4, 0, none⟩ = some (.int .i64 3) ∧ W'.cell? ⟨g4, 1, none⟩ = some (.int .i64 1) ∧ W'.cell? ⟨g4, 3, none⟩ = some (.int .i64 k) ∧ W'.cell? ⟨g4, 4, none⟩ = some (.int .i64 n) ∧ W'.cell? ⟨g4, 5, none⟩ = some (.string s) ∧ W'.cell? ⟨g4, 6, none⟩ = some (.slice q4 0 c4) ∧
      W'.cell? ⟨w.heap.size, 0, none⟩ = some (.int .i64 k) ∧ W'.cell? ⟨w.heap.size, 1, none⟩ = some (.int .i64 n) ∧ W'.cell? ⟨w.heap.size, 2, none⟩ = some (.string s) ∧ W'.cell? ⟨w.heap.size, 3, none⟩ = some (.slice p 0 cap)) := fun W' hb =>
    ⟨(hb.cell (p := ⟨g4, 0, none⟩) hg4).trans t0, (hb.cell (p := ⟨g4, 1, none⟩) hg4).trans t1, (hb.cell (p := ⟨g4, 3, none⟩) hg4).trans t3, (hb.cell (p := ⟨g4, 4, none⟩) hg4).trans t4, (hb.cell (p := ⟨g4, 5, none⟩) hg4).trans t5, (hb.cell (p := ⟨g4, 6, none⟩) hg4).trans t6,
     (hb.cell (p := ⟨w.heap.size, 0, none⟩) hgb).trans b0, (hb.cell (p := ⟨w.heap.size, 1, none⟩) hgb).trans b1, (hb.cell (p := ⟨w.heap.size, 2, none⟩) hgb).trans b2, (hb.cell (p := ⟨w.heap.size, 3, none⟩) hgb).trans b3⟩
  have HD4 := Lib.hid (Below.refl w4.heap.size w4)
  have HD5 := Lib.hid ((Below.refl w4.heap.size w4).drew)
  have HBX := HX4
  have HEF := Lib.hid (fun W' (hb : Below w4.heap.size w4 W') => HE.out.below (HB4.out.trans (hb.mono HB4.out.size)))
  have HSS := Lib.hid (fun W' (hb : Below w4.heap.size w4 W') => HS.out.below (HB4.out.trans (hb.mono HB4.out.size)))
  have HBB := HB4
  have hgw4 := HB4.out.size
  clear HR4 HX4 HB4 HB1 HB2 HB3 HR' AR AT A1 HTB
  obtain ⟨e0, e1, e3, e4, e5, e6, f0, f1, f2, f3⟩ := HSF.out _ HD5.out
  go_cut [71] (fun vb wx => vb = .bool false ∧ Hid (Below w4.heap.size w4 wx))
  case first =>
    go_region_held3 (fun w' => w'.cell? ⟨g4, 0, none⟩ = some (.int .i64 3) ∧ w'.cell? ⟨g4, 1, none⟩ = some (.int .i64 1) ∧ w'.cell? ⟨g4, 3, none⟩ = some (.int .i64 k) ∧ w'.cell? ⟨g4, 4, none⟩ = some (.int .i64 n) ∧ w'.cell? ⟨g4, 5, none⟩ = some (.string s) ∧ w'.cell? ⟨g4, 6, none⟩ = some (.slice q4 0 c4) ∧
      w'.cell? ⟨w.heap.size, 0, none⟩ = some (.int .i64 k) ∧ w'.cell? ⟨w.heap.size, 1, none⟩ = some (.int .i64 n) ∧ w'.cell? ⟨w.heap.size, 2, none⟩ = some (.string s) ∧ w'.cell? ⟨w.heap.size, 3, none⟩ = some (.slice p 0 cap)) (first | with_reducible exact HSF.out _ HD5.out | with_reducible exact HSF.out _ HD6.out | with_reducible exact HSF.out _ HD4.out | (go_show; fail)) (first
      | (go_at_call 11; (with_reducible refine (SV.out _ _ _).mono ?_); rintro e w6 ⟨rfl, hb6⟩; have HD6 := Lib.hid (HD5.out.trans (hb6.mono HD5.out.size)); obtain ⟨k0, k1, k3, k4, k5, k6, m0, m1, m2, m3⟩ := HSF.out _ HD6.out; clear hb6)
      | (rw [if_pos (by rfl)]; go_simp; (go_at_call 11; (with_reducible refine (SV.out _ _ _).mono ?_); rintro e w6 ⟨rfl, hb6⟩; have HD6 := Lib.hid (HD5.out.trans (hb6.mono HD5.out.size)); obtain ⟨k0, k1, k3, k4, k5, k6, m0, m1, m2, m3⟩ := HSF.out _ HD6.out; clear hb6); dsimp only))
    all_goals go_wp2_with fail
    all_goals go_meet
    all_goals exact ⟨rfl, HD6⟩
  case rest =>
    obtain ⟨rfl, HW⟩ := hcut
    clear t0 t1 t3 t4 t5 t6 b0 b1 b2 b3 e0 e1 e3 e4 e5 e6 f0 f1 f2 f3 hg4 hgb hcp HD4 HD5
    have HE4 := Lib.hid (HEF.out _ HW.out)
    have HS4 := Lib.hid (HSS.out _ HW.out)
    rcases hb2 : (k == 2)
    · have hk2 : ¬ k = 2 := by simpa using hb2
      have A2 := Lib.hid (fun (W : World) he => all_bad (ev (ad 11)) (ev (ad 3)) (ev (ad 4)) (ev (ad 2)) (ad 10) hP (X ++ ⟨#[120]⟩) W he hX1s (n := 1) (b := false) (by rw [hX1l]; exact lit_x_bad hl hk2))
      have sP := Lib.hid (fun (W : World) => placed_any 111 1 (by omega) W)
      have sS := Lib.hid (fun (W : World) (b : Nat) (h1 : Sents W ad) (h2 : W.heap[b]? = some (.cells #[.int .i64 1, ev (ad 10)] 55 (0, 0))) => seeSame_at ad 10 (by omega) b 1 W h1 h2)
      unfold fp at sP sS
      clear hX1s hX1l hl hk2 hXl hXs
      go_wp2_with (first
        | (go_at_call 8; refine (A2.out _ HE4.out).mono ?_; rintro e w7 ⟨⟨bk, rfl, hbk7, hbx⟩, hb7⟩; have HB7 := Lib.hid hb7; have HX7 := Lib.hid hbx; obtain ⟨_, _, _, _, _, _, f0, f1, f2, f3⟩ := HSF.out _ (HW.out.trans (hb7.mono HW.out.size)); clear hb7 hbx)
        | (go_at_call 16; refine (sP.out _).mono ?_; rintro e w8 ⟨rfl, hb8⟩; have HB8 := Lib.hid (HB7.out.trans (hb8.mono HB7.out.size)); have HX8 := Lib.hid (heap_old HX7.out hb8); clear hb8)
        | (go_at_call 15; refine (sS.out _ bk (HS4.out.below HB8.out) HX8.out).mono ?_; rintro e w9 ⟨rfl, hb9⟩))
      go_ret
      exact ⟨rfl, HBB.out.trans ((HW.out.trans ((HB8.out.trans (hb9.mono HB8.out.size)).mono HW.out.size)).mono hgw4)⟩
    · have hk2 : k = 2 := by simpa using hb2
      have A2 := Lib.hid (fun (W : World) he => all_ok (ev (ad 11)) (ev (ad 3)) (ev (ad 4)) (ev (ad 2)) (ad 10) hP (X ++ ⟨#[120]⟩) W he hX1s (l := [⟨3, 1, [], .mk k n s []⟩, ⟨1, 1, [120], zT⟩]) (by simp) (by rw [hX1l]; exact lit_x_str hl hk2))
      clear hX1s hX1l hl hk2 hXl hXs
      go_wp2_with (go_at_call 8; refine (A2.out _ HE4.out).mono ?_; rintro e w7 ⟨⟨g7, cap7, rfl, _⟩, hb7⟩; have HB7 := Lib.hid hb7; obtain ⟨_, _, _, _, _, _, f0, f1, f2, f3⟩ := HSF.out _ (HW.out.trans (hb7.mono HW.out.size)); clear hb7)
      go_ret
      exact ⟨rfl, HBB.out.trans ((HW.out.trans (HB7.out.mono HW.out.size)).mono hgw4)⟩

set_option maxHeartbeats 1000000 in
theorem lits_main1 (ad : Nat → Addr) (hP : Ptrs (ev (ad 11)) (ev (ad 3)) (ev (ad 4)) (ev (ad 2))) (k n : Int) (s : ByteArray) (w : World) (lo hi : Nat) (v : Value) (hr : Rep w lo hi (.mk k n s []) v) (hhi : hi ≤ w.heap.size) (he : LEnv w (ev (ad 11)) (ev (ad 3)) (ev (ad 4)) (ev (ad 2)) (ad 10)) (hS : Sents w ad) (hTab : TabI w)
    (hR : rightB (.mk k n s []) = true) (h0 : (odd (.mk k n s []) 1 0).1 = 0) (hl : litT (.mk k n s [])) (hk4 : ¬ k = 4) (hbk : (k == 0) = true) (hnn : decide (n < 0) = false) :
    Calls Tryd.prog 5 #[v] w fun e w' => e = .returned (.bool true) ∧ Below w.heap.size w w' := by
  have HE := Lib.hid he; clear he
  have HS := Lib.hid hS; clear hS
  have HTB := Lib.hid hTab; clear hTab
  have HR := Lib.hid hr
  have hsm := tx_small hl (odd_sz h0)
  unfold Rep at hr
  obtain ⟨p, cap, rfl, hik, hin, hss, _⟩ := hr
  have H1 : ∀ o : Obj, Hid (Below w.heap.size w (w.alloc o)) := fun o => (Below.refl _ _).alloc (Nat.le_refl _) _
  have AR := Lib.hid (fun (W : World) (h1 : Rep W lo hi (.mk k n s []) (.agg #[.int .i64 k, .int .i64 n, .string s, .slice p ([] : List T).length cap])) (h2 : hi ≤ W.heap.size) => by
    have := right_any (.mk k n s []) W lo hi _ h1 h2
    rw [hR] at this; exact this)
  have AT := Lib.hid (fun (W : World) (h1 : Rep W lo hi (.mk k n s []) (.agg #[.int .i64 k, .int .i64 n, .string s, .slice p ([] : List T).length cap])) (h2 : hi ≤ W.heap.size) (h3 : TabI W) => refTextR_any (.mk k n s []) W lo hi _ h1 h2 h3 h0 hR)
  obtain ⟨X, hX⟩ : ∃ X, X = strB (tx (.mk k n s [])) := ⟨_, rfl⟩
  have hXl : X.data.toList = tx (.mk k n s []) := by rw [hX]; rfl
  have hXs : X.size + 1 ≤ 32768 := by
    have e : X.data.toList.length = X.size := by simp
    rw [← e, hXl]; exact hsm
  rw [← hX] at AT
  have A1 := Lib.hid (fun W he => all_ok (ev (ad 11)) (ev (ad 3)) (ev (ad 4)) (ev (ad 2)) (ad 10) hP X W he (by omega) (by simp) (show Lx 1 X.data.toList (.ok [⟨3, 1, [], .mk k n s []⟩]) from by rw [hXl]; exact lit_all hl))
  have hX1s : (X ++ ⟨#[120]⟩ : ByteArray).size ≤ 32768 := by rw [show (X ++ ⟨#[120]⟩ : ByteArray).size = X.size + 1 from by simp; rfl]; omega
  have hX1l : (X ++ ⟨#[120]⟩ : ByteArray).data.toList = tx (.mk k n s []) ++ [120] := by rw [show (X ++ ⟨#[120]⟩ : ByteArray).data.toList = X.data.toList ++ [120] from by simp, hXl]
  have SV := Lib.hid (fun (W : World) (q : Option Addr) (c : Nat) => by
    have h : ∀ q c, Rep W 0 0 (.mk k n s []) (.agg #[.int .i64 k, .int .i64 n, .string s, .slice q 0 c]) := fun q c => by
      unfold Rep
      exact ⟨q, c, rfl, hik, hin, hss, Nat.zero_le _, by simp, by unfold RepAll; trivial⟩
    have := sameValue_any _ _ W 0 0 0 0 _ _ (h q c) (Nat.zero_le _) (h p cap) (Nat.zero_le _)
    rw [eqV_self] at this; exact this)
  have hi1 : (X.size : Int) ≤ 100000 := by omega
  have hk4' : (k == 4) = false := by simpa using hk4
  have hl0 : ([] : List T).length = 0 := rfl
  rw [hl0] at AR AT
  have HR' := Lib.hid (show Rep w lo hi (.mk k n s []) (.agg #[.int .i64 k, .int .i64 n, .string s, .slice p 0 cap]) from HR.out)
  clear HR hss hin hik hsm hX hR h0
  go_enter Tryd.func5, Tryd.ntmps5
  go_upto_region 8 with (first
    | (go_at_call 7; refine (first6_any _ _ _ _ _ hP _ (HE.out.below (H1 _).out)).mono ?_; rintro e w1 ⟨rfl, hb1⟩; have HB1 := Lib.hid ((H1 _).out.trans (hb1.mono (by simp))); have HX1 := Lib.hid (heap_old (heap_alloc_new w _) hb1); obtain ⟨x0, x1, x2, x3, _⟩ := box4_in _ _ _ _ _ _ _ HX1.out; clear hb1)
    | (go_at_call 17; refine (AR.out _ (HR'.out.below HB1.out hhi) (by have := HB1.out.size; omega)).mono ?_; rintro e w2 ⟨rfl, hb2⟩; have HB2 := Lib.hid (HB1.out.trans (hb2.mono HB1.out.size)); have HX2 := Lib.hid (heap_old HX1.out hb2); obtain ⟨y0, y1, y2, y3, _⟩ := box4_in _ _ _ _ _ _ _ HX2.out; clear hb2)
    | (go_at_call 18; refine (AT.out _ (HR'.out.below HB2.out hhi) (by have := HB2.out.size; omega) (HTB.out.below HB2.out)).mono ?_; rintro e w3 ⟨rfl, hb3⟩; have HB3 := Lib.hid (HB2.out.trans (hb3.mono HB2.out.size)); have HX3 := Lib.hid (heap_old HX2.out hb3); clear hb3)
    | (go_at_call 8; refine (A1.out _ (HE.out.below HB3.out)).mono ?_; rintro e w4 ⟨⟨g4, cap4, rfl, hr4⟩, hb4⟩; have HB4 := Lib.hid (HB3.out.trans (hb4.mono HB3.out.size)); have HX4 := Lib.hid (heap_old HX3.out hb4); have HR4 := Lib.hid hr4; clear hb4 hr4))
  clear x0 x1 x2 x3 y0 y1 y2 y3 HX1 HX2 HX3
  have hcp := HR4.out.cap
  obtain ⟨q4, c4, t0, t1, _, t3, t4, t5, t6⟩ := HR4.out.at_ 0 (by simp)
  simp only [List.getElem_cons_zero, Nat.zero_mul, Nat.zero_add, T.k, T.n, T.s] at t0 t1 t3 t4 t5 t6
  obtain ⟨b0, b1, b2, b3, _⟩ := box4_in _ _ _ _ _ _ _ HX4.out
  have hg4 := HR4.out.hi
  have hgb := heap_lt' HX4.out
  have HSF : Hid (∀ W', Below w4.heap.size w4 W' → W'.cell? ⟨g4, 0, none⟩ = some (.int .i64 3) ∧ W'.cell? ⟨g4, 1, none⟩ = some (.int .i64 1) ∧ W'.cell? ⟨g4, 3, none⟩ = some (.int .i64 k) ∧ W'.cell? ⟨g4, 4, none⟩ = some (.int .i64 n) ∧ W'.cell? ⟨g4, 5, none⟩ = some (.string s) ∧ W'.cell? ⟨g4, 6, none⟩ = some (.slice q4 0 c4) ∧
      W'.cell? ⟨w.heap.size, 0, none⟩ = some (.int .i64 k) ∧ W'.cell? ⟨w.heap.size, 1, none⟩ = some (.int .i64 n) ∧ W'.cell? ⟨w.heap.size, 2, none⟩ = some (.string s) ∧ W'.cell? ⟨w.heap.size, 3, none⟩ = some (.slice p 0 cap)) := fun W' hb =>
    ⟨(hb.cell (p := ⟨g4, 0, none⟩) hg4).trans t0, (hb.cell (p := ⟨g4, 1, none⟩) hg4).trans t1, (hb.cell (p := ⟨g4, 3, none⟩) hg4).trans t3, (hb.cell (p := ⟨g4, 4, none⟩) hg4).trans t4, (hb.cell (p := ⟨g4, 5, none⟩) hg4).trans t5, (hb.cell (p := ⟨g4, 6, none⟩) hg4).trans t6,
     (hb.cell (p := ⟨w.heap.size, 0, none⟩) hgb).trans b0, (hb.cell (p := ⟨w.heap.size, 1, none⟩) hgb).trans b1, (hb.cell (p := ⟨w.heap.size, 2, none⟩) hgb).trans b2, (hb.cell (p := ⟨w.heap.size, 3, none⟩) hgb).trans b3⟩
  have HD4 := Lib.hid (Below.refl w4.heap.size w4)
  have HD5 := Lib.hid ((Below.refl w4.heap.size w4).drew)
  have HBX := HX4
  have HEF := Lib.hid (fun W' (hb : Below w4.heap.size w4 W') => HE.out.below (HB4.out.trans (hb.mono HB4.out.size)))
  have HSS := Lib.hid (fun W' (hb : Below w4.heap.size w4 W') => HS.out.below (HB4.out.trans (hb.mono HB4.out.size)))
  have HBB := HB4
  have hgw4 := HB4.out.size
  clear HR4 HX4 HB4 HB1 HB2 HB3 HR' AR AT A1 HTB
  obtain ⟨e0, e1, e3, e4, e5, e6, f0, f1, f2, f3⟩ := HSF.out _ HD5.out
  go_cut [71] (fun vb wx => vb = .bool false ∧ Hid (Below w4.heap.size w4 wx))
  case first =>
    go_region_held3 (fun w' => w'.cell? ⟨g4, 0, none⟩ = some (.int .i64 3) ∧ w'.cell? ⟨g4, 1, none⟩ = some (.int .i64 1) ∧ w'.cell? ⟨g4, 3, none⟩ = some (.int .i64 k) ∧ w'.cell? ⟨g4, 4, none⟩ = some (.int .i64 n) ∧ w'.cell? ⟨g4, 5, none⟩ = some (.string s) ∧ w'.cell? ⟨g4, 6, none⟩ = some (.slice q4 0 c4) ∧
      w'.cell? ⟨w.heap.size, 0, none⟩ = some (.int .i64 k) ∧ w'.cell? ⟨w.heap.size, 1, none⟩ = some (.int .i64 n) ∧ w'.cell? ⟨w.heap.size, 2, none⟩ = some (.string s) ∧ w'.cell? ⟨w.heap.size, 3, none⟩ = some (.slice p 0 cap)) (first | with_reducible exact HSF.out _ HD5.out | with_reducible exact HSF.out _ HD6.out | with_reducible exact HSF.out _ HD4.out | (go_show; fail)) (first
      | (go_at_call 11; (with_reducible refine (SV.out _ _ _).mono ?_); rintro e w6 ⟨rfl, hb6⟩; have HD6 := Lib.hid (HD5.out.trans (hb6.mono HD5.out.size)); obtain ⟨k0, k1, k3, k4, k5, k6, m0, m1, m2, m3⟩ := HSF.out _ HD6.out; clear hb6)
      | (rw [if_pos (by rfl)]; go_simp; (go_at_call 11; (with_reducible refine (SV.out _ _ _).mono ?_); rintro e w6 ⟨rfl, hb6⟩; have HD6 := Lib.hid (HD5.out.trans (hb6.mono HD5.out.size)); obtain ⟨k0, k1, k3, k4, k5, k6, m0, m1, m2, m3⟩ := HSF.out _ HD6.out; clear hb6); dsimp only))
    all_goals go_wp2_with fail
    all_goals go_meet
    all_goals exact ⟨rfl, HD6⟩
  case rest =>
    obtain ⟨rfl, HW⟩ := hcut
    clear t0 t1 t3 t4 t5 t6 b0 b1 b2 b3 e0 e1 e3 e4 e5 e6 f0 f1 f2 f3 hg4 hgb hcp HD4 HD5
    have HE4 := Lib.hid (HEF.out _ HW.out)
    have HS4 := Lib.hid (HSS.out _ HW.out)
    rcases hb2 : (k == 2)
    · have hk2 : ¬ k = 2 := by simpa using hb2
      have A2 := Lib.hid (fun (W : World) he => all_bad (ev (ad 11)) (ev (ad 3)) (ev (ad 4)) (ev (ad 2)) (ad 10) hP (X ++ ⟨#[120]⟩) W he hX1s (n := 1) (b := false) (by rw [hX1l]; exact lit_x_bad hl hk2))
      have sP := Lib.hid (fun (W : World) => placed_any 111 1 (by omega) W)
      have sS := Lib.hid (fun (W : World) (b : Nat) (h1 : Sents W ad) (h2 : W.heap[b]? = some (.cells #[.int .i64 1, ev (ad 10)] 55 (0, 0))) => seeSame_at ad 10 (by omega) b 1 W h1 h2)
      unfold fp at sP sS
      clear hX1s hX1l hl hk2 hXl hXs
      go_wp2_with (first
        | (go_at_call 8; refine (A2.out _ HE4.out).mono ?_; rintro e w7 ⟨⟨bk, rfl, hbk7, hbx⟩, hb7⟩; have HB7 := Lib.hid hb7; have HX7 := Lib.hid hbx; obtain ⟨_, _, _, _, _, _, f0, f1, f2, f3⟩ := HSF.out _ (HW.out.trans (hb7.mono HW.out.size)); clear hb7 hbx)
        | (go_at_call 16; refine (sP.out _).mono ?_; rintro e w8 ⟨rfl, hb8⟩; have HB8 := Lib.hid (HB7.out.trans (hb8.mono HB7.out.size)); have HX8 := Lib.hid (heap_old HX7.out hb8); clear hb8)
        | (go_at_call 15; refine (sS.out _ bk (HS4.out.below HB8.out) HX8.out).mono ?_; rintro e w9 ⟨rfl, hb9⟩))
      go_ret
      exact ⟨rfl, HBB.out.trans ((HW.out.trans ((HB8.out.trans (hb9.mono HB8.out.size)).mono HW.out.size)).mono hgw4)⟩
    · have hk2 : k = 2 := by simpa using hb2
      have A2 := Lib.hid (fun (W : World) he => all_ok (ev (ad 11)) (ev (ad 3)) (ev (ad 4)) (ev (ad 2)) (ad 10) hP (X ++ ⟨#[120]⟩) W he hX1s (l := [⟨3, 1, [], .mk k n s []⟩, ⟨1, 1, [120], zT⟩]) (by simp) (by rw [hX1l]; exact lit_x_str hl hk2))
      clear hX1s hX1l hl hk2 hXl hXs
      go_wp2_with (go_at_call 8; refine (A2.out _ HE4.out).mono ?_; rintro e w7 ⟨⟨g7, cap7, rfl, _⟩, hb7⟩; have HB7 := Lib.hid hb7; obtain ⟨_, _, _, _, _, _, f0, f1, f2, f3⟩ := HSF.out _ (HW.out.trans (hb7.mono HW.out.size)); clear hb7)
      go_ret
      exact ⟨rfl, HBB.out.trans ((HW.out.trans (HB7.out.mono HW.out.size)).mono hgw4)⟩

theorem lits_all (ad : Nat → Addr) (hP : Ptrs (ev (ad 11)) (ev (ad 3)) (ev (ad 4)) (ev (ad 2))) (t : T) (w : World) (lo hi : Nat) (v : Value) (hr : Rep w lo hi t v) (hhi : hi ≤ w.heap.size) (he : LEnv w (ev (ad 11)) (ev (ad 3)) (ev (ad 4)) (ev (ad 2)) (ad 10)) (hS : Sents w ad) (hTab : TabI w) :
    Calls Tryd.prog 5 #[v] w fun e w' => e = .returned (.bool true) ∧ Below w.heap.size w w' := by
  obtain ⟨k, n, s, l⟩ := t
  cases hR : rightB (.mk k n s l) with
  | false => exact lits_not ad hP k n s l w lo hi v hr hhi he (.inl hR)
  | true =>
    have h0 : (odd (.mk k n s l) 1 0).1 = 0 := by simpa [rightB, oddCode] using hR
    have hok := Rep.ok _ hr h0
    by_cases h4 : k = 4
    · exact lits_not ad hP k n s l w lo hi v hr hhi he (.inr ⟨hR, .inl h4⟩)
    · by_cases hz : k = 0
      · by_cases hn : n < 0
        · exact lits_not ad hP k n s l w lo hi v hr hhi he (.inr ⟨hR, .inr ⟨hz, hn⟩⟩)
        · have hl := litT_of hok h4 (fun _ => by omega)
          have hll : l = [] := by rcases hl with h | h | h | h <;> first | exact h.2.2.2.2 | exact h.2.2.1
          subst hll
          exact lits_main1 ad hP k n s w lo hi v hr hhi he hS hTab hR h0 hl h4 (by simpa using hz) (by simpa using hn)
      · have hl := litT_of hok h4 (fun h => absurd h hz)
        have hll : l = [] := by rcases hl with h | h | h | h <;> first | exact h.2.2.2.2 | exact h.2.2.1
        subst hll
        exact lits_main0 ad hP k n s w lo hi v hr hhi he hS hTab hR h0 hl h4 (by simpa using hz)

end Go.Proofs.YtkbcokehlmagcaaDoor
