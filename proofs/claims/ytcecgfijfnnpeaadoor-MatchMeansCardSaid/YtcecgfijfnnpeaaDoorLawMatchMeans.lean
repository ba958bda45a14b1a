/- The walk of the statement on the thing that is meant. -/
import Derived.Test.YtcecgfijfnnpeaaDoorMw
import Derived.Test.YtcecgfijfnnpeaaDoorLawMatchStars
namespace Go.Proofs.YtcecgfijfnnpeaaDoor.Mt
open Go.RowKit
set_option maxRecDepth 100000

set_option maxHeartbeats 1000000 in
theorem means_out (a b : ByteArray) (i j : Int) (w : World) (hM : MaxL w) (h : 20 < a.size ∨ 20 < b.size ∨ a.size = 0 ∨ b.size = 0 ∨ (∃ h : 0 < a.size, (a[0]'h).toNat = 35)) :
    Calls Tryd.prog 5 #[.string a, .string b, .int .i64 i, .int .i64 j] w fun e w' => e = .returned (.bool true) ∧ Below w.heap.size w w' := by
  have F := Lib.hid (first10_any w hM)
  clear hM
  by_cases c0 : 20 < a.size
  · have d1 : decide ((20 : Int) < (a.size : Int)) = true := by simp; omega
    go_enter Tryd.func5, Tryd.ntmps5
    go_wp2_with (go_at_call 8; refine F.out.mono ?_; rintro e w1 ⟨rfl, hb1⟩; have HB1 := Lib.hid hb1; clear hb1)
    go_ret; exact ⟨rfl, HB1.out⟩
  have d1 : decide ((20 : Int) < (a.size : Int)) = false := by simp; omega
  by_cases c1 : 20 < b.size
  · have d2 : decide ((20 : Int) < (b.size : Int)) = true := by simp; omega
    go_enter Tryd.func5, Tryd.ntmps5
    go_wp2_with (go_at_call 8; refine F.out.mono ?_; rintro e w1 ⟨rfl, hb1⟩; have HB1 := Lib.hid hb1; clear hb1)
    go_ret; exact ⟨rfl, HB1.out⟩
  have d2 : decide ((20 : Int) < (b.size : Int)) = false := by simp; omega
  by_cases c2 : a.size = 0
  · have d3 : ((a.size : Int) == 0) = true := by rw [beq_iff_eq]; omega
    go_enter Tryd.func5, Tryd.ntmps5
    go_wp2_with (go_at_call 8; refine F.out.mono ?_; rintro e w1 ⟨rfl, hb1⟩; have HB1 := Lib.hid hb1; clear hb1)
    go_ret; exact ⟨rfl, HB1.out⟩
  have d3 : ((a.size : Int) == 0) = false := by rw [beq_eq_false_iff_ne]; omega
  by_cases c3 : b.size = 0
  · have d4 : ((b.size : Int) == 0) = true := by rw [beq_iff_eq]; omega
    go_enter Tryd.func5, Tryd.ntmps5
    go_wp2_with (go_at_call 8; refine F.out.mono ?_; rintro e w1 ⟨rfl, hb1⟩; have HB1 := Lib.hid hb1; clear hb1)
    go_ret; exact ⟨rfl, HB1.out⟩
  have d4 : ((b.size : Int) == 0) = false := by rw [beq_eq_false_iff_ne]; omega
  have h35 : ∃ h : 0 < a.size, (a[0]'h).toNat = 35 := by
    rcases h with h | h | h | h | h
    · exact absurd h c0
    · exact absurd h c1
    · exact absurd h c2
    · exact absurd h c3
    · exact h
  obtain ⟨hz, h35⟩ := h35
  have hpd : 0 < a.data.size := hz
  have d5 : (((a[0]).toNat : Int) == 35) = true := by rw [beq_iff_eq]; omega
  have hpos : (0 : Int) < (a.size : Int) := by omega
  clear h35 h
  go_enter Tryd.func5, Tryd.ntmps5
  go_wp2_with (go_at_call 8; refine F.out.mono ?_; rintro e w1 ⟨rfl, hb1⟩; have HB1 := Lib.hid hb1; clear hb1)
  go_ret; exact ⟨rfl, HB1.out⟩

theorem one_row (W : World) (x : ByteArray) : TRow (W.alloc (.cells #[.string x] 9)) (W.heap.size + 1) (some ⟨W.heap.size, 0, none⟩) [x] := .inr ⟨W.heap.size, 0, rfl, Nat.lt_succ_self _, fun i hi => by
  have hi0 : i = 0 := by simpa using hi
  subst hi0
  rw [cell_of_row _ _ _ _ _ _ (heap_alloc_new W (.cells #[.string x] 9))]; rfl⟩
theorem two_row (W : World) (x y : ByteArray) : TRow (W.alloc (.cells #[.string x, .string y] 9)) (W.heap.size + 1) (some ⟨W.heap.size, 0, none⟩) [x, y] := .inr ⟨W.heap.size, 0, rfl, Nat.lt_succ_self _, fun i hi => by
  have hi2 : i < 2 := by simpa using hi
  rw [cell_of_row _ _ _ _ _ _ (heap_alloc_new W (.cells #[.string x, .string y] 9))]
  rcases i with _ | _ | i
  · rfl
  · rfl
  · omega⟩
theorem two_things (W : World) (i j : Int) (hi : I64 i) (hj : I64 j) (q q' : Option Addr) (n n' c c' : Nat) (ss ss' : List ByteArray) (hn : n = ss.length) (hn' : n' = ss'.length) (h : TRow W W.heap.size q ss) (h' : TRow W W.heap.size q' ss') (hs : ∀ s ∈ ss, s.size ≤ 140737488355328) (hs' : ∀ s ∈ ss', s.size ≤ 140737488355328) (hl : ss.length ≤ 100) (hl' : ss'.length ≤ 100) :
    GRow (W.alloc (.cells #[.int .i64 i, .slice q n c, .int .i64 j, .slice q' n' c'] 41)) (W.heap.size + 1) (some ⟨W.heap.size, 0, none⟩) [(i, ss), (j, ss')] := by
  subst hn hn'
  have hb : Below W.heap.size W (W.alloc (.cells #[.int .i64 i, .slice q ss.length c, .int .i64 j, .slice q' ss'.length c'] 41)) := (Below.refl _ _).alloc (Nat.le_refl _) _
  have hr := heap_alloc_new W (.cells #[.int .i64 i, .slice q ss.length c, .int .i64 j, .slice q' ss'.length c'] 41)
  refine .inr ⟨W.heap.size, 0, rfl, Nat.lt_succ_self _, fun k hk => ?_⟩
  have hk2 : k < 2 := by simpa using hk
  rcases k with _ | _ | k
  · exact ⟨hi, by rw [cell_of_row _ _ _ _ _ _ hr]; rfl, q, c, by rw [cell_of_row _ _ _ _ _ _ hr]; rfl, (h.below hb).grow (Nat.le_succ _), by simp only [List.getElem_cons_zero]; omega, hs⟩
  · exact ⟨hj, by rw [cell_of_row _ _ _ _ _ _ hr]; rfl, q', c', by rw [cell_of_row _ _ _ _ _ _ hr]; rfl, (h'.below hb).grow (Nat.le_succ _), by simp only [List.getElem_cons_succ, List.getElem_cons_zero]; omega, hs'⟩
  · omega
theorem one_thing (W : World) (i : Int) (hi : I64 i) (q : Option Addr) (n c : Nat) (ss : List ByteArray) (hn : n = ss.length) (h : TRow W W.heap.size q ss) (hs : ∀ s ∈ ss, s.size ≤ 140737488355328) (hl : ss.length ≤ 100) :
    GRow (W.alloc (.cells #[.int .i64 i, .slice q n c] 41)) (W.heap.size + 1) (some ⟨W.heap.size, 0, none⟩) [(i, ss)] := by
  subst hn
  have hb : Below W.heap.size W (W.alloc (.cells #[.int .i64 i, .slice q ss.length c] 41)) := (Below.refl _ _).alloc (Nat.le_refl _) _
  have hr := heap_alloc_new W (.cells #[.int .i64 i, .slice q ss.length c] 41)
  refine .inr ⟨W.heap.size, 0, rfl, Nat.lt_succ_self _, fun k hk => ?_⟩
  have hk2 : k < 1 := by simpa using hk
  rcases k with _ | k
  · exact ⟨hi, by rw [cell_of_row _ _ _ _ _ _ hr]; rfl, q, c, by rw [cell_of_row _ _ _ _ _ _ hr]; rfl, (h.below hb).grow (Nat.le_succ _), by simp only [List.getElem_cons_zero]; omega, hs⟩
  · omega

theorem means_world (w : World) (a ab abq : ByteArray) (x y : Int) (hx : I64 x) (hy : I64 y) (ha : a.size ≤ 140737488355328) (hab : ab.size ≤ 140737488355328) (habq : abq.size ≤ 140737488355328) :
    let W := (((((((w.alloc (.cells #[.string a] 9)).alloc (.cells #[.string ab] 9)).alloc (.cells #[.int .i64 x, .slice (some ⟨w.heap.size, 0, none⟩) 1 1, .int .i64 y, .slice (some ⟨w.heap.size + 1, 0, none⟩) 1 1] 41)).alloc (.cells #[.string ab] 9)).alloc (.cells #[.string ab, .string abq] 9)).alloc (.cells #[.int .i64 x, .slice (some ⟨w.heap.size + 1 + 1 + 1, 0, none⟩) 1 1, .int .i64 y, .slice (some ⟨w.heap.size + 1 + 1 + 1 + 1, 0, none⟩) 2 2] 41)).alloc (.cells #[.string ab, .string a] 9)).alloc (.cells #[.int .i64 x, .slice (some ⟨w.heap.size + 1 + 1 + 1 + 1 + 1 + 1, 0, none⟩) 2 2] 41)
    (Below w.heap.size w W ∧ W.heap.size = (w.heap.size + 1 + 1 + 1 + 1 + 1 + 1 + 1 + 1)) ∧ GRow W (w.heap.size + 1 + 1 + 1 + 1 + 1 + 1 + 1 + 1) (some ⟨w.heap.size + 1 + 1, 0, none⟩) [(x, [a]), (y, [ab])] ∧ GRow W (w.heap.size + 1 + 1 + 1 + 1 + 1 + 1 + 1 + 1) (some ⟨w.heap.size + 1 + 1 + 1 + 1 + 1, 0, none⟩) [(x, [ab]), (y, [ab, abq])] ∧ GRow W (w.heap.size + 1 + 1 + 1 + 1 + 1 + 1 + 1 + 1) (some ⟨w.heap.size + 1 + 1 + 1 + 1 + 1 + 1 + 1, 0, none⟩) [(x, [ab, a])] := by
  intro W
  have al : ∀ (V : World) (o : Obj), Below V.heap.size V (V.alloc o) := fun V o => (Below.refl _ V).alloc (Nat.le_refl _) o
  obtain ⟨W1, h1⟩ : ∃ V, w.alloc (.cells #[.string a] 9) = V := ⟨_, rfl⟩
  have r1 := one_row w a
  rw [h1] at r1
  have b1 := al w (.cells #[.string a] 9)
  rw [h1] at b1
  have s1 : W1.heap.size = w.heap.size + 1 := by rw [← h1]; simp
  obtain ⟨W2, h2⟩ : ∃ V, W1.alloc (.cells #[.string ab] 9) = V := ⟨_, rfl⟩
  have r2 := one_row W1 ab
  have b2 := al W1 (.cells #[.string ab] 9)
  rw [h2] at r2 b2
  have s2 : W2.heap.size = w.heap.size + 1 + 1 := by rw [← h2]; simp [s1]
  have g3 := two_things W2 x y hx hy (some ⟨w.heap.size, 0, none⟩) (some ⟨w.heap.size + 1, 0, none⟩) 1 1 1 1 [a] [ab] rfl rfl ((r1.below (b2.mono (by omega))).grow (by omega)) (by rw [s1] at r2; exact r2.grow (by omega)) (by simpa using ha) (by simpa using hab) (by simp) (by simp)
  have b3 := al W2 (.cells #[.int .i64 x, .slice (some ⟨w.heap.size, 0, none⟩) 1 1, .int .i64 y, .slice (some ⟨w.heap.size + 1, 0, none⟩) 1 1] 41)
  obtain ⟨W3, h3⟩ : ∃ V, W2.alloc (.cells #[.int .i64 x, .slice (some ⟨w.heap.size, 0, none⟩) 1 1, .int .i64 y, .slice (some ⟨w.heap.size + 1, 0, none⟩) 1 1] 41) = V := ⟨_, rfl⟩
  rw [h3] at g3 b3
  rw [s2] at g3
  have s3 : W3.heap.size = w.heap.size + 1 + 1 + 1 := by rw [← h3]; simp [s2]
  obtain ⟨W4, h4⟩ : ∃ V, W3.alloc (.cells #[.string ab] 9) = V := ⟨_, rfl⟩
  have r4 := one_row W3 ab
  have b4 := al W3 (.cells #[.string ab] 9)
  rw [h4] at r4 b4
  rw [s3] at r4
  have s4 : W4.heap.size = w.heap.size + 1 + 1 + 1 + 1 := by rw [← h4]; simp [s3]
  obtain ⟨W5, h5⟩ : ∃ V, W4.alloc (.cells #[.string ab, .string abq] 9) = V := ⟨_, rfl⟩
  have r5 := two_row W4 ab abq
  have b5 := al W4 (.cells #[.string ab, .string abq] 9)
  rw [h5] at r5 b5
  rw [s4] at r5
  have s5 : W5.heap.size = w.heap.size + 1 + 1 + 1 + 1 + 1 := by rw [← h5]; simp [s4]
  have g6 := two_things W5 x y hx hy (some ⟨w.heap.size + 1 + 1 + 1, 0, none⟩) (some ⟨w.heap.size + 1 + 1 + 1 + 1, 0, none⟩) 1 2 1 2 [ab] [ab, abq] rfl rfl ((r4.below (b5.mono (by omega))).grow (by omega)) (r5.grow (by omega)) (by simpa using hab) (by simp; exact ⟨hab, habq⟩) (by simp) (by simp)
  have b6 := al W5 (.cells #[.int .i64 x, .slice (some ⟨w.heap.size + 1 + 1 + 1, 0, none⟩) 1 1, .int .i64 y, .slice (some ⟨w.heap.size + 1 + 1 + 1 + 1, 0, none⟩) 2 2] 41)
  obtain ⟨W6, h6⟩ : ∃ V, W5.alloc (.cells #[.int .i64 x, .slice (some ⟨w.heap.size + 1 + 1 + 1, 0, none⟩) 1 1, .int .i64 y, .slice (some ⟨w.heap.size + 1 + 1 + 1 + 1, 0, none⟩) 2 2] 41) = V := ⟨_, rfl⟩
  rw [h6] at g6 b6
  rw [s5] at g6
  have s6 : W6.heap.size = w.heap.size + 1 + 1 + 1 + 1 + 1 + 1 := by rw [← h6]; simp [s5]
  obtain ⟨W7, h7⟩ : ∃ V, W6.alloc (.cells #[.string ab, .string a] 9) = V := ⟨_, rfl⟩
  have r7 := two_row W6 ab a
  have b7 := al W6 (.cells #[.string ab, .string a] 9)
  rw [h7] at r7 b7
  rw [s6] at r7
  have s7 : W7.heap.size = w.heap.size + 1 + 1 + 1 + 1 + 1 + 1 + 1 := by rw [← h7]; simp [s6]
  have g8 := one_thing W7 x hx (some ⟨w.heap.size + 1 + 1 + 1 + 1 + 1 + 1, 0, none⟩) 2 2 [ab, a] rfl (r7.grow (by omega)) (by simp; exact ⟨hab, ha⟩) (by simp)
  have b8 := al W7 (.cells #[.int .i64 x, .slice (some ⟨w.heap.size + 1 + 1 + 1 + 1 + 1 + 1, 0, none⟩) 2 2] 41)
  obtain ⟨W8, h8⟩ : ∃ V, W7.alloc (.cells #[.int .i64 x, .slice (some ⟨w.heap.size + 1 + 1 + 1 + 1 + 1 + 1, 0, none⟩) 2 2] 41) = V := ⟨_, rfl⟩
  rw [h8] at g8 b8
  rw [s7] at g8
  have s8 : W8.heap.size = w.heap.size + 1 + 1 + 1 + 1 + 1 + 1 + 1 + 1 := by rw [← h8]; simp [s7]
  have eW : W = W8 := by rw [← h8, ← h7, ← h6, ← h5, ← h4, ← h3, ← h2, ← h1]
  rw [eW]
  have c4 := b4.trans (b5.mono (by omega))
  have c6 := c4.trans (b6.mono (by omega))
  have c7 := c6.trans (b7.mono (by omega))
  have c8 := c7.trans (b8.mono (by omega))
  have d8 := b7.trans (b8.mono (by omega))
  refine ⟨⟨((b1.trans (b2.mono (by omega))).trans (b3.mono (by omega))).trans (c8.mono (by omega)), s8⟩, (g3.below (c8.mono (by omega))).grow (by omega), (g6.below (d8.mono (by omega))).grow (by omega), g8⟩

set_option maxHeartbeats 600000 in
theorem means_main (a b : ByteArray) (i j : Int) (w : World) (hi : I64 i) (hj : I64 j) (hM : MaxL w) (hN : NumV w) (ha : a.size ≤ 20) (hb : b.size ≤ 20) (ha0 : 0 < a.size) (hb0 : 0 < b.size) (h35 : ¬ (a[0]'ha0).toNat = 35) :
    Calls Tryd.prog 5 #[.string a, .string b, .int .i64 i, .int .i64 j] w fun e w' => e = .returned (.bool true) ∧ Below w.heap.size w w' := by
  have F := Lib.hid (first10_any w hM)
  have d1 : decide ((20 : Int) < (a.size : Int)) = false := by simp; omega
  have d2 : decide ((20 : Int) < (b.size : Int)) = false := by simp; omega
  have d3 : ((a.size : Int) == 0) = false := by rw [beq_eq_false_iff_ne]; omega
  have d4 : ((b.size : Int) == 0) = false := by rw [beq_eq_false_iff_ne]; omega
  have d5 : (((a[0]).toNat : Int) == 35) = false := by rw [beq_eq_false_iff_ne]; omega
  have hpd : 0 < a.data.size := ha0
  have hpos : (0 : Int) < (a.size : Int) := by omega
  obtain ⟨c0, r0, hcr⟩ : ∃ c r, a.data.toList = c :: r := by
    cases hl : a.data.toList with
    | nil => have := len_data a; rw [hl] at this; simp at this; omega
    | cons c r => exact ⟨c, r, rfl⟩
  have hc35 : c0.toNat ≠ 35 := by
    have := get_data a 0 ha0
    simp only [hcr, List.getElem_cons_zero] at this
    rw [this]; exact h35
  obtain ⟨x, hx⟩ : ∃ x, i % 50 = x := ⟨_, rfl⟩
  obtain ⟨y, hy⟩ : ∃ y, j % 50 = y := ⟨_, rfl⟩
  have hx0 : 0 ≤ x ∧ x < 50 := by omega
  have hy0 : 0 ≤ y ∧ y < 50 := by omega
  obtain ⟨m1, m2, m3, m4, m5, m6⟩ := means_all a b ⟨#[113]⟩ x (50 + y) hb0 (by omega) c0 r0 hcr hc35
  have zA : a.size ≤ 1000000 := by omega
  have zAB : (a ++ b).size ≤ 1000000 := by rw [ByteArray.size_append]; omega
  have zABQ : (a ++ b ++ ⟨#[113]⟩).size ≤ 140737488355328 := by rw [ByteArray.size_append, ByteArray.size_append]; have : (⟨#[113]⟩ : ByteArray).size = 1 := rfl; omega
  have N1 := Lib.hid (fun (W : World) => by have := number6_any i 50 W hi (by omega) (by omega); rw [hx] at this; exact this)
  have N2 := Lib.hid (fun (W : World) => by have := number6_any j 50 W hj (by omega) (by omega); rw [hy] at this; exact this)
  have O1 : Hid (∀ (W : World) (p : Option Addr) (c : Nat), NumV W → GRow W W.heap.size p [(x, [a]), (50 + y, [a ++ b])] → Calls Tryd.prog 17 #[.string a, .slice p 2 c] W fun e w' => e = .returned (.int .i64 (x)) ∧ Below W.heap.size W w') := Lib.hid (fun W p c h hg => by have := object_any a _ p c W zA h hg (by simp); rw [m1] at this; exact this)
  have O2 : Hid (∀ (W : World) (p : Option Addr) (c : Nat), NumV W → GRow W W.heap.size p [(x, [a]), (50 + y, [a ++ b])] → Calls Tryd.prog 17 #[.string (a ++ b), .slice p 2 c] W fun e w' => e = .returned (.int .i64 (50 + y)) ∧ Below W.heap.size W w') := Lib.hid (fun W p c h hg => by have := object_any (a ++ b) _ p c W zAB h hg (by simp); rw [m2] at this; exact this)
  have O3 : Hid (∀ (W : World) (p : Option Addr) (c : Nat), NumV W → GRow W W.heap.size p [(x, [a ++ b]), (50 + y, [a ++ b, a ++ b ++ ⟨#[113]⟩])] → Calls Tryd.prog 17 #[.string a, .slice p 2 c] W fun e w' => e = .returned (.int .i64 (-2)) ∧ Below W.heap.size W w') := Lib.hid (fun W p c h hg => by have := object_any a _ p c W zA h hg (by simp); rw [m3] at this; exact this)
  have O4 : Hid (∀ (W : World) (p : Option Addr) (c : Nat), NumV W → GRow W W.heap.size p [(x, [a ++ b, a])] → Calls Tryd.prog 17 #[.string a, .slice p 1 c] W fun e w' => e = .returned (.int .i64 (x)) ∧ Below W.heap.size W w') := Lib.hid (fun W p c h hg => by have := object_any a _ p c W zA h hg (by simp); rw [m4] at this; exact this)
  have O5 : Hid (∀ (W : World) (p : Option Addr) (c : Nat), NumV W → GRow W W.heap.size p [(x, [a]), (50 + y, [a ++ b])] → Calls Tryd.prog 17 #[.string ⟨#[]⟩, .slice p 2 c] W fun e w' => e = .returned (.int .i64 (-1)) ∧ Below W.heap.size W w') := Lib.hid (fun W p c h hg => by have := object_any ⟨#[]⟩ _ p c W (by decide) h hg (by simp); rw [show (⟨#[]⟩ : ByteArray).data.toList = [] from rfl, m5] at this; exact this)
  have O6 : Hid (∀ (W : World), NumV W → Calls Tryd.prog 17 #[.string a, .slice none 0 0] W fun e w' => e = .returned (.int .i64 (-3)) ∧ Below W.heap.size W w') := Lib.hid (fun W h => by have := object_any a [] none 0 W zA h (.inl rfl) (by simp); rw [m6] at this; exact this)
  have HN := Lib.hid hN
  have HW := Lib.hid (fun (W : World) => means_world W a (a ++ b) (a ++ b ++ ⟨#[113]⟩) x (50 + y) (by unfold I64; omega) (by unfold I64; omega) (by omega) (by omega) zABQ)
  clear hM hN m1 m2 m3 m4 m5 m6 hcr hc35 hx hy h35
  go_enter Tryd.func5, Tryd.ntmps5
  go_upto_region 11 with (first
    | (go_at_call 8; refine F.out.mono ?_; rintro e w1 ⟨rfl, hb1⟩; have HB1 := Lib.hid hb1; have HN1 := Lib.hid (HN.out.below hb1); clear hb1)
    | (go_at_call 24; first | (with_reducible refine (N1.out _).mono ?_; rintro e wn ⟨rfl, rfl⟩) | (with_reducible refine (N2.out _).mono ?_; rintro e wn ⟨rfl, rfl⟩)))
  obtain ⟨⟨q1, q5⟩, q2, q3, q4⟩ := HW.out w1
  revert q1 q5 q2 q3 q4
  generalize World.alloc _ (Obj.cells #[Value.int IntKind.i64 x, Value.slice _ 2 2] _) = w2
  intro q1 hs2 q2 q3 q4
  have hb2 := Lib.hid q1
  have HGA2 := Lib.hid (q2.grow (C := w2.heap.size) (by omega))
  have HGB2 := Lib.hid (q3.grow (C := w2.heap.size) (by omega))
  have HGC2 := Lib.hid (q4.grow (C := w2.heap.size) (by omega))
  clear q1 q2 q3 q4 hs2 HW
  have HN2 := Lib.hid (HN1.out.below hb2.out)
  have HB2 := Lib.hid (HB1.out.trans (hb2.out.mono HB1.out.size))
  go_wp2_with (go_at_call 17; (first | (with_reducible refine (O1.out _ _ _ HN2.out HGA2.out).mono ?_; rintro e w3 ⟨rfl, hb3⟩; have HN3 := Lib.hid (HN2.out.below hb3); have HB3 := Lib.hid (HB2.out.trans (hb3.mono HB2.out.size)); have HGA3 := Lib.hid ((HGA2.out.below hb3).grow hb3.size); have HGB3 := Lib.hid ((HGB2.out.below hb3).grow hb3.size); have HGC3 := Lib.hid ((HGC2.out.below hb3).grow hb3.size); clear hb3) | (with_reducible refine (O2.out _ _ _ HN3.out HGA3.out).mono ?_; rintro e w4 ⟨rfl, hb4⟩; have HN4 := Lib.hid (HN3.out.below hb4); have HB4 := Lib.hid (HB3.out.trans (hb4.mono HB3.out.size)); have HGA4 := Lib.hid ((HGA3.out.below hb4).grow hb4.size); have HGB4 := Lib.hid ((HGB3.out.below hb4).grow hb4.size); have HGC4 := Lib.hid ((HGC3.out.below hb4).grow hb4.size); clear hb4) | (with_reducible refine (O3.out _ _ _ HN4.out HGB4.out).mono ?_; rintro e w5 ⟨rfl, hb5⟩; have HN5 := Lib.hid (HN4.out.below hb5); have HB5 := Lib.hid (HB4.out.trans (hb5.mono HB4.out.size)); have HGA5 := Lib.hid ((HGA4.out.below hb5).grow hb5.size); have HGB5 := Lib.hid ((HGB4.out.below hb5).grow hb5.size); have HGC5 := Lib.hid ((HGC4.out.below hb5).grow hb5.size); clear hb5) | (with_reducible refine (O4.out _ _ _ HN5.out HGC5.out).mono ?_; rintro e w6 ⟨rfl, hb6⟩; have HN6 := Lib.hid (HN5.out.below hb6); have HB6 := Lib.hid (HB5.out.trans (hb6.mono HB5.out.size)); have HGA6 := Lib.hid ((HGA5.out.below hb6).grow hb6.size); have HGB6 := Lib.hid ((HGB5.out.below hb6).grow hb6.size); have HGC6 := Lib.hid ((HGC5.out.below hb6).grow hb6.size); clear hb6) | (with_reducible refine (O5.out _ _ _ HN6.out HGA6.out).mono ?_; rintro e w7 ⟨rfl, hb7⟩; have HN7 := Lib.hid (HN6.out.below hb7); have HB7 := Lib.hid (HB6.out.trans (hb7.mono HB6.out.size)); have HGA7 := Lib.hid ((HGA6.out.below hb7).grow hb7.size); have HGB7 := Lib.hid ((HGB6.out.below hb7).grow hb7.size); have HGC7 := Lib.hid ((HGC6.out.below hb7).grow hb7.size); clear hb7) | (with_reducible refine (O6.out _ HN7.out).mono ?_; rintro e w8 ⟨rfl, hb8⟩; have HN8 := Lib.hid (HN7.out.below hb8); have HB8 := Lib.hid (HB7.out.trans (hb8.mono HB7.out.size)); have HGA8 := Lib.hid ((HGA7.out.below hb8).grow hb8.size); have HGB8 := Lib.hid ((HGB7.out.below hb8).grow hb8.size); have HGC8 := Lib.hid ((HGC7.out.below hb8).grow hb8.size); clear hb8)))
  go_ret; exact ⟨rfl, HB8.out⟩

theorem means_all10 (a b : ByteArray) (i j : Int) (w : World) (hi : I64 i) (hj : I64 j) (hM : MaxL w) (hN : NumV w) :
    Calls Tryd.prog 5 #[.string a, .string b, .int .i64 i, .int .i64 j] w fun e w' => e = .returned (.bool true) ∧ Below w.heap.size w w' := by
  by_cases h : 20 < a.size ∨ 20 < b.size ∨ a.size = 0 ∨ b.size = 0 ∨ (∃ h : 0 < a.size, (a[0]'h).toNat = 35)
  · exact means_out a b i j w hM h
  · exact means_main a b i j w hi hj hM hN (by omega) (by omega) (by omega) (by omega) (fun e => h (.inr (.inr (.inr (.inr ⟨_, e⟩)))))
end Go.Proofs.YtcecgfijfnnpeaaDoor.Mt
