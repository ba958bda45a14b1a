/- SeqQuota's walk. -/
import Derived.Test.YtjipchloebbldaaLawQuota
namespace Go.Proofs.Ytjipchloebbldaa
open Go.RowKit
set_option maxRecDepth 100000

theorem mkrow2 (n : Nat) (h : n ≤ 1000000) (z : Int) (hz : z = (n : Int)) (W : World) : (Instr.makeSlice 22 (.int .i64 z) (.int .i64 z)).run Try.prog W = .ok (.slice (some ⟨W.heap.size, 0, none⟩) n n) (W.alloc (.cells (madeCells #[.int .i64 0, .int .i64 0, .string ⟨#[]⟩, .slice none 0 0] (n * 4)) 24)) := by
  obtain ⟨i0, hi0, hz0, hz1, hz2⟩ := info_parts Try.info_V
  subst hz
  have h := run_make (P := Try.prog) W 22 24 i0 _ Try.underlying22 hi0 hz0 .i64 .i64 n n (by omega) (by omega) (by rw [hz2]; omega) (by omega)
  rw [hz1] at h
  simpa [Value.cells] using h
theorem set4_box {w : World} {g : Nat} {a b c d a' b' c' d' : Value} {t : TypeId} (h : w.heap[g]? = some (.cells #[a, b, c, d] t (0, 0))) : ((((w.setCell ⟨g, 0, none⟩ a').setCell ⟨g, 1, none⟩ b').setCell ⟨g, 2, none⟩ c').setCell ⟨g, 3, none⟩ d').heap[g]? = some (.cells #[a', b', c', d'] t (0, 0)) := by
  simp [World.setCell, Array.getElem?_modify, h]
theorem one_list {W : World} {g lo hi : Nat} {t : T} {c0 c1 c2 c3 : Value} (hg : W.heap[g]? = some (.cells #[c0, c1, c2, c3] 24 (0, 0))) (h : Rep W lo hi t (.agg #[c0, c1, c2, c3])) (hlo : lo ≤ g) (hhi : hi ≤ W.heap.size) :
    Calls Try.prog 40 #[.slice (some ⟨g, 0, none⟩) 1 1] W (NewValF W (mkList [t])) :=
  vL_any [t] W lo W.heap.size (some ⟨g, 0, none⟩) 1 (repAll_box hg h hlo hhi) (Nat.le_refl _) (by simp) (Nat.le_refl _)

set_option maxHeartbeats 4000000 in
theorem quota_all (n0 d0 : Int) (w : World) (hn : I64 n0) (hd : I64 d0) :
    Calls Try.prog 7 #[.int .i64 n0, .int .i64 d0] w fun e w' => e = .returned (.bool true) ∧ Below w.heap.size w w' := by
  obtain ⟨q, hq, hq6⟩ : ∃ q : Nat, numB n0 6 = (q : Int) ∧ q < 6 := ⟨(numB n0 6).toNat, by
    have h1 := Int.emod_nonneg n0 (b := 6) (by omega)
    have h2 := Int.emod_lt_of_pos n0 (b := 6) (by omega)
    unfold numB; omega⟩
  obtain ⟨r, hr, hr4⟩ : ∃ r : Nat, numB d0 4 = (r : Int) ∧ r < 4 := ⟨(numB d0 4).toNat, by
    have h1 := Int.emod_nonneg d0 (b := 4) (by omega)
    have h2 := Int.emod_lt_of_pos d0 (b := 4) (by omega)
    unfold numB; omega⟩
  obtain ⟨nn, hnn⟩ : ∃ nn : Nat, nn = q + 4092 := ⟨_, rfl⟩
  have hmk := mkrow2 nn (by omega) ((q : Int) + 4092) (by omega)
  obtain ⟨N, hN⟩ : ∃ N : Nat, N = if nn ≤ 4095 then nn else 4095 := ⟨_, rfl⟩
  have HNN := Lib.hid (show (nn ≤ 4095 ∧ N = nn) ∨ (4095 < nn ∧ N = 4095) from by rw [hN]; split <;> omega)
  have C_n : Hid (∀ W : World, Calls Try.prog 29 #[.int .i64 n0, .int .i64 6] W fun e w' => e = .returned (.int .i64 (q : Int)) ∧ w' = W) := fun W => by rw [← hq]; exact number_any n0 6 W hn (by omega) (by omega)
  have C_d : Hid (∀ W : World, Calls Try.prog 29 #[.int .i64 d0, .int .i64 4] W fun e w' => e = .returned (.int .i64 (r : Int)) ∧ w' = W) := fun W => by rw [← hr]; exact number_any d0 4 W hd (by omega) (by omega)
  have C_ins : Hid (∀ (W : World) (g : Nat), RepAll W 0 W.heap.size (List.replicate N zeroT) (some ⟨g, 0, none⟩) → Calls Try.prog 18 #[.slice (some ⟨g, 0, none⟩) N nn, .agg #[.int .i64 0, .int .i64 1, .string ByteArray.empty, .slice none 0 0], .int .i64 1] W (Ans 0 W (if N ≤ 4094 then (tI 1 :: List.replicate N zeroT, 0) else ([], 14)))) := fun W g h => by
    have h1 := insert_any (List.replicate N zeroT) (some ⟨g, 0, none⟩) nn 1 (tI 1) _ W 0 h (by rw [List.length_replicate]; have := HNN.out; omega) (by unfold I64; omega) (rep_I (by unfold I64; omega)) (by rw [zeros_sz, tI_sz]; have := HNN.out; omega) (Nat.zero_le _)
    rw [List.length_replicate, quota_ins] at h1
    exact h1.mono fun _ _ h => h.zero
  obtain ⟨RI, hRI⟩ : ∃ R : List T × Int, R = if N ≤ 4094 then (tI 1 :: List.replicate N zeroT, 0) else ([], 14) := ⟨_, rfl⟩
  rw [← hRI] at C_ins
  have HRI : Hid ((N ≤ 4094 ∧ RI.2 = 0) ∨ (4094 < N ∧ RI.2 = 14 ∧ RI.1.length = 0)) := by
    show _ ∨ _
    rw [hRI]
    by_cases h : N ≤ 4094
    · rw [if_pos h]; exact .inl ⟨h, rfl⟩
    · rw [if_neg h]; exact .inr ⟨by omega, rfl, rfl⟩
  obtain ⟨RIl, RIc⟩ := RI
  dsimp only at HRI
  obtain ⟨RD, hRD⟩ : ∃ R : List T, R = if ((r + 36 : Nat) : Int) + 2 ≤ 40 then [nst (r + 36)] else [] := ⟨_, rfl⟩
  obtain ⟨FD, hFD⟩ : ∃ F, F = fitD (((r + 36 : Nat) : Int) + 1) := ⟨_, rfl⟩
  have C_insD : Hid (∀ (W : World) (v : Value), Rep W 0 W.heap.size (nst (r + 36)) v → Calls Try.prog 18 #[.slice none 0 0, v, .int .i64 1] W (Ans 0 W (RD, FD))) := fun W v h => by
    rw [hRD, hFD, ← quota_insD (r + 36) (by omega)]
    exact (insert_any [] none 0 1 (nst (r + 36)) v W 0 (by unfold RepAll; trivial) (Nat.le_refl _) (by unfold I64; omega) h (by rw [nst_sz]; simp [szAll]; omega) (Nat.zero_le _)).mono fun _ _ h => h.zero
  have C_withD : Hid (∀ (W : World) (v : Value), Rep W 0 W.heap.size (nst (r + 36)) v → Calls Try.prog 30 #[.slice none 0 0, v] W (Ans 0 W (RD, FD))) := fun W v h => by
    rw [hRD, hFD, ← quota_withD (r + 36) (by omega)]
    exact with_any [] none 0 (nst (r + 36)) v W (by unfold RepAll; trivial) (Nat.le_refl _) h (by rw [nst_sz]; simp [szAll]; omega)
  have C_putD : Hid (∀ (W : World) (v : Value) (g : Nat), RepAll W 0 W.heap.size [tI 1] (some ⟨g, 0, none⟩) → Rep W 0 W.heap.size (nst (r + 36)) v → Calls Try.prog 16 #[.slice (some ⟨g, 0, none⟩) 1 1, .int .i64 1, v] W (Ans 0 W (RD, FD))) := fun W v g h1 h => by
    rw [hRD, hFD, ← quota_putD (r + 36) (by omega)]
    exact (put_any [tI 1] (some ⟨g, 0, none⟩) 1 1 (nst (r + 36)) v W 0 h1 (Nat.le_refl _) (by unfold I64; omega) h (by rw [nst_sz]; simp [szAll, tI_sz]; omega) (Nat.zero_le _)).mono fun _ _ h => h.zero
  have C_catD : Hid (∀ (W : World) (g g' : Nat), RepAll W 0 W.heap.size [tI 1] (some ⟨g, 0, none⟩) → RepAll W 0 W.heap.size [tI 1] (some ⟨g', 0, none⟩) → Calls Try.prog 22 #[.slice (some ⟨g, 0, none⟩) 1 1, .slice (some ⟨g', 0, none⟩) 1 1] W (Ans 0 W ([tI 1, tI 1], 0))) := fun W g g' h1 h => by
    rw [← quota_two]
    exact (cat_any [tI 1] [tI 1] (some ⟨g, 0, none⟩) (some ⟨g', 0, none⟩) 1 1 W 0 h1 (Nat.le_refl _) h (Nat.le_refl _) (Nat.zero_le _) (by simp [szAll, tI_sz])).mono fun _ _ h => h.zero
  have HFD : Hid (((r : Int) + 37 + 1 ≤ 40 ∧ FD = 0) ∨ (¬ (r : Int) + 37 + 1 ≤ 40 ∧ FD = 9)) := by
    show _ ∨ _
    rw [hFD]; unfold fitD; split <;> omega
  have HQN := Lib.hid hnn
  have hq6' : (q : Int) ≤ 5 := by omega
  have hr4' : (r : Int) ≤ 3 := by omega
  clear hq hr hn hd hnn hN hRI hRD hFD hq6 hr4
  go_enter Try.func7, Try.ntmps7
  go_upto_if 30 with (first
    | (go_at_call 8; (with_reducible refine (first4_any _).mono ?_); rintro e w1 ⟨rfl, hb⟩; have HB1 := Lib.hid hb; clear hb)
    | (go_at_call 29; (with_reducible refine (C_n.out _).mono ?_); rintro e w9 ⟨rfl, hw⟩; replace hw := hw.symm; subst hw))
  obtain ⟨W5, hW5⟩ : ∃ W5, W5 = w1.alloc (.cells (madeCells #[.int .i64 0, .int .i64 0, .string ⟨#[]⟩, .slice none 0 0] (nn * 4)) 24) := ⟨_, rfl⟩
  have HZ : Hid (RepAll W5 0 W5.heap.size (List.replicate N zeroT) (some ⟨w1.heap.size, 0, none⟩)) := by rw [hW5]; exact zeros_all (heap_alloc_new w1 _) (by have := HNN.out; omega)
  have HB5 : Hid (Below w.heap.size w W5) := by rw [hW5]; exact HB1.out.alloc HB1.out.size _
  rw [← hW5]
  clear hW5
  go_cut [6] from 30 to 33 (fun c wx => c = .slice (some ⟨w1.heap.size, 0, none⟩) N nn ∧ W5 = wx)
  case first =>
    have hcapN := HNN.out
    have hnn := HQN.out
    rcases hcapN with ⟨h1, rfl⟩ | ⟨h1, rfl⟩
    · have h2 : (q : Int) + 4092 ≤ 4095 := by omega
      clear hnn
      go_wp2
      go_meet
      exact ⟨rfl, rfl⟩
    · have h2 : (4095 : Int) < (q : Int) + 4092 := by omega
      have h3 : (4095 : Int) ≤ (nn : Int) := by omega
      clear hnn
      go_wp2
      go_meet
      exact ⟨rfl, rfl⟩
  obtain ⟨rfl, rfl⟩ := hcut
  have HS5 := Lib.hid (St.mk (W := W5) (L := [(List.replicate N zeroT, some ⟨w1.heap.size, 0, none⟩)]) (B := []) (V := []) (fun x hx => by simp at hx; subst hx; exact HZ.out) (fun x hx => by simp at hx) (fun x hx => by simp at hx))
  go_upto_region 10 with (first
    | (go_at_call 39; (with_reducible refine (vI_any _ _).mono ?_); rintro e w6 ⟨rfl, hb⟩; have HS6 := Lib.hid ((HS5.out.step hb).alloc #[.int .i64 0, .int .i64 1, .string ByteArray.empty, .slice none 0 0] 24); have HB6 := Lib.hid ((HB5.out.trans (hb.mono HB5.out.size)).alloc (Nat.le_trans HB5.out.size hb.size) (.cells #[.int .i64 0, .int .i64 1, .string ByteArray.empty, .slice none 0 0] 24)); clear hb)
    | (go_at_call 18; (with_reducible refine (C_ins.out _ _ (HS6.out.all (List.replicate N zeroT, some ⟨w1.heap.size, 0, none⟩) (by simp))).mono ?_); rintro e w7 ⟨p7, cap7, rfl, _, _, hb⟩; dsimp only; have HS7 := Lib.hid (HS6.out.step hb); have HB7 := Lib.hid (HB6.out.trans (hb.mono HB6.out.size)); clear hb))
  go_cut [59] from 8 to 60 (fun c wx => c = .bool false ∧ w7 = wx)
  case first =>
    have hri := HRI.out
    rcases hri with ⟨h1, rfl⟩ | ⟨h1, rfl, h2⟩
    · have h3 : (N : Int) + 2 ≤ 4096 := by omega
      have h5 : (N : Int) ≤ 4095 := by omega
      go_wp2
      go_meet
      exact ⟨by simp, rfl⟩
    · have h3 : (4096 : Int) < (N : Int) + 2 := by omega
      have h5 : (N : Int) ≤ 4095 := by have := HNN.out; omega
      have h6 : wrap64 ((N : Int) + 2) = (N : Int) + 2 := by unfold wrap64; omega
      have h7 : decide ((N : Int) + 2 ≤ 4096) = false := by simp; omega
      have h4 : (RIl.length : Int) = 0 := by omega
      go_wp2
      go_meet
      exact ⟨by simp, rfl⟩
  obtain ⟨rfl, rfl⟩ := hcut
  go_wp2_with (first
    | (go_at_call 29; (with_reducible refine (C_d.out _).mono ?_); rintro e w9 ⟨rfl, hw⟩; replace hw := hw.symm; subst hw)
    | (go_at_call 39; (with_reducible refine (vI_any _ _).mono ?_); rintro e w8 ⟨rfl, hb⟩; have HG6 := Lib.hid (Nat.lt_of_lt_of_le (heap_lt (HS7.out.box (w6.heap.size, .cells #[.int .i64 0, .int .i64 1, .string ByteArray.empty, .slice none 0 0] 24 (0, 0)) (by simp))) hb.size); have HGB := Lib.hid (Nat.le_trans HB7.out.size hb.size); have HS8 := Lib.hid ((HS7.out.step hb).alloc #[.int .i64 0, .int .i64 1, .string ByteArray.empty, .slice none 0 0] 24); have HB8 := Lib.hid ((HB7.out.trans (hb.mono HB7.out.size)).alloc (Nat.le_trans HB7.out.size hb.size) (.cells #[.int .i64 0, .int .i64 1, .string ByteArray.empty, .slice none 0 0] 24)); clear hb))
  obtain ⟨W0, hW0⟩ : ∃ W0, W0 = w8.alloc (.cells #[.int .i64 0, .int .i64 1, .string ByteArray.empty, .slice none 0 0] 24) := ⟨_, rfl⟩
  have HN0 : Hid (NAt w8.heap.size W0 0 W0) := by
    refine ⟨Below.refl _ _, 0, 1, ByteArray.empty, none, 0, 0, ?_, ?_⟩
    · rw [hW0]; exact heap_alloc_new w8 _
    · exact rep_I (n := 1) (by unfold I64; omega)
  have hS8 := HS8.out
  have hB8 := HB8.out
  have HZ0 : Hid (W0.heap.size = w8.heap.size + 1) := by show _ = _; rw [hW0, World.size_alloc]
  rw [← hW0] at hS8 hB8 ⊢
  have HS0 := Lib.hid hS8
  have HB0 := Lib.hid hB8
  clear hS8 hB8 hW0 HS8 HB8 HS5 HS6 HB5 HB6 HZ HRI C_n C_ins hmk
  obtain ⟨g, hg⟩ : ∃ g, g = w8.heap.size := ⟨_, rfl⟩
  rw [← hg] at HN0 HZ0 HS0 HG6 HGB ⊢
  clear hg
  go_loopw [11] (fun i wr => ∃ j : Nat, j ≤ r + 36 ∧ i = .int .i64 ((j : Int) + 1) ∧ Hid (NAt g W0 j wr)) (fun i _ => r + 37 - (intOf i).toNat)
  case atStart => exact ⟨0, Nat.zero_le _, rfl, HN0⟩
  case round =>
    obtain ⟨j, hj, rfl, HN⟩ := hrel
    obtain ⟨k, m, s, p, len, cap, hbx, hrep⟩ := HN.out.val
    have HBX := Lib.hid hbx
    have HRX := Lib.hid hrep
    have hlt := heap_lt hbx
    obtain ⟨hx0, hx1, hx2, hx3, hxf⟩ := box4_in wr g _ _ _ _ _ hbx
    clear hxf hbx hrep
    by_cases hlj : (j : Int) + 1 < (r : Int) + 37
    · have HBA := Lib.hid ((Below.refl wr.heap.size wr).alloc (Nat.le_refl _) (.cells #[.int .i64 k, .int .i64 m, .string s, .slice p len cap] 24))
      have HVL := Lib.hid (one_list (W := wr.alloc (.cells #[.int .i64 k, .int .i64 m, .string s, .slice p len cap] 24)) (g := wr.heap.size) (lo := g + 1) (hi := wr.heap.size) (t := nst j) (heap_alloc_new wr _) (HRX.out.alloc (Nat.le_refl _) _) (by omega) (by simp))
      go_wp2_with (go_at_call 40; (with_reducible refine HVL.out.mono ?_); rintro e w9 ⟨⟨v, rfl, hv, hb⟩, _, _⟩; obtain ⟨k2, m2, s2, p2, len2, cap2, rfl⟩ := rep_form hv; have HV := Lib.hid hv; have HB9 := Lib.hid (HBA.out.trans (hb.mono (by simp))); have HX9 := Lib.hid (heap_old HBX.out (HBA.out.trans (hb.mono (by simp)))); obtain ⟨hy0, hy1, hy2, hy3, hyf⟩ := box4_in w9 g _ _ _ _ _ HX9.out; have hyf0 := hyf 0; have hyf1 := hyf 1; have hyf2 := hyf 2; have hyf3 := hyf 3; clear hyf hv hb hx0 hx1 hx2 hx3)
      go_roundw
      case rel =>
        refine ⟨j + 1, by omega, by go_num, ?_⟩
        show NAt _ _ _ _
        refine ⟨((((HN.out.bel.trans (HB9.out.mono (by omega))).setCell (Nat.le_refl _) _).setCell (Nat.le_refl _) _).setCell (Nat.le_refl _) _).setCell (Nat.le_refl _) _, k2, m2, s2, p2, len2, cap2, set4_box HX9.out, ?_⟩
        have hv := HV.out
        rw [World.size_alloc] at hv
        exact ((((hv.setCell (Or.inl (by show g < _; omega)) _).setCell (Or.inl (by show g < _; omega)) _).setCell (Or.inl (by show g < _; omega)) _).setCell (Or.inl (by show g < _; omega)) _).keep (by omega) (by simp) (fun _ _ _ => rfl)
      case measure => simp [intOf]; omega
    · have HJ : Hid (j = r + 36) := by show _ = _; omega
      have HSr := Lib.hid (St.mk (W := wr) (L := []) (B := [(g, bx k m s p len cap), (w6.heap.size, .cells #[.int .i64 0, .int .i64 1, .string ByteArray.empty, .slice none 0 0] 24 (0, 0))]) (V := [(nst j, .agg #[.int .i64 k, .int .i64 m, .string s, .slice p len cap])]) (fun x hx => by simp at hx) (fun x hx => by
        simp at hx
        rcases hx with rfl | rfl
        · exact HBX.out
        · exact (HN.out.bel.block _ HG6.out).trans (HS0.out.box (w6.heap.size, .cells #[.int .i64 0, .int .i64 1, .string ByteArray.empty, .slice none 0 0] 24 (0, 0)) (by simp))) (fun x hx => by simp at hx; subst hx; exact HRX.out.keep (Nat.zero_le _) (Nat.le_refl _) (fun _ _ _ => rfl)))
      have HBr := Lib.hid (HB0.out.trans (HN.out.bel.mono HGB.out))
      have hr40 : (r : Int) + 37 ≤ 40 := by omega
      rw [← HJ.out] at C_insD C_withD C_putD
      go_upto_region 24 with (first
        | (go_at_call 18; (with_reducible refine (C_insD.out _ _ (HSr.out.val (nst j, .agg #[.int .i64 k, .int .i64 m, .string s, .slice p len cap]) (by simp))).mono ?_); rintro e w10 ⟨p10, cap10, rfl, _, _, hb⟩; dsimp only; have HS10 := Lib.hid (HSr.out.step hb); have HB10 := Lib.hid (HBr.out.trans (hb.mono HBr.out.size)); clear hb hx0 hx1 hx2 hx3; obtain ⟨hx0, hx1, hx2, hx3, hxf⟩ := box4_in w10 g _ _ _ _ _ (HS10.out.box (g, bx k m s p len cap) (by simp)); clear hxf)
        | (go_at_call 30; (with_reducible refine (C_withD.out _ _ (HS10.out.val (nst j, .agg #[.int .i64 k, .int .i64 m, .string s, .slice p len cap]) (by simp))).mono ?_); rintro e w11 ⟨p11, cap11, rfl, _, _, hb⟩; dsimp only; have HS11 := Lib.hid (HS10.out.step hb); have HB11 := Lib.hid (HB10.out.trans (hb.mono HB10.out.size)); have hg11 := Lib.hid (heap_lt (HS11.out.box (g, bx k m s p len cap) (by simp))); have hg11' : g < w11.heap.size := hg11.out; clear hb hx0 hx1 hx2 hx3; obtain ⟨hx0, hx1, hx2, hx3, hxf⟩ := box4_in w11 g _ _ _ _ _ (HS11.out.box (g, bx k m s p len cap) (by simp)); obtain ⟨hy0, hy1, hy2, hy3, hyf⟩ := box4_in w11 w6.heap.size _ _ _ _ _ (HS11.out.box (w6.heap.size, .cells #[.int .i64 0, .int .i64 1, .string ByteArray.empty, .slice none 0 0] 24 (0, 0)) (by simp)); clear hxf hyf)
        | (go_at_call 16; have HS11a := Lib.hid (HS11.out.alloc #[.int .i64 0, .int .i64 1, .string ByteArray.empty, .slice none 0 0] 24); have HB11a := Lib.hid (HB11.out.alloc HB11.out.size (.cells #[.int .i64 0, .int .i64 1, .string ByteArray.empty, .slice none 0 0] 24)); (refine (C_putD.out _ _ w11.heap.size (repAll_box (heap_alloc_new w11 _) (rep_I (lo := 0) (hi := 0) (n := 1) (by unfold I64; omega)) (Nat.zero_le _) (Nat.zero_le _)) (HS11a.out.val (nst j, .agg #[.int .i64 k, .int .i64 m, .string s, .slice p len cap]) (by simp))).mono ?_); rintro e w12 ⟨p12, cap12, rfl, _, _, hb⟩; dsimp only; have HS12 := Lib.hid (HS11a.out.step hb); have HB12 := Lib.hid (HB11a.out.trans (hb.mono HB11a.out.size)); have h612 : w6.heap.size < w12.heap.size := heap_lt (HS12.out.box (w6.heap.size, .cells #[.int .i64 0, .int .i64 1, .string ByteArray.empty, .slice none 0 0] 24 (0, 0)) (by simp)); clear hb hx0 hx1 hx2 hx3 hy0 hy1 hy2 hy3; obtain ⟨hy0, hy1, hy2, hy3, hyf⟩ := box4_in w12 w6.heap.size _ _ _ _ _ (HS12.out.box (w6.heap.size, .cells #[.int .i64 0, .int .i64 1, .string ByteArray.empty, .slice none 0 0] 24 (0, 0)) (by simp)); clear hyf)
        | (go_at_call 22; have HS12a := Lib.hid ((HS12.out.alloc #[.int .i64 0, .int .i64 1, .string ByteArray.empty, .slice none 0 0] 24).alloc #[.int .i64 0, .int .i64 1, .string ByteArray.empty, .slice none 0 0] 24); have HB12a := Lib.hid ((HB12.out.alloc HB12.out.size (.cells #[.int .i64 0, .int .i64 1, .string ByteArray.empty, .slice none 0 0] 24)).alloc (by have := HB12.out.size; simp; omega) (.cells #[.int .i64 0, .int .i64 1, .string ByteArray.empty, .slice none 0 0] 24)); (refine (C_catD.out _ w12.heap.size (w12.heap.size + 1) (repAll_box (HS12a.out.box (w12.heap.size, .cells #[.int .i64 0, .int .i64 1, .string ByteArray.empty, .slice none 0 0] 24 (0, 0)) (by simp)) (rep_I (lo := 0) (hi := 0) (n := 1) (by unfold I64; omega)) (Nat.zero_le _) (Nat.zero_le _)) (repAll_box (HS12a.out.box (w12.heap.size + 1, .cells #[.int .i64 0, .int .i64 1, .string ByteArray.empty, .slice none 0 0] 24 (0, 0)) (by simp)) (rep_I (lo := 0) (hi := 0) (n := 1) (by unfold I64; omega)) (Nat.zero_le _) (Nat.zero_le _))).mono ?_); rintro e w13 ⟨p13, cap13, rfl, _, _, hb⟩; dsimp only; have HB13 := Lib.hid (HB12a.out.trans (hb.mono HB12a.out.size)); clear hb hy0 hy1 hy2 hy3))
      have hfd := HFD.out
      rcases hfd with ⟨h1, h2⟩ | ⟨h1, h2⟩
      · subst h2
        go_wp2
        go_ret
        exact ⟨by simp, HB13.out⟩
      · subst h2
        go_wp2
        go_ret
        exact ⟨by simp; omega, HB13.out⟩
end Go.Proofs.Ytjipchloebbldaa
