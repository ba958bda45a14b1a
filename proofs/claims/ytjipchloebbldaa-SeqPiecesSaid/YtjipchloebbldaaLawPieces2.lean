/- SeqPieces: where the list with an item more does not fit; and all the ways together. -/
import Derived.Test.YtjipchloebbldaaLawPieces
namespace Go.Proofs.Ytjipchloebbldaa
open Go.RowKit
set_option maxRecDepth 100000

theorem np_mono {B B' : Nat} {w : World} {l : List T} {p : Option Addr} {c : Nat} (h : NP B w l p c) (hB : B' ≤ B) : NP B' w l p c := by
  rcases h with h | ⟨bo, h1, h2⟩
  · exact .inl h
  · exact .inr ⟨bo, by omega, h2⟩


set_option maxHeartbeats 4000000 in
theorem pieces_misfit (l : List T) (at_ : Int) (t : T) (w : World) (pl : Option Addr) (cl : Nat) (vk vn : Int) (vs : ByteArray) (vp : Option Addr) (vl vc : Nat) (hl : RepAll w 0 w.heap.size l pl) (hlc : l.length ≤ cl) (hcl : l.length * 56 ≤ 140737488355328)
    (hv : Rep w 0 w.heap.size t (.agg #[.int .i64 vk, .int .i64 vn, .string vs, .slice vp vl vc])) (hat : I64 at_) (hF : fewRight l 40 = true) (hA : rightL l = true) (hC : rightB t = true) (hfit : ¬ ∀ K : Nat, K ≤ l.length → numB at_ ((l.length : Int) + 1) = (K : Int) → vfit (laidIn l K t) = 0) :
    Calls Try.prog 6 #[.slice pl l.length cl, .int .i64 at_, .agg #[.int .i64 vk, .int .i64 vn, .string vs, .slice vp vl vc]] w fun e w' => e = .returned (.bool true) ∧ Below w.heap.size w w' := by

  obtain ⟨hal, hvl, hsl, hnl⟩ := rightL_facts hA
  have hst := (okR.full hC).2
  have hl40 : l.length ≤ 40 := by unfold fewRight at hF; simp at hF; omega
  obtain ⟨K, hK, hKl⟩ : ∃ K : Nat, numB at_ ((l.length : Int) + 1) = (K : Int) ∧ K ≤ l.length := ⟨(numB at_ ((l.length : Int) + 1)).toNat, by
    have h1 := Int.emod_nonneg at_ (b := (l.length : Int) + 1) (by omega)
    have h2 := Int.emod_lt_of_pos at_ (b := (l.length : Int) + 1) (by omega)
    unfold numB; omega⟩
  obtain ⟨L1, hL1⟩ : ∃ L, L = l.take K := ⟨_, rfl⟩
  obtain ⟨L2, hL2⟩ : ∃ L, L = l.drop K := ⟨_, rfl⟩
  obtain ⟨LM, hLM⟩ : ∃ L, L = laidIn l K t := ⟨_, rfl⟩
  have hLMl : LM.length = l.length + 1 := by rw [hLM]; exact laidIn_len l K t hKl
  have hcat : L1 ++ L2 = l := by rw [hL1, hL2, List.take_append_drop]
  have C_num : Hid (∀ W : World, Calls Try.prog 29 #[.int .i64 at_, .int .i64 ((l.length : Int) + 1)] W fun e w' => e = .returned (.int .i64 (K : Int)) ∧ w' = W) := fun W => by
    rw [← hK]; exact number_any at_ _ W hat (by omega) (by omega)
  have C_c1 : Hid (∀ (W : World) (L : List (List T × Option Addr)) (B : List (Nat × Obj)) (Vs : List (T × Value)), St W L B Vs → (l, pl) ∈ L → Calls Try.prog 14 #[.slice pl l.length cl, .int .i64 1, .int .i64 (K : Int)] W (Ans 0 W (L1, 0))) := fun W L B Vs h HM1 => by
    rw [hL1, ← cut_head hvl K hKl]; exact (cut_any l pl cl 1 K W 0 (h.all (l, pl) HM1) hlc (by unfold I64; omega) (by unfold I64; omega) (by omega)).mono fun _ _ h => h.zero
  have C_c2 : Hid (∀ (W : World) (L : List (List T × Option Addr)) (B : List (Nat × Obj)) (Vs : List (T × Value)), St W L B Vs → (l, pl) ∈ L → Calls Try.prog 14 #[.slice pl l.length cl, .int .i64 ((K : Int) + 1), .int .i64 (l.length : Int)] W (Ans 0 W (L2, 0))) := fun W L B Vs h HM1 => by
    rw [hL2, ← cut_tail hvl K hKl]; exact (cut_any l pl cl ((K : Int) + 1) l.length W 0 (h.all (l, pl) HM1) hlc (by unfold I64; omega) (by unfold I64; omega) (by omega)).mono fun _ _ h => h.zero
  have C_cat : Hid (∀ (W : World) (L : List (List T × Option Addr)) (B : List (Nat × Obj)) (Vs : List (T × Value)) (p1 p2 : Option Addr) (c1 c2 : Nat), St W L B Vs → (L1, p1) ∈ L → (L2, p2) ∈ L → L1.length ≤ c1 → L2.length ≤ c2 → Calls Try.prog 22 #[.slice p1 L1.length c1, .slice p2 L2.length c2] W (Ans 0 W (l, 0))) := fun W L B Vs p1 p2 c1 c2 h HM1 HM2 h1 h2 => by
    have h3 := cat_any L1 L2 p1 p2 c1 c2 W 0 (h.all (L1, p1) HM1) h1 (h.all (L2, p2) HM2) h2 (Nat.zero_le _) (by rw [hcat]; omega)
    rw [hcat, hvl] at h3
    exact h3.mono fun _ _ h => h.zero
  have hi1 : I64 ((K : Int) + 1) := by unfold I64; omega
  have hszM : szAll LM ≤ 900000 := by
    have e := szAll_append (l.take K) (l.drop K)
    rw [List.take_append_drop] at e
    rw [hLM]; unfold laidIn; rw [szAll_append, szAll_append]; simp only [szAll]; omega
  have C_ins : Hid (∀ (W : World) (L : List (List T × Option Addr)) (B : List (Nat × Obj)) (Vs : List (T × Value)), St W L B Vs → (l, pl) ∈ L → (t, .agg #[.int .i64 vk, .int .i64 vn, .string vs, .slice vp vl vc]) ∈ Vs → Calls Try.prog 18 #[.slice pl l.length cl, .agg #[.int .i64 vk, .int .i64 vn, .string vs, .slice vp vl vc], .int .i64 ((K : Int) + 1)] W (Ans 0 W (madeS (vfit LM) LM))) := fun W L B Vs h HM1 HM3 => by
    rw [hLM, ← ins_at t K hKl]; exact (insert_any l pl cl ((K : Int) + 1) t _ W 0 (h.all (l, pl) HM1) hlc hi1 (h.val (t, _) HM3) (by omega) (Nat.zero_le _)).mono fun _ _ h => h.zero

  obtain ⟨F, hFd⟩ : ∃ F, F = vfit LM := ⟨_, rfl⟩
  have hF0 : F ≠ 0 := by
    intro e
    apply hfit
    intro K' h1 h2
    rw [show K' = K by omega, ← hLM, ← hFd, e]
  have hne : (F != 0) = true := by simpa using hF0
  have C_insm : Hid (∀ (W : World) (L : List (List T × Option Addr)) (B : List (Nat × Obj)) (Vs : List (T × Value)), St W L B Vs → (l, pl) ∈ L → (t, .agg #[.int .i64 vk, .int .i64 vn, .string vs, .slice vp vl vc]) ∈ Vs → Calls Try.prog 18 #[.slice pl l.length cl, .agg #[.int .i64 vk, .int .i64 vn, .string vs, .slice vp vl vc], .int .i64 ((K : Int) + 1)] W (Ans 0 W ([], F))) := fun W L B Vs h HM1 HM3 => by
    have h1 := C_ins.out W L B Vs h HM1 HM3
    rw [← hFd] at h1
    unfold madeS at h1; rw [if_neg hF0] at h1; exact h1
  have hFr : F = rfit (l ++ [t]) := by rw [hFd, hLM]; exact laidIn_fit hal hC K
  obtain ⟨LT, hLT⟩ : ∃ L, L = l ++ [t] := ⟨_, rfl⟩
  have hLTl : LT.length = l.length + 1 := by rw [hLT]; simp
  have hLTs : szAll LT ≤ 900000 := by have := szAll_append l [t]; simp only [szAll] at this; rw [hLT]; omega
  have C_vals : Hid (∀ (W : World) (L : List (List T × Option Addr)) (B : List (Nat × Obj)) (Vs : List (T × Value)), St W L B Vs → (l, pl) ∈ L → Calls Try.prog 11 #[.slice pl l.length cl] W fun e w' => ∃ q c, e = .returned (.slice q l.length c) ∧ NP W.heap.size w' l q c ∧ Below W.heap.size W w') := fun W L B Vs h HM1 => values_np l W pl cl (h.all (l, pl) HM1) hlc hcl
  have C_L : Hid (∀ (W : World) (q : Option Addr) (c : Nat), RepAll W 0 W.heap.size LT q → l.length + 1 ≤ c → Calls Try.prog 38 #[.slice q (l.length + 1) c] W fun e w' => ∃ k n s p len cap, e = .returned (.agg #[.int .i64 k, .int .i64 n, .string s, .slice p len cap]) ∧ Rep w' 0 w'.heap.size (mkList LT) (.agg #[.int .i64 k, .int .i64 n, .string s, .slice p len cap]) ∧ Below W.heap.size W w') := fun W q c h1 h2 => by
    rw [← hLTl] at h2 ⊢
    refine (rL_any LT W 0 W.heap.size q c h1 h2 (by omega) (Nat.le_refl _)).mono fun e w' ⟨v, he, h3, h4⟩ => ?_
    obtain ⟨k, n, s, p, len, cap, rfl⟩ := rep_form h3
    exact ⟨k, n, s, p, len, cap, he, h3.keep (Nat.zero_le _) (Nat.le_refl _) (fun _ _ _ => rfl), h4⟩
  have C_fits : Hid (∀ (W : World) (v : Value), Rep W 0 W.heap.size (mkList LT) v → Calls Try.prog 37 #[v] W fun e w' => e = .returned (.int .i64 F) ∧ Below W.heap.size W w') := fun W v h1 => by
    have h2 := fits_any (mkList LT) W 0 W.heap.size v h1 (Nat.le_refl _) (by unfold mkList; rw [sz]; simp; omega)
    rw [hFr, ← hLT]; exact h2
  have C_app : Hid (∀ (B : Nat) (w : World) (p : Option Addr) (c g : Nat), NP B w l p c → B ≤ w.heap.size → Rep w 0 B t (.agg #[.int .i64 vk, .int .i64 vn, .string vs, .slice vp vl vc]) → w.heap[g]? = some (.cells #[.int .i64 vk, .int .i64 vn, .string vs, .slice vp vl vc] 24 (0, 0)) → ∃ q cap w', (Builtin.append_ #[22, 22] 22 #[.slice p l.length c, .slice (some ⟨g, 0, none⟩) 1 1]).run Try.prog w = .ok (.slice q (l.length + 1) cap) w' ∧ l.length + 1 ≤ cap ∧ RepAll w' 0 w'.heap.size LT q ∧ Below B w w') := fun B w p c g h1 h2 h3 h4 => by
    rw [hLT]; exact append_np h1 h2 h3 h4 (by omega) (l.length + 1) (by simp) _
  have HS0 := Lib.hid ((St.mk (W := w) (L := [(l, pl)]) (B := []) (V := [(t, .agg #[.int .i64 vk, .int .i64 vn, .string vs, .slice vp vl vc])]) (fun x hx => by simp at hx; subst hx; exact hl) (fun x hx => by simp at hx) (fun x hx => by simp at hx; subst hx; exact hv)).alloc #[.int .i64 vk, .int .i64 vn, .string vs, .slice vp vl vc] 24)
  have HB0 := Lib.hid ((Below.refl w.heap.size w).alloc (Nat.le_refl _) (.cells #[.int .i64 vk, .int .i64 vn, .string vs, .slice vp vl vc] 24))
  have HF := Lib.hid hF
  have HA := Lib.hid hA
  have HCC := Lib.hid hC
  have hK6 : (K : Int) ≤ 1000000 := by omega

  clear hl hv hat hF hA hC hfit hal hvl hsl hst hK hL1 hL2 hLM hcat hszM hnl C_ins hLMl hFd hFr hLT hLTl hLTs hF0
  go_enter Try.func6, Try.ntmps6
  go_upto_region 15 with (first
    | (go_at_call 8; (with_reducible refine (first4_any _).mono ?_); rintro e w1 ⟨rfl, hb⟩; have HS1 := Lib.hid ((HS0.out.step hb)); have HB1 := Lib.hid (HB0.out.trans (hb.mono HB0.out.size)); clear hb)
    | (go_at_call 26; (with_reducible refine (wvalues_any l w1 0 w1.heap.size pl cl 40 (HS1.out.all (l, pl) (by simp)) (Nat.le_refl _) (by omega)).mono ?_); rintro e w2 ⟨rfl, hb⟩; rw [HF.out]; have HS2 := Lib.hid ((HS1.out.step hb)); have HB2 := Lib.hid (HB1.out.trans (hb.mono HB1.out.size)); clear hb)
    | (go_at_call 9; (with_reducible refine (rightL_any l w2 0 w2.heap.size pl cl (HS2.out.all (l, pl) (by simp)) (Nat.le_refl _) hlc hcl).mono ?_); rintro e w3 ⟨rfl, hb⟩; rw [HA.out]; have HS3 := Lib.hid ((HS2.out.step hb)); have HB3 := Lib.hid (HB2.out.trans (hb.mono HB2.out.size)); clear hb; obtain ⟨hx0, hx1, hx2, hx3, hxf⟩ := box4_in w3 w.heap.size _ _ _ _ _ (HS3.out.box (w.heap.size, bx vk vn vs vp vl vc) (by simp)); clear hxf)
    | (go_at_call 10; (with_reducible refine (right_any t w3 0 w3.heap.size _ (HS3.out.val (t, .agg #[.int .i64 vk, .int .i64 vn, .string vs, .slice vp vl vc]) (by simp)) (Nat.le_refl _)).mono ?_); rintro e w4 ⟨rfl, hb⟩; rw [HCC.out]; have HS4 := Lib.hid ((HS3.out.step hb)); have HB4 := Lib.hid (HB3.out.trans (hb.mono HB3.out.size)); clear hb hx0 hx1 hx2 hx3)
    | (go_at_call 29; (with_reducible refine (C_num.out _).mono ?_); rintro e w9 ⟨rfl, hw⟩; subst hw)
    | (go_at_call_of 14 (Value.int .i64 1); (with_reducible refine (C_c1.out _ _ _ _ HS4.out (by simp)).mono ?_); rintro e w5 ⟨p5, cap5, rfl, hc5, h, hb⟩; dsimp only at h hc5 ⊢; have HS5 := Lib.hid ((HS4.out.step hb).addL h); have HB5 := Lib.hid (HB4.out.trans (hb.mono HB4.out.size)); clear hb h)
    | (go_at_call_of 14 (Value.int .i64 (l.length : Int)); (with_reducible refine (C_c2.out _ _ _ _ HS5.out (by simp)).mono ?_); rintro e w6 ⟨p6, cap6, rfl, hc6, h, hb⟩; dsimp only at h hc6 ⊢; have HS6 := Lib.hid ((HS5.out.step hb).addL h); have HB6 := Lib.hid (HB5.out.trans (hb.mono HB5.out.size)); clear hb h)
    | (go_at_call 22; (with_reducible refine (C_cat.out _ _ _ _ _ _ _ _ HS6.out (by simp) (by simp) hc5 hc6).mono ?_); rintro e w7 ⟨p7, cap7, rfl, hc7, h, hb⟩; dsimp only at h hc7 ⊢; have HS7 := Lib.hid ((HS6.out.step hb).addL h); have HB7 := Lib.hid (HB6.out.trans (hb.mono HB6.out.size)); clear hb h)
    | (go_at_call_of 25 (Value.slice p7 l.length cap7); (with_reducible refine (same_lists l _ _ _ _ _ (HS7.out.all (l, p7) (by simp)) (HS7.out.all (l, pl) (by simp)) (by omega)).mono ?_); rintro e w8 ⟨rfl, hb⟩; have HS8 := Lib.hid ((HS7.out.step hb)); have HB8 := Lib.hid (HB7.out.trans (hb.mono HB7.out.size)); clear hb; obtain ⟨hx0, hx1, hx2, hx3, hxf⟩ := box4_in w8 w.heap.size _ _ _ _ _ (HS8.out.box (w.heap.size, bx vk vn vs vp vl vc) (by simp)); clear hxf)
    | (go_at_call 18; (with_reducible refine (C_insm.out _ _ _ _ HS8.out (by simp) (by simp)).mono ?_); rintro e w9 ⟨p9, cap9, rfl, hc9, h, hb⟩; dsimp only at h hc9 ⊢; have HS9 := Lib.hid ((HS8.out.step hb)); have HB9 := Lib.hid (HB8.out.trans (hb.mono HB8.out.size)); clear hb h hx0 hx1 hx2 hx3; obtain ⟨hx0, hx1, hx2, hx3, hxf⟩ := box4_in w9 w.heap.size _ _ _ _ _ (HS9.out.box (w.heap.size, bx vk vn vs vp vl vc) (by simp)); clear hxf))
  have HG9 : Hid (w9.heap[w.heap.size]? = some (.cells #[.int .i64 vk, .int .i64 vn, .string vs, .slice vp vl vc] 24 (0, 0))) := HS9.out.box (w.heap.size, bx vk vn vs vp vl vc) (by simp)
  have HRV : Hid (Rep w9 0 w9.heap.size t (.agg #[.int .i64 vk, .int .i64 vn, .string vs, .slice vp vl vc])) := HS9.out.val (t, .agg #[.int .i64 vk, .int .i64 vn, .string vs, .slice vp vl vc]) (by simp)
  have HBD := Lib.hid (Below.refl w9.heap.size w9).drew
  have HS9D := Lib.hid (HS9.out.step HBD.out)
  have HBE := Lib.hid (((Below.refl w9.heap.size w9).alloc (Nat.le_refl _) (.cells #[.int .i64 vk, .int .i64 vn, .string vs, .slice vp vl vc] 24)).drew)
  have HS9E := Lib.hid (HS9.out.step HBE.out)
  have HGE : Hid ((w9.alloc (.cells #[.int .i64 vk, .int .i64 vn, .string vs, .slice vp vl vc] 24)).drew.heap[w9.heap.size]? = some (.cells #[.int .i64 vk, .int .i64 vn, .string vs, .slice vp vl vc] 24 (0, 0))) := heap_drew (heap_alloc_new w9 _)
  go_cut [6] from 96 to 106 (fun c wx => c = .bool true ∧ Hid (Below w9.heap.size w9 wx))
  case first =>
    go_region_held_law (fun w' => w'.cell? ⟨w.heap.size, 0, none⟩ = some (.int .i64 vk) ∧ w'.cell? ⟨w.heap.size, 1, none⟩ = some (.int .i64 vn) ∧ w'.cell? ⟨w.heap.size, 2, none⟩ = some (.string vs) ∧ w'.cell? ⟨w.heap.size, 3, none⟩ = some (.slice vp vl vc)) (first | go_keep | exact ⟨by assumption, by assumption, by assumption, by assumption⟩ | (go_show; fail)) (first
      | (go_at_call 11; (with_reducible refine (C_vals.out w9.drew _ _ _ HS9D.out (by simp)).mono ?_); rintro e w10 ⟨q10, c10, rfl, hnp, hb⟩; have hz10 : w9.heap.size ≤ w10.heap.size := hb.size; have HB10 := Lib.hid (HBD.out.trans hb); have hRV := (HRV.out.below (HB10.out.alloc hz10 (.cells #[.int .i64 vk, .int .i64 vn, .string vs, .slice vp vl vc] 24)) (Nat.le_refl _)); obtain ⟨hx0_10, hx1_10, hx2_10, hx3_10, hxf⟩ := box4_in w10 w.heap.size _ _ _ _ _ (heap_old HG9.out HB10.out); clear hxf; obtain ⟨q11, cap11, w11, hr11, h111, h112, hb11⟩ := C_app.out w9.heap.size (w10.alloc (.cells #[.int .i64 vk, .int .i64 vn, .string vs, .slice vp vl vc] 24)) q10 c10 w10.heap.size (NP.below hnp ((Below.refl _ _).alloc (Nat.le_refl _) _)) (by simp; omega) hRV (heap_alloc_new w10 _); have HR11 := Lib.hid hr11; have H112 := Lib.hid h112; have HB11 := Lib.hid ((HB10.out.alloc hz10 (.cells #[.int .i64 vk, .int .i64 vn, .string vs, .slice vp vl vc] 24)).trans hb11); clear hb hnp hRV hr11 h112 hb11 hz10)
      | (go_at_call 11; (with_reducible refine (C_vals.out (w9.alloc (.cells #[.int .i64 vk, .int .i64 vn, .string vs, .slice vp vl vc] 24)).drew _ _ _ HS9E.out (by simp)).mono ?_); rintro e w10 ⟨q10, c10, rfl, hnp, hb⟩; have HB10 := Lib.hid (HBE.out.trans (hb.mono HBE.out.size)); have hz10 : w9.heap.size ≤ w10.heap.size := HB10.out.size; have hRV := (HRV.out.below HB10.out (Nat.le_refl _)); have hnp2 : NP w9.heap.size w10 l q10 c10 := np_mono hnp HBE.out.size; obtain ⟨hx0_10, hx1_10, hx2_10, hx3_10, hxf⟩ := box4_in w10 w.heap.size _ _ _ _ _ (heap_old HG9.out HB10.out); clear hxf; obtain ⟨q11, cap11, w11, hr11, h111, h112, hb11⟩ := C_app.out w9.heap.size w10 q10 c10 w9.heap.size hnp2 hz10 hRV (heap_old HGE.out hb); have HR11 := Lib.hid hr11; have H112 := Lib.hid h112; have HB11 := Lib.hid (HB10.out.trans hb11); clear hb hnp hnp2 hRV hr11 h112 hb11 hz10)
      | (refine step_append_run rfl (.tmp 98) (.tmp 100) _ rfl _ _ rfl rfl HR11.out ?_; obtain ⟨hx0_11, hx1_11, hx2_11, hx3_11, hxf⟩ := box4_in w11 w.heap.size _ _ _ _ _ (heap_old HG9.out HB11.out); clear hxf)
      | (go_at_call 38; (with_reducible refine (C_L.out _ _ _ H112.out h111).mono ?_); rintro e w12 ⟨uk, un, us, up, ul, uc, rfl, h12, hb⟩; have H12 := Lib.hid h12; have HB12 := Lib.hid (HB11.out.trans (hb.mono HB11.out.size)); clear hb h12; obtain ⟨hx0_12, hx1_12, hx2_12, hx3_12, hxf⟩ := box4_in w12 w.heap.size _ _ _ _ _ (heap_old HG9.out HB12.out); clear hxf)
      | (go_at_call 37; (with_reducible refine (C_fits.out _ _ H12.out).mono ?_); rintro e w13 ⟨rfl, hb⟩; have HB13 := Lib.hid (HB12.out.trans (hb.mono HB12.out.size)); clear hb; obtain ⟨hx0_13, hx1_13, hx2_13, hx3_13, hxf⟩ := box4_in w13 w.heap.size _ _ _ _ _ (heap_old HG9.out HB13.out); clear hxf))
    all_goals
      go_wp2
      go_meet
      exact ⟨by simp, HB13⟩
  obtain ⟨rfl, HBX⟩ := hcut
  go_wp2
  go_ret
  exact ⟨rfl, HB9.out.trans (HBX.out.mono HB9.out.size)⟩

set_option maxHeartbeats 2000000 in
theorem pieces_all (l : List T) (at_ : Int) (t : T) (v : Value) (w : World) (pl : Option Addr) (cl : Nat) (hl : RepAll w 0 w.heap.size l pl) (hlc : l.length ≤ cl) (hcl : l.length * 56 ≤ 140737488355328)
    (hv : Rep w 0 w.heap.size t v) (hat : I64 at_) :
    Calls Try.prog 6 #[.slice pl l.length cl, .int .i64 at_, v] w fun e w' => e = .returned (.bool true) ∧ Below w.heap.size w w' := by
  obtain ⟨vk, vn, vs, vp, vl, vc, rfl⟩ := rep_form hv
  by_cases hall : fewRight l 40 = true ∧ rightL l = true ∧ rightB t = true
  · by_cases hfit : ∀ K : Nat, K ≤ l.length → numB at_ ((l.length : Int) + 1) = (K : Int) → vfit (laidIn l K t) = 0
    · exact pieces_fit l at_ t w pl cl vk vn vs vp vl vc hl hlc hcl hv hat hall.1 hall.2.1 hall.2.2 hfit
    · exact pieces_misfit l at_ t w pl cl vk vn vs vp vl vc hl hlc hcl hv hat hall.1 hall.2.1 hall.2.2 hfit
  · have HS0 := Lib.hid ((St.mk (W := w) (L := [(l, pl)]) (B := []) (V := [(t, .agg #[.int .i64 vk, .int .i64 vn, .string vs, .slice vp vl vc])]) (fun x hx => by simp at hx; subst hx; exact hl) (fun x hx => by simp at hx) (fun x hx => by simp at hx; subst hx; exact hv)).alloc #[.int .i64 vk, .int .i64 vn, .string vs, .slice vp vl vc] 24)
    have HB0 := Lib.hid ((Below.refl w.heap.size w).alloc (Nat.le_refl _) (.cells #[.int .i64 vk, .int .i64 vn, .string vs, .slice vp vl vc] 24))
    clear hl hv hat
    obtain ⟨A, hA⟩ : ∃ A, A = fewRight l 40 := ⟨_, rfl⟩
    obtain ⟨B, hB⟩ : ∃ B, B = rightL l := ⟨_, rfl⟩
    obtain ⟨C, hC⟩ : ∃ C, C = rightB t := ⟨_, rfl⟩
    rw [← hA, ← hB, ← hC] at hall
    have HF := Lib.hid hA
    have HA := Lib.hid hB
    have HCC := Lib.hid hC
    clear hA hB hC
    have hl9 : l.length ≤ 9000000000000000000 := by omega
    cases A with
    | false =>
      clear hall HA HCC
      go_enter Try.func6, Try.ntmps6
      go_wp2_with (first
        | (go_at_call 8; (with_reducible refine (first4_any _).mono ?_); rintro e w1 ⟨rfl, hb⟩; have HS1 := Lib.hid ((HS0.out.step hb)); have HB1 := Lib.hid (HB0.out.trans (hb.mono HB0.out.size)); clear hb)
        | (go_at_call 26; (with_reducible refine (wvalues_any l w1 0 w1.heap.size pl cl 40 (HS1.out.all (l, pl) (by simp)) (Nat.le_refl _) hl9).mono ?_); rintro e w2 ⟨rfl, hb⟩; rw [← HF.out]; have HS2 := Lib.hid ((HS1.out.step hb)); have HB2 := Lib.hid (HB1.out.trans (hb.mono HB1.out.size)); clear hb))
      go_ret
      exact ⟨rfl, HB2.out⟩
    | true =>
      cases B with
      | false =>
        clear hall HCC
        go_enter Try.func6, Try.ntmps6
        go_wp2_with (first
          | (go_at_call 8; (with_reducible refine (first4_any _).mono ?_); rintro e w1 ⟨rfl, hb⟩; have HS1 := Lib.hid ((HS0.out.step hb)); have HB1 := Lib.hid (HB0.out.trans (hb.mono HB0.out.size)); clear hb)
          | (go_at_call 26; (with_reducible refine (wvalues_any l w1 0 w1.heap.size pl cl 40 (HS1.out.all (l, pl) (by simp)) (Nat.le_refl _) hl9).mono ?_); rintro e w2 ⟨rfl, hb⟩; rw [← HF.out]; have HS2 := Lib.hid ((HS1.out.step hb)); have HB2 := Lib.hid (HB1.out.trans (hb.mono HB1.out.size)); clear hb)
          | (go_at_call 9; (with_reducible refine (rightL_any l w2 0 w2.heap.size pl cl (HS2.out.all (l, pl) (by simp)) (Nat.le_refl _) hlc hcl).mono ?_); rintro e w3 ⟨rfl, hb⟩; rw [← HA.out]; have HS3 := Lib.hid ((HS2.out.step hb)); have HB3 := Lib.hid (HB2.out.trans (hb.mono HB2.out.size)); clear hb; obtain ⟨hx0, hx1, hx2, hx3, hxf⟩ := box4_in w3 w.heap.size _ _ _ _ _ (HS3.out.box (w.heap.size, bx vk vn vs vp vl vc) (by simp)); clear hxf))
        go_ret
        exact ⟨rfl, HB3.out⟩
      | true =>
        cases C with
        | true => exact absurd ⟨rfl, rfl, rfl⟩ hall
        | false =>
          clear hall
          go_enter Try.func6, Try.ntmps6
          go_wp2_with (first
            | (go_at_call 8; (with_reducible refine (first4_any _).mono ?_); rintro e w1 ⟨rfl, hb⟩; have HS1 := Lib.hid ((HS0.out.step hb)); have HB1 := Lib.hid (HB0.out.trans (hb.mono HB0.out.size)); clear hb)
            | (go_at_call 26; (with_reducible refine (wvalues_any l w1 0 w1.heap.size pl cl 40 (HS1.out.all (l, pl) (by simp)) (Nat.le_refl _) hl9).mono ?_); rintro e w2 ⟨rfl, hb⟩; rw [← HF.out]; have HS2 := Lib.hid ((HS1.out.step hb)); have HB2 := Lib.hid (HB1.out.trans (hb.mono HB1.out.size)); clear hb)
            | (go_at_call 9; (with_reducible refine (rightL_any l w2 0 w2.heap.size pl cl (HS2.out.all (l, pl) (by simp)) (Nat.le_refl _) hlc hcl).mono ?_); rintro e w3 ⟨rfl, hb⟩; rw [← HA.out]; have HS3 := Lib.hid ((HS2.out.step hb)); have HB3 := Lib.hid (HB2.out.trans (hb.mono HB2.out.size)); clear hb; obtain ⟨hx0, hx1, hx2, hx3, hxf⟩ := box4_in w3 w.heap.size _ _ _ _ _ (HS3.out.box (w.heap.size, bx vk vn vs vp vl vc) (by simp)); clear hxf)
            | (go_at_call 10; (with_reducible refine (right_any t w3 0 w3.heap.size _ (HS3.out.val (t, .agg #[.int .i64 vk, .int .i64 vn, .string vs, .slice vp vl vc]) (by simp)) (Nat.le_refl _)).mono ?_); rintro e w4 ⟨rfl, hb⟩; rw [← HCC.out]; have HS4 := Lib.hid ((HS3.out.step hb)); have HB4 := Lib.hid (HB3.out.trans (hb.mono HB3.out.size)); clear hb hx0 hx1 hx2 hx3))
          go_ret
          exact ⟨rfl, HB4.out⟩
end Go.Proofs.Ytjipchloebbldaa
