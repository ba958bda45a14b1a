/- SeqPieces: cut in two, put together, laid in and taken away. -/
import Derived.Test.YtjipchloebbldaaLawPieces0
import Derived.Test.YtjipchloebbldaaMore
namespace Go.Proofs.Ytjipchloebbldaa
open Go.RowKit
set_option maxRecDepth 100000


set_option maxHeartbeats 4000000 in
theorem pieces_fit (l : List T) (at_ : Int) (t : T) (w : World) (pl : Option Addr) (cl : Nat) (vk vn : Int) (vs : ByteArray) (vp : Option Addr) (vl vc : Nat) (hl : RepAll w 0 w.heap.size l pl) (hlc : l.length ≤ cl) (hcl : l.length * 56 ≤ 140737488355328)
    (hv : Rep w 0 w.heap.size t (.agg #[.int .i64 vk, .int .i64 vn, .string vs, .slice vp vl vc])) (hat : I64 at_) (hF : fewRight l 40 = true) (hA : rightL l = true) (hC : rightB t = true) (hfit : ∀ K : Nat, K ≤ l.length → numB at_ ((l.length : Int) + 1) = (K : Int) → vfit (laidIn l K t) = 0) :
    Calls Try.prog 6 #[.slice pl l.length cl, .int .i64 at_, .agg #[.int .i64 vk, .int .i64 vn, .string vs, .slice vp vl vc]] w fun e w' => e = .returned (.bool true) ∧ Below w.heap.size w w' := by

  obtain ⟨hal, hvl, hsl, hnl⟩ := rightL_facts hA
  have hst := (okR.full hC).2
  have hl40 : l.length ≤ 40 := by unfold fewRight at hF; simp at hF; omega
  obtain ⟨K, hK, hKl⟩ : ∃ K : Nat, numB at_ ((l.length : Int) + 1) = (K : Int) ∧ K ≤ l.length := ⟨(numB at_ ((l.length : Int) + 1)).toNat, by
    have h1 := Int.emod_nonneg at_ (b := (l.length : Int) + 1) (by omega)
    have h2 := Int.emod_lt_of_pos at_ (b := (l.length : Int) + 1) (by omega)
    unfold numB; omega⟩
  obtain ⟨L1, hL1⟩ : ∃ L, L = l.take K := ⟨_, rfl⟩
  obtain ⟨L2, hL2⟩ : ∃ L, L = l.drop K := ⟨_, rfl⟩
  obtain ⟨LM, hLM⟩ : ∃ L, L = laidIn l K t := ⟨_, rfl⟩
  have hLMl : LM.length = l.length + 1 := by rw [hLM]; exact laidIn_len l K t hKl
  have hcat : L1 ++ L2 = l := by rw [hL1, hL2, List.take_append_drop]
  have C_num : Hid (∀ W : World, Calls Try.prog 29 #[.int .i64 at_, .int .i64 ((l.length : Int) + 1)] W fun e w' => e = .returned (.int .i64 (K : Int)) ∧ w' = W) := fun W => by
    rw [← hK]; exact number_any at_ _ W hat (by omega) (by omega)
  have C_c1 : Hid (∀ (W : World) (L : List (List T × Option Addr)) (B : List (Nat × Obj)) (Vs : List (T × Value)), St W L B Vs → (l, pl) ∈ L → Calls Try.prog 14 #[.slice pl l.length cl, .int .i64 1, .int .i64 (K : Int)] W (Ans 0 W (L1, 0))) := fun W L B Vs h HM1 => by
    rw [hL1, ← cut_head hvl K hKl]; exact (cut_any l pl cl 1 K W 0 (h.all (l, pl) HM1) hlc (by unfold I64; omega) (by unfold I64; omega) (by omega)).mono fun _ _ h => h.zero
  have C_c2 : Hid (∀ (W : World) (L : List (List T × Option Addr)) (B : List (Nat × Obj)) (Vs : List (T × Value)), St W L B Vs → (l, pl) ∈ L → Calls Try.prog 14 #[.slice pl l.length cl, .int .i64 ((K : Int) + 1), .int .i64 (l.length : Int)] W (Ans 0 W (L2, 0))) := fun W L B Vs h HM1 => by
    rw [hL2, ← cut_tail hvl K hKl]; exact (cut_any l pl cl ((K : Int) + 1) l.length W 0 (h.all (l, pl) HM1) hlc (by unfold I64; omega) (by unfold I64; omega) (by omega)).mono fun _ _ h => h.zero
  have C_cat : Hid (∀ (W : World) (L : List (List T × Option Addr)) (B : List (Nat × Obj)) (Vs : List (T × Value)) (p1 p2 : Option Addr) (c1 c2 : Nat), St W L B Vs → (L1, p1) ∈ L → (L2, p2) ∈ L → L1.length ≤ c1 → L2.length ≤ c2 → Calls Try.prog 22 #[.slice p1 L1.length c1, .slice p2 L2.length c2] W (Ans 0 W (l, 0))) := fun W L B Vs p1 p2 c1 c2 h HM1 HM2 h1 h2 => by
    have h3 := cat_any L1 L2 p1 p2 c1 c2 W 0 (h.all (L1, p1) HM1) h1 (h.all (L2, p2) HM2) h2 (Nat.zero_le _) (by rw [hcat]; omega)
    rw [hcat, hvl] at h3
    exact h3.mono fun _ _ h => h.zero
  have hi1 : I64 ((K : Int) + 1) := by unfold I64; omega
  have hszM : szAll LM ≤ 900000 := by
    have e := szAll_append (l.take K) (l.drop K)
    rw [List.take_append_drop] at e
    rw [hLM]; unfold laidIn; rw [szAll_append, szAll_append]; simp only [szAll]; omega
  have C_ins : Hid (∀ (W : World) (L : List (List T × Option Addr)) (B : List (Nat × Obj)) (Vs : List (T × Value)), St W L B Vs → (l, pl) ∈ L → (t, .agg #[.int .i64 vk, .int .i64 vn, .string vs, .slice vp vl vc]) ∈ Vs → Calls Try.prog 18 #[.slice pl l.length cl, .agg #[.int .i64 vk, .int .i64 vn, .string vs, .slice vp vl vc], .int .i64 ((K : Int) + 1)] W (Ans 0 W (madeS (vfit LM) LM))) := fun W L B Vs h HM1 HM3 => by
    rw [hLM, ← ins_at t K hKl]; exact (insert_any l pl cl ((K : Int) + 1) t _ W 0 (h.all (l, pl) HM1) hlc hi1 (h.val (t, _) HM3) (by omega) (Nat.zero_le _)).mono fun _ _ h => h.zero

  have hv0 : vfit LM = 0 := by rw [hLM]; exact hfit K hKl hK
  have C_insm : Hid (∀ (W : World) (L : List (List T × Option Addr)) (B : List (Nat × Obj)) (Vs : List (T × Value)), St W L B Vs → (l, pl) ∈ L → (t, .agg #[.int .i64 vk, .int .i64 vn, .string vs, .slice vp vl vc]) ∈ Vs → Calls Try.prog 18 #[.slice pl l.length cl, .agg #[.int .i64 vk, .int .i64 vn, .string vs, .slice vp vl vc], .int .i64 ((K : Int) + 1)] W (Ans 0 W (LM, 0))) := fun W L B Vs h HM1 HM3 => by
    have h1 := C_ins.out W L B Vs h HM1 HM3
    rw [hv0] at h1; exact h1
  have C_get : Hid (∀ (W : World) (L : List (List T × Option Addr)) (B : List (Nat × Obj)) (Vs : List (T × Value)) (pM : Option Addr) (cM : Nat), St W L B Vs → (LM, pM) ∈ L → Calls Try.prog 12 #[.slice pM LM.length cM, .int .i64 ((K : Int) + 1)] W (AnsV 0 W (t, 0))) := fun W L B Vs pM cM h HM1 => by
    rw [← laidIn_get l K t hKl, ← hLM]; exact (get_any LM pM cM _ W 0 W.heap.size (h.all (LM, pM) HM1) (Nat.le_refl _) hi1 (by omega)).mono fun _ _ h => h.zero
  have C_del : Hid (∀ (W : World) (L : List (List T × Option Addr)) (B : List (Nat × Obj)) (Vs : List (T × Value)) (pM : Option Addr) (cM : Nat), St W L B Vs → (LM, pM) ∈ L → LM.length ≤ cM → Calls Try.prog 20 #[.slice pM LM.length cM, .int .i64 ((K : Int) + 1)] W (Ans 0 W (l, 0))) := fun W L B Vs pM cM h HM1 h1 => by
    rw [← laidIn_del hvl K t hKl, ← hLM]; exact (delete_any LM pM cM _ W 0 (h.all (LM, pM) HM1) h1 hi1 hszM (Nat.zero_le _)).mono fun _ _ h => h.zero
  have HSB : Hid (sameB t t = true) := sameB_self t
  have HS0 := Lib.hid ((St.mk (W := w) (L := [(l, pl)]) (B := []) (V := [(t, .agg #[.int .i64 vk, .int .i64 vn, .string vs, .slice vp vl vc])]) (fun x hx => by simp at hx; subst hx; exact hl) (fun x hx => by simp at hx) (fun x hx => by simp at hx; subst hx; exact hv)).alloc #[.int .i64 vk, .int .i64 vn, .string vs, .slice vp vl vc] 24)
  have HB0 := Lib.hid ((Below.refl w.heap.size w).alloc (Nat.le_refl _) (.cells #[.int .i64 vk, .int .i64 vn, .string vs, .slice vp vl vc] 24))
  have HF := Lib.hid hF
  have HA := Lib.hid hA
  have HCC := Lib.hid hC
  have hK6 : (K : Int) ≤ 1000000 := by omega

  clear hl hv hat hF hA hC hfit hal hvl hsl hst hK hL1 hL2 hLM hcat hszM hv0 hnl C_ins hLMl
  go_enter Try.func6, Try.ntmps6
  go_wp2_with (first
    | (go_at_call 8; (with_reducible refine (first4_any _).mono ?_); rintro e w1 ⟨rfl, hb⟩; have HS1 := Lib.hid ((HS0.out.step hb)); have HB1 := Lib.hid (HB0.out.trans (hb.mono HB0.out.size)); clear hb)
    | (go_at_call 26; (with_reducible refine (wvalues_any l w1 0 w1.heap.size pl cl 40 (HS1.out.all (l, pl) (by simp)) (Nat.le_refl _) (by omega)).mono ?_); rintro e w2 ⟨rfl, hb⟩; rw [HF.out]; have HS2 := Lib.hid ((HS1.out.step hb)); have HB2 := Lib.hid (HB1.out.trans (hb.mono HB1.out.size)); clear hb)
    | (go_at_call 9; (with_reducible refine (rightL_any l w2 0 w2.heap.size pl cl (HS2.out.all (l, pl) (by simp)) (Nat.le_refl _) hlc hcl).mono ?_); rintro e w3 ⟨rfl, hb⟩; rw [HA.out]; have HS3 := Lib.hid ((HS2.out.step hb)); have HB3 := Lib.hid (HB2.out.trans (hb.mono HB2.out.size)); clear hb; obtain ⟨hx0, hx1, hx2, hx3, hxf⟩ := box4_in w3 w.heap.size _ _ _ _ _ (HS3.out.box (w.heap.size, bx vk vn vs vp vl vc) (by simp)); clear hxf)
    | (go_at_call 10; (with_reducible refine (right_any t w3 0 w3.heap.size _ (HS3.out.val (t, .agg #[.int .i64 vk, .int .i64 vn, .string vs, .slice vp vl vc]) (by simp)) (Nat.le_refl _)).mono ?_); rintro e w4 ⟨rfl, hb⟩; rw [HCC.out]; have HS4 := Lib.hid ((HS3.out.step hb)); have HB4 := Lib.hid (HB3.out.trans (hb.mono HB3.out.size)); clear hb hx0 hx1 hx2 hx3)
    | (go_at_call 29; (with_reducible refine (C_num.out _).mono ?_); rintro e w9 ⟨rfl, hw⟩; subst hw)
    | (go_at_call_of 14 (Value.int .i64 1); (with_reducible refine (C_c1.out _ _ _ _ HS4.out (by simp)).mono ?_); rintro e w5 ⟨p5, cap5, rfl, hc5, h, hb⟩; dsimp only at h hc5 ⊢; have HS5 := Lib.hid ((HS4.out.step hb).addL h); have HB5 := Lib.hid (HB4.out.trans (hb.mono HB4.out.size)); clear hb h)
    | (go_at_call_of 14 (Value.int .i64 (l.length : Int)); (with_reducible refine (C_c2.out _ _ _ _ HS5.out (by simp)).mono ?_); rintro e w6 ⟨p6, cap6, rfl, hc6, h, hb⟩; dsimp only at h hc6 ⊢; have HS6 := Lib.hid ((HS5.out.step hb).addL h); have HB6 := Lib.hid (HB5.out.trans (hb.mono HB5.out.size)); clear hb h)
    | (go_at_call 22; (with_reducible refine (C_cat.out _ _ _ _ _ _ _ _ HS6.out (by simp) (by simp) hc5 hc6).mono ?_); rintro e w7 ⟨p7, cap7, rfl, hc7, h, hb⟩; dsimp only at h hc7 ⊢; have HS7 := Lib.hid ((HS6.out.step hb).addL h); have HB7 := Lib.hid (HB6.out.trans (hb.mono HB6.out.size)); clear hb h)
    | (go_at_call_of 25 (Value.slice p7 l.length cap7); (with_reducible refine (same_lists l _ _ _ _ _ (HS7.out.all (l, p7) (by simp)) (HS7.out.all (l, pl) (by simp)) (by omega)).mono ?_); rintro e w8 ⟨rfl, hb⟩; have HS8 := Lib.hid ((HS7.out.step hb)); have HB8 := Lib.hid (HB7.out.trans (hb.mono HB7.out.size)); clear hb; obtain ⟨hx0, hx1, hx2, hx3, hxf⟩ := box4_in w8 w.heap.size _ _ _ _ _ (HS8.out.box (w.heap.size, bx vk vn vs vp vl vc) (by simp)); clear hxf)
    | (go_at_call 18; (with_reducible refine (C_insm.out _ _ _ _ HS8.out (by simp) (by simp)).mono ?_); rintro e w9 ⟨p9, cap9, rfl, hc9, h, hb⟩; dsimp only at h hc9 ⊢; have HS9 := Lib.hid ((HS8.out.step hb).addL h); have HB9 := Lib.hid (HB8.out.trans (hb.mono HB8.out.size)); clear hb h hx0 hx1 hx2 hx3)
    | (go_at_call 12; (with_reducible refine (C_get.out _ _ _ _ _ _ HS9.out (by simp)).mono ?_); rintro e w10 ⟨ak, an, az, ap, al, ac, rfl, h, hb⟩; dsimp only at h ⊢; have HS10 := Lib.hid (((HS9.out.step hb).addV h).alloc #[.int .i64 ak, .int .i64 an, .string az, .slice ap al ac] 24); have HB10 := Lib.hid ((HB9.out.trans (hb.mono HB9.out.size)).alloc (Nat.le_trans HB9.out.size hb.size) (.cells #[.int .i64 ak, .int .i64 an, .string az, .slice ap al ac] 24)); clear hb h)
    | (go_at_call 20; (with_reducible refine (C_del.out _ _ _ _ _ _ HS10.out (by simp) hc9).mono ?_); rintro e w11 ⟨p11, cap11, rfl, hc11, h, hb⟩; dsimp only at h hc11 ⊢; have HS11 := Lib.hid ((HS10.out.step hb).addL h); have HB11 := Lib.hid (HB10.out.trans (hb.mono HB10.out.size)); clear hb h; obtain ⟨hy0, hy1, hy2, hy3, hyf⟩ := box4_in w11 w10.heap.size _ _ _ _ _ (HS11.out.box (w10.heap.size, bx ak an az ap al ac) (by simp)); obtain ⟨hx0, hx1, hx2, hx3, hxf⟩ := box4_in w11 w.heap.size _ _ _ _ _ (HS11.out.box (w.heap.size, bx vk vn vs vp vl vc) (by simp)); clear hxf; clear hyf)
    | (go_at_call 35; (with_reducible refine (same_any t t _ 0 _ 0 _ _ _ (HS11.out.val (t, .agg #[.int .i64 ak, .int .i64 an, .string az, .slice ap al ac]) (by simp)) (Nat.le_refl _) (HS11.out.val (t, .agg #[.int .i64 vk, .int .i64 vn, .string vs, .slice vp vl vc]) (by simp)) (Nat.le_refl _)).mono ?_); rintro e w12 ⟨rfl, hb⟩; rw [HSB.out]; have HS12 := Lib.hid ((HS11.out.step hb)); have HB12 := Lib.hid (HB11.out.trans (hb.mono HB11.out.size)); clear hb hx0 hx1 hx2 hx3 hy0 hy1 hy2 hy3)
    | (go_at_call_of 25 (Value.slice p11 l.length cap11); (with_reducible refine (same_lists l _ _ _ _ _ (HS12.out.all (l, p11) (by simp)) (HS12.out.all (l, pl) (by simp)) (by omega)).mono ?_); rintro e w13 ⟨rfl, hb⟩; have HB13 := Lib.hid (HB12.out.trans (hb.mono HB12.out.size)); clear hb))
  go_ret
  exact ⟨rfl, HB13.out⟩
end Go.Proofs.Ytjipchloebbldaa