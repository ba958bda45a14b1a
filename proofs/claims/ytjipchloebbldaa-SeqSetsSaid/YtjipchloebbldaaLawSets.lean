/- SeqSets: with a value, without it, sorted, turned. -/
import Derived.Test.YtjipchloebbldaaLawSeqSays
import Derived.Test.YtjipchloebbldaaSetsT
import Derived.Test.YtjipchloebbldaaSortS
namespace Go.Proofs.Ytjipchloebbldaa
open Go.RowKit
set_option maxRecDepth 100000

theorem with_facts {l : List T} (hl : vfit l = 0) (t : T) {LA : List T} {c : Int} (h : withS vfit l t = (LA, c)) : (c = 0 → 0 < findS LA t ∧ (0 < findS l t → (LA.length : Int) = l.length) ∧ (LA.length : Int) - l.length ≤ 1) ∧ LA.length ≤ l.length + 1 := by
  unfold withS at h
  by_cases hf : 0 < findS l t
  · rw [if_pos hf, hl] at h
    unfold madeS at h
    rw [if_pos rfl, Prod.mk.injEq] at h
    obtain ⟨rfl, rfl⟩ := h
    exact ⟨fun _ => ⟨hf, fun _ => rfl, by omega⟩, by omega⟩
  · rw [if_neg hf] at h
    unfold catS madeS at h
    by_cases hc : vfit (l ++ [t]) = 0
    · rw [if_pos hc, Prod.mk.injEq] at h
      obtain ⟨rfl, rfl⟩ := h
      exact ⟨fun _ => ⟨find_app l t, fun h => absurd h hf, by simp; omega⟩, by simp⟩
    · rw [if_neg hc, Prod.mk.injEq] at h
      obtain ⟨rfl, rfl⟩ := h
      exact ⟨fun h => absurd h hc, by simp⟩

set_option maxHeartbeats 4000000 in
theorem sets_main (l : List T) (t : T) (w : World) (pl : Option Addr) (cl : Nat) (vk vn : Int) (vs : ByteArray) (vp : Option Addr) (vl vc : Nat) (hl : RepAll w 0 w.heap.size l pl) (hlc : l.length ≤ cl) (hcl : l.length * 56 ≤ 140737488355328)
    (hv : Rep w 0 w.heap.size t (.agg #[.int .i64 vk, .int .i64 vn, .string vs, .slice vp vl vc])) (hF : fewRight l 40 = true) (hA : rightL l = true) (hC : rightB t = true) :
    Calls Try.prog 5 #[.slice pl l.length cl, .agg #[.int .i64 vk, .int .i64 vn, .string vs, .slice vp vl vc]] w fun e w' => e = .returned (.bool true) ∧ Below w.heap.size w w' := by
  obtain ⟨hal, hvl, hsl, hnl⟩ := rightL_facts hA
  have hst := (okR.full hC).2
  have hlr : ∀ x ∈ l, rightB x = true := by simpa [allRight] using hal
  obtain ⟨LA, cA, hRA⟩ : ∃ L c, withS vfit l t = (L, c) := ⟨_, _, rfl⟩
  obtain ⟨hwf, hLA⟩ := with_facts hvl t hRA
  obtain ⟨LB, hLB⟩ : ∃ L, L = withoutS l t := ⟨_, rfl⟩
  have hlb := without_len l t
  rw [← hLB] at hlb
  obtain ⟨F2, hF2⟩ : ∃ F, F = findS l t := ⟨_, rfl⟩
  obtain ⟨FA, hFA⟩ : ∃ F, F = findS LA t := ⟨_, rfl⟩
  rw [← hF2] at hlb
  rw [← hF2, ← hFA] at hwf
  have C_with : Hid (∀ (W : World) (L : List (List T × Option Addr)) (B : List (Nat × Obj)) (Vs : List (T × Value)), St W L B Vs → (l, pl) ∈ L → (t, .agg #[.int .i64 vk, .int .i64 vn, .string vs, .slice vp vl vc]) ∈ Vs → Calls Try.prog 30 #[.slice pl l.length cl, .agg #[.int .i64 vk, .int .i64 vn, .string vs, .slice vp vl vc]] W (Ans 0 W (LA, cA))) := fun W L B Vs h HM1 HM2 => by
    rw [← hRA]; exact with_any l pl cl t _ W (h.all (l, pl) HM1) hlc (h.val (t, _) HM2) (by omega)
  have C_findA : Hid (∀ (W : World) (L : List (List T × Option Addr)) (B : List (Nat × Obj)) (Vs : List (T × Value)) (p : Option Addr) (c : Nat), St W L B Vs → (LA, p) ∈ L → (t, .agg #[.int .i64 vk, .int .i64 vn, .string vs, .slice vp vl vc]) ∈ Vs → Calls Try.prog 31 #[.slice p LA.length c, .agg #[.int .i64 vk, .int .i64 vn, .string vs, .slice vp vl vc]] W fun e w' => e = .returned (.int .i64 FA) ∧ Below W.heap.size W w') := fun W L B Vs p c h HM1 HM2 => by
    rw [hFA]; exact find_any LA p c t W 0 _ vk vn vs vp vl vc (h.all (LA, p) HM1) (h.val (t, _) HM2) (Nat.le_refl _) (by omega)
  have C_find : Hid (∀ (W : World) (L : List (List T × Option Addr)) (B : List (Nat × Obj)) (Vs : List (T × Value)), St W L B Vs → (l, pl) ∈ L → (t, .agg #[.int .i64 vk, .int .i64 vn, .string vs, .slice vp vl vc]) ∈ Vs → Calls Try.prog 31 #[.slice pl l.length cl, .agg #[.int .i64 vk, .int .i64 vn, .string vs, .slice vp vl vc]] W fun e w' => e = .returned (.int .i64 F2) ∧ Below W.heap.size W w') := fun W L B Vs h HM1 HM2 => by
    rw [hF2]; exact find_any l pl cl t W 0 _ vk vn vs vp vl vc (h.all (l, pl) HM1) (h.val (t, _) HM2) (Nat.le_refl _) (by omega)
  have C_wo : Hid (∀ (W : World) (L : List (List T × Option Addr)) (B : List (Nat × Obj)) (Vs : List (T × Value)), St W L B Vs → (l, pl) ∈ L → (t, .agg #[.int .i64 vk, .int .i64 vn, .string vs, .slice vp vl vc]) ∈ Vs → Calls Try.prog 32 #[.slice pl l.length cl, .agg #[.int .i64 vk, .int .i64 vn, .string vs, .slice vp vl vc]] W (Glued W.heap.size W LB)) := fun W L B Vs h HM1 HM2 => by
    rw [hLB]; exact without_any l pl cl t _ W (h.all (l, pl) HM1) hlc (h.val (t, _) HM2) (by omega)
  have C_sort : Hid (∀ (W : World) (L : List (List T × Option Addr)) (B : List (Nat × Obj)) (Vs : List (T × Value)), St W L B Vs → (l, pl) ∈ L → Calls Try.prog 33 #[.slice pl l.length cl] W fun e w' => ∃ (s : List T) (q : Option Addr) (c : Nat), s.Perm l ∧ Asc s ∧ e = .returned (.slice q l.length c) ∧ l.length ≤ c ∧ RepAll w' 0 w'.heap.size s q ∧ Below W.heap.size W w') := fun W L B Vs h HM1 => by
    refine (sort_any l pl cl W 0 W.heap.size (ord_swo (fun x => l.getD x zeroT)) (h.all (l, pl) HM1) hlc (by omega) (Nat.le_refl _)).mono ?_
    rintro e w' ⟨s, h1, h2, q, c, rfl, h3, h4, h5⟩
    rw [h1.length_eq] at h3 ⊢
    exact ⟨s, q, c, h1, h2, rfl, h3, h4.keep (Nat.zero_le _) (Nat.le_refl _) (fun _ _ _ => rfl), h5⟩
  have HS0 := Lib.hid ((St.mk (W := w) (L := [(l, pl)]) (B := []) (V := [(t, .agg #[.int .i64 vk, .int .i64 vn, .string vs, .slice vp vl vc])]) (fun x hx => by simp at hx; subst hx; exact hl) (fun x hx => by simp at hx) (fun x hx => by simp at hx; subst hx; exact hv)).alloc #[.int .i64 vk, .int .i64 vn, .string vs, .slice vp vl vc] 24)
  have HB0 := Lib.hid ((Below.refl w.heap.size w).alloc (Nat.le_refl _) (.cells #[.int .i64 vk, .int .i64 vn, .string vs, .slice vp vl vc] 24))
  have HF := Lib.hid hF
  have HA := Lib.hid hA
  have HCC := Lib.hid hC
  have HLR := Lib.hid hlr
  have HWF := Lib.hid hwf
  have hl6 : l.length ≤ 4095 := by omega
  obtain ⟨BB, hb1, hb2⟩ : ∃ B : Bool, ((LB.length : Int) == (l.length : Int)) = B ∧ (F2 == 0) = B := ⟨_, hlb, rfl⟩
  have HBB := Lib.hid (And.intro hb1 hb2)
  clear hl hv hF hA hC hal hvl hsl hst hnl hlr hRA hwf hLA hLB hlb hF2 hFA hb1 hb2
  go_enter Try.func5, Try.ntmps5
  go_upto_region 7 with (first
    | (go_at_call 8; (with_reducible refine (first4_any _).mono ?_); rintro e w1 ⟨rfl, hb⟩; have HS1 := Lib.hid ((HS0.out.step hb)); have HB1 := Lib.hid (HB0.out.trans (hb.mono HB0.out.size)); clear hb)
    | (go_at_call 26; (with_reducible refine (wvalues_any l w1 0 w1.heap.size pl cl 40 (HS1.out.all (l, pl) (by simp)) (Nat.le_refl _) (by omega)).mono ?_); rintro e w2 ⟨rfl, hb⟩; rw [HF.out]; have HS2 := Lib.hid ((HS1.out.step hb)); have HB2 := Lib.hid (HB1.out.trans (hb.mono HB1.out.size)); clear hb)
    | (go_at_call 9; (with_reducible refine (rightL_any l w2 0 w2.heap.size pl cl (HS2.out.all (l, pl) (by simp)) (Nat.le_refl _) hlc hcl).mono ?_); rintro e w3 ⟨rfl, hb⟩; rw [HA.out]; have HS3 := Lib.hid ((HS2.out.step hb)); have HB3 := Lib.hid (HB2.out.trans (hb.mono HB2.out.size)); clear hb; obtain ⟨hx0, hx1, hx2, hx3, hxf⟩ := box4_in w3 w.heap.size _ _ _ _ _ (HS3.out.box (w.heap.size, bx vk vn vs vp vl vc) (by simp)); clear hxf)
    | (go_at_call 10; (with_reducible refine (right_any t w3 0 w3.heap.size _ (HS3.out.val (t, .agg #[.int .i64 vk, .int .i64 vn, .string vs, .slice vp vl vc]) (by simp)) (Nat.le_refl _)).mono ?_); rintro e w4 ⟨rfl, hb⟩; rw [HCC.out]; have HS4 := Lib.hid ((HS3.out.step hb)); have HB4 := Lib.hid (HB3.out.trans (hb.mono HB3.out.size)); clear hb hx0 hx1 hx2 hx3; obtain ⟨hx0, hx1, hx2, hx3, hxf⟩ := box4_in w4 w.heap.size _ _ _ _ _ (HS4.out.box (w.heap.size, bx vk vn vs vp vl vc) (by simp)); clear hxf)
    | (go_at_call 30; (with_reducible refine (C_with.out _ _ _ _ HS4.out (by simp) (by simp)).mono ?_); rintro e w5 ⟨p5, cap5, rfl, hc5, h, hb⟩; dsimp only at h hc5 ⊢; have HS5 := Lib.hid ((HS4.out.step hb).addL h); have HB5 := Lib.hid (HB4.out.trans (hb.mono HB4.out.size)); clear hb h hx0 hx1 hx2 hx3; obtain ⟨hx0, hx1, hx2, hx3, hxf⟩ := box4_in w5 w.heap.size _ _ _ _ _ (HS5.out.box (w.heap.size, bx vk vn vs vp vl vc) (by simp)); clear hxf))
  go_cut [69] (fun c wx => c = .bool false ∧ Hid (Below w5.heap.size w5 wx))
  case first =>
    by_cases c1 : cA = 0
    · obtain ⟨f1, f2, f3⟩ := HWF.out c1
      have g0 : (cA == 0) = true := by simp [c1]
      have g1 : (FA == 0) = false := by simp; omega
      clear c1
      have g2 : ¬ (1 < (LA.length : Int) - l.length) := by omega
      by_cases c2 : 0 < F2
      · have g3 : ((LA.length : Int) != (l.length : Int)) = false := by simp; have := f2 c2; omega
        clear f1 f2
        go_wp2_with (first
          | (go_at_call_of 31 (Value.slice p5 LA.length cap5); (with_reducible refine (C_findA.out _ _ _ _ _ _ HS5.out (by simp) (by simp)).mono ?_); rintro e w6 ⟨rfl, hb⟩; have HS6 := Lib.hid (HS5.out.step hb); have HB6 := Lib.hid hb; clear hb hx0 hx1 hx2 hx3; obtain ⟨hx0, hx1, hx2, hx3, hxf⟩ := box4_in w6 w.heap.size _ _ _ _ _ (HS6.out.box (w.heap.size, bx vk vn vs vp vl vc) (by simp)); clear hxf)
          | (go_at_call_of 31 (Value.slice pl l.length cl); (with_reducible refine (C_find.out _ _ _ _ HS6.out (by simp) (by simp)).mono ?_); rintro e w7 ⟨rfl, hb⟩; have HB7 := Lib.hid (HB6.out.trans (hb.mono HB6.out.size)); clear hb hx0 hx1 hx2 hx3))
        go_meet
        exact ⟨by (first | (simp; done) | (simp; omega)), HB7⟩
      · clear f1 f2 f3
        go_wp2_with (first
          | (go_at_call_of 31 (Value.slice p5 LA.length cap5); (with_reducible refine (C_findA.out _ _ _ _ _ _ HS5.out (by simp) (by simp)).mono ?_); rintro e w6 ⟨rfl, hb⟩; have HS6 := Lib.hid (HS5.out.step hb); have HB6 := Lib.hid hb; clear hb hx0 hx1 hx2 hx3; obtain ⟨hx0, hx1, hx2, hx3, hxf⟩ := box4_in w6 w.heap.size _ _ _ _ _ (HS6.out.box (w.heap.size, bx vk vn vs vp vl vc) (by simp)); clear hxf)
          | (go_at_call_of 31 (Value.slice pl l.length cl); (with_reducible refine (C_find.out _ _ _ _ HS6.out (by simp) (by simp)).mono ?_); rintro e w7 ⟨rfl, hb⟩; have HB7 := Lib.hid (HB6.out.trans (hb.mono HB6.out.size)); clear hb hx0 hx1 hx2 hx3))
        go_meet
        exact ⟨by (first | (simp; done) | (simp; omega)), HB7⟩
    · have g0 : (cA == 0) = false := by simp; omega
      go_wp2
      go_meet
      exact ⟨by simp, Below.refl _ _⟩
  case rest =>
    obtain ⟨rfl, HBc⟩ := hcut
    have HS7 := Lib.hid (HS5.out.step HBc.out)
    have HB7 := Lib.hid (HB5.out.trans (HBc.out.mono HB5.out.size))
    clear hx0 hx1 hx2 hx3
    obtain ⟨hx0, hx1, hx2, hx3, hxf⟩ := box4_in wc w.heap.size _ _ _ _ _ (HS7.out.box (w.heap.size, bx vk vn vs vp vl vc) (by simp)); clear hxf
    obtain ⟨b1, b2⟩ := HBB.out
    go_upto_region 13 with (first
      | (go_at_call 32; (with_reducible refine (C_wo.out _ _ _ _ HS7.out (by simp) (by simp)).mono ?_); rintro e w8 ⟨p8, cap8, rfl, _, h, hb⟩; clear h; have HS8 := Lib.hid (HS7.out.step hb); have HB8 := Lib.hid (HB7.out.trans (hb.mono HB7.out.size)); clear hb hx0 hx1 hx2 hx3; obtain ⟨hx0, hx1, hx2, hx3, hxf⟩ := box4_in w8 w.heap.size _ _ _ _ _ (HS8.out.box (w.heap.size, bx vk vn vs vp vl vc) (by simp)); clear hxf)
      | (go_at_call 31; (with_reducible refine (C_find.out _ _ _ _ HS8.out (by simp) (by simp)).mono ?_); rintro e w9 ⟨rfl, hb⟩; have HS9 := Lib.hid (HS8.out.step hb); have HB9 := Lib.hid (HB8.out.trans (hb.mono HB8.out.size)); clear hb hx0 hx1 hx2 hx3)
      | (go_at_call 33; (with_reducible refine (C_sort.out _ _ _ _ HS9.out (by simp)).mono ?_); rintro e w10 ⟨s, ps, cs, hper, hasc, rfl, hcs, h, hb⟩; have HS10 := Lib.hid ((HS9.out.step hb).addL h); have HB10 := Lib.hid (HB9.out.trans (hb.mono HB9.out.size)); clear hb h; have HPE := Lib.hid hper; have HAS := Lib.hid hasc; clear hper hasc))
    go_wp2
    go_loopw [10] (fun vi wr => ∃ (i : Nat), vi = .int .i64 i ∧ 1 ≤ i ∧ Hid (Below w10.heap.size w10 wr)) (fun vi _ => l.length - (intOf vi).toNat)
    case atStart => exact ⟨1, rfl, Nat.le_refl _, Below.refl _ _⟩
    case round =>
      obtain ⟨i, rfl, hi1, HBr⟩ := hrel
      by_cases hil : i < l.length
      · have HSr := Lib.hid (HS10.out.step HBr.out)
        obtain ⟨j, hj, hji⟩ : ∃ j : Nat, (i : Int) - 1 = (j : Int) ∧ j = i - 1 := ⟨i - 1, by omega, rfl⟩
        have hsi : i < s.length := by have := HPE.out.length_eq; omega
        have hsj : j < s.length := by omega
        have hjl : j < l.length := by omega
        have hj0 : (0 : Int) ≤ (j : Int) := by omega
        have hji2 : (j : Int) < (l.length : Int) := by omega
        have hjw : IntKind.i64.wrap ((i : Int) - 1) = (j : Int) := by rw [IntKind.wrap_i64]; omega
        have hjw2 : IntKind.i64.wrap (j : Int) = (j : Int) := by rw [IntKind.wrap_i64]; omega
        have hds := asc_at HAS.out i hi1 hsi
        have hjs : s[i - 1]'(by omega) = s[j] := by congr 1; exact hji.symm
        rw [hjs] at hds
        obtain ⟨b, off, xk, xn, xs, xl, xq, xc, hp, _, hbh, hxe, x0, x1, x2, x3, hxr⟩ := (HSr.out.all (s, ps) (by simp)).item i hsi
        obtain ⟨b2, off2, yk, yn, ys, yl, yq, yc, hp2, _, _, hye, y0, y1, y2, y3, hyr⟩ := (HSr.out.all (s, ps) (by simp)).item j hsj
        dsimp only at hp hp2
        subst hp
        simp only [Option.some.injEq, Addr.mk.injEq, and_true] at hp2
        obtain ⟨rfl, rfl⟩ := hp2
        have HL := Lib.hid (less_any s[i] s[j] wr.drew 0 wr.heap.size 0 wr.heap.size _ _ hxr.drew (Nat.le_refl _) hyr.drew (Nat.le_refl _))
        rw [hds] at HL
        have HW := Lib.hid ((Below.refl wr.heap.size wr).drew)
        have HC8 : Hid (∀ w', Below wr.heap.size wr w' → w'.cell? ⟨b, off + i * 4, none⟩ = some (.int .i64 xk) ∧ w'.cell? ⟨b, off + i * 4 + 1, none⟩ = some (.int .i64 xn) ∧ w'.cell? ⟨b, off + i * 4 + 2, none⟩ = some (.string xs) ∧ w'.cell? ⟨b, off + i * 4 + 3, none⟩ = some (.slice xq xl.length xc) ∧ w'.cell? ⟨b, off + j * 4, none⟩ = some (.int .i64 yk) ∧ w'.cell? ⟨b, off + j * 4 + 1, none⟩ = some (.int .i64 yn) ∧ w'.cell? ⟨b, off + j * 4 + 2, none⟩ = some (.string ys) ∧ w'.cell? ⟨b, off + j * 4 + 3, none⟩ = some (.slice yq yl.length yc)) := fun w' h => by
          have c : ∀ p : Addr, p.block < wr.heap.size → w'.cell? p = wr.cell? p := fun p hp => h.cell hp
          exact ⟨(c _ hbh).trans x0, (c _ hbh).trans x1, (c _ hbh).trans x2, (c _ hbh).trans x3, (c _ hbh).trans y0, (c _ hbh).trans y1, (c _ hbh).trans y2, (c _ hbh).trans y3⟩
        clear hxr hyr hds hjs hxe hye hji
        go_wp2
        go_region_held3 (fun w' => w'.cell? ⟨b, off + i * 4, none⟩ = some (.int .i64 xk) ∧ w'.cell? ⟨b, off + i * 4 + 1, none⟩ = some (.int .i64 xn) ∧ w'.cell? ⟨b, off + i * 4 + 2, none⟩ = some (.string xs) ∧ w'.cell? ⟨b, off + i * 4 + 3, none⟩ = some (.slice xq xl.length xc) ∧ w'.cell? ⟨b, off + j * 4, none⟩ = some (.int .i64 yk) ∧ w'.cell? ⟨b, off + j * 4 + 1, none⟩ = some (.int .i64 yn) ∧ w'.cell? ⟨b, off + j * 4 + 2, none⟩ = some (.string ys) ∧ w'.cell? ⟨b, off + j * 4 + 3, none⟩ = some (.slice yq yl.length yc)) (first | exact HC8.out _ HW.out | exact HC8.out _ (HW.out.trans hb2) | exact HC8.out _ (Below.refl _ _) | (go_show; fail)) (first | (go_at_call 34; (with_reducible refine HL.out.mono ?_); rintro e w2 ⟨rfl, hb2⟩))
        go_wp2
        go_roundw
        case rel => exact ⟨i + 1, by go_num, by omega, HBr.out.trans ((HW.out.trans hb2).mono HBr.out.size)⟩
        case measure => simp [intOf]; omega
      · have HSr := Lib.hid (HS10.out.step HBr.out)
        have HBR := Lib.hid (HB10.out.trans (HBr.out.mono HB10.out.size))
        go_wp2
        go_loopw [11] (fun vi wr => ∃ (i : Nat), vi = .int .i64 i ∧ Hid (Below w10.heap.size w10 wr)) (fun vi _ => l.length - (intOf vi).toNat)
        case atStart => exact ⟨0, rfl, HBr⟩
        case round =>
          obtain ⟨i2, rfl, HBi⟩ := hrel
          by_cases hi2 : i2 < l.length
          · obtain ⟨x, hx⟩ : ∃ x, x = l[i2] := ⟨_, rfl⟩
            have HX := Lib.hid hx; clear hx
            go_wp2
            go_loopw [12, 13] (fun vn vk wr => ∃ (N : Int) (k : Nat), vn = .int .i64 N ∧ vk = .int .i64 k ∧ k ≤ l.length ∧ Hid (N = cnt l x k - cnt s x k) ∧ -(k : Int) ≤ N ∧ N ≤ k ∧ Hid (Below w10.heap.size w10 wr)) (fun _ vk _ => l.length - (intOf vk).toNat)
            case atStart => exact ⟨0, 0, rfl, rfl, Nat.zero_le _, (by show _ = _; rw [cnt_zero, cnt_zero]; rfl), by omega, by omega, HBi⟩
            case round =>
              obtain ⟨N, k, rfl, rfl, hkl, HN, hN1, hN2, HBk⟩ := hrel
              by_cases hk : k < l.length
              · have HSk := Lib.hid (HS10.out.step HBk.out)
                have hks : k < s.length := by have := HPE.out.length_eq; omega
                obtain ⟨zb, zo, zk, zn, zs, zl, zq, zc, hpa, _, zbh, ze, z0, z1, z2, z3, zr⟩ := (HSk.out.all (l, pl) (by simp)).item k hk
                obtain ⟨xb, xo, xk, xn, xs, xl, xq, xc, hpx, _, xbh, xe, x0, x1, x2, x3, xr⟩ := (HSk.out.all (l, pl) (by simp)).item i2 hi2
                obtain ⟨sb, so, sk, sn, ss, sl, sq, sc, hps, _, sbh, se, s0, s1, s2, s3, sr⟩ := (HSk.out.all (s, ps) (by simp)).item k hks
                dsimp only at hpa hpx hps
                subst hpa
                subst hps
                simp only [Option.some.injEq, Addr.mk.injEq, and_true] at hpx
                obtain ⟨rfl, rfl⟩ := hpx
                rw [← HX.out] at xr
                have HXR := Lib.hid xr
                have HSR := Lib.hid sr
                have HT1 := Lib.hid (cnt_step l x k hk)
                have HT2 := Lib.hid (cnt_step s x k hks)
                have HL1 := Lib.hid (same_any l[k] x wr.drew 0 wr.heap.size 0 wr.heap.size _ _ zr.drew (Nat.le_refl _) xr.drew (Nat.le_refl _))
                have HL2 : Hid (∀ W, Below wr.heap.size wr W → Calls Try.prog 35 #[.agg #[.int .i64 sk, .int .i64 sn, .string ss, .slice sq sl.length sc], .agg #[.int .i64 xk, .int .i64 xn, .string xs, .slice xq xl.length xc]] W fun e w' => e = .returned (.bool (sameB s[k] x)) ∧ Below W.heap.size W w') := fun W h =>
                  same_any s[k] x W 0 wr.heap.size 0 wr.heap.size _ _ (HSR.out.below h (Nat.le_refl _)) h.size (HXR.out.below h (Nat.le_refl _)) h.size
                have HW := Lib.hid ((Below.refl wr.heap.size wr).drew)
                have HC1 : Hid (∀ w', Below wr.heap.size wr w' → w'.cell? ⟨zb, zo + k * 4, none⟩ = some (.int .i64 zk) ∧ w'.cell? ⟨zb, zo + k * 4 + 1, none⟩ = some (.int .i64 zn) ∧ w'.cell? ⟨zb, zo + k * 4 + 2, none⟩ = some (.string zs) ∧ w'.cell? ⟨zb, zo + k * 4 + 3, none⟩ = some (.slice zq zl.length zc) ∧ w'.cell? ⟨zb, zo + i2 * 4, none⟩ = some (.int .i64 xk) ∧ w'.cell? ⟨zb, zo + i2 * 4 + 1, none⟩ = some (.int .i64 xn) ∧ w'.cell? ⟨zb, zo + i2 * 4 + 2, none⟩ = some (.string xs) ∧ w'.cell? ⟨zb, zo + i2 * 4 + 3, none⟩ = some (.slice xq xl.length xc)) := fun w' h => by
                  have c : ∀ p : Addr, p.block < wr.heap.size → w'.cell? p = wr.cell? p := fun p hp => h.cell hp
                  exact ⟨(c _ zbh).trans z0, (c _ zbh).trans z1, (c _ zbh).trans z2, (c _ zbh).trans z3, (c _ zbh).trans x0, (c _ zbh).trans x1, (c _ zbh).trans x2, (c _ zbh).trans x3⟩
                have HC2 : Hid (∀ w', Below wr.heap.size wr w' → w'.cell? ⟨sb, so + k * 4, none⟩ = some (.int .i64 sk) ∧ w'.cell? ⟨sb, so + k * 4 + 1, none⟩ = some (.int .i64 sn) ∧ w'.cell? ⟨sb, so + k * 4 + 2, none⟩ = some (.string ss) ∧ w'.cell? ⟨sb, so + k * 4 + 3, none⟩ = some (.slice sq sl.length sc) ∧ w'.cell? ⟨zb, zo + i2 * 4, none⟩ = some (.int .i64 xk) ∧ w'.cell? ⟨zb, zo + i2 * 4 + 1, none⟩ = some (.int .i64 xn) ∧ w'.cell? ⟨zb, zo + i2 * 4 + 2, none⟩ = some (.string xs) ∧ w'.cell? ⟨zb, zo + i2 * 4 + 3, none⟩ = some (.slice xq xl.length xc)) := fun w' h => by
                  have c : ∀ p : Addr, p.block < wr.heap.size → w'.cell? p = wr.cell? p := fun p hp => h.cell hp
                  exact ⟨(c _ sbh).trans s0, (c _ sbh).trans s1, (c _ sbh).trans s2, (c _ sbh).trans s3, (c _ zbh).trans x0, (c _ zbh).trans x1, (c _ zbh).trans x2, (c _ zbh).trans x3⟩
                clear zr xr sr ze xe se s0 s1 s2 s3
                cases hB1 : sameB l[k] x <;> cases hB2 : sameB s[k] x
                · rw [hB1] at HL1 HT1
                  rw [hB2] at HL2 HT2
                  clear hB1 hB2
                  go_wp2
                  go_region_held3 (fun w' => w'.cell? ⟨zb, zo + k * 4, none⟩ = some (.int .i64 zk) ∧ w'.cell? ⟨zb, zo + k * 4 + 1, none⟩ = some (.int .i64 zn) ∧ w'.cell? ⟨zb, zo + k * 4 + 2, none⟩ = some (.string zs) ∧ w'.cell? ⟨zb, zo + k * 4 + 3, none⟩ = some (.slice zq zl.length zc) ∧ w'.cell? ⟨zb, zo + i2 * 4, none⟩ = some (.int .i64 xk) ∧ w'.cell? ⟨zb, zo + i2 * 4 + 1, none⟩ = some (.int .i64 xn) ∧ w'.cell? ⟨zb, zo + i2 * 4 + 2, none⟩ = some (.string xs) ∧ w'.cell? ⟨zb, zo + i2 * 4 + 3, none⟩ = some (.slice xq xl.length xc)) (first | exact HC1.out _ HW.out | exact HC1.out _ (HW.out.trans hb2) | exact HC1.out _ (Below.refl _ _) | (go_show; fail)) (first | (go_at_call 35; (with_reducible refine HL1.out.mono ?_); rintro e w2 ⟨rfl, hb2⟩))
                  have HW2 := Lib.hid (HW.out.trans hb2)
                  have HW3 := Lib.hid HW2.out.drew
                  clear hb2 z0 z1 z2 z3
                  obtain ⟨s0, s1, s2, s3, x0, x1, x2, x3⟩ := HC2.out _ HW2.out
                  go_wp2
                  go_region_held3 (fun w' => w'.cell? ⟨sb, so + k * 4, none⟩ = some (.int .i64 sk) ∧ w'.cell? ⟨sb, so + k * 4 + 1, none⟩ = some (.int .i64 sn) ∧ w'.cell? ⟨sb, so + k * 4 + 2, none⟩ = some (.string ss) ∧ w'.cell? ⟨sb, so + k * 4 + 3, none⟩ = some (.slice sq sl.length sc) ∧ w'.cell? ⟨zb, zo + i2 * 4, none⟩ = some (.int .i64 xk) ∧ w'.cell? ⟨zb, zo + i2 * 4 + 1, none⟩ = some (.int .i64 xn) ∧ w'.cell? ⟨zb, zo + i2 * 4 + 2, none⟩ = some (.string xs) ∧ w'.cell? ⟨zb, zo + i2 * 4 + 3, none⟩ = some (.slice xq xl.length xc)) (first | exact HC2.out _ HW2.out | exact HC2.out _ HW3.out | exact HC2.out _ (HW3.out.trans (hb3.mono HW3.out.size)) | (go_show; fail)) (first | (go_at_call 35; (with_reducible refine (HL2.out _ HW3.out).mono ?_); rintro e w3 ⟨rfl, hb3⟩))
                  go_wp2
                  go_roundw
                  case rel => exact ⟨N, k + 1, by go_num, by go_num, by omega, (by show _ = _; rw [HT1.out, HT2.out, HN.out]; simp <;> omega), by omega, by omega, HBk.out.trans ((HW3.out.trans (hb3.mono HW3.out.size)).mono HBk.out.size)⟩
                  case measure => simp [intOf]; omega
                · rw [hB1] at HL1 HT1
                  rw [hB2] at HL2 HT2
                  clear hB1 hB2
                  go_wp2
                  go_region_held3 (fun w' => w'.cell? ⟨zb, zo + k * 4, none⟩ = some (.int .i64 zk) ∧ w'.cell? ⟨zb, zo + k * 4 + 1, none⟩ = some (.int .i64 zn) ∧ w'.cell? ⟨zb, zo + k * 4 + 2, none⟩ = some (.string zs) ∧ w'.cell? ⟨zb, zo + k * 4 + 3, none⟩ = some (.slice zq zl.length zc) ∧ w'.cell? ⟨zb, zo + i2 * 4, none⟩ = some (.int .i64 xk) ∧ w'.cell? ⟨zb, zo + i2 * 4 + 1, none⟩ = some (.int .i64 xn) ∧ w'.cell? ⟨zb, zo + i2 * 4 + 2, none⟩ = some (.string xs) ∧ w'.cell? ⟨zb, zo + i2 * 4 + 3, none⟩ = some (.slice xq xl.length xc)) (first | exact HC1.out _ HW.out | exact HC1.out _ (HW.out.trans hb2) | exact HC1.out _ (Below.refl _ _) | (go_show; fail)) (first | (go_at_call 35; (with_reducible refine HL1.out.mono ?_); rintro e w2 ⟨rfl, hb2⟩))
                  have HW2 := Lib.hid (HW.out.trans hb2)
                  have HW3 := Lib.hid HW2.out.drew
                  clear hb2 z0 z1 z2 z3
                  obtain ⟨s0, s1, s2, s3, x0, x1, x2, x3⟩ := HC2.out _ HW2.out
                  go_wp2
                  go_region_held3 (fun w' => w'.cell? ⟨sb, so + k * 4, none⟩ = some (.int .i64 sk) ∧ w'.cell? ⟨sb, so + k * 4 + 1, none⟩ = some (.int .i64 sn) ∧ w'.cell? ⟨sb, so + k * 4 + 2, none⟩ = some (.string ss) ∧ w'.cell? ⟨sb, so + k * 4 + 3, none⟩ = some (.slice sq sl.length sc) ∧ w'.cell? ⟨zb, zo + i2 * 4, none⟩ = some (.int .i64 xk) ∧ w'.cell? ⟨zb, zo + i2 * 4 + 1, none⟩ = some (.int .i64 xn) ∧ w'.cell? ⟨zb, zo + i2 * 4 + 2, none⟩ = some (.string xs) ∧ w'.cell? ⟨zb, zo + i2 * 4 + 3, none⟩ = some (.slice xq xl.length xc)) (first | exact HC2.out _ HW2.out | exact HC2.out _ HW3.out | exact HC2.out _ (HW3.out.trans (hb3.mono HW3.out.size)) | (go_show; fail)) (first | (go_at_call 35; (with_reducible refine (HL2.out _ HW3.out).mono ?_); rintro e w3 ⟨rfl, hb3⟩))
                  go_wp2
                  go_roundw
                  case rel => exact ⟨N - 1, k + 1, by go_num, by go_num, by omega, (by show _ = _; rw [HT1.out, HT2.out, HN.out]; simp <;> omega), by omega, by omega, HBk.out.trans ((HW3.out.trans (hb3.mono HW3.out.size)).mono HBk.out.size)⟩
                  case measure => simp [intOf]; omega
                · rw [hB1] at HL1 HT1
                  rw [hB2] at HL2 HT2
                  clear hB1 hB2
                  go_wp2
                  go_region_held3 (fun w' => w'.cell? ⟨zb, zo + k * 4, none⟩ = some (.int .i64 zk) ∧ w'.cell? ⟨zb, zo + k * 4 + 1, none⟩ = some (.int .i64 zn) ∧ w'.cell? ⟨zb, zo + k * 4 + 2, none⟩ = some (.string zs) ∧ w'.cell? ⟨zb, zo + k * 4 + 3, none⟩ = some (.slice zq zl.length zc) ∧ w'.cell? ⟨zb, zo + i2 * 4, none⟩ = some (.int .i64 xk) ∧ w'.cell? ⟨zb, zo + i2 * 4 + 1, none⟩ = some (.int .i64 xn) ∧ w'.cell? ⟨zb, zo + i2 * 4 + 2, none⟩ = some (.string xs) ∧ w'.cell? ⟨zb, zo + i2 * 4 + 3, none⟩ = some (.slice xq xl.length xc)) (first | exact HC1.out _ HW.out | exact HC1.out _ (HW.out.trans hb2) | exact HC1.out _ (Below.refl _ _) | (go_show; fail)) (first | (go_at_call 35; (with_reducible refine HL1.out.mono ?_); rintro e w2 ⟨rfl, hb2⟩))
                  have HW2 := Lib.hid (HW.out.trans hb2)
                  have HW3 := Lib.hid HW2.out.drew
                  clear hb2 z0 z1 z2 z3
                  obtain ⟨s0, s1, s2, s3, x0, x1, x2, x3⟩ := HC2.out _ HW2.out
                  go_wp2
                  go_region_held3 (fun w' => w'.cell? ⟨sb, so + k * 4, none⟩ = some (.int .i64 sk) ∧ w'.cell? ⟨sb, so + k * 4 + 1, none⟩ = some (.int .i64 sn) ∧ w'.cell? ⟨sb, so + k * 4 + 2, none⟩ = some (.string ss) ∧ w'.cell? ⟨sb, so + k * 4 + 3, none⟩ = some (.slice sq sl.length sc) ∧ w'.cell? ⟨zb, zo + i2 * 4, none⟩ = some (.int .i64 xk) ∧ w'.cell? ⟨zb, zo + i2 * 4 + 1, none⟩ = some (.int .i64 xn) ∧ w'.cell? ⟨zb, zo + i2 * 4 + 2, none⟩ = some (.string xs) ∧ w'.cell? ⟨zb, zo + i2 * 4 + 3, none⟩ = some (.slice xq xl.length xc)) (first | exact HC2.out _ HW2.out | exact HC2.out _ HW3.out | exact HC2.out _ (HW3.out.trans (hb3.mono HW3.out.size)) | (go_show; fail)) (first | (go_at_call 35; (with_reducible refine (HL2.out _ HW3.out).mono ?_); rintro e w3 ⟨rfl, hb3⟩))
                  go_wp2
                  go_roundw
                  case rel => exact ⟨N + 1, k + 1, by go_num, by go_num, by omega, (by show _ = _; rw [HT1.out, HT2.out, HN.out]; simp <;> omega), by omega, by omega, HBk.out.trans ((HW3.out.trans (hb3.mono HW3.out.size)).mono HBk.out.size)⟩
                  case measure => simp [intOf]; omega
                · rw [hB1] at HL1 HT1
                  rw [hB2] at HL2 HT2
                  clear hB1 hB2
                  go_wp2
                  go_region_held3 (fun w' => w'.cell? ⟨zb, zo + k * 4, none⟩ = some (.int .i64 zk) ∧ w'.cell? ⟨zb, zo + k * 4 + 1, none⟩ = some (.int .i64 zn) ∧ w'.cell? ⟨zb, zo + k * 4 + 2, none⟩ = some (.string zs) ∧ w'.cell? ⟨zb, zo + k * 4 + 3, none⟩ = some (.slice zq zl.length zc) ∧ w'.cell? ⟨zb, zo + i2 * 4, none⟩ = some (.int .i64 xk) ∧ w'.cell? ⟨zb, zo + i2 * 4 + 1, none⟩ = some (.int .i64 xn) ∧ w'.cell? ⟨zb, zo + i2 * 4 + 2, none⟩ = some (.string xs) ∧ w'.cell? ⟨zb, zo + i2 * 4 + 3, none⟩ = some (.slice xq xl.length xc)) (first | exact HC1.out _ HW.out | exact HC1.out _ (HW.out.trans hb2) | exact HC1.out _ (Below.refl _ _) | (go_show; fail)) (first | (go_at_call 35; (with_reducible refine HL1.out.mono ?_); rintro e w2 ⟨rfl, hb2⟩))
                  have HW2 := Lib.hid (HW.out.trans hb2)
                  have HW3 := Lib.hid HW2.out.drew
                  clear hb2 z0 z1 z2 z3
                  obtain ⟨s0, s1, s2, s3, x0, x1, x2, x3⟩ := HC2.out _ HW2.out
                  go_wp2
                  go_region_held3 (fun w' => w'.cell? ⟨sb, so + k * 4, none⟩ = some (.int .i64 sk) ∧ w'.cell? ⟨sb, so + k * 4 + 1, none⟩ = some (.int .i64 sn) ∧ w'.cell? ⟨sb, so + k * 4 + 2, none⟩ = some (.string ss) ∧ w'.cell? ⟨sb, so + k * 4 + 3, none⟩ = some (.slice sq sl.length sc) ∧ w'.cell? ⟨zb, zo + i2 * 4, none⟩ = some (.int .i64 xk) ∧ w'.cell? ⟨zb, zo + i2 * 4 + 1, none⟩ = some (.int .i64 xn) ∧ w'.cell? ⟨zb, zo + i2 * 4 + 2, none⟩ = some (.string xs) ∧ w'.cell? ⟨zb, zo + i2 * 4 + 3, none⟩ = some (.slice xq xl.length xc)) (first | exact HC2.out _ HW2.out | exact HC2.out _ HW3.out | exact HC2.out _ (HW3.out.trans (hb3.mono HW3.out.size)) | (go_show; fail)) (first | (go_at_call 35; (with_reducible refine (HL2.out _ HW3.out).mono ?_); rintro e w3 ⟨rfl, hb3⟩))
                  go_wp2
                  go_roundw
                  case rel => exact ⟨N + 1 - 1, k + 1, by go_num, by go_num, by omega, (by show _ = _; rw [HT1.out, HT2.out, HN.out]; simp <;> omega), by omega, by omega, HBk.out.trans ((HW3.out.trans (hb3.mono HW3.out.size)).mono HBk.out.size)⟩
                  case measure => simp [intOf]; omega
              · obtain rfl : k = l.length := by omega
                have hle := HPE.out.length_eq
                have hN0 : N = 0 := by rw [HN.out, cnt_perm HPE.out x, hle]; omega
                subst hN0
                clear hle
                go_wp2
                go_roundw
                case rel => exact ⟨i2 + 1, by go_num, HBk⟩
                case measure => simp [intOf]; omega
          · have HSf := Lib.hid (HS10.out.step HBi.out)
            have HBf := Lib.hid (HB10.out.trans (HBi.out.mono HB10.out.size))
            have C_turn : Hid (∀ (W : World) (m : List T) (p : Option Addr) (c : Nat), RepAll W 0 W.heap.size m p → m.length = l.length → l.length ≤ c → Calls Try.prog 36 #[.slice p l.length c] W fun e w' => ∃ (q : Option Addr) (c' : Nat), e = .returned (.slice q l.length c') ∧ l.length ≤ c' ∧ RepAll w' 0 w'.heap.size m.reverse q ∧ Below W.heap.size W w') := fun W m p c h1 h2 h3 => by
              rw [← h2] at h3 ⊢
              refine (turn_any m p c W 0 W.heap.size h1 h3 (by omega) (Nat.le_refl _)).mono ?_
              rintro e w' ⟨q, c', rfl, h4, h5, h6⟩
              rw [List.length_reverse] at h4 ⊢
              exact ⟨q, c', rfl, h4, h5.keep (Nat.zero_le _) (Nat.le_refl _) (fun _ _ _ => rfl), h6⟩
            have C_sorts : Hid (∀ (W : World) (p : Option Addr) (c : Nat), RepAll W 0 W.heap.size s p → l.length ≤ c → Calls Try.prog 33 #[.slice p l.length c] W fun e w' => ∃ (q : Option Addr) (c' : Nat), e = .returned (.slice q l.length c') ∧ l.length ≤ c' ∧ RepAll w' 0 w'.heap.size s q ∧ Below W.heap.size W w') := fun W p c h1 h3 => by
              have hle := HPE.out.length_eq
              rw [← hle] at h3 ⊢
              refine (sort_any s p c W 0 W.heap.size (ord_swo (fun x => s.getD x zeroT)) h1 h3 (by omega) (Nat.le_refl _)).mono ?_
              rintro e w' ⟨s', g1, g2, q, c', rfl, h4, h5, h6⟩
              have hs' := asc_one s s' g1.symm HAS.out g2 (fun x hx => HLR.out x (HPE.out.mem_iff.1 hx))
              subst hs'
              exact ⟨q, c', rfl, h4, h5.keep (Nat.zero_le _) (Nat.le_refl _) (fun _ _ _ => rfl), h6⟩
            have C_sames : Hid (∀ (W : World) (p p' : Option Addr) (c c' : Nat), RepAll W 0 W.heap.size s p → RepAll W 0 W.heap.size s p' → Calls Try.prog 25 #[.slice p l.length c, .slice p' l.length c'] W fun e w' => e = .returned (.bool true) ∧ Below W.heap.size W w') := fun W p p' c c' h1 h2 => by
              have hle := HPE.out.length_eq
              rw [← hle]
              exact same_lists s W p p' c c' h1 h2 (by omega)
            go_wp2_with (first
              | (go_at_call_of 36 (Value.slice pl l.length cl); (with_reducible refine (C_turn.out _ l pl cl (HSf.out.all (l, pl) (by simp)) rfl hlc).mono ?_); rintro e w11 ⟨p11, c11, rfl, hc11, h, hb⟩; have HS11 := Lib.hid ((HSf.out.step hb).addL h); have HB11 := Lib.hid (HBf.out.trans (hb.mono HBf.out.size)); clear hb h)
              | (go_at_call_of 36 (Value.slice p11 l.length c11); (with_reducible refine (C_turn.out _ l.reverse p11 c11 (HS11.out.all (l.reverse, p11) (by simp)) (by simp) hc11).mono ?_); rintro e w12 ⟨p12, c12, rfl, hc12, h, hb⟩; rw [List.reverse_reverse] at h; have HS12 := Lib.hid ((HS11.out.step hb).addL h); have HB12 := Lib.hid (HB11.out.trans (hb.mono HB11.out.size)); clear hb h)
              | (go_at_call_of 25 (Value.slice p12 l.length c12); (with_reducible refine (same_lists l _ _ _ _ _ (HS12.out.all (l, p12) (by simp)) (HS12.out.all (l, pl) (by simp)) (by omega)).mono ?_); rintro e w13 ⟨rfl, hb⟩; have HS13 := Lib.hid (HS12.out.step hb); have HB13 := Lib.hid (HB12.out.trans (hb.mono HB12.out.size)); clear hb)
              | (go_at_call 33; (with_reducible refine (C_sorts.out _ ps cs (HS13.out.all (s, ps) (by simp)) hcs).mono ?_); rintro e w14 ⟨p14, c14, rfl, hc14, h, hb⟩; have HS14 := Lib.hid ((HS13.out.step hb).addL h); have HB14 := Lib.hid (HB13.out.trans (hb.mono HB13.out.size)); clear hb h)
              | (go_at_call_of 25 (Value.slice p14 l.length c14); (with_reducible refine (C_sames.out _ p14 ps c14 cs (HS14.out.all (s, p14) (by simp)) (HS14.out.all (s, ps) (by simp))).mono ?_); rintro e w15 ⟨rfl, hb⟩; have HB15 := Lib.hid (HB14.out.trans (hb.mono HB14.out.size)); clear hb))
            go_ret
            exact ⟨rfl, HB15.out⟩



end Go.Proofs.Ytjipchloebbldaa
