/- SeqSays: what the chapter's calls answer of any right lists is what the document says. -/
import Derived.Test.YtjipchloebbldaaGlue4
import Derived.Test.YtjipchloebbldaaSameV
namespace Go.Proofs.Ytjipchloebbldaa
open Go.RowKit
set_option maxRecDepth 100000

/-- What stands in memory: lists, boxes, values. -/
structure St (W : World) (L : List (List T × Option Addr)) (B : List (Nat × Obj)) (V : List (T × Value)) : Prop where
  all : ∀ x ∈ L, RepAll W 0 W.heap.size x.1 x.2
  box : ∀ x ∈ B, W.heap[x.1]? = some x.2
  val : ∀ x ∈ V, Rep W 0 W.heap.size x.1 x.2
theorem St.step {W W' : World} {L : List (List T × Option Addr)} {B : List (Nat × Obj)} {V : List (T × Value)} (h : St W L B V) (hb : Below W.heap.size W W') : St W' L B V :=
  ⟨fun x hx => ((h.all x hx).below hb (Nat.le_refl _)).keep (Nat.le_refl _) hb.size (fun _ _ _ => rfl), fun x hx => heap_old (h.box x hx) hb, fun x hx => ((h.val x hx).below hb (Nat.le_refl _)).keep (Nat.le_refl _) hb.size (fun _ _ _ => rfl)⟩
theorem St.addL {W : World} {L : List (List T × Option Addr)} {B : List (Nat × Obj)} {V : List (T × Value)} (h : St W L B V) {l : List T} {p : Option Addr} (hr : RepAll W 0 W.heap.size l p) : St W ((l, p) :: L) B V :=
  ⟨fun x hx => by rcases List.mem_cons.1 hx with rfl | hx; exact hr; exact h.all x hx, h.box, h.val⟩
theorem St.addV {W : World} {L : List (List T × Option Addr)} {B : List (Nat × Obj)} {V : List (T × Value)} (h : St W L B V) {t : T} {v : Value} (hr : Rep W 0 W.heap.size t v) : St W L B ((t, v) :: V) :=
  ⟨h.all, h.box, fun x hx => by rcases List.mem_cons.1 hx with rfl | hx; exact hr; exact h.val x hx⟩
theorem St.alloc {W : World} {L : List (List T × Option Addr)} {B : List (Nat × Obj)} {V : List (T × Value)} (h : St W L B V) (c : Array Value) (t : TypeId) : St (W.alloc (.cells c t)) L ((W.heap.size, .cells c t (0, 0)) :: B) V :=
  have hs := h.step ((Below.refl W.heap.size W).alloc (Nat.le_refl _) (.cells c t))
  ⟨hs.all, fun x hx => by rcases List.mem_cons.1 hx with rfl | hx; exact heap_alloc_new W _; exact hs.box x hx, hs.val⟩
theorem Ans.zero {lo : Nat} {w w' : World} {r : List T × Int} {e : Ending} (h : Ans lo w r e w') : Ans 0 w r e w' := h.of_below (Below.refl _ _) (Nat.zero_le _)
theorem AnsV.zero {lo : Nat} {w w' : World} {r : T × Int} {e : Ending} (h : AnsV lo w r e w') : AnsV 0 w r e w' := by
  obtain ⟨k, n, s, p, len, cap, rfl, h1, h2⟩ := h
  exact ⟨k, n, s, p, len, cap, rfl, h1.keep (Nat.zero_le _) (Nat.le_refl _) (fun _ _ _ => rfl), h2⟩
theorem eqAll_self' (l : List T) : eqAll l l = true := eqAll_self l (fun t _ => eqV_self t)
abbrev bx (k n : Int) (s : ByteArray) (p : Option Addr) (len cap : Nat) : Obj := .cells #[.int .i64 k, .int .i64 n, .string s, .slice p len cap] 24 (0, 0)
/-- The answers are the same lists. -/
theorem same_lists (l : List T) (W : World) (p p' : Option Addr) (cap cap' : Nat) (h : RepAll W 0 W.heap.size l p) (h' : RepAll W 0 W.heap.size l p') (hl : l.length ≤ 1000000) :
    Calls Try.prog 25 #[.slice p l.length cap, .slice p' l.length cap'] W fun e w' => e = .returned (.bool true) ∧ Below W.heap.size W w' := by
  have := sameValues_any l W 0 W.heap.size p cap h (Nat.le_refl _) (by omega) l 0 W.heap.size p' cap' h' (Nat.le_refl _) (fun t _ => sameValue_any t)
  rw [eqAll_self'] at this
  exact this
theorem same_value (t : T) (W : World) (v v' : Value) (h : Rep W 0 W.heap.size t v) (h' : Rep W 0 W.heap.size t v') :
    Calls Try.prog 24 #[v, v'] W fun e w' => e = .returned (.bool true) ∧ Below W.heap.size W w' := by
  have := sameValue_any t t W 0 W.heap.size 0 W.heap.size v v' h (Nat.le_refl _) h' (Nat.le_refl _)
  rw [eqV_self] at this
  exact this



theorem madeS_len (c : Int) (l : List T) : (madeS c l).1.length ≤ l.length := by unfold madeS; split <;> simp
theorem cutS_len (c : List T → Int) (l : List T) (i j : Int) : (cutS c l i j).1.length ≤ l.length := by
  unfold cutS
  split
  · simp
  · split
    · refine Nat.le_trans (madeS_len _ _) ?_; simp; omega
    · simp
theorem putS_len (c : List T → Int) (l : List T) (i : Int) (t : T) : (putS c l i t).1.length ≤ 2 * l.length + 1 := by
  unfold putS
  split
  · refine Nat.le_trans (madeS_len _ _) ?_; simp; omega
  · simp
theorem insS_len (c : List T → Int) (l : List T) (t : T) (i : Int) : (insS c l t i).1.length ≤ 2 * l.length + 1 := by
  unfold insS
  refine Nat.le_trans (madeS_len _ _) ?_; simp; omega
theorem delS_len (c : List T → Int) (l : List T) (i : Int) : (delS c l i).1.length ≤ 2 * l.length := by
  unfold delS
  split
  · refine Nat.le_trans (madeS_len _ _) ?_; simp; omega
  · simp
theorem catS_len (c : List T → Int) (a b : List T) : (catS c a b).1.length ≤ a.length + b.length := by
  unfold catS
  refine Nat.le_trans (madeS_len _ _) ?_; simp

set_option maxHeartbeats 4000000 in
theorem says_main (l m : List T) (i j : Int) (t : T) (w : World) (pl pm : Option Addr) (cl cm : Nat) (vk vn : Int) (vs : ByteArray) (vp : Option Addr) (vl vc : Nat) (hl : RepAll w 0 w.heap.size l pl) (hlc : l.length ≤ cl) (hcl : l.length * 56 ≤ 140737488355328) (hm : RepAll w 0 w.heap.size m pm) (hmc : m.length ≤ cm) (hcm : m.length * 56 ≤ 140737488355328)
    (hv : Rep w 0 w.heap.size t (.agg #[.int .i64 vk, .int .i64 vn, .string vs, .slice vp vl vc])) (hi : I64 i) (hj : I64 j) (hA : rightL l = true) (hB : rightL m = true) (hC : rightB t = true) :
    Calls Try.prog 3 #[.slice pl l.length cl, .slice pm m.length cm, .int .i64 i, .int .i64 j, .agg #[.int .i64 vk, .int .i64 vn, .string vs, .slice vp vl vc]] w fun e w' => e = .returned (.bool true) ∧ Below w.heap.size w w' := by
  obtain ⟨hal, _, hsl, hnl⟩ := rightL_facts hA
  obtain ⟨ham, _, hsm, hnm⟩ := rightL_facts hB
  have hst := (okR.full hC).2
  obtain ⟨RG, hRG⟩ : ∃ R, R = getS l i := ⟨_, rfl⟩
  obtain ⟨RC, hRC⟩ : ∃ R, R = cutS vfit l i j := ⟨_, rfl⟩
  obtain ⟨RP, hRP⟩ : ∃ R, R = putS vfit l i t := ⟨_, rfl⟩
  obtain ⟨RI, hRI⟩ : ∃ R, R = insS vfit l t i := ⟨_, rfl⟩
  obtain ⟨RD, hRD⟩ : ∃ R, R = delS vfit l i := ⟨_, rfl⟩
  obtain ⟨RK, hRK⟩ : ∃ R, R = catS vfit l m := ⟨_, rfl⟩
  have C_get : Hid (∀ (W : World) (L : List (List T × Option Addr)) (B : List (Nat × Obj)) (Vs : List (T × Value)), St W L B Vs → (l, pl) ∈ L → Calls Try.prog 12 #[.slice pl l.length cl, .int .i64 i] W (AnsV 0 W RG)) := fun W L B Vs h HM1 => by
    rw [hRG]; exact (get_any l pl cl i W 0 W.heap.size (h.all (l, pl) HM1) (Nat.le_refl _) hi (by omega)).mono fun _ _ h => h.zero
  have C_rget : Hid (∀ (W : World) (L : List (List T × Option Addr)) (B : List (Nat × Obj)) (Vs : List (T × Value)), St W L B Vs → (l, pl) ∈ L → Calls Try.prog 13 #[.slice pl l.length cl, .int .i64 i] W (AnsV 0 W RG)) := fun W L B Vs h HM1 => by
    rw [hRG]; exact (rget_any l pl cl i W 0 (h.all (l, pl) HM1) hi (by omega)).mono fun _ _ h => h.zero
  have C_cut : Hid (∀ (W : World) (L : List (List T × Option Addr)) (B : List (Nat × Obj)) (Vs : List (T × Value)), St W L B Vs → (l, pl) ∈ L → Calls Try.prog 14 #[.slice pl l.length cl, .int .i64 i, .int .i64 j] W (Ans 0 W RC)) := fun W L B Vs h HM1 => by
    rw [hRC]; exact (cut_any l pl cl i j W 0 (h.all (l, pl) HM1) hlc hi hj (by omega)).mono fun _ _ h => h.zero
  have C_rcut : Hid (∀ (W : World) (L : List (List T × Option Addr)) (B : List (Nat × Obj)) (Vs : List (T × Value)), St W L B Vs → (l, pl) ∈ L → Calls Try.prog 15 #[.slice pl l.length cl, .int .i64 i, .int .i64 j] W (Ans 0 W RC)) := fun W L B Vs h HM1 => by
    rw [hRC, ← cutS_eq hal i j]; exact (rcut_any l pl cl i j W 0 (h.all (l, pl) HM1) hlc hi hj (by omega) (Nat.zero_le _)).mono fun _ _ h => h.zero
  have C_put : Hid (∀ (W : World) (L : List (List T × Option Addr)) (B : List (Nat × Obj)) (Vs : List (T × Value)), St W L B Vs → (l, pl) ∈ L → (t, .agg #[.int .i64 vk, .int .i64 vn, .string vs, .slice vp vl vc]) ∈ Vs → Calls Try.prog 16 #[.slice pl l.length cl, .int .i64 i, .agg #[.int .i64 vk, .int .i64 vn, .string vs, .slice vp vl vc]] W (Ans 0 W RP)) := fun W L B Vs h HM1 HM3 => by
    rw [hRP]; exact (put_any l pl cl i t _ W 0 (h.all (l, pl) HM1) hlc hi (h.val (t, _) HM3) (by omega) (Nat.zero_le _)).mono fun _ _ h => h.zero
  have C_rput : Hid (∀ (W : World) (L : List (List T × Option Addr)) (B : List (Nat × Obj)) (Vs : List (T × Value)), St W L B Vs → (l, pl) ∈ L → (t, .agg #[.int .i64 vk, .int .i64 vn, .string vs, .slice vp vl vc]) ∈ Vs → Calls Try.prog 17 #[.slice pl l.length cl, .int .i64 i, .agg #[.int .i64 vk, .int .i64 vn, .string vs, .slice vp vl vc]] W (Ans 0 W RP)) := fun W L B Vs h HM1 HM3 => by
    rw [hRP, ← putS_eq hal hC i]; exact (rput_any l pl cl i t _ W 0 (h.all (l, pl) HM1) hlc hi (h.val (t, _) HM3) (by omega) (Nat.zero_le _)).mono fun _ _ h => h.zero
  have C_insert : Hid (∀ (W : World) (L : List (List T × Option Addr)) (B : List (Nat × Obj)) (Vs : List (T × Value)), St W L B Vs → (l, pl) ∈ L → (t, .agg #[.int .i64 vk, .int .i64 vn, .string vs, .slice vp vl vc]) ∈ Vs → Calls Try.prog 18 #[.slice pl l.length cl, .agg #[.int .i64 vk, .int .i64 vn, .string vs, .slice vp vl vc], .int .i64 i] W (Ans 0 W RI)) := fun W L B Vs h HM1 HM3 => by
    rw [hRI]; exact (insert_any l pl cl i t _ W 0 (h.all (l, pl) HM1) hlc hi (h.val (t, _) HM3) (by omega) (Nat.zero_le _)).mono fun _ _ h => h.zero
  have C_rinsert : Hid (∀ (W : World) (L : List (List T × Option Addr)) (B : List (Nat × Obj)) (Vs : List (T × Value)), St W L B Vs → (l, pl) ∈ L → (t, .agg #[.int .i64 vk, .int .i64 vn, .string vs, .slice vp vl vc]) ∈ Vs → Calls Try.prog 19 #[.slice pl l.length cl, .agg #[.int .i64 vk, .int .i64 vn, .string vs, .slice vp vl vc], .int .i64 i] W (Ans 0 W RI)) := fun W L B Vs h HM1 HM3 => by
    rw [hRI, ← insS_eq hal hC i]; exact (rinsert_any l pl cl i t _ W 0 (h.all (l, pl) HM1) hlc hi (h.val (t, _) HM3) (by omega) (Nat.zero_le _)).mono fun _ _ h => h.zero
  have C_delete : Hid (∀ (W : World) (L : List (List T × Option Addr)) (B : List (Nat × Obj)) (Vs : List (T × Value)), St W L B Vs → (l, pl) ∈ L → Calls Try.prog 20 #[.slice pl l.length cl, .int .i64 i] W (Ans 0 W RD)) := fun W L B Vs h HM1 => by
    rw [hRD]; exact (delete_any l pl cl i W 0 (h.all (l, pl) HM1) hlc hi (by omega) (Nat.zero_le _)).mono fun _ _ h => h.zero
  have C_rdelete : Hid (∀ (W : World) (L : List (List T × Option Addr)) (B : List (Nat × Obj)) (Vs : List (T × Value)), St W L B Vs → (l, pl) ∈ L → Calls Try.prog 21 #[.slice pl l.length cl, .int .i64 i] W (Ans 0 W RD)) := fun W L B Vs h HM1 => by
    rw [hRD, ← delS_eq hal i]; exact (rdelete_any l pl cl i W 0 (h.all (l, pl) HM1) hlc hi (by omega) (Nat.zero_le _)).mono fun _ _ h => h.zero
  have C_cat : Hid (∀ (W : World) (L : List (List T × Option Addr)) (B : List (Nat × Obj)) (Vs : List (T × Value)), St W L B Vs → (l, pl) ∈ L → (m, pm) ∈ L → Calls Try.prog 22 #[.slice pl l.length cl, .slice pm m.length cm] W (Ans 0 W RK)) := fun W L B Vs h HM1 HM2 => by
    rw [hRK]; exact (cat_any l m pl pm cl cm W 0 (h.all (l, pl) HM1) hlc (h.all (m, pm) HM2) hmc (Nat.zero_le _) (by rw [szAll_append]; omega)).mono fun _ _ h => h.zero
  have C_rcat : Hid (∀ (W : World) (L : List (List T × Option Addr)) (B : List (Nat × Obj)) (Vs : List (T × Value)), St W L B Vs → (l, pl) ∈ L → (m, pm) ∈ L → Calls Try.prog 23 #[.slice pl l.length cl, .slice pm m.length cm] W (Ans 0 W RK)) := fun W L B Vs h HM1 HM2 => by
    rw [hRK, ← catS_eq hal ham]; exact (rcat_any l m pl pm cl cm W 0 (h.all (l, pl) HM1) (h.all (m, pm) HM2) (Nat.zero_le _) (by rw [szAll_append]; omega)).mono fun _ _ h => h.zero
  have HS0 := Lib.hid ((St.mk (W := w) (L := [(m, pm), (l, pl)]) (B := []) (V := [(t, .agg #[.int .i64 vk, .int .i64 vn, .string vs, .slice vp vl vc])]) (fun x hx => by simp at hx; rcases hx with rfl | rfl; exact hm; exact hl) (fun x hx => by simp at hx) (fun x hx => by simp at hx; subst hx; exact hv)).alloc #[.int .i64 vk, .int .i64 vn, .string vs, .slice vp vl vc] 24)
  have HB0 := Lib.hid ((Below.refl w.heap.size w).alloc (Nat.le_refl _) (.cells #[.int .i64 vk, .int .i64 vn, .string vs, .slice vp vl vc] 24))
  obtain ⟨RGt, RGc⟩ := RG
  have HLens : Hid (RC.1.length ≤ 1000000 ∧ RP.1.length ≤ 1000000 ∧ RI.1.length ≤ 1000000 ∧ RD.1.length ≤ 1000000 ∧ RK.1.length ≤ 1000000) := by
    show _ ∧ _
    rw [hRC, hRP, hRI, hRD, hRK]
    have h1 := cutS_len vfit l i j
    have h2 := putS_len vfit l i t
    have h3 := insS_len vfit l t i
    have h4 := delS_len vfit l i
    have h5 := catS_len vfit l m
    omega
  obtain ⟨RCl, RCc⟩ := RC
  obtain ⟨RPl, RPc⟩ := RP
  obtain ⟨RIl, RIc⟩ := RI
  obtain ⟨RDl, RDc⟩ := RD
  obtain ⟨RKl, RKc⟩ := RK
  have HA := Lib.hid hA
  have HBB := Lib.hid hB
  have HCC := Lib.hid hC
  clear hl hm hv hi hj hRG hRC hRP hRI hRD hRK hA hB hal ham hsl hsm hst
  go_enter Try.func3, Try.ntmps3
  go_wp2_with (first
    | (go_at_call 8; (with_reducible refine (first4_any _).mono ?_); rintro e w1 ⟨rfl, hb⟩; have HS1 := Lib.hid (HS0.out.step hb); have HB1 := Lib.hid (HB0.out.trans (hb.mono HB0.out.size)); clear hb)
    | (go_at_call_of 9 (Value.slice pl l.length cl); (with_reducible refine (rightL_any l w1 0 w1.heap.size pl cl (HS1.out.all (l, pl) (by simp)) (Nat.le_refl _) hlc hcl).mono ?_); rintro e w2 ⟨rfl, hb⟩; rw [HA.out]; have HS2 := Lib.hid (HS1.out.step hb); have HB2 := Lib.hid (HB1.out.trans (hb.mono HB1.out.size)); clear hb)
    | (go_at_call_of 9 (Value.slice pm m.length cm); (with_reducible refine (rightL_any m w2 0 w2.heap.size pm cm (HS2.out.all (m, pm) (by simp)) (Nat.le_refl _) hmc hcm).mono ?_); rintro e w3 ⟨rfl, hb⟩; rw [HBB.out]; have HS3 := Lib.hid (HS2.out.step hb); have HB3 := Lib.hid (HB2.out.trans (hb.mono HB2.out.size)); clear hb; obtain ⟨hx0, hx1, hx2, hx3, hxf⟩ := box4_in w3 w.heap.size _ _ _ _ _ (HS3.out.box (w.heap.size, _) (List.mem_singleton.2 rfl)); clear hxf)
    | (go_at_call 10; (with_reducible refine (right_any t w3 0 w3.heap.size _ (HS3.out.val (t, _) (List.mem_singleton.2 rfl)) (Nat.le_refl _)).mono ?_); rintro e w4 ⟨rfl, hb⟩; rw [HCC.out]; have HS4 := Lib.hid (HS3.out.step hb); have HB4 := Lib.hid (HB3.out.trans (hb.mono HB3.out.size)); clear hb hx0 hx1 hx2 hx3)
    | (go_at_call 11; (with_reducible refine (values_any l (fun t _ => value_any t) w4 0 w4.heap.size pl cl (HS4.out.all (l, pl) (by simp)) hlc hcl (Nat.le_refl _)).mono ?_); rintro e w5 ⟨p5, cap5, rfl, _, _, h5, hb⟩; have HS5 := Lib.hid ((HS4.out.step hb).addL (h5.keep (Nat.zero_le _) (Nat.le_refl _) (fun _ _ _ => rfl))); have HB5 := Lib.hid (HB4.out.trans (hb.mono HB4.out.size)); clear hb h5)
    | (go_at_call 12; (with_reducible refine (C_get.out _ _ _ _ HS5.out (by simp)).mono ?_); rintro e w6 ⟨ak, an, az, ap, al, ac, rfl, h6, hb⟩; have HS6 := Lib.hid (((HS5.out.step hb).addV h6).alloc #[.int .i64 ak, .int .i64 an, .string az, .slice ap al ac] 24); have HB6 := Lib.hid ((HB5.out.trans (hb.mono HB5.out.size)).alloc (Nat.le_trans HB5.out.size hb.size) (.cells #[.int .i64 ak, .int .i64 an, .string az, .slice ap al ac] 24)); clear hb h6)
    | (go_at_call 13; (with_reducible refine (C_rget.out _ _ _ _ HS6.out (by simp)).mono ?_); rintro e w7 ⟨bk, bn, bz, bp, bl, bc, rfl, h7, hb⟩; have HS7 := Lib.hid (((HS6.out.step hb).addV h7).alloc #[.int .i64 bk, .int .i64 bn, .string bz, .slice bp bl bc] 24); have HB7 := Lib.hid ((HB6.out.trans (hb.mono HB6.out.size)).alloc (Nat.le_trans HB6.out.size hb.size) (.cells #[.int .i64 bk, .int .i64 bn, .string bz, .slice bp bl bc] 24)); clear hb h7)
    | (go_at_call 14; (with_reducible refine (C_cut.out _ _ _ _ HS7.out (by simp)).mono ?_); rintro e w8 ⟨p8, cap8, rfl, _, h, hb⟩; dsimp only at h ⊢; have HS8 := Lib.hid ((HS7.out.step hb).addL h); have HB8 := Lib.hid (HB7.out.trans (hb.mono HB7.out.size)); clear hb h)
    | (go_at_call 15; (with_reducible refine (C_rcut.out _ _ _ _ HS8.out (by simp)).mono ?_); rintro e w9 ⟨p9, cap9, rfl, _, h, hb⟩; dsimp only at h ⊢; have HS9 := Lib.hid ((HS8.out.step hb).addL h); have HB9 := Lib.hid (HB8.out.trans (hb.mono HB8.out.size)); clear hb h; obtain ⟨hx0, hx1, hx2, hx3, hxf⟩ := box4_in w9 w.heap.size _ _ _ _ _ (HS9.out.box (w.heap.size, bx vk vn vs vp vl vc) (by simp)); clear hxf)
    | (go_at_call 16; (with_reducible refine (C_put.out _ _ _ _ HS9.out (by simp) (by simp)).mono ?_); clear hx0 hx1 hx2 hx3; rintro e w10 ⟨p10, cap10, rfl, _, h, hb⟩; dsimp only at h ⊢; have HS10 := Lib.hid ((HS9.out.step hb).addL h); have HB10 := Lib.hid (HB9.out.trans (hb.mono HB9.out.size)); clear hb h; obtain ⟨hx0, hx1, hx2, hx3, hxf⟩ := box4_in w10 w.heap.size _ _ _ _ _ (HS10.out.box (w.heap.size, bx vk vn vs vp vl vc) (by simp)); clear hxf)
    | (go_at_call 17; (with_reducible refine (C_rput.out _ _ _ _ HS10.out (by simp) (by simp)).mono ?_); clear hx0 hx1 hx2 hx3; rintro e w11 ⟨p11, cap11, rfl, _, h, hb⟩; dsimp only at h ⊢; have HS11 := Lib.hid ((HS10.out.step hb).addL h); have HB11 := Lib.hid (HB10.out.trans (hb.mono HB10.out.size)); clear hb h; obtain ⟨hx0, hx1, hx2, hx3, hxf⟩ := box4_in w11 w.heap.size _ _ _ _ _ (HS11.out.box (w.heap.size, bx vk vn vs vp vl vc) (by simp)); clear hxf)
    | (go_at_call 18; (with_reducible refine (C_insert.out _ _ _ _ HS11.out (by simp) (by simp)).mono ?_); clear hx0 hx1 hx2 hx3; rintro e w12 ⟨p12, cap12, rfl, _, h, hb⟩; dsimp only at h ⊢; have HS12 := Lib.hid ((HS11.out.step hb).addL h); have HB12 := Lib.hid (HB11.out.trans (hb.mono HB11.out.size)); clear hb h; obtain ⟨hx0, hx1, hx2, hx3, hxf⟩ := box4_in w12 w.heap.size _ _ _ _ _ (HS12.out.box (w.heap.size, bx vk vn vs vp vl vc) (by simp)); clear hxf)
    | (go_at_call 19; (with_reducible refine (C_rinsert.out _ _ _ _ HS12.out (by simp) (by simp)).mono ?_); clear hx0 hx1 hx2 hx3; rintro e w13 ⟨p13, cap13, rfl, _, h, hb⟩; dsimp only at h ⊢; have HS13 := Lib.hid ((HS12.out.step hb).addL h); have HB13 := Lib.hid (HB12.out.trans (hb.mono HB12.out.size)); clear hb h)
    | (go_at_call 20; (with_reducible refine (C_delete.out _ _ _ _ HS13.out (by simp)).mono ?_); rintro e w14 ⟨p14, cap14, rfl, _, h, hb⟩; dsimp only at h ⊢; have HS14 := Lib.hid ((HS13.out.step hb).addL h); have HB14 := Lib.hid (HB13.out.trans (hb.mono HB13.out.size)); clear hb h)
    | (go_at_call 21; (with_reducible refine (C_rdelete.out _ _ _ _ HS14.out (by simp)).mono ?_); rintro e w15 ⟨p15, cap15, rfl, _, h, hb⟩; dsimp only at h ⊢; have HS15 := Lib.hid ((HS14.out.step hb).addL h); have HB15 := Lib.hid (HB14.out.trans (hb.mono HB14.out.size)); clear hb h)
    | (go_at_call 22; (with_reducible refine (C_cat.out _ _ _ _ HS15.out (by simp) (by simp)).mono ?_); rintro e w16 ⟨p16, cap16, rfl, _, h, hb⟩; dsimp only at h ⊢; have HS16 := Lib.hid ((HS15.out.step hb).addL h); have HB16 := Lib.hid (HB15.out.trans (hb.mono HB15.out.size)); clear hb h)
    | (go_at_call 23; (with_reducible refine (C_rcat.out _ _ _ _ HS16.out (by simp) (by simp)).mono ?_); rintro e w17 ⟨p17, cap17, rfl, _, h, hb⟩; dsimp only at h ⊢; have HS17 := Lib.hid ((HS16.out.step hb).addL h); have HB17 := Lib.hid (HB16.out.trans (hb.mono HB16.out.size)); clear hb h; obtain ⟨hy0, hy1, hy2, hy3, hyf⟩ := box4_in w17 w6.heap.size _ _ _ _ _ (HS17.out.box (w6.heap.size, bx ak an az ap al ac) (by simp)); obtain ⟨hx0, hx1, hx2, hx3, hxf⟩ := box4_in w17 w7.heap.size _ _ _ _ _ (HS17.out.box (w7.heap.size, bx bk bn bz bp bl bc) (by simp)); clear hxf hyf)
    | (go_at_call 24; (with_reducible refine (same_value RGt _ _ _ (HS17.out.val (RGt, .agg #[.int .i64 ak, .int .i64 an, .string az, .slice ap al ac]) (by simp)) (HS17.out.val (RGt, .agg #[.int .i64 bk, .int .i64 bn, .string bz, .slice bp bl bc]) (by simp))).mono ?_); rintro e w18 ⟨rfl, hb⟩; have HS18 := Lib.hid (HS17.out.step hb); have HB18 := Lib.hid (HB17.out.trans (hb.mono HB17.out.size)); clear hb hx0 hx1 hx2 hx3 hy0 hy1 hy2 hy3)
    | (go_at_call_of 25 (Value.slice p8 RCl.length cap8); (with_reducible refine (same_lists RCl _ _ _ _ _ (HS18.out.all (RCl, p8) (by simp)) (HS18.out.all (RCl, p9) (by simp)) (HLens.out.1)).mono ?_); rintro e w19 ⟨rfl, hb⟩; have HS19 := Lib.hid (HS18.out.step hb); have HB19 := Lib.hid (HB18.out.trans (hb.mono HB18.out.size)); clear hb)
    | (go_at_call_of 25 (Value.slice p10 RPl.length cap10); (with_reducible refine (same_lists RPl _ _ _ _ _ (HS19.out.all (RPl, p10) (by simp)) (HS19.out.all (RPl, p11) (by simp)) (HLens.out.2.1)).mono ?_); rintro e w20 ⟨rfl, hb⟩; have HS20 := Lib.hid (HS19.out.step hb); have HB20 := Lib.hid (HB19.out.trans (hb.mono HB19.out.size)); clear hb)
    | (go_at_call_of 25 (Value.slice p12 RIl.length cap12); (with_reducible refine (same_lists RIl _ _ _ _ _ (HS20.out.all (RIl, p12) (by simp)) (HS20.out.all (RIl, p13) (by simp)) (HLens.out.2.2.1)).mono ?_); rintro e w21 ⟨rfl, hb⟩; have HS21 := Lib.hid (HS20.out.step hb); have HB21 := Lib.hid (HB20.out.trans (hb.mono HB20.out.size)); clear hb)
    | (go_at_call_of 25 (Value.slice p14 RDl.length cap14); (with_reducible refine (same_lists RDl _ _ _ _ _ (HS21.out.all (RDl, p14) (by simp)) (HS21.out.all (RDl, p15) (by simp)) (HLens.out.2.2.2.1)).mono ?_); rintro e w22 ⟨rfl, hb⟩; have HS22 := Lib.hid (HS21.out.step hb); have HB22 := Lib.hid (HB21.out.trans (hb.mono HB21.out.size)); clear hb)
    | (go_at_call_of 25 (Value.slice p16 RKl.length cap16); (with_reducible refine (same_lists RKl _ _ _ _ _ (HS22.out.all (RKl, p16) (by simp)) (HS22.out.all (RKl, p17) (by simp)) (HLens.out.2.2.2.2)).mono ?_); rintro e w23 ⟨rfl, hb⟩; have HS23 := Lib.hid (HS22.out.step hb); have HB23 := Lib.hid (HB22.out.trans (hb.mono HB22.out.size)); clear hb)
    | (go_at_call_of 25 (Value.slice pl l.length cl); (with_reducible refine (same_lists l _ _ _ _ _ (HS23.out.all (l, pl) (by simp)) (HS23.out.all (l, p5) (by simp)) (by omega)).mono ?_); rintro e w24 ⟨rfl, hb⟩; have HB24 := Lib.hid (HB23.out.trans (hb.mono HB23.out.size)); clear hb))
  go_ret
  exact ⟨rfl, HB24.out⟩

set_option maxHeartbeats 2000000 in
theorem says_all (l m : List T) (i j : Int) (t : T) (v : Value) (w : World) (pl pm : Option Addr) (cl cm : Nat) (hl : RepAll w 0 w.heap.size l pl) (hlc : l.length ≤ cl) (hcl : l.length * 56 ≤ 140737488355328) (hm : RepAll w 0 w.heap.size m pm) (hmc : m.length ≤ cm) (hcm : m.length * 56 ≤ 140737488355328)
    (hv : Rep w 0 w.heap.size t v) (hi : I64 i) (hj : I64 j) :
    Calls Try.prog 3 #[.slice pl l.length cl, .slice pm m.length cm, .int .i64 i, .int .i64 j, v] w fun e w' => e = .returned (.bool true) ∧ Below w.heap.size w w' := by
  obtain ⟨vk, vn, vs, vp, vl, vc, rfl⟩ := rep_form hv
  by_cases hall : rightL l = true ∧ rightL m = true ∧ rightB t = true
  · exact says_main l m i j t w pl pm cl cm vk vn vs vp vl vc hl hlc hcl hm hmc hcm hv hi hj hall.1 hall.2.1 hall.2.2
  · have HS0 := Lib.hid ((St.mk (W := w) (L := [(m, pm), (l, pl)]) (B := []) (V := [(t, .agg #[.int .i64 vk, .int .i64 vn, .string vs, .slice vp vl vc])]) (fun x hx => by simp at hx; rcases hx with rfl | rfl; exact hm; exact hl) (fun x hx => by simp at hx) (fun x hx => by simp at hx; subst hx; exact hv)).alloc #[.int .i64 vk, .int .i64 vn, .string vs, .slice vp vl vc] 24)
    have HB0 := Lib.hid ((Below.refl w.heap.size w).alloc (Nat.le_refl _) (.cells #[.int .i64 vk, .int .i64 vn, .string vs, .slice vp vl vc] 24))
    clear hl hm hv hi hj
    obtain ⟨A, hA⟩ : ∃ A, A = rightL l := ⟨_, rfl⟩
    obtain ⟨B, hB⟩ : ∃ B, B = rightL m := ⟨_, rfl⟩
    obtain ⟨C, hC⟩ : ∃ C, C = rightB t := ⟨_, rfl⟩
    rw [← hA, ← hB, ← hC] at hall
    have HA := Lib.hid hA
    have HBB := Lib.hid hB
    have HCC := Lib.hid hC
    clear hA hB hC
    cases A with
    | false =>
      clear hall HBB HCC
      go_enter Try.func3, Try.ntmps3
      go_wp2_with (first
        | (go_at_call 8; (with_reducible refine (first4_any _).mono ?_); rintro e w1 ⟨rfl, hb⟩; have HS1 := Lib.hid (HS0.out.step hb); have HB1 := Lib.hid (HB0.out.trans (hb.mono HB0.out.size)); clear hb)
        | (go_at_call_of 9 (Value.slice pl l.length cl); (with_reducible refine (rightL_any l w1 0 w1.heap.size pl cl (HS1.out.all (l, pl) (by simp)) (Nat.le_refl _) hlc hcl).mono ?_); rintro e w2 ⟨rfl, hb⟩; rw [← HA.out]; have HB2 := Lib.hid (HB1.out.trans (hb.mono HB1.out.size)); clear hb))
      go_ret
      exact ⟨rfl, HB2.out⟩
    | true =>
      cases B with
      | false =>
        clear hall HCC
        go_enter Try.func3, Try.ntmps3
        go_wp2_with (first
          | (go_at_call 8; (with_reducible refine (first4_any _).mono ?_); rintro e w1 ⟨rfl, hb⟩; have HS1 := Lib.hid (HS0.out.step hb); have HB1 := Lib.hid (HB0.out.trans (hb.mono HB0.out.size)); clear hb)
          | (go_at_call_of 9 (Value.slice pl l.length cl); (with_reducible refine (rightL_any l w1 0 w1.heap.size pl cl (HS1.out.all (l, pl) (by simp)) (Nat.le_refl _) hlc hcl).mono ?_); rintro e w2 ⟨rfl, hb⟩; rw [← HA.out]; have HS2 := Lib.hid (HS1.out.step hb); have HB2 := Lib.hid (HB1.out.trans (hb.mono HB1.out.size)); clear hb HS1)
          | (go_at_call_of 9 (Value.slice pm m.length cm); (with_reducible refine (rightL_any m w2 0 w2.heap.size pm cm (HS2.out.all (m, pm) (by simp)) (Nat.le_refl _) hmc hcm).mono ?_); rintro e w3 ⟨rfl, hb⟩; rw [← HBB.out]; have HB3 := Lib.hid (HB2.out.trans (hb.mono HB2.out.size)); clear hb))
        go_ret
        exact ⟨rfl, HB3.out⟩
      | true =>
        cases C with
        | true => exact absurd ⟨rfl, rfl, rfl⟩ hall
        | false =>
          clear hall
          go_enter Try.func3, Try.ntmps3
          go_wp2_with (first
            | (go_at_call 8; (with_reducible refine (first4_any _).mono ?_); rintro e w1 ⟨rfl, hb⟩; have HS1 := Lib.hid (HS0.out.step hb); have HB1 := Lib.hid (HB0.out.trans (hb.mono HB0.out.size)); clear hb)
            | (go_at_call_of 9 (Value.slice pl l.length cl); (with_reducible refine (rightL_any l w1 0 w1.heap.size pl cl (HS1.out.all (l, pl) (by simp)) (Nat.le_refl _) hlc hcl).mono ?_); rintro e w2 ⟨rfl, hb⟩; rw [← HA.out]; have HS2 := Lib.hid (HS1.out.step hb); have HB2 := Lib.hid (HB1.out.trans (hb.mono HB1.out.size)); clear hb HS1)
            | (go_at_call_of 9 (Value.slice pm m.length cm); (with_reducible refine (rightL_any m w2 0 w2.heap.size pm cm (HS2.out.all (m, pm) (by simp)) (Nat.le_refl _) hmc hcm).mono ?_); rintro e w3 ⟨rfl, hb⟩; rw [← HBB.out]; have HS3 := Lib.hid (HS2.out.step hb); have HB3 := Lib.hid (HB2.out.trans (hb.mono HB2.out.size)); clear hb HS2; obtain ⟨hx0, hx1, hx2, hx3, hxf⟩ := box4_in w3 w.heap.size _ _ _ _ _ (HS3.out.box (w.heap.size, _) (List.mem_singleton.2 rfl)); clear hxf)
            | (go_at_call 10; (with_reducible refine (right_any t w3 0 w3.heap.size _ (HS3.out.val (t, _) (List.mem_singleton.2 rfl)) (Nat.le_refl _)).mono ?_); rintro e w4 ⟨rfl, hb⟩; rw [← HCC.out]; have HB4 := Lib.hid (HB3.out.trans (hb.mono HB3.out.size)); clear hb hx0 hx1 hx2 hx3))
          go_ret
          exact ⟨rfl, HB4.out⟩
end Go.Proofs.Ytjipchloebbldaa
