/- The document's reading of a whole text; the walk of the statement on the reading of texts. -/
import Derived.Test.YtcinhndidkllbaaDoorRefList
import Derived.Test.YtcinhndidkllbaaDoorSeeAt
import Derived.Test.YtcinhndidkllbaaDoorRead2
import Derived.Deep.RegionHeld3
import Derived.Deep.DeepCutAuto
import Derived.Test.YtcinhndidkllbaaDoorLaw2
import Derived.Test.YtcinhndidkllbaaDoorSameV
namespace Go.Proofs.YtcinhndidkllbaaDoor
open Go.RowKit
set_option maxRecDepth 100000

theorem value_any (s : ByteArray) (hs : s.size ≤ 1000000) : ∀ (d p : Nat), s.size - p ≤ d → ValueAt s p := by
  intro d
  induction d with
  | zero =>
    intro p hd g w hx hp
    exact value_end s p g w hx hp (by omega)
  | succ d ih =>
    intro p hd g w hx hp
    by_cases hps : p < s.size
    · by_cases h5 : (s[p]).toNat = 123
      · exact value_list s p g w hx hps (by omega) h5 (list_of s p hs hps h5 (fun q h1 h2 => ih q (by omega)))
      · by_cases h0 : (s[p]).toNat = 34
        · exact value_str s p g w hx hps (by omega) h0
        by_cases h1 : (s[p]).toNat = 35
        · exact value_obj s p g w hx hps (by omega) h1
        by_cases h2 : (s[p]).toNat = 45
        · exact value_int_neg s p g w hx hps (by omega) h2
        by_cases h3 : 48 ≤ (s[p]).toNat ∧ (s[p]).toNat ≤ 57
        · exact value_int_pos s p g w hx hps (by omega) h3
        by_cases h4 : (s[p]).toNat = 69
        · exact value_err s p g w hx hps (by omega) h4
        by_cases h6 : (s[p]).toNat < 48
        · exact value_other_lo s p g w hx hps (by omega) h0 h1 h2 h6 h4 h5
        · exact value_other_hi s p g w hx hps (by omega) h0 h1 h2 (by omega) h4 h5
    · exact value_end s p g w hx hp hps

theorem drop_inj' {α : Type} {l : List α} {p q : Nat} (hp : p ≤ l.length) (hq : q ≤ l.length) (h : l.drop p = l.drop q) : p = q := by
  have := congrArg List.length h
  simp at this
  omega

abbrev set7 (W : World) (b : Nat) (v0 v1 v2 v3 v4 v5 v6 : Value) : World := ((((((W.setCell ⟨b, 0, none⟩ v0).setCell ⟨b, 1, none⟩ v1).setCell ⟨b, 2, none⟩ v2).setCell ⟨b, 3, none⟩ v3).setCell ⟨b, 4, none⟩ v4).setCell ⟨b, 5, none⟩ v5).setCell ⟨b, 6, none⟩ v6
theorem heap_set7_ (W : World) (b j : Nat) (v0 v1 v2 v3 v4 v5 v6 : Value) (h : j ≠ b) : (set7 W b v0 v1 v2 v3 v4 v5 v6).heap[j]? = W.heap[j]? := by
  unfold set7
  rw [Below.heap_setCell _ _ _ _ h, Below.heap_setCell _ _ _ _ h, Below.heap_setCell _ _ _ _ h, Below.heap_setCell _ _ _ _ h, Below.heap_setCell _ _ _ _ h, Below.heap_setCell _ _ _ _ h, Below.heap_setCell _ _ _ _ h]
theorem below_set4_ {B g : Nat} {a w : World} (h : Below B a w) (hg : B ≤ g) (c0 c1 c2 c3 : Value) : Below B a (set4 w g c0 c1 c2 c3) :=
  (((h.setCell hg c0).setCell hg c1).setCell hg c2).setCell hg c3
theorem keepS {W : World} {b x o : Nat} {v c0 c1 c2 c3 : Value} (hb : b ≠ x) (h : W.cell? ⟨x, 0, none⟩ = some c0 ∧ W.cell? ⟨x, 1, none⟩ = some c1 ∧ W.cell? ⟨x, 2, none⟩ = some c2 ∧ W.cell? ⟨x, 3, none⟩ = some c3) :
    (W.setCell ⟨b, o, none⟩ v).cell? ⟨x, 0, none⟩ = some c0 ∧ (W.setCell ⟨b, o, none⟩ v).cell? ⟨x, 1, none⟩ = some c1 ∧ (W.setCell ⟨b, o, none⟩ v).cell? ⟨x, 2, none⟩ = some c2 ∧ (W.setCell ⟨b, o, none⟩ v).cell? ⟨x, 3, none⟩ = some c3 := by
  have k : ∀ j, (W.setCell ⟨b, o, none⟩ v).cell? ⟨x, j, none⟩ = W.cell? ⟨x, j, none⟩ := fun j => World.cell?_of_block (Below.heap_setCell _ _ _ _ (by show x ≠ b; omega))
  rw [k, k, k, k]; exact h
/-- What a text comes to. -/
inductive Out where
  | bad (p : Nat)
  | fine (t : T)
  | odd (t : T)
def OutIs (s : ByteArray) : Out → Prop
  | .bad p => p ≤ s.size ∧ (Go .val s.data.toList (.bad (s.data.toList.drop p)) ∨ ∃ t, Go .val s.data.toList (.ok t (s.data.toList.drop p)) ∧ p < s.size)
  | .fine t => Go .val s.data.toList (.ok t []) ∧ oddCode t = 0
  | .odd t => Go .val s.data.toList (.ok t []) ∧ oddCode t ≠ 0
theorem out_same {s : ByteArray} {a b : Out} (ha : OutIs s a) (hb : OutIs s b) : a = b := by
  have hl : s.data.toList.length = s.size := by simp
  have key : ∀ {p q : Nat}, OutIs s (.bad p) → OutIs s (.bad q) → p = q := fun {p q} ha hb => by
    obtain ⟨h1, h2⟩ := ha
    obtain ⟨k1, k2⟩ := hb
    rcases h2 with h2 | ⟨t, h2, _⟩ <;> rcases k2 with k2 | ⟨u, k2, _⟩ <;> have e := Go.det h2 k2
    · injection e with e; exact drop_inj' (by omega) (by omega) e
    · cases e
    · cases e
    · injection e with _ e; exact drop_inj' (by omega) (by omega) e
  have no : ∀ {p : Nat} {t : T}, OutIs s (.bad p) → Go .val s.data.toList (.ok t []) → False := fun {p t} ha hb => by
    obtain ⟨h1, h2 | ⟨u, h2, h3⟩⟩ := ha
    · cases Go.det h2 hb
    · have e := Go.det h2 hb
      injection e with _ e
      have := congrArg List.length e
      simp at this; omega
  cases a with
  | bad p =>
    cases b with
    | bad q => rw [key ha hb]
    | fine t => exact (no ha hb.1).elim
    | odd t => exact (no ha hb.1).elim
  | fine t =>
    cases b with
    | bad q => exact (no hb ha.1).elim
    | fine u => have e := Go.det ha.1 hb.1; injection e with e _; rw [e]
    | odd u => have e := Go.det ha.1 hb.1; injection e with e _; subst e; exact absurd ha.2 hb.2
  | odd t =>
    cases b with
    | bad q => exact (no hb ha.1).elim
    | fine u => have e := Go.det ha.1 hb.1; injection e with e _; subst e; exact absurd hb.2 ha.2
    | odd u => have e := Go.det ha.1 hb.1; injection e with e _; rw [e]

/-- What the value at the text's beginning comes to. -/
def RefRes (s : ByteArray) (p' : Nat) (W : World) (lo hi : Nat) (v : Value) : Bool → Prop
  | true => ∃ t, Go .val s.data.toList (.ok t (s.data.toList.drop p')) ∧ Rep W lo hi t v
  | false => OutIs s (.bad p')
/-- What the document's reading answers. -/
def RefAns (w w' : World) (e : Ending) : Out → Prop
  | .bad p => e = .returned (.tuple #[zeroV, fp 111 p])
  | .fine t => ∃ v, e = .returned (.tuple #[v, fv 0]) ∧ Rep w' w.heap.size w'.heap.size t v
  | .odd t => e = .returned (.tuple #[zeroV, fv (oddCode t)])

abbrev fbox : Obj := .cells #[.int .i64 0, .bool false, .int .i64 0, .int .i64 0, .int .i64 0, .string ⟨#[]⟩, .slice none 0 0] 42 (0, 0)

set_option maxHeartbeats 4000000 in
theorem refRead_any (s : ByteArray) (w : World) (hs : s.size ≤ 1000000) :
    Calls Tryd.prog 26 #[.string s] w fun e w' => Below w.heap.size w w' ∧ ∃ o, OutIs s o ∧ RefAns w w' e o := by
  have HV := Lib.hid (value_any s hs (s.size - 0) 0 (Nat.le_refl _))
  go_enter Tryd.func26, Tryd.ntmps26
  have hR : ((w.alloc zbox).alloc fbox).heap.size = w.heap.size + 2 := by simp
  have HR := Lib.hid (show RrIs (((w.alloc (.cells #[.int .i64 0, .int .i64 0, .string ⟨#[]⟩, .slice none 0 0] 26)).alloc (.cells #[.int .i64 0, .bool false, .int .i64 0, .int .i64 0, .int .i64 0, .string ⟨#[]⟩, .slice none 0 0] 42)).alloc (.cells #[.string s, .int .i64 0] 69)) (w.heap.size + 2) s 0 from by
    have h := heap_alloc_new ((w.alloc zbox).alloc fbox) (.cells #[.string s, .int .i64 0] 69)
    rw [hR] at h; exact h)
  have HZ := Lib.hid (show (((w.alloc (.cells #[.int .i64 0, .int .i64 0, .string ⟨#[]⟩, .slice none 0 0] 26)).alloc (.cells #[.int .i64 0, .bool false, .int .i64 0, .int .i64 0, .int .i64 0, .string ⟨#[]⟩, .slice none 0 0] 42)).alloc (.cells #[.string s, .int .i64 0] 69)).heap[w.heap.size]? = some zbox from heap_alloc_ _ _ _ _ (heap_alloc_ _ _ _ _ (heap_alloc_new w zbox)))
  have HF := Lib.hid (show (((w.alloc (.cells #[.int .i64 0, .int .i64 0, .string ⟨#[]⟩, .slice none 0 0] 26)).alloc (.cells #[.int .i64 0, .bool false, .int .i64 0, .int .i64 0, .int .i64 0, .string ⟨#[]⟩, .slice none 0 0] 42)).alloc (.cells #[.string s, .int .i64 0] 69)).heap[w.heap.size + 1]? = some fbox from heap_alloc_ _ _ _ _ (by
    have h := heap_alloc_new (w.alloc zbox) fbox
    rw [World.size_alloc] at h; exact h))
  have HB := Lib.hid ((((Below.refl w.heap.size w).alloc (Nat.le_refl _) (.cells #[.int .i64 0, .int .i64 0, .string ⟨#[]⟩, .slice none 0 0] 26)).alloc (by simp) (.cells #[.int .i64 0, .bool false, .int .i64 0, .int .i64 0, .int .i64 0, .string ⟨#[]⟩, .slice none 0 0] 42)).alloc (by simp; omega) (.cells #[.string s, .int .i64 0] 69))
  clear hR
  go_upto_region 2 with fail
  generalize (((w.alloc (.cells #[.int .i64 0, .int .i64 0, .string ⟨#[]⟩, .slice none 0 0] 26)).alloc (.cells #[.int .i64 0, .bool false, .int .i64 0, .int .i64 0, .int .i64 0, .string ⟨#[]⟩, .slice none 0 0] 42)).alloc (.cells #[.string s, .int .i64 0] 69)) = W1 at *
  have hlt1 := HR.out.lt
  go_upto_region 3 with (go_at_call 46; go_must (refine (HV.out (w.heap.size + 2) _ HR.out (Nat.zero_le _)).mono ?_); rintro e w2 ⟨p', k, n, u, yp, yl, yc, is, rfl, hp', hr2, hb2, hres⟩; have HR2 := Lib.hid hr2; have HB2 := Lib.hid hb2; have HRS := Lib.hid hres; clear hr2 hb2 hres)
  have hz2 := HB2.out.size
  have HX3 := Lib.hid (heap_alloc_new w2 (.cells #[.int .i64 k, .int .i64 n, .string u, .slice yp yl yc] 26))
  have HR3 := Lib.hid (HR2.out.alloc (.cells #[.int .i64 k, .int .i64 n, .string u, .slice yp yl yc] 26))
  have HZ3 := Lib.hid (heap_alloc_ w2 _ (.cells #[.int .i64 k, .int .i64 n, .string u, .slice yp yl yc] 26) _ ((HB2.out.block w.heap.size (by omega) (by omega)).trans HZ.out))
  have HF3 := Lib.hid (heap_alloc_ w2 _ (.cells #[.int .i64 k, .int .i64 n, .string u, .slice yp yl yc] 26) _ ((HB2.out.block (w.heap.size + 1) (by omega) (by omega)).trans HF.out))
  have HB3 : Hid (Below w.heap.size w (w2.alloc (.cells #[.int .i64 k, .int .i64 n, .string u, .slice yp yl yc] 26))) := (HB.out.trans (HB2.out.below (by omega) (by omega))).alloc (by omega) _
  have hW3 : (w2.alloc (.cells #[.int .i64 k, .int .i64 n, .string u, .slice yp yl yc] 26)).heap.size = w2.heap.size + 1 := by simp
  have HRS3 : Hid (RefRes s p' (w2.alloc (.cells #[.int .i64 k, .int .i64 n, .string u, .slice yp yl yc] 26)) (w.heap.size + 2) w2.heap.size (vf k n u yp yl yc) is) := by
    cases is with
    | true =>
      obtain ⟨t, h1, h2⟩ := HRS.out
      exact ⟨t, h1, (RepP.rep (lo := w.heap.size + 2) (hi := w2.heap.size) (fun b hb => ⟨by omega, hb.2⟩) _ _ h2).alloc (Nat.le_refl _) _⟩
    | false =>
      rcases HRS.out with h1 | ⟨t, h1, h2⟩
      · exact ⟨hp', .inl h1⟩
      · refine ⟨hp', .inr ⟨t, h1, ?_⟩⟩
        rcases Nat.lt_or_ge p' s.size with h | h
        · exact h
        · rw [hdD_end (by omega)] at h2; cases h2
  clear HRS HR2 HB2 HZ HF HB HR HV
  generalize (w2.alloc (.cells #[.int .i64 k, .int .i64 n, .string u, .slice yp yl yc] 26)) = W3 at *
  generalize w2.heap.size = b2 at *
  clear w2
  have hb2w : w.heap.size + 2 < b2 := by omega
  clear hlt1 hz2
  obtain ⟨x0, x1, xf, hlt3⟩ := HR3.out.open
  clear xf
  have hne1 : w.heap.size + 1 ≠ w.heap.size := by omega
  obtain ⟨y0, y1, y2, y3, _⟩ := box4_in _ _ _ _ _ _ _ HX3.out
  have hfail : ∀ (q : Nat) (w6 : World), OutIs s (.bad q) → Below W3.heap.size W3 w6 → Below w.heap.size w (set7 (set4 w6 w.heap.size (.int .i64 0) (.int .i64 0) (.string ⟨#[]⟩) (.slice none 0 0)) (w.heap.size + 1) (.int .i64 111) (.bool true) (.int .i64 q) (.int .i64 0) (.int .i64 0) (.string ByteArray.empty) (.slice none 0 0)) ∧ ∃ o, OutIs s o ∧ RefAns w (set7 (set4 w6 w.heap.size (.int .i64 0) (.int .i64 0) (.string ⟨#[]⟩) (.slice none 0 0)) (w.heap.size + 1) (.int .i64 111) (.bool true) (.int .i64 q) (.int .i64 0) (.int .i64 0) (.string ByteArray.empty) (.slice none 0 0)) (.returned (.tuple #[zeroV, fp 111 q])) o := fun q w6 ho hb =>
    ⟨below_set7 (below_set4_ (HB3.out.trans (hb.mono HB3.out.size)) (Nat.le_refl _) _ _ _ _) (by omega) _ _ _ _ _ _ _, .bad q, ho, rfl⟩
  have HFAIL := Lib.hid hfail; clear hfail
  have HP := Lib.hid (fun (q : Int) (W : World) => placed_any 111 q (by omega) W)
  unfold fp at HP
  cases is with
  | false =>
    go_wp2_with (go_at_call 47; refine (HP.out _ _).mono ?_; rintro e w6 ⟨rfl, hb6⟩; obtain ⟨z0, z1, z2, z3, zf⟩ := box4_in _ _ _ _ _ _ _ (heap_old HZ3.out hb6); obtain ⟨q0, q1, q2, q3, q4, q5, q6, qf⟩ := box7_in _ _ _ _ _ _ _ _ _ _ (heap_old HF3.out hb6); have zf0 := zf 0; have zf1 := zf 1; have zf2 := zf 2; have zf3 := zf 3; have qf0 := qf 0; have qf1 := qf 1; have qf2 := qf 2; have qf3 := qf 3; have qf4 := qf 4; have qf5 := qf 5; have qf6 := qf 6; have HB6 := Lib.hid hb6; clear zf qf hb6)
    refine bodyPost_ret (v := .tuple #[zeroV, fp 111 p']) (by unfold fp; simp [results, Tryd.results26, go_sem, z0, z1, z2, z3, q0, q1, q2, q3, q4, q5, q6]) rfl ?_
    exact HFAIL.out p' w6 HRS3.out HB6.out
  | true =>
    obtain ⟨t, hG, hrep⟩ := HRS3.out
    have HG := Lib.hid hG
    have HRP := Lib.hid hrep
    clear hG hrep HRS3
    by_cases hps : p' < s.size
    · have hpI : (p' : Int) < (s.size : Int) := by omega
      have HO := Lib.hid (show OutIs s (.bad p') from ⟨hp', .inr ⟨t, HG.out, hps⟩⟩)
      go_wp2_with (go_at_call 47; refine (HP.out _ _).mono ?_; rintro e w6 ⟨rfl, hb6⟩; obtain ⟨z0, z1, z2, z3, zf⟩ := box4_in _ _ _ _ _ _ _ (heap_old HZ3.out hb6); obtain ⟨q0, q1, q2, q3, q4, q5, q6, qf⟩ := box7_in _ _ _ _ _ _ _ _ _ _ (heap_old HF3.out hb6); have zf0 := zf 0; have zf1 := zf 1; have zf2 := zf 2; have zf3 := zf 3; have qf0 := qf 0; have qf1 := qf 1; have qf2 := qf 2; have qf3 := qf 3; have qf4 := qf 4; have qf5 := qf 5; have qf6 := qf 6; have HB6 := Lib.hid hb6; clear zf qf hb6)
      refine bodyPost_ret (v := .tuple #[zeroV, fp 111 p']) (by unfold fp; simp [results, Tryd.results26, go_sem, z0, z1, z2, z3, q0, q1, q2, q3, q4, q5, q6]) rfl ?_
      exact HFAIL.out p' w6 HO.out HB6.out
    · have hpI : decide ((p' : Int) < (s.size : Int)) = false := by simp; omega
      have hpN : decide (p' < s.size) = false := by simp; omega
      have HG2 := Lib.hid (show Go .val s.data.toList (.ok t []) from by have h := HG.out; rw [drop_end hps] at h; exact h)
      have HVD := Lib.hid (fun (W : World) (h : Below W3.heap.size W3 W) => rvalid_any t W (w.heap.size + 2) b2 _ (HRP.out.below h (by omega)) (by have := h.size; omega))
      obtain ⟨c, hc⟩ : ∃ c, oddCode t = c := ⟨_, rfl⟩
      rw [hc] at HVD
      clear HG HP HFAIL
      by_cases h0 : c = 0
      · subst h0
        have HN := Lib.hid (fun (W : World) => none_any W)
        unfold fv at HN
        go_upto_region 8 with (go_at_call 41; refine (HVD.out _ (Below.refl _ _)).mono ?_; rintro e w5 ⟨rfl, hb5⟩; have HB5 := Lib.hid hb5; have HX5 := Lib.hid (heap_old HX3.out hb5); clear hb5)
        clear y0 y1 y2 y3 x0 x1
        obtain ⟨y0, y1, y2, y3, yf⟩ := box4_in _ _ _ _ _ _ _ HX5.out
        clear yf
        have hnb : w.heap.size ≠ b2 := by omega
        have hnc : w.heap.size + 1 ≠ b2 := by omega
        have d0 : w5.drew.cell? ⟨b2, 0, none⟩ = some (.int .i64 k) := y0
        have d1 : w5.drew.cell? ⟨b2, 1, none⟩ = some (.int .i64 n) := y1
        have d2 : w5.drew.cell? ⟨b2, 2, none⟩ = some (.string u) := y2
        have d3 : w5.drew.cell? ⟨b2, 3, none⟩ = some (.slice yp yl yc) := y3
        go_region_held3 (fun w' => w'.cell? ⟨b2, 0, none⟩ = some (.int .i64 k) ∧ w'.cell? ⟨b2, 1, none⟩ = some (.int .i64 n) ∧ w'.cell? ⟨b2, 2, none⟩ = some (.string u) ∧ w'.cell? ⟨b2, 3, none⟩ = some (.slice yp yl yc)) (first
            | with_reducible exact ⟨d0, d1, d2, d3⟩
            | with_reducible exact ⟨k0, k1, k2, k3⟩
            | with_reducible exact (keepS hnb (keepS hnb (keepS hnb (keepS hnb ⟨k0, k1, k2, k3⟩))))
            | with_reducible exact (keepS hnc (keepS hnc (keepS hnc (keepS hnc (keepS hnc (keepS hnc (keepS hnc ⟨k0, k1, k2, k3⟩)))))))
            | with_reducible exact (keepS hnc (keepS hnc (keepS hnc (keepS hnc (keepS hnc (keepS hnc (keepS hnc (keepS hnb (keepS hnb (keepS hnb (keepS hnb ⟨k0, k1, k2, k3⟩)))))))))))
            | with_reducible exact (keepS hnb (keepS hnb (keepS hnb (keepS hnb (keepS hnc (keepS hnc (keepS hnc (keepS hnc (keepS hnc (keepS hnc (keepS hnc ⟨k0, k1, k2, k3⟩)))))))))))
            | with_reducible exact (keepS hnb (keepS hnb (keepS hnb (keepS hnb ⟨d0, d1, d2, d3⟩))))) (first
          | (go_at_call 49; refine (HN.out _).mono ?_; rintro e w6 ⟨rfl, hb6'⟩; obtain ⟨k0, k1, k2, k3, kf⟩ := box4_in _ _ _ _ _ _ _ (heap_old (heap_drew HX5.out) hb6'); clear kf; have hb6 := HB5.out.drew.trans (hb6'.mono HB5.out.size); clear hb6'; obtain ⟨z0, z1, z2, z3, zf⟩ := box4_in _ _ _ _ _ _ _ (heap_old HZ3.out hb6); obtain ⟨q0, q1, q2, q3, q4, q5, q6, qf⟩ := box7_in _ _ _ _ _ _ _ _ _ _ (heap_old HF3.out hb6); have zf0 := zf 0; have zf1 := zf 1; have zf2 := zf 2; have zf3 := zf 3; have qf0 := qf 0; have qf1 := qf 1; have qf2 := qf 2; have qf3 := qf 3; have qf4 := qf 4; have qf5 := qf 5; have qf6 := qf 6; have HB6 := Lib.hid hb6; clear zf qf hb6))
        all_goals
          go_wp2_with fail
          refine bodyPost_ret (v := .tuple #[vf k n u yp yl yc, fv 0]) (by unfold fv; simp [results, Tryd.results26, go_sem, z0, z1, z2, z3, q0, q1, q2, q3, q4, q5, q6]) rfl ?_
          refine ⟨below_set7 (below_set4_ (HB3.out.trans (HB6.out.mono HB3.out.size)) (Nat.le_refl _) _ _ _ _) (by omega) _ _ _ _ _ _ _, .fine t, ⟨HG2.out, hc⟩, _, rfl, ?_⟩
          have hsz6 := HB6.out.size
          refine Rep.keep (w := W3) (lo := w.heap.size + 2) (hi := b2) (by omega) (by simp only [World.size_setCell]; omega) (fun q hl hh => ?_) _ _ HRP.out
          exact World.cell?_of_block ((heap_set7_ _ _ _ _ _ _ _ _ _ _ (by omega)).trans ((heap_set4' _ _ _ _ _ _ _ _ _ _ _ (by omega)).trans (HB6.out.block q.block (by omega))))
      · have hcb : (c != 0) = true := by simpa using h0
        have HBR := Lib.hid (fun (W : World) => bare_any c W)
        unfold fv at HBR
        go_wp2_with (first
          | (go_at_call 41; refine (HVD.out _ (Below.refl _ _)).mono ?_; rintro e w5 ⟨rfl, hb5⟩; have HB5 := Lib.hid hb5; clear hb5)
          | (go_at_call 48; refine (HBR.out _).mono ?_; rintro e w6 ⟨rfl, hb6'⟩; have hb6 := HB5.out.trans (hb6'.mono HB5.out.size); clear hb6'; obtain ⟨z0, z1, z2, z3, zf⟩ := box4_in _ _ _ _ _ _ _ (heap_old HZ3.out hb6); obtain ⟨q0, q1, q2, q3, q4, q5, q6, qf⟩ := box7_in _ _ _ _ _ _ _ _ _ _ (heap_old HF3.out hb6); have zf0 := zf 0; have zf1 := zf 1; have zf2 := zf 2; have zf3 := zf 3; have qf0 := qf 0; have qf1 := qf 1; have qf2 := qf 2; have qf3 := qf 3; have qf4 := qf 4; have qf5 := qf 5; have qf6 := qf 6; have HB6 := Lib.hid hb6; clear zf qf hb6))
        refine bodyPost_ret (v := .tuple #[zeroV, fv c]) (by unfold fv; simp [results, Tryd.results26, go_sem, z0, z1, z2, z3, q0, q1, q2, q3, q4, q5, q6]) rfl ?_
        exact ⟨below_set7 (below_set4_ (HB3.out.trans (HB6.out.mono HB3.out.size)) (Nat.le_refl _) _ _ _ _) (by omega) _ _ _ _ _ _ _, .odd t, ⟨HG2.out, by rw [hc]; exact h0⟩, by rw [← hc]; rfl⟩

/-- Which of api's errors a value that is not right is told with. -/
def vIdxR (t : T) : Option Nat := if oddCode t = 0 then none else some (oddCode t - 101).toNat
theorem vIdxR_some {t : T} (h : oddCode t ≠ 0) : ∃ k : Nat, k < 17 ∧ (101 : Int) + k = oddCode t ∧ ∀ ad : Nat → Addr, vRes (ev (ad 11)) (ev (ad 3)) (ev (ad 4)) (ev (ad 2)) t = ev (ad k) := by
  have hcd := odd_codes t 1 0
  unfold oddCode at h ⊢
  have key : ∀ (c : Int) (k : Nat), (odd t 1 0).1 = c → c ≠ 0 → (101 : Int) + k = c → (∀ ad : Nat → Addr, errOf (ev (ad 11)) (ev (ad 3)) (ev (ad 4)) (ev (ad 2)) c = ev (ad k)) → k < 17 → ∃ k : Nat, k < 17 ∧ (101 : Int) + k = (odd t 1 0).1 ∧ ∀ ad : Nat → Addr, vRes (ev (ad 11)) (ev (ad 3)) (ev (ad 4)) (ev (ad 2)) t = ev (ad k) := fun c k hc h0 hk he hlt => by
    refine ⟨k, hlt, by omega, fun ad => ?_⟩
    unfold vRes
    rw [if_neg h, hc]
    exact he ad
  rcases hcd with hc | hc | hc | hc | hc
  · exact absurd hc h
  · exact key 103 2 hc (by omega) (by omega) (fun ad => by unfold errOf; simp) (by omega)
  · exact key 104 3 hc (by omega) (by omega) (fun ad => by unfold errOf; simp) (by omega)
  · exact key 105 4 hc (by omega) (by omega) (fun ad => by unfold errOf; simp) (by omega)
  · exact key 112 11 hc (by omega) (by omega) (fun ad => by unfold errOf; simp) (by omega)

theorem cnt_tx : ∀ t : T, okT t → cnt t ≤ (tx t).length := by
  refine T.ind_ (fun k n s l ih h => ?_)
  by_cases hk : k = 4
  · subst hk
    have hl : okA l := by
      rw [okT] at h
      rcases h with h | h | h | h | h
      · omega
      · omega
      · omega
      · omega
      · exact h.2.2.2
    have hm := okA_mem hl
    have hr : ∀ l : List T, (∀ t ∈ l, okT t → cnt t ≤ (tx t).length) → (∀ t ∈ l, okT t) → cntA l ≤ (txr l).length := by
      intro l
      induction l with
      | nil => intro _ _; simp [cntA, txr]
      | cons x r ihr =>
        intro h1 h2
        have a1 := h1 x (by simp) (h2 x (by simp))
        have a2 := ihr (fun t ht => h1 t (by simp [ht])) (fun t ht => h2 t (by simp [ht]))
        simp only [cntA, txr, List.length_cons, List.length_append]; omega
    rw [tx4, cnt, List.length_cons, List.length_append]
    cases l with
    | nil => simp [cntA, txs]
    | cons x r =>
      have a1 := ih x (by simp) (hm x (by simp))
      have a2 := hr r (fun t ht => ih t (by simp [ht])) (fun t ht => hm t (by simp [ht]))
      simp only [cntA, txs, List.length_append, List.length_cons, List.length_nil]; omega
  · have h1 := (tx_head h []).2
    have hl : l = [] := by
      rw [okT] at h
      rcases h with h | h | h | h | h
      · exact h.2.2.2
      · exact h.2.2.2.2
      · exact h.2.2.1
      · exact h.2.2.2.2
      · exact absurd h.1 hk
    subst hl
    rw [cnt, cntA]; omega

/-- Text that says no right value: the error is val.Valid's. -/
theorem read_odd (ad : Nat → Addr) (aY : Addr) (hP : Ptrs (ev (ad 11)) (ev (ad 3)) (ev (ad 4)) (ev (ad 2))) (s : ByteArray) (w : World) (hs : s.size ≤ 500) (he : Env w (ev (ad 11)) (ev (ad 3)) (ev (ad 4)) (ev (ad 2)) aY) (t : T) (k : Nat)
    (hv : vRes (ev (ad 11)) (ev (ad 3)) (ev (ad 4)) (ev (ad 2)) t = ev (ad k)) (ho : OutIs s (.odd t)) :
    Calls Tryd.prog 21 #[.string s] w fun e w' => e = .returned (.tuple #[zeroV, ev (ad k)]) ∧ Below w.heap.size w w' := by
  have hl : s.data.toList.length = s.size := by simp
  refine (read_any _ _ _ _ aY hP s w (by omega) he.errs he.syn he.names).mono fun e w' hq => ?_
  obtain ⟨hb, h⟩ := hq
  refine ⟨?_, hb⟩
  rcases h with ⟨p, b, hp, h, _⟩ | ⟨t1, t2, h1, h2, h3⟩
  · have := out_same (a := .bad p) (b := .odd t) ⟨hp, h⟩ ho
    cases this
  · have e1 := Go.det ho.1 h1
    injection e1 with e1 _
    subst e1
    obtain ⟨hs1, hok⟩ := h1.sound
    have hc := cnt_tx t hok
    rw [List.append_nil] at hs1
    rw [← hs1, hl] at hc
    rcases h2 with ⟨_, rfl⟩ | ⟨h2, _⟩
    · rcases h3 with ⟨h3, _⟩ | ⟨_, h3⟩
      · exact absurd h3 ho.2
      · rw [h3, hv]
    · omega

theorem rep_zero (W : World) : Hid (Rep W 0 0 (.mk 0 0 ByteArray.empty []) (.agg #[.int .i64 0, .int .i64 0, .string ⟨#[]⟩, .slice none 0 0])) :=
  Rep.mk_ (l := []) (by unfold I64; omega) (by unfold I64; omega) (by decide) (Nat.le_refl _) (by simp) (by unfold RepAll; trivial)

theorem refAns_of {s : ByteArray} {o : Out} (ho : OutIs s o) (hs : s.size ≤ 1000000) (w : World) :
    Calls Tryd.prog 26 #[.string s] w fun e w' => Below w.heap.size w w' ∧ RefAns w w' e o :=
  (refRead_any s w hs).mono fun _ _ ⟨hb, _, h1, h2⟩ => ⟨hb, out_same h1 ho ▸ h2⟩

set_option maxHeartbeats 1000000 in
theorem reads_long (eD eM eR eS : Value) (aY : Addr) (hP : Ptrs eD eM eR eS) (s : ByteArray) (w : World) (he : Env w eD eM eR eS aY) (hs : 500 < s.size) (_hsm : s.size ≤ 9223372036854775807) :
    Calls Tryd.prog 5 #[.string s] w fun e w' => e = .returned (.bool true) ∧ Below w.heap.size w w' := by
  have HE := Lib.hid he; clear he
  have hsd : decide ((500 : Int) < (s.size : Int)) = true := by simp; omega
  go_enter Tryd.func5, Tryd.ntmps5
  go_wp2_with (go_at_call 18; refine (first2_any eD eM eR eS aY hP _ HE.out).mono ?_; rintro e w1 ⟨rfl, hb1⟩; have HB1 := Lib.hid hb1; clear hb1)
  go_ret
  exact ⟨rfl, HB1.out⟩

set_option maxHeartbeats 1000000 in
/-- The way of a text that is none. -/
theorem reads_bad (ad : Nat → Addr) (hP : Ptrs (ev (ad 11)) (ev (ad 3)) (ev (ad 4)) (ev (ad 2))) (s : ByteArray) (w : World) (hs : s.size ≤ 500) (he : Env w (ev (ad 11)) (ev (ad 3)) (ev (ad 4)) (ev (ad 2)) (ad 10)) (hS : Sents w ad) (p : Nat) (ho : OutIs s (.bad p)) :
    Calls Tryd.prog 5 #[.string s] w fun e w' => e = .returned (.bool true) ∧ Below w.heap.size w w' := by
  have HE := Lib.hid he; clear he
  have HSS := Lib.hid hS; clear hS
  have hsd : decide ((500 : Int) < (s.size : Int)) = false := by simp; omega
  have C1 := Lib.hid (fun (W : World) (h : Env W (ev (ad 11)) (ev (ad 3)) (ev (ad 4)) (ev (ad 2)) (ad 10)) => read_bad _ _ _ _ (ad 10) hP s W (by omega) h p ho.1 ho.2)
  have C2 : Hid (∀ W, Calls Tryd.prog 26 #[.string s] W fun e w' => Below W.heap.size W w' ∧ e = .returned (.tuple #[zeroV, .agg #[.int .i64 111, .bool true, .int .i64 p, .int .i64 0, .int .i64 0, .string ByteArray.empty, .slice none 0 0]])) := fun W => (refAns_of ho (by omega) W).mono fun _ _ h => h
  have CS : Hid (∀ (W : World) (b : Nat), Sents W ad → W.heap[b]? = some (.cells #[.int .i64 p, ev (ad 10)] 65 (0, 0)) → Calls Tryd.prog 27 #[.iface 63 (.pointer (some ⟨b, 0, none⟩)), .agg #[.int .i64 111, .bool true, .int .i64 p, .int .i64 0, .int .i64 0, .string ByteArray.empty, .slice none 0 0]] W fun e w' => e = .returned (.bool true) ∧ Below W.heap.size W w') := fun W b h1 h2 => seeSame_at ad 10 (by omega) b (p : Int) W h1 h2
  clear ho
  have hEq := Lib.hid (eqV_self (.mk 0 0 ByteArray.empty []))
  go_enter Tryd.func5, Tryd.ntmps5
  go_wp2_with (first
    | (go_at_call 18; refine (first2_any _ _ _ _ _ hP _ HE.out).mono ?_; rintro e w1 ⟨rfl, hb1⟩; have HB1 := Lib.hid hb1; clear hb1)
    | (go_at_call 21; refine (C1.out _ (HE.out.below HB1.out)).mono ?_; rintro e w2 ⟨hb2, b, rfl, hbl, hbx⟩; have HB2 := Lib.hid (HB1.out.trans (hb2.mono HB1.out.size)); have HVB := Lib.hid (heap_alloc_new w2 (.cells #[.int .i64 0, .int .i64 0, .string ⟨#[]⟩, .slice none 0 0] 26)); have HBA := Lib.hid (heap_alloc_ _ _ (.cells #[.int .i64 0, .int .i64 0, .string ⟨#[]⟩, .slice none 0 0] 26) _ hbx); clear hb2 hbx hbl)
    | (go_at_call 26; refine (C2.out _).mono ?_; rintro e w3 ⟨hb3, rfl⟩; have HV3 := Lib.hid (heap_old HVB.out hb3); have HB3 := Lib.hid ((HB2.out.alloc HB2.out.size (.cells #[.int .i64 0, .int .i64 0, .string ⟨#[]⟩, .slice none 0 0] 26)).trans (hb3.mono (by have := HB2.out.size; simp; omega))); have HV4 := Lib.hid (heap_alloc_ _ _ (.cells #[.int .i64 111, .bool true, .int .i64 p, .int .i64 0, .int .i64 0, .string ByteArray.empty, .slice none 0 0] 42) _ (heap_alloc_ _ _ (.cells #[.int .i64 0, .int .i64 0, .string ⟨#[]⟩, .slice none 0 0] 26) _ HV3.out)); have HW4 := Lib.hid (heap_alloc_ _ _ (.cells #[.int .i64 111, .bool true, .int .i64 p, .int .i64 0, .int .i64 0, .string ByteArray.empty, .slice none 0 0] 42) _ (heap_alloc_new w3 (.cells #[.int .i64 0, .int .i64 0, .string ⟨#[]⟩, .slice none 0 0] 26))); have HB4 := Lib.hid ((HB3.out.alloc HB3.out.size (.cells #[.int .i64 0, .int .i64 0, .string ⟨#[]⟩, .slice none 0 0] 26)).alloc (by have := HB3.out.size; simp; omega) (.cells #[.int .i64 111, .bool true, .int .i64 p, .int .i64 0, .int .i64 0, .string ByteArray.empty, .slice none 0 0] 42)); have HA4 := Lib.hid (heap_alloc_ _ _ (.cells #[.int .i64 111, .bool true, .int .i64 p, .int .i64 0, .int .i64 0, .string ByteArray.empty, .slice none 0 0] 42) _ (heap_alloc_ _ _ (.cells #[.int .i64 0, .int .i64 0, .string ⟨#[]⟩, .slice none 0 0] 26) _ (heap_old HBA.out hb3))); clear HV3; clear hb3)
    | (go_at_call 27; refine (CS.out _ b (HSS.out.below HB4.out) HA4.out).mono ?_; rintro e w5 ⟨rfl, hb5⟩; obtain ⟨y0, y1, y2, y3, yf⟩ := box4_in _ _ _ _ _ _ _ (heap_old HV4.out hb5); obtain ⟨z0, z1, z2, z3, zf⟩ := box4_in _ _ _ _ _ _ _ (heap_old HW4.out hb5); have HV5 := Lib.hid (heap_old HV4.out hb5); have HB5 := Lib.hid (HB4.out.trans (hb5.mono HB4.out.size)); clear yf zf; clear hb5)
    | (go_at_call 25; refine (sameValue_any (.mk 0 0 ByteArray.empty []) (.mk 0 0 ByteArray.empty []) _ 0 0 0 0 _ _ (rep_zero _).out (Nat.zero_le _) (rep_zero _).out (Nat.zero_le _)).mono ?_; rintro e w6 ⟨rfl, hb6⟩; rw [hEq.out]; have HB6 := Lib.hid (HB5.out.trans (hb6.mono HB5.out.size)); clear hb6))
  go_ret
  exact ⟨rfl, HB6.out⟩

set_option maxHeartbeats 1000000 in
/-- The way of a text of what is not right. -/
theorem reads_odd (ad : Nat → Addr) (hP : Ptrs (ev (ad 11)) (ev (ad 3)) (ev (ad 4)) (ev (ad 2))) (s : ByteArray) (w : World) (hs : s.size ≤ 500) (he : Env w (ev (ad 11)) (ev (ad 3)) (ev (ad 4)) (ev (ad 2)) (ad 10)) (hS : Sents w ad) (t : T) (ho : OutIs s (.odd t)) :
    Calls Tryd.prog 5 #[.string s] w fun e w' => e = .returned (.bool true) ∧ Below w.heap.size w w' := by
  have HE := Lib.hid he; clear he
  have HSS := Lib.hid hS; clear hS
  have hsd : decide ((500 : Int) < (s.size : Int)) = false := by simp; omega
  obtain ⟨k, hk, hkc, hkv⟩ := vIdxR_some ho.2
  have C1 : Hid (∀ W, Env W (ev (ad 11)) (ev (ad 3)) (ev (ad 4)) (ev (ad 2)) (ad 10) → Calls Tryd.prog 21 #[.string s] W fun e w' => e = .returned (.tuple #[zeroV, .iface 129 (.pointer (some (ad k)))]) ∧ Below W.heap.size W w') := fun W h => read_odd ad (ad 10) hP s W hs h t k (hkv ad) ho
  obtain ⟨c, hc⟩ : ∃ c, oddCode t = c := ⟨_, rfl⟩
  have C2 : Hid (∀ W, Calls Tryd.prog 26 #[.string s] W fun e w' => Below W.heap.size W w' ∧ e = .returned (.tuple #[zeroV, .agg #[.int .i64 c, .bool false, .int .i64 0, .int .i64 0, .int .i64 0, .string ByteArray.empty, .slice none 0 0]])) := fun W => (refAns_of ho (by omega) W).mono fun _ _ h => ⟨h.1, h.2.trans (by rw [hc]; rfl)⟩
  have CS : Hid (∀ (W : World), Sents W ad → Calls Tryd.prog 27 #[.iface 129 (.pointer (some (ad k))), .agg #[.int .i64 c, .bool false, .int .i64 0, .int .i64 0, .int .i64 0, .string ByteArray.empty, .slice none 0 0]] W fun e w' => e = .returned (.bool true) ∧ Below W.heap.size W w') := fun W h => (seeSame_any ad (some k) (fun j hj => by injection hj with hj; omega) c W h).mono fun _ _ h => ⟨h.1.trans (by rw [show errCode (some k) = c from by rw [← hc]; exact hkc]; simp), h.2⟩
  clear ho hc hkc hkv
  have hEq := Lib.hid (eqV_self (.mk 0 0 ByteArray.empty []))
  go_enter Tryd.func5, Tryd.ntmps5
  go_wp2_with (first
    | (go_at_call 18; refine (first2_any _ _ _ _ _ hP _ HE.out).mono ?_; rintro e w1 ⟨rfl, hb1⟩; have HB1 := Lib.hid hb1; clear hb1)
    | (go_at_call 21; refine (C1.out _ (HE.out.below HB1.out)).mono ?_; rintro e w2 ⟨rfl, hb2⟩; have HB2 := Lib.hid (HB1.out.trans (hb2.mono HB1.out.size)); have HVB := Lib.hid (heap_alloc_new w2 (.cells #[.int .i64 0, .int .i64 0, .string ⟨#[]⟩, .slice none 0 0] 26)); clear hb2)
    | (go_at_call 26; refine (C2.out _).mono ?_; rintro e w3 ⟨hb3, rfl⟩; have HV3 := Lib.hid (heap_old HVB.out hb3); have HB3 := Lib.hid ((HB2.out.alloc HB2.out.size (.cells #[.int .i64 0, .int .i64 0, .string ⟨#[]⟩, .slice none 0 0] 26)).trans (hb3.mono (by have := HB2.out.size; simp; omega))); have HV4 := Lib.hid (heap_alloc_ _ _ (.cells #[.int .i64 c, .bool false, .int .i64 0, .int .i64 0, .int .i64 0, .string ByteArray.empty, .slice none 0 0] 42) _ (heap_alloc_ _ _ (.cells #[.int .i64 0, .int .i64 0, .string ⟨#[]⟩, .slice none 0 0] 26) _ HV3.out)); have HW4 := Lib.hid (heap_alloc_ _ _ (.cells #[.int .i64 c, .bool false, .int .i64 0, .int .i64 0, .int .i64 0, .string ByteArray.empty, .slice none 0 0] 42) _ (heap_alloc_new w3 (.cells #[.int .i64 0, .int .i64 0, .string ⟨#[]⟩, .slice none 0 0] 26))); have HB4 := Lib.hid ((HB3.out.alloc HB3.out.size (.cells #[.int .i64 0, .int .i64 0, .string ⟨#[]⟩, .slice none 0 0] 26)).alloc (by have := HB3.out.size; simp; omega) (.cells #[.int .i64 c, .bool false, .int .i64 0, .int .i64 0, .int .i64 0, .string ByteArray.empty, .slice none 0 0] 42)); clear HV3; clear hb3)
    | (go_at_call 27; refine (CS.out _ (HSS.out.below HB4.out)).mono ?_; rintro e w5 ⟨rfl, hb5⟩; obtain ⟨y0, y1, y2, y3, yf⟩ := box4_in _ _ _ _ _ _ _ (heap_old HV4.out hb5); obtain ⟨z0, z1, z2, z3, zf⟩ := box4_in _ _ _ _ _ _ _ (heap_old HW4.out hb5); have HV5 := Lib.hid (heap_old HV4.out hb5); have HB5 := Lib.hid (HB4.out.trans (hb5.mono HB4.out.size)); clear yf zf; clear hb5)
    | (go_at_call 25; refine (sameValue_any (.mk 0 0 ByteArray.empty []) (.mk 0 0 ByteArray.empty []) _ 0 0 0 0 _ _ (rep_zero _).out (Nat.zero_le _) (rep_zero _).out (Nat.zero_le _)).mono ?_; rintro e w6 ⟨rfl, hb6⟩; rw [hEq.out]; have HB6 := Lib.hid (HB5.out.trans (hb6.mono HB5.out.size)); clear hb6))
  go_ret
  exact ⟨rfl, HB6.out⟩

set_option maxHeartbeats 1000000 in
/-- The way of a text of a right value. -/
theorem reads_fine (ad : Nat → Addr) (hP : Ptrs (ev (ad 11)) (ev (ad 3)) (ev (ad 4)) (ev (ad 2))) (s : ByteArray) (w : World) (hs : s.size ≤ 500) (he : Env w (ev (ad 11)) (ev (ad 3)) (ev (ad 4)) (ev (ad 2)) (ad 10)) (hS : Sents w ad) (t : T) (ho : OutIs s (.fine t)) :
    Calls Tryd.prog 5 #[.string s] w fun e w' => e = .returned (.bool true) ∧ Below w.heap.size w w' := by
  have HE := Lib.hid he; clear he
  have HSS := Lib.hid hS; clear hS
  have hsd : decide ((500 : Int) < (s.size : Int)) = false := by simp; omega
  obtain ⟨hst, hok⟩ := ho.1.sound
  rw [List.append_nil] at hst
  have h0 : (odd t 1 0).1 = 0 := ho.2
  have H0 := Lib.hid h0
  have HTX := Lib.hid (show (⟨(tx t).toArray⟩ : ByteArray) = s from by
    apply ByteArray.ext; apply Array.ext'; exact hst.symm)
  have C1 := Lib.hid (fun (W : World) (h : Env W (ev (ad 11)) (ev (ad 3)) (ev (ad 4)) (ev (ad 2)) (ad 10)) => read_tx _ _ _ _ (ad 10) hP t s W (by omega) h hok h0 hst)
  have C2 : Hid (∀ W, Calls Tryd.prog 26 #[.string s] W fun e w' => Below W.heap.size W w' ∧ ∃ v, e = .returned (.tuple #[v, .agg #[.int .i64 0, .bool false, .int .i64 0, .int .i64 0, .int .i64 0, .string ByteArray.empty, .slice none 0 0]]) ∧ Rep w' W.heap.size w'.heap.size t v) := fun W => (refAns_of ho (by omega) W).mono fun _ _ h => h
  have CS : Hid (∀ (W : World), Sents W ad → Calls Tryd.prog 27 #[.nilIface, .agg #[.int .i64 0, .bool false, .int .i64 0, .int .i64 0, .int .i64 0, .string ByteArray.empty, .slice none 0 0]] W fun e w' => e = .returned (.bool true) ∧ Below W.heap.size W w') := fun W h => seeSame_any ad none (fun j hj => by cases hj) 0 W h
  clear ho hst hok h0
  have hEq := Lib.hid (eqV_self t)
  go_enter Tryd.func5, Tryd.ntmps5
  go_wp2_with (first
    | (go_at_call 18; refine (first2_any _ _ _ _ _ hP _ HE.out).mono ?_; rintro e w1 ⟨rfl, hb1⟩; have HB1 := Lib.hid hb1; clear hb1)
    | (go_at_call 21; refine (C1.out _ (HE.out.below HB1.out)).mono ?_; rintro e w2 ⟨⟨v, rfl, hr⟩, hb2⟩; obtain ⟨k, n, u, yp, yl, yc, rfl⟩ := rep_form hr; have HB2 := Lib.hid (HB1.out.trans (hb2.mono HB1.out.size)); have HVB := Lib.hid (heap_alloc_new w2 (.cells #[.int .i64 k, .int .i64 n, .string u, .slice yp yl yc] 26)); have HRV := Lib.hid (hr.alloc (Nat.le_refl _) (.cells #[.int .i64 k, .int .i64 n, .string u, .slice yp yl yc] 26)); clear hb2 hr)
    | (go_at_call 26; refine (C2.out _).mono ?_; rintro e w3 ⟨hb3, v', rfl, hr'⟩; obtain ⟨k', n', u', yp', yl', yc', rfl⟩ := rep_form hr'; have HV3 := Lib.hid (heap_old HVB.out hb3); have HB3 := Lib.hid ((HB2.out.alloc HB2.out.size (.cells #[.int .i64 k, .int .i64 n, .string u, .slice yp yl yc] 26)).trans (hb3.mono (by have := HB2.out.size; simp; omega))); have HV4 := Lib.hid (heap_alloc_ _ _ (.cells #[.int .i64 0, .bool false, .int .i64 0, .int .i64 0, .int .i64 0, .string ByteArray.empty, .slice none 0 0] 42) _ (heap_alloc_ _ _ (.cells #[.int .i64 k', .int .i64 n', .string u', .slice yp' yl' yc'] 26) _ HV3.out)); have HW4 := Lib.hid (heap_alloc_ _ _ (.cells #[.int .i64 0, .bool false, .int .i64 0, .int .i64 0, .int .i64 0, .string ByteArray.empty, .slice none 0 0] 42) _ (heap_alloc_new w3 (.cells #[.int .i64 k', .int .i64 n', .string u', .slice yp' yl' yc'] 26))); have HB4 := Lib.hid ((HB3.out.alloc HB3.out.size (.cells #[.int .i64 k', .int .i64 n', .string u', .slice yp' yl' yc'] 26)).alloc (by have := HB3.out.size; simp; omega) (.cells #[.int .i64 0, .bool false, .int .i64 0, .int .i64 0, .int .i64 0, .string ByteArray.empty, .slice none 0 0] 42)); have hz3 := hb3.size; simp at hz3; have HRV4 := Lib.hid ((HRV.out.below hb3 (by simp)).alloc (by omega) (.cells #[.int .i64 k', .int .i64 n', .string u', .slice yp' yl' yc'] 26) |>.alloc (by simp; omega) (.cells #[.int .i64 0, .bool false, .int .i64 0, .int .i64 0, .int .i64 0, .string ByteArray.empty, .slice none 0 0] 42)); have HRW4 := Lib.hid ((hr'.alloc (Nat.le_refl _) (.cells #[.int .i64 k', .int .i64 n', .string u', .slice yp' yl' yc'] 26)).alloc (by simp) (.cells #[.int .i64 0, .bool false, .int .i64 0, .int .i64 0, .int .i64 0, .string ByteArray.empty, .slice none 0 0] 42)); clear HV3; clear hb3 hr')
    | (go_at_call 27; refine (CS.out _ (HSS.out.below HB4.out)).mono ?_; rintro e w5 ⟨rfl, hb5⟩; obtain ⟨y0, y1, y2, y3, yf⟩ := box4_in _ _ _ _ _ _ _ (heap_old HV4.out hb5); obtain ⟨z0, z1, z2, z3, zf⟩ := box4_in _ _ _ _ _ _ _ (heap_old HW4.out hb5); have HV5 := Lib.hid (heap_old HV4.out hb5); have HB5 := Lib.hid (HB4.out.trans (hb5.mono HB4.out.size)); clear yf zf; have HRV5 := Lib.hid (HRV4.out.below hb5 (by simp; omega)); have HRW5 := Lib.hid (HRW4.out.below hb5 (by simp; omega)); have hz5 := hb5.size; simp at hz5; clear hb5)
    | (go_at_call 25; refine (sameValue_any t t _ _ _ _ _ _ _ HRV5.out (by omega) HRW5.out (by omega)).mono ?_; rintro e w6 ⟨rfl, hb6⟩; rw [hEq.out]; obtain ⟨x0, x1, x2, x3, xf⟩ := box4_in _ _ _ _ _ _ _ (heap_old HV5.out hb6); have HRV6 := Lib.hid (HRV5.out.below hb6 (by omega)); have hz6 := hb6.size; have HB6 := Lib.hid (HB5.out.trans (hb6.mono HB5.out.size)); clear xf hb6)
    | (go_at_call 20; refine (text_any _ _ _ _ (ad 10) hP t _ _ _ _ HRV6.out (by omega) (HE.out.below HB6.out) H0.out).mono ?_; rintro e w7 ⟨rfl, hb7⟩; rw [HTX.out]; have HB7 := Lib.hid (HB6.out.trans (hb7.mono HB6.out.size)); clear hb7))
  go_ret
  exact ⟨rfl, HB7.out⟩

theorem reads_all (ad : Nat → Addr) (hP : Ptrs (ev (ad 11)) (ev (ad 3)) (ev (ad 4)) (ev (ad 2))) (s : ByteArray) (w : World) (hsm : s.size ≤ 9223372036854775807) (he : Env w (ev (ad 11)) (ev (ad 3)) (ev (ad 4)) (ev (ad 2)) (ad 10)) (hS : Sents w ad) :
    Calls Tryd.prog 5 #[.string s] w fun e w' => e = .returned (.bool true) ∧ Below w.heap.size w w' := by
  by_cases hs : 500 < s.size
  · exact reads_long _ _ _ _ _ hP s w he hs hsm
  · obtain ⟨e0, w0, _, ⟨_, o, ho, _⟩, _⟩ := refRead_any s w (by omega) []
    cases o with
    | bad p => exact reads_bad ad hP s w (by omega) he hS p ho
    | fine t => exact reads_fine ad hP s w (by omega) he hS t ho
    | odd t => exact reads_odd ad hP s w (by omega) he hS t ho

end Go.Proofs.YtcinhndidkllbaaDoor
