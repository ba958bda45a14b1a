/- The document's reader of texts: its values. -/
import Derived.Test.YtcinhndidkllbaaDoorRefErr
import Derived.Test.YtcinhndidkllbaaDoorStk3
namespace Go.Proofs.YtcinhndidkllbaaDoor
open Go.RowKit
set_option maxRecDepth 100000

/-- What the reading of a value at p comes to: a value, and the reader behind it; or the place where no such text goes on: behind a 0 too, where a digit stands. -/
def RRes (s : ByteArray) (p p' lo : Nat) (w' : World) (v : Value) : Bool → Prop
  | true => ∃ t, Go .val (s.data.toList.drop p) (.ok t (s.data.toList.drop p')) ∧ RepP w' (fun b => lo ≤ b ∧ b < w'.heap.size) t v
  | false => Go .val (s.data.toList.drop p) (.bad (s.data.toList.drop p')) ∨ ∃ t, Go .val (s.data.toList.drop p) (.ok t (s.data.toList.drop p')) ∧ hdD (s.data.toList.drop p') = true
abbrev vf (k n : Int) (u : ByteArray) (lp : Option Addr) (ll lc : Nat) : Value := .agg #[.int .i64 k, .int .i64 n, .string u, .slice lp ll lc]
def RVal (s : ByteArray) (g p : Nat) (w : World) (e : Ending) (w' : World) : Prop :=
  ∃ p' k n u lp ll lc is, e = .returned (.tuple #[vf k n u lp ll lc, .bool is]) ∧ p' ≤ s.size ∧ RrIs w' g s p' ∧ But g w w' ∧ RRes s p p' w.heap.size w' (vf k n u lp ll lc) is
def ValueAt (s : ByteArray) (p : Nat) : Prop := ∀ (g : Nat) (w : World), RrIs w g s p → p ≤ s.size → Calls Tryd.prog 46 #[.pointer (some ⟨g, 0, none⟩)] w (RVal s g p w)
def ListAt (s : ByteArray) (p : Nat) : Prop := ∀ (g : Nat) (w : World), RrIs w g s p → Calls Tryd.prog 78 #[.pointer (some ⟨g, 0, none⟩)] w (RVal s g p w)

/-- Handed on through a result's box. -/
theorem rval_end {s : ByteArray} {g p p' : Nat} {w W w6 : World} {k n : Int} {u : ByteArray} {lp : Option Addr} {ll lc : Nat} {is : Bool} (hb1 : But g w W) (hlt : w.heap.size < W.heap.size) (hne : w.heap.size ≠ g)
    (hp : p' ≤ s.size) (hr : RrIs w6 g s p') (hb : But g W w6) (hres : RRes s p p' W.heap.size w6 (vf k n u lp ll lc) is) (a0 a1 a2 a3 : Value) : RVal s g p w (.returned (.tuple #[vf k n u lp ll lc, .bool is])) (set4 w6 w.heap.size a0 a1 a2 a3) := by
  have hsz : (set4 w6 w.heap.size a0 a1 a2 a3).heap.size = w6.heap.size := by simp [World.size_setCell]
  refine ⟨p', k, n, u, lp, ll, lc, is, rfl, hp, hr.set4 hne _ _ _ _, (hb1.trans hb).set4 (Nat.le_refl _) _ _ _ _, ?_⟩
  cases is with
  | false => exact hres
  | true =>
    obtain ⟨t, h1, h2⟩ := hres
    refine ⟨t, h1, RepP.keep (fun b hb => ⟨by omega, by rw [hsz]; exact hb.2⟩) (fun q hq => ?_) _ _ h2⟩
    have hqne : q.block ≠ w.heap.size := by have := hq.1; omega
    exact World.cell?_of_block (heap_set4' _ _ _ _ _ _ _ _ _ _ _ hqne)

/-- What is read without items. -/
theorem rres_of_one {s : ByteArray} {p lo : Nat} {W1 w' : World} {g : Nat} {R : Res} {e : Ending} (hR : one (s.data.toList.drop p) = R) (h : hd 123 (s.data.toList.drop p) = false) (hq : ROne s g W1 R e w') :
    ∃ p' k n u is, e = .returned (.tuple #[vf k n u none 0 0, .bool is]) ∧ p' ≤ s.size ∧ RrIs w' g s p' ∧ But g W1 w' ∧ RRes s p p' lo w' (vf k n u none 0 0) is := by
  obtain ⟨p', hp, hr, hb, ⟨k, n, u, h1, hk, hn, hu, he⟩ | ⟨h1, k, n, u, he⟩⟩ := hq
  · exact ⟨p', k, n, u, true, he, hp, hr, hb, _, (hR.trans h1) ▸ Go.one h, RepP.bare k n u hk hn hu⟩
  · exact ⟨p', k, n, u, false, he, hp, hr, hb, .inl ((hR.trans h1) ▸ Go.one h)⟩

theorem num_split {most : Nat} {inp r : Bs} {o : Option Int} (hm : 9 ≤ most) (h : num most inp = (o, r)) :
    (∃ n, o = some n ∧ numC most inp = (some n, r) ∧ -(most : Int) - 1 ≤ n ∧ n ≤ most) ∨ (o = none ∧ (numC most inp = (none, r) ∨ (numC most inp = (some 0, r) ∧ hdD r = true))) := by
  cases o with
  | some n =>
    have hs := num_sound hm h
    refine .inl ⟨n, rfl, ?_, hs.2.1, hs.2.2.1⟩
    unfold num at h
    split at h
    · cases h
    · exact h
  | none =>
    refine .inr ⟨rfl, ?_⟩
    unfold num at h
    split at h
    · rename_i hc
      rw [Bool.and_eq_true] at hc
      injection h with _ h
      subst h
      refine .inr ⟨?_, hc.2⟩
      unfold numC; rw [if_pos hc.1]
    · exact .inl h
/-- A number that was read, its sign and digits in the document's way. -/
theorem rres_num {s : ByteArray} {p p' lo most : Nat} {w' : World} {k : Int} {inp : Bs} {o : Option Int} (hm : 9 ≤ most) (hm1 : most ≤ 9223372036854775807) (hk : I64 k) (hR : one (s.data.toList.drop p) = res k (numC most inp)) (h : hd 123 (s.data.toList.drop p) = false)
    (hn : num most inp = (o, s.data.toList.drop p')) : RRes s p p' lo w' (vf k (o.getD 0) ⟨#[]⟩ none 0 0) o.isSome := by
  have hg := Go.one h
  rw [hR] at hg
  rcases num_split hm hn with ⟨n, rfl, h1, h2, h3⟩ | ⟨rfl, h1 | ⟨h1, h2⟩⟩
  · rw [h1] at hg
    exact ⟨_, hg, RepP.bare k n ByteArray.empty hk (by unfold I64; omega) (by simp)⟩
  · rw [h1] at hg; exact .inl hg
  · rw [h1] at hg; exact .inr ⟨_, hg, h2⟩

theorem one_end : one [] = .bad [] := rfl
theorem mx_other {c : UInt8} {r : Bs} (h : c.toNat ≠ 69) : mx (c :: r) names = 0 := by
  have h2 : ¬ c = 69 := fun e => h (by rw [e]; rfl)
  simp [mx, names, lcp, h2]
theorem one_other {c : UInt8} {r : Bs} (h0 : c.toNat ≠ 34) (h1 : c.toNat ≠ 35) (h2 : c.toNat ≠ 45) (h3 : isD c = false) (h4 : c.toNat ≠ 69) : one (c :: r) = .bad (c :: r) := by
  have e : codeOf (c :: r) = (none, c :: r) := by rw [codeOf_mx, mx_other h4]; rfl
  unfold one
  simp [hd, hdD, h0, h1, h2, h3, e, res]

theorem BAt.lt {s : ByteArray} {g : Nat} {w : World} {q : Nat} {wr : World} (h : BAt s g w q wr) : w.heap.size < wr.heap.size := by
  rcases Nat.lt_or_ge w.heap.size wr.heap.size with h1 | h1
  · exact h1
  · have := h.box; rw [Array.getElem?_eq_none h1] at this; cases this
theorem isD_no {b : UInt8} (h : ¬ (48 ≤ b.toNat ∧ b.toNat ≤ 57)) : isD b = false := by
  cases hh : isD b with
  | false => rfl
  | true => exact absurd (isD_iff.1 hh) h
theorem rres_bad {s : ByteArray} {p p' lo : Nat} {w' : World} {v : Value} (h : Go .val (s.data.toList.drop p) (.bad (s.data.toList.drop p'))) : RRes s p p' lo w' v false := Or.inl h
theorem box_on {s : ByteArray} {g q : Nat} {w W w6 : World} (h : BAt s g w q W) (hne : w.heap.size ≠ g) (hb : But g W w6) : w6.heap[w.heap.size]? = some zbox := (hb.block _ h.lt hne).trans h.box
theorem rr_below {s : ByteArray} {g q : Nat} {w w' : World} (h : RrIs w g s q) (hb : Below w.heap.size w w') : RrIs w' g s q := (hb.block g h.lt).trans h
theorem drop_cons {s : ByteArray} {p : Nat} (h : p < s.size) : s.data.toList.drop p = s[p] :: s.data.toList.drop (p + 1) := by
  have h' : p < s.data.toList.length := by simpa using h
  rw [List.drop_eq_getElem_cons h']; rfl

set_option maxHeartbeats 1000000 in
theorem value_end (s : ByteArray) (p g : Nat) (w : World) (hx : RrIs w g s p) (hp : p ≤ s.size) (hps : ¬ p < s.size) :
    Calls Tryd.prog 46 #[.pointer (some ⟨g, 0, none⟩)] w (RVal s g p w) := by
  have HR := Lib.hid (show Go .val (s.data.toList.drop p) (.bad (s.data.toList.drop p)) from by
    rw [drop_end hps]; exact Go.one (i := []) rfl)
  have k4 : (s.size : Int) ≤ (p : Int) := by omega
  obtain ⟨_, _, _, hlt⟩ := hx.open
  have hne : w.heap.size ≠ g := by omega
  have HA := Lib.hid (show BAt s g w p (w.alloc (.cells #[.int .i64 0, .int .i64 0, .string ⟨#[]⟩, .slice none 0 0] 26)) from ⟨hx.alloc _, (But.refl g w).alloc _, heap_alloc_new w _⟩)
  clear hx
  go_enter Tryd.func46, Tryd.ntmps46
  go_upto_region 1 with fail
  generalize (w.alloc (.cells #[.int .i64 0, .int .i64 0, .string ⟨#[]⟩, .slice none 0 0] 26)) = W1 at *
  obtain ⟨x0, x1, xf, hlt1⟩ := HA.out.rd.open
  obtain ⟨b0, b1, b2, b3, bf⟩ := box4_in _ _ _ _ _ _ _ HA.out.box
  have f0 := bf 0; have f1 := bf 1; have f2 := bf 2; have f3 := bf 3
  clear bf
  go_wp2_with (go_quiet (fail))
  refine bodyPost_ret (v := .tuple #[zv, .bool false]) (by simp [results, Tryd.results46, go_sem, b0, b1, b2, b3]) rfl ?_
  exact rval_end (W := W1.drewN _) (HA.out.drewN _).but HA.out.lt hne hp (HA.out.drewN _).rd (But.refl _ _) (rres_bad HR.out) _ _ _ _

set_option maxHeartbeats 1000000 in
theorem value_other_lo (s : ByteArray) (p g : Nat) (w : World) (hx : RrIs w g s p) (hps : p < s.size) (_hs : s.size ≤ 140737488355328) (h0 : (s[p]).toNat ≠ 34) (h1 : (s[p]).toNat ≠ 35) (h2 : (s[p]).toNat ≠ 45) (h3 : (s[p]).toNat < 48) (h4 : (s[p]).toNat ≠ 69) (h5 : (s[p]).toNat ≠ 123) :
    Calls Tryd.prog 46 #[.pointer (some ⟨g, 0, none⟩)] w (RVal s g p w) := by
  have HR := Lib.hid (show Go .val (s.data.toList.drop p) (.bad (s.data.toList.drop p)) from by
    have hD : isD s[p] = false := by
      cases hh : isD s[p] with
      | false => rfl
      | true => have := isD_iff.1 hh; omega
    have e := one_other (c := s[p]) (r := s.data.toList.drop (p + 1)) h0 h1 h2 hD h4
    rw [drop_cons hps]
    exact e ▸ Go.one (by simpa [hd] using h5))
  have k0 : (((s[p]).toNat : Int) == 34) = false := by simp; omega
  have k1 : (((s[p]).toNat : Int) == 35) = false := by simp; omega
  have k2 : (((s[p]).toNat : Int) == 45) = false := by simp; omega
  have k3 : decide ((48 : Int) ≤ ((s[p]).toNat : Int)) = false := by simp; omega
  have k5 : (((s[p]).toNat : Int) == 69) = false := by simp; omega
  have k6 : (((s[p]).toNat : Int) == 123) = false := by simp; omega
  clear h0 h1 h2 h3 h4 h5
  obtain ⟨_, _, _, hlt⟩ := hx.open
  have hne : w.heap.size ≠ g := by omega
  have HA := Lib.hid (show BAt s g w p (w.alloc (.cells #[.int .i64 0, .int .i64 0, .string ⟨#[]⟩, .slice none 0 0] 26)) from ⟨hx.alloc _, (But.refl g w).alloc _, heap_alloc_new w _⟩)
  clear hx
  go_enter Tryd.func46, Tryd.ntmps46
  go_upto_region 1 with fail
  generalize (w.alloc (.cells #[.int .i64 0, .int .i64 0, .string ⟨#[]⟩, .slice none 0 0] 26)) = W1 at *
  obtain ⟨x0, x1, xf, hlt1⟩ := HA.out.rd.open
  obtain ⟨b0, b1, b2, b3, bf⟩ := box4_in _ _ _ _ _ _ _ HA.out.box
  have f0 := bf 0; have f1 := bf 1; have f2 := bf 2; have f3 := bf 3
  clear bf
  go_wp2_with (go_quiet (fail))
  refine bodyPost_ret (v := .tuple #[zv, .bool false]) (by simp [results, Tryd.results46, go_sem, b0, b1, b2, b3]) rfl ?_
  exact rval_end (W := W1.drewN _) (HA.out.drewN _).but HA.out.lt hne (by omega) (HA.out.drewN _).rd (But.refl _ _) (rres_bad HR.out) _ _ _ _

set_option maxHeartbeats 1000000 in
theorem value_other_hi (s : ByteArray) (p g : Nat) (w : World) (hx : RrIs w g s p) (hps : p < s.size) (_hs : s.size ≤ 140737488355328) (h0 : (s[p]).toNat ≠ 34) (h1 : (s[p]).toNat ≠ 35) (h2 : (s[p]).toNat ≠ 45) (h3 : 57 < (s[p]).toNat) (h4 : (s[p]).toNat ≠ 69) (h5 : (s[p]).toNat ≠ 123) :
    Calls Tryd.prog 46 #[.pointer (some ⟨g, 0, none⟩)] w (RVal s g p w) := by
  have HR := Lib.hid (show Go .val (s.data.toList.drop p) (.bad (s.data.toList.drop p)) from by
    have hD : isD s[p] = false := by
      cases hh : isD s[p] with
      | false => rfl
      | true => have := isD_iff.1 hh; omega
    have e := one_other (c := s[p]) (r := s.data.toList.drop (p + 1)) h0 h1 h2 hD h4
    rw [drop_cons hps]
    exact e ▸ Go.one (by simpa [hd] using h5))
  have k0 : (((s[p]).toNat : Int) == 34) = false := by simp; omega
  have k1 : (((s[p]).toNat : Int) == 35) = false := by simp; omega
  have k2 : (((s[p]).toNat : Int) == 45) = false := by simp; omega
  have k3 : decide (((s[p]).toNat : Int) ≤ 57) = false := by simp; omega
  have k7 : (48 : Int) ≤ ((s[p]).toNat : Int) := by omega
  have k5 : (((s[p]).toNat : Int) == 69) = false := by simp; omega
  have k6 : (((s[p]).toNat : Int) == 123) = false := by simp; omega
  clear h0 h1 h2 h3 h4 h5
  obtain ⟨_, _, _, hlt⟩ := hx.open
  have hne : w.heap.size ≠ g := by omega
  have HA := Lib.hid (show BAt s g w p (w.alloc (.cells #[.int .i64 0, .int .i64 0, .string ⟨#[]⟩, .slice none 0 0] 26)) from ⟨hx.alloc _, (But.refl g w).alloc _, heap_alloc_new w _⟩)
  clear hx
  go_enter Tryd.func46, Tryd.ntmps46
  go_upto_region 1 with fail
  generalize (w.alloc (.cells #[.int .i64 0, .int .i64 0, .string ⟨#[]⟩, .slice none 0 0] 26)) = W1 at *
  obtain ⟨x0, x1, xf, hlt1⟩ := HA.out.rd.open
  obtain ⟨b0, b1, b2, b3, bf⟩ := box4_in _ _ _ _ _ _ _ HA.out.box
  have f0 := bf 0; have f1 := bf 1; have f2 := bf 2; have f3 := bf 3
  clear bf
  go_wp2_with (go_quiet (fail))
  refine bodyPost_ret (v := .tuple #[zv, .bool false]) (by simp [results, Tryd.results46, go_sem, b0, b1, b2, b3]) rfl ?_
  exact rval_end (W := W1.drewN _) (HA.out.drewN _).but HA.out.lt hne (by omega) (HA.out.drewN _).rd (But.refl _ _) (rres_bad HR.out) _ _ _ _

set_option maxHeartbeats 1000000 in
theorem value_str (s : ByteArray) (p g : Nat) (w : World) (hx : RrIs w g s p) (hps : p < s.size) (hs : s.size ≤ 140737488355328) (hc : (s[p]).toNat = 34) :
    Calls Tryd.prog 46 #[.pointer (some ⟨g, 0, none⟩)] w (RVal s g p w) := by
  have HC : Hid (∀ W, RrIs W g s p → Calls Tryd.prog 76 #[.pointer (some ⟨g, 0, none⟩)] W fun e w' => ∃ p' k n u lp ll lc is, e = .returned (.tuple #[vf k n u lp ll lc, .bool is]) ∧ p' ≤ s.size ∧ RrIs w' g s p' ∧ But g W w' ∧ RRes s p p' W.heap.size w' (vf k n u lp ll lc) is) := fun W hW => by
    have h123 : hd 123 (s.data.toList.drop p) = false := by rw [hd_at2 hps (by omega), hc]; rfl
    refine (refQuoted_any s p g W hW hps hs).mono fun e w' h => ?_
    obtain ⟨p', k, n, u, is, h1, h2, h3, h4, h5⟩ := rres_of_one (lo := W.heap.size) (by unfold one; rw [hd_at2 hps (by omega), hc, List.drop_drop]; rfl) h123 h
    exact ⟨p', k, n, u, none, 0, 0, is, h1, h2, h3, h4, h5⟩
  have k1 : ((s[p]).toNat : Int) = 34 := by omega
  clear hc
  obtain ⟨_, _, _, hlt⟩ := hx.open
  have hne : w.heap.size ≠ g := by omega
  have HA := Lib.hid (show BAt s g w p (w.alloc (.cells #[.int .i64 0, .int .i64 0, .string ⟨#[]⟩, .slice none 0 0] 26)) from ⟨hx.alloc _, (But.refl g w).alloc _, heap_alloc_new w _⟩)
  clear hx
  go_enter Tryd.func46, Tryd.ntmps46
  go_upto_region 1 with fail
  generalize (w.alloc (.cells #[.int .i64 0, .int .i64 0, .string ⟨#[]⟩, .slice none 0 0] 26)) = W1 at *
  obtain ⟨x0, x1, xf, hlt1⟩ := HA.out.rd.open
  obtain ⟨b0, b1, b2, b3, bf⟩ := box4_in _ _ _ _ _ _ _ HA.out.box
  have f0 := bf 0; have f1 := bf 1; have f2 := bf 2; have f3 := bf 3
  clear bf
  go_wp2_with (first
    | go_quiet (fail)
    | (go_at_call 76; refine (HC.out _ (HA.out.drewN _).rd).mono ?_; rintro e w6 ⟨p', k, n, u, lp, ll, lc, is, rfl, hp', hr6, hb6, hres⟩; have HBX := box_on (HA.out.drewN _) hne hb6; obtain ⟨y0, y1, y2, y3, yf⟩ := box4_in _ _ _ _ _ _ _ HBX; have g0 := yf 0; have g1 := yf 1; have g2 := yf 2; have g3 := yf 3; have HB6 := Lib.hid hb6; have HR6 := Lib.hid hr6; have HRES := Lib.hid hres; clear yf hb6 HBX hr6 hres))
  refine bodyPost_ret (v := .tuple #[vf k n u lp ll lc, .bool is]) (by simp [results, Tryd.results46, go_sem, y0, y1, y2, y3]) rfl ?_
  exact rval_end (W := W1.drewN _) (HA.out.drewN _).but HA.out.lt hne hp' HR6.out HB6.out HRES.out _ _ _ _

set_option maxHeartbeats 1000000 in
theorem value_err (s : ByteArray) (p g : Nat) (w : World) (hx : RrIs w g s p) (hps : p < s.size) (hs : s.size ≤ 140737488355328) (hc : (s[p]).toNat = 69) :
    Calls Tryd.prog 46 #[.pointer (some ⟨g, 0, none⟩)] w (RVal s g p w) := by
  have HC : Hid (∀ W, RrIs W g s p → Calls Tryd.prog 77 #[.pointer (some ⟨g, 0, none⟩)] W fun e w' => ∃ p' k n u lp ll lc is, e = .returned (.tuple #[vf k n u lp ll lc, .bool is]) ∧ p' ≤ s.size ∧ RrIs w' g s p' ∧ But g W w' ∧ RRes s p p' W.heap.size w' (vf k n u lp ll lc) is) := fun W hW => by
    have h123 : hd 123 (s.data.toList.drop p) = false := by rw [hd_at2 hps (by omega), hc]; rfl
    refine (refErr_any s p g W hW (by omega) hs).mono fun e w' h => ?_
    obtain ⟨p', k, n, u, is, h1, h2, h3, h4, h5⟩ := rres_of_one (lo := W.heap.size) (by unfold one; rw [hd_at2 hps (by omega), hd_at2 hps (by omega), hd_at2 hps (by omega), isD_at hps, hc, isD_no (b := s[p]) (by omega)]; rfl) h123 h
    exact ⟨p', k, n, u, none, 0, 0, is, h1, h2, h3, h4, h5⟩
  have k1 : ((s[p]).toNat : Int) = 69 := by omega
  clear hc
  obtain ⟨_, _, _, hlt⟩ := hx.open
  have hne : w.heap.size ≠ g := by omega
  have HA := Lib.hid (show BAt s g w p (w.alloc (.cells #[.int .i64 0, .int .i64 0, .string ⟨#[]⟩, .slice none 0 0] 26)) from ⟨hx.alloc _, (But.refl g w).alloc _, heap_alloc_new w _⟩)
  clear hx
  go_enter Tryd.func46, Tryd.ntmps46
  go_upto_region 1 with fail
  generalize (w.alloc (.cells #[.int .i64 0, .int .i64 0, .string ⟨#[]⟩, .slice none 0 0] 26)) = W1 at *
  obtain ⟨x0, x1, xf, hlt1⟩ := HA.out.rd.open
  obtain ⟨b0, b1, b2, b3, bf⟩ := box4_in _ _ _ _ _ _ _ HA.out.box
  have f0 := bf 0; have f1 := bf 1; have f2 := bf 2; have f3 := bf 3
  clear bf
  go_wp2_with (first
    | go_quiet (fail)
    | (go_at_call 77; refine (HC.out _ (HA.out.drewN _).rd).mono ?_; rintro e w6 ⟨p', k, n, u, lp, ll, lc, is, rfl, hp', hr6, hb6, hres⟩; have HBX := box_on (HA.out.drewN _) hne hb6; obtain ⟨y0, y1, y2, y3, yf⟩ := box4_in _ _ _ _ _ _ _ HBX; have g0 := yf 0; have g1 := yf 1; have g2 := yf 2; have g3 := yf 3; have HB6 := Lib.hid hb6; have HR6 := Lib.hid hr6; have HRES := Lib.hid hres; clear yf hb6 HBX hr6 hres))
  refine bodyPost_ret (v := .tuple #[vf k n u lp ll lc, .bool is]) (by simp [results, Tryd.results46, go_sem, y0, y1, y2, y3]) rfl ?_
  exact rval_end (W := W1.drewN _) (HA.out.drewN _).but HA.out.lt hne hp' HR6.out HB6.out HRES.out _ _ _ _

set_option maxHeartbeats 1000000 in
theorem value_list (s : ByteArray) (p g : Nat) (w : World) (hx : RrIs w g s p) (hps : p < s.size) (_hs : s.size ≤ 140737488355328) (hc : (s[p]).toNat = 123) (hl : ListAt s p) :
    Calls Tryd.prog 46 #[.pointer (some ⟨g, 0, none⟩)] w (RVal s g p w) := by
  have HC : Hid (∀ W, RrIs W g s p → Calls Tryd.prog 78 #[.pointer (some ⟨g, 0, none⟩)] W fun e w' => ∃ p' k n u lp ll lc is, e = .returned (.tuple #[vf k n u lp ll lc, .bool is]) ∧ p' ≤ s.size ∧ RrIs w' g s p' ∧ But g W w' ∧ RRes s p p' W.heap.size w' (vf k n u lp ll lc) is) := fun W hW => by
    exact hl g W hW
  have k1 : ((s[p]).toNat : Int) = 123 := by omega
  clear hc
  obtain ⟨_, _, _, hlt⟩ := hx.open
  have hne : w.heap.size ≠ g := by omega
  have HA := Lib.hid (show BAt s g w p (w.alloc (.cells #[.int .i64 0, .int .i64 0, .string ⟨#[]⟩, .slice none 0 0] 26)) from ⟨hx.alloc _, (But.refl g w).alloc _, heap_alloc_new w _⟩)
  clear hx
  go_enter Tryd.func46, Tryd.ntmps46
  go_upto_region 1 with fail
  generalize (w.alloc (.cells #[.int .i64 0, .int .i64 0, .string ⟨#[]⟩, .slice none 0 0] 26)) = W1 at *
  obtain ⟨x0, x1, xf, hlt1⟩ := HA.out.rd.open
  obtain ⟨b0, b1, b2, b3, bf⟩ := box4_in _ _ _ _ _ _ _ HA.out.box
  have f0 := bf 0; have f1 := bf 1; have f2 := bf 2; have f3 := bf 3
  clear bf
  go_wp2_with (first
    | go_quiet (fail)
    | (go_at_call 78; refine (HC.out _ (HA.out.drewN _).rd).mono ?_; rintro e w6 ⟨p', k, n, u, lp, ll, lc, is, rfl, hp', hr6, hb6, hres⟩; have HBX := box_on (HA.out.drewN _) hne hb6; obtain ⟨y0, y1, y2, y3, yf⟩ := box4_in _ _ _ _ _ _ _ HBX; have g0 := yf 0; have g1 := yf 1; have g2 := yf 2; have g3 := yf 3; have HB6 := Lib.hid hb6; have HR6 := Lib.hid hr6; have HRES := Lib.hid hres; clear yf hb6 HBX hr6 hres))
  refine bodyPost_ret (v := .tuple #[vf k n u lp ll lc, .bool is]) (by simp [results, Tryd.results46, go_sem, y0, y1, y2, y3]) rfl ?_
  exact rval_end (W := W1.drewN _) (HA.out.drewN _).but HA.out.lt hne hp' HR6.out HB6.out HRES.out _ _ _ _

set_option maxHeartbeats 1000000 in
theorem value_int_neg (s : ByteArray) (p g : Nat) (w : World) (hx : RrIs w g s p) (hps : p < s.size) (hs : s.size ≤ 140737488355328) (hc : (s[p]).toNat = 45) :
    Calls Tryd.prog 46 #[.pointer (some ⟨g, 0, none⟩)] w (RVal s g p w) := by
  obtain ⟨⟨o, r⟩, hq⟩ : ∃ q, num 9223372036854775807 (s.data.toList.drop p) = q := ⟨_, rfl⟩
  have h123 : hd 123 (s.data.toList.drop p) = false := by rw [hd_at2 hps (by omega)]; simp; omega
  have h34 : hd 34 (s.data.toList.drop p) = false := by rw [hd_at2 hps (by omega)]; simp; omega
  have h35 : hd 35 (s.data.toList.drop p) = false := by rw [hd_at2 hps (by omega)]; simp; omega
  have hcd : (hd 45 (s.data.toList.drop p) || hdD (s.data.toList.drop p)) = true := by rw [hd_at2 hps (by omega), isD_at hps]; simp [hc]
  have hone : one (s.data.toList.drop p) = res 0 (numC 9223372036854775807 (s.data.toList.drop p)) := by unfold one; rw [h34, h35, hcd]; rfl
  have HR : Hid (∀ p' lo w', s.data.toList.drop p' = r → RRes s p p' lo w' (vf 0 (o.getD 0) ⟨#[]⟩ none 0 0) o.isSome) := fun p' lo w' hr =>
    rres_num (most := 9223372036854775807) (by omega) (by omega) (by unfold I64; omega) hone h123 (by rw [hr]; exact hq)
  have HC : Hid (∀ W, RrIs W g s p → Calls Tryd.prog 74 #[.pointer (some ⟨g, 0, none⟩), .int .u64 9223372036854775808, .int .u64 9223372036854775807] W (RNumPost s g W (o, r))) := fun W hW => by
    have := signed_any s p g 9223372036854775807 9223372036854775807 9223372036854775808 W hW (by omega) hs (by omega) (by omega) (by omega) (by omega)
    rw [hq] at this; exact this
  have k1 : ((s[p]).toNat : Int) = 45 := by omega
  clear hc hone hcd h35 h34 h123 hq
  obtain ⟨_, _, _, hlt⟩ := hx.open
  have hne : w.heap.size ≠ g := by omega
  have HA := Lib.hid (show BAt s g w p (w.alloc (.cells #[.int .i64 0, .int .i64 0, .string ⟨#[]⟩, .slice none 0 0] 26)) from ⟨hx.alloc _, (But.refl g w).alloc _, heap_alloc_new w _⟩)
  clear hx
  go_enter Tryd.func46, Tryd.ntmps46
  go_upto_region 1 with fail
  generalize (w.alloc (.cells #[.int .i64 0, .int .i64 0, .string ⟨#[]⟩, .slice none 0 0] 26)) = W1 at *
  obtain ⟨x0, x1, xf, hlt1⟩ := HA.out.rd.open
  obtain ⟨b0, b1, b2, b3, bf⟩ := box4_in _ _ _ _ _ _ _ HA.out.box
  have f0 := bf 0; have f1 := bf 1; have f2 := bf 2; have f3 := bf 3
  clear bf
  go_wp2_with (first
    | go_quiet (fail)
    | (go_at_call 74; refine (HC.out _ (HA.out.drewN _).rd).mono ?_; rintro e w5 ⟨p', hp', hd', rfl, hr5, hb5⟩; have HB5 := Lib.hid hb5; have HR5 := Lib.hid hr5; clear hb5 hr5; have HBX := Lib.hid (box_on (HA.out.drewN _) hne HB5.out))
    | (go_at_call 75; refine (refI_any _ _).mono ?_; rintro e w6 ⟨rfl, hb6⟩; obtain ⟨y0, y1, y2, y3, yf⟩ := box4_in _ _ _ _ _ _ _ (heap_old HBX.out hb6); have g0 := yf 0; have g1 := yf 1; have g2 := yf 2; have g3 := yf 3; have HB6 := Lib.hid hb6; clear yf hb6))
  refine bodyPost_ret (v := .tuple #[vf 0 (o.getD 0) ⟨#[]⟩ none 0 0, .bool o.isSome]) (by simp [results, Tryd.results46, go_sem, y0, y1, y2, y3]) rfl ?_
  exact rval_end (W := W1.drewN _) (HA.out.drewN _).but HA.out.lt hne hp' (rr_below HR5.out HB6.out) (HB5.out.trans (But.of_below HB6.out)) (HR.out _ _ _ hd') _ _ _ _

set_option maxHeartbeats 1000000 in
theorem value_int_pos (s : ByteArray) (p g : Nat) (w : World) (hx : RrIs w g s p) (hps : p < s.size) (hs : s.size ≤ 140737488355328) (hc : 48 ≤ (s[p]).toNat ∧ (s[p]).toNat ≤ 57) :
    Calls Tryd.prog 46 #[.pointer (some ⟨g, 0, none⟩)] w (RVal s g p w) := by
  obtain ⟨⟨o, r⟩, hq⟩ : ∃ q, num 9223372036854775807 (s.data.toList.drop p) = q := ⟨_, rfl⟩
  have h123 : hd 123 (s.data.toList.drop p) = false := by rw [hd_at2 hps (by omega)]; simp; omega
  have h34 : hd 34 (s.data.toList.drop p) = false := by rw [hd_at2 hps (by omega)]; simp; omega
  have h35 : hd 35 (s.data.toList.drop p) = false := by rw [hd_at2 hps (by omega)]; simp; omega
  have hcd : (hd 45 (s.data.toList.drop p) || hdD (s.data.toList.drop p)) = true := by rw [hd_at2 hps (by omega), isD_at hps]; rw [isD_iff.2 hc]; simp
  have hone : one (s.data.toList.drop p) = res 0 (numC 9223372036854775807 (s.data.toList.drop p)) := by unfold one; rw [h34, h35, hcd]; rfl
  have HR : Hid (∀ p' lo w', s.data.toList.drop p' = r → RRes s p p' lo w' (vf 0 (o.getD 0) ⟨#[]⟩ none 0 0) o.isSome) := fun p' lo w' hr =>
    rres_num (most := 9223372036854775807) (by omega) (by omega) (by unfold I64; omega) hone h123 (by rw [hr]; exact hq)
  have HC : Hid (∀ W, RrIs W g s p → Calls Tryd.prog 74 #[.pointer (some ⟨g, 0, none⟩), .int .u64 9223372036854775808, .int .u64 9223372036854775807] W (RNumPost s g W (o, r))) := fun W hW => by
    have := signed_any s p g 9223372036854775807 9223372036854775807 9223372036854775808 W hW (by omega) hs (by omega) (by omega) (by omega) (by omega)
    rw [hq] at this; exact this
  have k1 : (((s[p]).toNat : Int) == 45) = false := by simp; omega
  have k2 : (48 : Int) ≤ ((s[p]).toNat : Int) := by omega
  have k3 : ((s[p]).toNat : Int) ≤ 57 := by omega
  clear hc hone hcd h35 h34 h123 hq
  obtain ⟨_, _, _, hlt⟩ := hx.open
  have hne : w.heap.size ≠ g := by omega
  have HA := Lib.hid (show BAt s g w p (w.alloc (.cells #[.int .i64 0, .int .i64 0, .string ⟨#[]⟩, .slice none 0 0] 26)) from ⟨hx.alloc _, (But.refl g w).alloc _, heap_alloc_new w _⟩)
  clear hx
  go_enter Tryd.func46, Tryd.ntmps46
  go_upto_region 1 with fail
  generalize (w.alloc (.cells #[.int .i64 0, .int .i64 0, .string ⟨#[]⟩, .slice none 0 0] 26)) = W1 at *
  obtain ⟨x0, x1, xf, hlt1⟩ := HA.out.rd.open
  obtain ⟨b0, b1, b2, b3, bf⟩ := box4_in _ _ _ _ _ _ _ HA.out.box
  have f0 := bf 0; have f1 := bf 1; have f2 := bf 2; have f3 := bf 3
  clear bf
  go_wp2_with (first
    | go_quiet (fail)
    | (go_at_call 74; refine (HC.out _ (HA.out.drewN _).rd).mono ?_; rintro e w5 ⟨p', hp', hd', rfl, hr5, hb5⟩; have HB5 := Lib.hid hb5; have HR5 := Lib.hid hr5; clear hb5 hr5; have HBX := Lib.hid (box_on (HA.out.drewN _) hne HB5.out))
    | (go_at_call 75; refine (refI_any _ _).mono ?_; rintro e w6 ⟨rfl, hb6⟩; obtain ⟨y0, y1, y2, y3, yf⟩ := box4_in _ _ _ _ _ _ _ (heap_old HBX.out hb6); have g0 := yf 0; have g1 := yf 1; have g2 := yf 2; have g3 := yf 3; have HB6 := Lib.hid hb6; clear yf hb6))
  refine bodyPost_ret (v := .tuple #[vf 0 (o.getD 0) ⟨#[]⟩ none 0 0, .bool o.isSome]) (by simp [results, Tryd.results46, go_sem, y0, y1, y2, y3]) rfl ?_
  exact rval_end (W := W1.drewN _) (HA.out.drewN _).but HA.out.lt hne hp' (rr_below HR5.out HB6.out) (HB5.out.trans (But.of_below HB6.out)) (HR.out _ _ _ hd') _ _ _ _

set_option maxHeartbeats 1000000 in
theorem value_obj (s : ByteArray) (p g : Nat) (w : World) (hx : RrIs w g s p) (hps : p < s.size) (hs : s.size ≤ 140737488355328) (hc : (s[p]).toNat = 35) :
    Calls Tryd.prog 46 #[.pointer (some ⟨g, 0, none⟩)] w (RVal s g p w) := by
  obtain ⟨⟨o, r⟩, hq⟩ : ∃ q, num 2147483647 (s.data.toList.drop (p + 1)) = q := ⟨_, rfl⟩
  have h123 : hd 123 (s.data.toList.drop p) = false := by rw [hd_at2 hps (by omega)]; simp; omega
  have h34 : hd 34 (s.data.toList.drop p) = false := by rw [hd_at2 hps (by omega)]; simp; omega
  have h35 : hd 35 (s.data.toList.drop p) = true := by rw [hd_at2 hps (by omega)]; simp; omega
  have hone : one (s.data.toList.drop p) = res 1 (numC 2147483647 (s.data.toList.drop (p + 1))) := by unfold one; rw [h34, h35, List.drop_drop]; rfl
  have HR : Hid (∀ p' lo w', s.data.toList.drop p' = r → RRes s p p' lo w' (vf 1 (o.getD 0) ⟨#[]⟩ none 0 0) o.isSome) := fun p' lo w' hr =>
    rres_num (most := 2147483647) (by omega) (by omega) (by unfold I64; omega) hone h123 (by rw [hr]; exact hq)
  have HC : Hid (∀ W, RrIs W g s (p + 1) → Calls Tryd.prog 74 #[.pointer (some ⟨g, 0, none⟩), .int .u64 2147483648, .int .u64 2147483647] W (RNumPost s g W (o, r))) := fun W hW => by
    have := signed_any s (p + 1) g 2147483647 2147483647 2147483648 W hW (by omega) hs (by omega) (by omega) (by omega) (by omega)
    rw [hq] at this; exact this
  have k1 : ((s[p]).toNat : Int) = 35 := by omega
  clear hc hone h35 h34 h123 hq
  obtain ⟨_, _, _, hlt⟩ := hx.open
  have hne : w.heap.size ≠ g := by omega
  have HA := Lib.hid (show BAt s g w p (w.alloc (.cells #[.int .i64 0, .int .i64 0, .string ⟨#[]⟩, .slice none 0 0] 26)) from ⟨hx.alloc _, (But.refl g w).alloc _, heap_alloc_new w _⟩)
  clear hx
  go_enter Tryd.func46, Tryd.ntmps46
  go_upto_region 1 with fail
  generalize (w.alloc (.cells #[.int .i64 0, .int .i64 0, .string ⟨#[]⟩, .slice none 0 0] 26)) = W1 at *
  obtain ⟨x0, x1, xf, hlt1⟩ := HA.out.rd.open
  obtain ⟨b0, b1, b2, b3, bf⟩ := box4_in _ _ _ _ _ _ _ HA.out.box
  have f0 := bf 0; have f1 := bf 1; have f2 := bf 2; have f3 := bf 3
  clear bf
  have HA2 := Lib.hid (fun n => (HA.out.drewN n).setPos hlt (p + 1) (z := (p : Int) + 1) (by simp))
  go_wp2_with (first
    | go_quiet (fail)
    | (go_at_call 74; go_must (refine (HC.out _ (HA2.out _).rd).mono ?_); rintro e w5 ⟨p', hp', hd', rfl, hr5, hb5⟩; have HB5 := Lib.hid hb5; have HR5 := Lib.hid hr5; clear hb5 hr5; obtain ⟨y0, y1, y2, y3, yf⟩ := box4_in _ _ _ _ _ _ _ (box_on (HA2.out _) hne HB5.out); have g0 := yf 0; have g1 := yf 1; have g2 := yf 2; have g3 := yf 3; clear yf))
  refine bodyPost_ret (v := .tuple #[vf 1 (o.getD 0) ⟨#[]⟩ none 0 0, .bool o.isSome]) (by simp [results, Tryd.results46, go_sem, y0, y1, y2, y3]) rfl ?_
  exact rval_end (HA2.out _).but (HA2.out _).lt hne hp' HR5.out HB5.out (HR.out _ _ _ hd') _ _ _ _

theorem value_of (s : ByteArray) (p : Nat) (hs : s.size ≤ 140737488355328) (hl : ListAt s p) : ValueAt s p := fun g w hx hp => by
  by_cases hps : p < s.size
  · by_cases h0 : (s[p]).toNat = 34
    · exact value_str s p g w hx hps hs h0
    by_cases h1 : (s[p]).toNat = 35
    · exact value_obj s p g w hx hps hs h1
    by_cases h2 : (s[p]).toNat = 45
    · exact value_int_neg s p g w hx hps hs h2
    by_cases h3 : 48 ≤ (s[p]).toNat ∧ (s[p]).toNat ≤ 57
    · exact value_int_pos s p g w hx hps hs h3
    by_cases h4 : (s[p]).toNat = 69
    · exact value_err s p g w hx hps hs h4
    by_cases h5 : (s[p]).toNat = 123
    · exact value_list s p g w hx hps hs h5 hl
    by_cases h6 : (s[p]).toNat < 48
    · exact value_other_lo s p g w hx hps hs h0 h1 h2 h6 h4 h5
    · exact value_other_hi s p g w hx hps hs h0 h1 h2 (by omega) h4 h5
  · exact value_end s p g w hx hp hps

end Go.Proofs.YtcinhndidkllbaaDoor
