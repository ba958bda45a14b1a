/- tree.check: names; what a node has; tree.valid. -/
import Derived.Test.YtminmadaeaiihaaDoorTck
namespace Go.Proofs.YtminmadaeaiihaaDoor
open Go.RowKit
set_option maxRecDepth 100000

theorem CkOk_name (s : ByteArray) : s.toList.isEmpty = (s.size == 0) := by
  rw [Go.ByteArray.toList_eq]
  have hl : s.data.toList.length = s.size := by simp
  cases h : s.data.toList with
  | nil => rw [h] at hl; simp at hl; simp [← hl]
  | cons c r => rw [h] at hl; simp at hl; simp [← hl]

set_option maxHeartbeats 2000000 in
/-- A name that is none. -/
theorem check_name (ad : Nat → Addr) (o n : Int) (s : ByteArray) (v : T) (l : List Nd) (x : Value) (at_ : Int) (lp : Bool) (w : World) (lo hi : Nat) (hr : NRep w lo hi (.mk o n s v l) x) (hhi : hi ≤ w.heap.size) (hS : Sn w ad) (hok : shapeBad o at_ lp s v l.length = false) (hnm : nameBad o s = true) :
    Calls Tryd.prog 75 #[x, .int .i64 at_, .bool lp] w (CkPost ad (some (n, 5)) w) := by
  obtain ⟨k, m, z, q, ql, qc, p, cap, rfl, hio, hin, hsz, hrv, hlc, hl112, hall⟩ := hr.open
  have HB := Lib.hid ((Below.refl w.heap.size w).alloc (Nat.le_refl _) (.cells #[.int .i64 o, .int .i64 n, .string s, .int .i64 k, .int .i64 m, .string z, .slice q ql qc, .slice p l.length cap] 40))
  have HX := Lib.hid (heap_alloc_new w (.cells #[.int .i64 o, .int .i64 n, .string s, .int .i64 k, .int .i64 m, .string z, .slice q ql qc, .slice p l.length cap] 40))
  have HS := Lib.hid (fun W (hb : Below w.heap.size w W) => hS.below hb)
  have fin : ∀ w2, Hid (Below w.heap.size w w2) → Hid (CkPost ad (some (n, 5)) w (.returned (.iface 125 (.pointer (some ⟨w2.heap.size, 0, none⟩)))) (w2.alloc (.cells #[.int .i64 n, ev (ad 5)] 127))) := fun w2 hb => Lib.hid ⟨hb.out.alloc hb.out.size _, w2.heap.size, rfl, hb.out.size, heap_alloc_new w2 _⟩
  unfold shapeBad at hok
  simp only [Bool.or_eq_false_iff, Bool.not_eq_false', Bool.and_eq_false_iff] at hok
  obtain ⟨⟨⟨hms, hen⟩, hri⟩, hsn⟩ := hok
  unfold nameBad at hnm
  simp only [Bool.and_eq_true, Bool.not_eq_true', Bool.and_eq_false_iff] at hnm
  obtain ⟨⟨hnd, hin2⟩, hex⟩ := hnm
  have HMS := Lib.hid (fun w => by have := mayStand_any o at_ lp w; rw [hms] at this; exact this)
  have HEN := Lib.hid (fun w => by have := hasEnough_any o n s k m z q ql qc p l.length cap w; rw [hen] at this; exact this)
  have HRI := Lib.hid (fun W (hb : Below w.heap.size w W) => by
    have := hasRight_any ad o n s v l _ W lo hi (hr.below hb hhi) (by have := hb.size; omega) (hS.below hb)
    rw [hri] at this; exact this)
  have HND := Lib.hid (fun w => by have := isNamed_any o w; rw [hnd] at this; exact this)
  have HIN := Lib.hid (fun w => by have := isName_any s hsz w; rw [hin2] at this; exact this)
  have hse := CkOk_name s
  clear hr hS hrv hall hio hin hms hen hri hsn hnd hin2
  rcases hs0 : (s.size == 0)
  · rw [hs0] at hse
    clear hex
    rcases ho50 : (o == 50)
    · go_enter Tryd.func75, Tryd.ntmps75
      go_wp2_with (first
        | (go_at_call 104; refine (HMS.out _).mono ?_; rintro e w2 ⟨rfl, rfl⟩)
        | (go_at_call 105; refine (HEN.out _).mono ?_; rintro e w3 ⟨rfl, hb3⟩; have HB3 := Lib.hid (HB.out.trans (hb3.mono HB.out.size)); have HX3 := Lib.hid (heap_old HX.out hb3); obtain ⟨x0, x1, x2, x3, x4, x5, x6, x7, _⟩ := box8_in _ _ _ _ _ _ _ _ _ _ _ HX3.out; clear hb3)
        | (go_at_call 106; refine (HRI.out _ HB3.out).mono ?_; rintro e w4 ⟨rfl, hb4⟩; have HB4 := Lib.hid (HB3.out.trans (hb4.mono HB3.out.size)); obtain ⟨y0, y1, y2, y3, y4, y5, y6, y7, _⟩ := box8_in _ _ _ _ _ _ _ _ _ _ _ (heap_old HX3.out hb4); have v2 := name_var (HS.out _ HB4.out); have FIN := fin _ HB4; clear hb4)
        | (go_at_call 107; refine (HND.out _).mono ?_; rintro e w5 ⟨rfl, rfl⟩)
        | (go_at_call 108; refine (HIN.out _).mono ?_; rintro e w5 ⟨rfl, rfl⟩))
      go_ret
      exact FIN.out
    · go_enter Tryd.func75, Tryd.ntmps75
      go_wp2_with (first
        | (go_at_call 104; refine (HMS.out _).mono ?_; rintro e w2 ⟨rfl, rfl⟩)
        | (go_at_call 105; refine (HEN.out _).mono ?_; rintro e w3 ⟨rfl, hb3⟩; have HB3 := Lib.hid (HB.out.trans (hb3.mono HB.out.size)); have HX3 := Lib.hid (heap_old HX.out hb3); obtain ⟨x0, x1, x2, x3, x4, x5, x6, x7, _⟩ := box8_in _ _ _ _ _ _ _ _ _ _ _ HX3.out; clear hb3)
        | (go_at_call 106; refine (HRI.out _ HB3.out).mono ?_; rintro e w4 ⟨rfl, hb4⟩; have HB4 := Lib.hid (HB3.out.trans (hb4.mono HB3.out.size)); obtain ⟨y0, y1, y2, y3, y4, y5, y6, y7, _⟩ := box8_in _ _ _ _ _ _ _ _ _ _ _ (heap_old HX3.out hb4); have v2 := name_var (HS.out _ HB4.out); have FIN := fin _ HB4; clear hb4)
        | (go_at_call 107; refine (HND.out _).mono ?_; rintro e w5 ⟨rfl, rfl⟩)
        | (go_at_call 108; refine (HIN.out _).mono ?_; rintro e w5 ⟨rfl, rfl⟩))
      go_ret
      exact FIN.out
  · have ho50 : (o == 50) = false := by rcases hex with h | h; exact h; rw [hs0] at h; cases h
    rw [hs0] at hse
    clear hex
    go_enter Tryd.func75, Tryd.ntmps75
    go_wp2_with (first
      | (go_at_call 104; refine (HMS.out _).mono ?_; rintro e w2 ⟨rfl, rfl⟩)
      | (go_at_call 105; refine (HEN.out _).mono ?_; rintro e w3 ⟨rfl, hb3⟩; have HB3 := Lib.hid (HB.out.trans (hb3.mono HB.out.size)); have HX3 := Lib.hid (heap_old HX.out hb3); obtain ⟨x0, x1, x2, x3, x4, x5, x6, x7, _⟩ := box8_in _ _ _ _ _ _ _ _ _ _ _ HX3.out; clear hb3)
      | (go_at_call 106; refine (HRI.out _ HB3.out).mono ?_; rintro e w4 ⟨rfl, hb4⟩; have HB4 := Lib.hid (HB3.out.trans (hb4.mono HB3.out.size)); obtain ⟨y0, y1, y2, y3, y4, y5, y6, y7, _⟩ := box8_in _ _ _ _ _ _ _ _ _ _ _ (heap_old HX3.out hb4); have v2 := name_var (HS.out _ HB4.out); have FIN := fin _ HB4; clear hb4)
      | (go_at_call 107; refine (HND.out _).mono ?_; rintro e w5 ⟨rfl, rfl⟩)
      | (go_at_call 108; refine (HIN.out _).mono ?_; rintro e w5 ⟨rfl, rfl⟩))
    go_ret
    exact FIN.out

/-- What the loop finds: nothing below is turned, the node's own box stands. -/
structure CkLoop (w : World) (g : Nat) (bx : Obj) (wr : World) : Prop where
  bel : Below w.heap.size w wr
  box : wr.heap[g]? = some bx
theorem loop_cases (o : Int) (lp : Bool) : ((o == 42) = true ∧ (o == 43) = false ∧ (o == 44) = false ∧ (o == 48) = false ∧ loopIn o lp = true) ∨ ((o == 42) = false ∧ (o == 43) = true ∧ (o == 44) = false ∧ (o == 48) = false ∧ loopIn o lp = true) ∨
    ((o == 42) = false ∧ (o == 43) = false ∧ (o == 44) = true ∧ (o == 48) = false ∧ loopIn o lp = true) ∨ ((o == 42) = false ∧ (o == 43) = false ∧ (o == 44) = false ∧ (o == 48) = true ∧ loopIn o lp = false) ∨
    ((o == 42) = false ∧ (o == 43) = false ∧ (o == 44) = false ∧ (o == 48) = false ∧ loopIn o lp = lp) := by
  unfold loopIn
  by_cases h1 : o = 42
  · subst h1; simp
  by_cases h2 : o = 43
  · subst h2; simp
  by_cases h3 : o = 44
  · subst h3; simp
  by_cases h4 : o = 48
  · subst h4; simp
  simp [h1, h2, h3, h4]
theorem ckL_drop (l : List Nd) (j : Nat) (h : j < l.length) (o at_ : Int) (lp : Bool) (last : Int) : ckL (l.drop j) j o at_ lp last = match ckN l[j] (placeInN o at_ j last) lp with
    | some f => some f
    | none => ckL (l.drop (j + 1)) (j + 1) o at_ lp last := by
  rw [List.drop_eq_getElem_cons h, ckL]
  cases ckN l[j] (placeInN o at_ j last) lp <;> rfl

theorem fine_ways {o : Int} {s : ByteArray} {lp : Bool} (hsn : (s.size == 0) = true ∨ isNamedB o = true) (hnm : (isNamedB o && !isNameB s && !((o == 50) && (s.size == 0))) = false) :
    (isNamedB o = false ∧ (s.size == 0) = true ∧ (o == 42) = false ∧ (o == 43) = false ∧ (((o == 44) = true ∧ (o == 48) = false ∧ loopIn o lp = true) ∨ ((o == 44) = false ∧ (o == 48) = true ∧ loopIn o lp = false) ∨ ((o == 44) = false ∧ (o == 48) = false ∧ loopIn o lp = lp))) ∨
    (isNamedB o = true ∧ isNameB s = true ∧ (s.size == 0) = false ∧ (o == 44) = false ∧ (o == 48) = false ∧ (((o == 42) = true ∧ (o == 43) = false ∧ loopIn o lp = true) ∨ ((o == 42) = false ∧ (o == 43) = true ∧ loopIn o lp = true) ∨ ((o == 42) = false ∧ (o == 43) = false ∧ loopIn o lp = lp))) ∨
    (isNamedB o = true ∧ isNameB s = false ∧ (o == 50) = true ∧ (s.size == 0) = true ∧ (o == 42) = false ∧ (o == 43) = false ∧ (o == 44) = false ∧ (o == 48) = false ∧ loopIn o lp = lp) := by
  have he : isNameB s = true → (s.size == 0) = false := fun h => by
    cases hz : (s.size == 0) with
    | false => rfl
    | true =>
      have hl : s.data.toList.length = s.size := by simp
      have : s.data.toList = [] := List.eq_nil_of_length_eq_zero (by rw [hl]; simpa using hz)
      unfold isNameB at h; rw [this] at h; cases h
  have hl := loop_cases o lp
  by_cases h42 : o = 42
  · subst h42
    have hn : isNamedB 42 = true := rfl
    right; left
    have h1 : isNameB s = true := by
      cases h : isNameB s with
      | true => rfl
      | false => rw [hn, h] at hnm; simp at hnm
    exact ⟨rfl, h1, he h1, rfl, rfl, .inl ⟨rfl, rfl, rfl⟩⟩
  by_cases h43 : o = 43
  · subst h43
    have hn : isNamedB 43 = true := rfl
    right; left
    have h1 : isNameB s = true := by
      cases h : isNameB s with
      | true => rfl
      | false => rw [hn, h] at hnm; simp at hnm
    exact ⟨rfl, h1, he h1, rfl, rfl, .inr (.inl ⟨rfl, rfl, rfl⟩)⟩
  by_cases h44 : o = 44
  · subst h44
    left
    rcases hsn with h | h
    · exact ⟨rfl, h, rfl, rfl, .inl ⟨rfl, rfl, rfl⟩⟩
    · cases h
  by_cases h48 : o = 48
  · subst h48
    left
    rcases hsn with h | h
    · exact ⟨rfl, h, rfl, rfl, .inr (.inl ⟨rfl, rfl, rfl⟩)⟩
    · cases h
  have c42 : (o == 42) = false := by simpa using h42
  have c43 : (o == 43) = false := by simpa using h43
  have c44 : (o == 44) = false := by simpa using h44
  have c48 : (o == 48) = false := by simpa using h48
  have hlp : loopIn o lp = lp := by unfold loopIn; rw [if_neg (by omega), if_neg h48]
  cases hn : isNamedB o with
  | false =>
    left
    rcases hsn with h | h
    · exact ⟨rfl, h, c42, c43, .inr (.inr ⟨c44, c48, hlp⟩)⟩
    · rw [hn] at h; cases h
  | true =>
    right
    cases h : isNameB s with
    | true => left; exact ⟨rfl, rfl, he h, c44, c48, .inr (.inr ⟨c42, c43, hlp⟩)⟩
    | false =>
      right
      rw [hn, h] at hnm
      simp only [Bool.not_false, Bool.and_self, Bool.true_and, Bool.not_eq_false', Bool.and_eq_true] at hnm
      exact ⟨rfl, rfl, hnm.1, hnm.2, c42, c43, c44, c48, hlp⟩
end Go.Proofs.YtminmadaeaiihaaDoor
