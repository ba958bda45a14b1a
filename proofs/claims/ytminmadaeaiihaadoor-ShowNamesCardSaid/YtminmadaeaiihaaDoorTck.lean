/- tree.check: what is first amiss with a node, and all within it. -/
import Derived.Test.YtminmadaeaiihaaDoorTk
import Derived.Deep.RegionWith
import Derived.Deep.DeepCutAuto
namespace Go.Proofs.YtminmadaeaiihaaDoor
open Go.RowKit
set_option maxRecDepth 100000

def shapeBad (o at_ : Int) (lp : Bool) (s : ByteArray) (v : T) (len : Nat) : Bool := !mayStandB o at_ lp || !enoughB o len || !rightV o v || (!(s.size == 0) && !isNamedB o)
def nameBad (o : Int) (s : ByteArray) : Bool := isNamedB o && !isNameB s && !(o == 50 && s.size == 0)
mutual
/-- The first fault: its line, and which error. -/
def ckN : Nd → Int → Bool → Option (Int × Nat)
  | .mk o n s v l, at_, lp => if shapeBad o at_ lp s v l.length then some (n, 2) else if nameBad o s then some (n, 5) else ckL l 0 o at_ (loopIn o lp) ((l.length : Int) - 1)
def ckL : List Nd → Nat → Int → Int → Bool → Int → Option (Int × Nat)
  | [], _, _, _, _, _ => none
  | t :: r, i, o, at_, lp, last => match ckN t (placeInN o at_ i last) lp with
    | some f => some f
    | none => ckL r (i + 1) o at_ lp last
end

/-- What a call answers of a fault with a line. -/
def CkPost (ad : Nat → Addr) (r : Option (Int × Nat)) (w : World) (e : Ending) (w' : World) : Prop :=
  Below w.heap.size w w' ∧ match r with
    | none => e = .returned .nilIface
    | some (n, k) => ∃ bk, e = .returned (.iface 125 (.pointer (some ⟨bk, 0, none⟩))) ∧ w.heap.size ≤ bk ∧ w'.heap[bk]? = some (.cells #[.int .i64 n, ev (ad k)] 127 (0, 0))

theorem shape_var {w : World} {ad : Nat → Addr} (h : Sn w ad) : w.cell? ⟨3, 0, none⟩ = some (.iface 179 (.pointer (some (ad 2)))) := h.shape
theorem name_var {w : World} {ad : Nat → Addr} (h : Sn w ad) : w.cell? ⟨4, 0, none⟩ = some (.iface 179 (.pointer (some (ad 5)))) := h.name
theorem many_var {w : World} {ad : Nat → Addr} (h : Sn w ad) : w.cell? ⟨1, 0, none⟩ = some (.iface 179 (.pointer (some (ad 3)))) := h.many
theorem deep_var {w : World} {ad : Nat → Addr} (h : Sn w ad) : w.cell? ⟨2, 0, none⟩ = some (.iface 179 (.pointer (some (ad 11)))) := h.deep

def CkOk (ad : Nat → Addr) (t : Nd) : Prop := ∀ (x : Value) (at_ : Int) (lp : Bool) (w : World) (lo hi : Nat), NRep w lo hi t x → hi ≤ w.heap.size → cnt t ≤ 1000000000 → Sn w ad →
  Calls Tryd.prog 75 #[x, .int .i64 at_, .bool lp] w (CkPost ad (ckN t at_ lp) w)

set_option maxHeartbeats 2000000 in
/-- The ways that end at the node itself: a shape that may not be. -/
theorem check_shape (ad : Nat → Addr) (o n : Int) (s : ByteArray) (v : T) (l : List Nd) (x : Value) (at_ : Int) (lp : Bool) (w : World) (lo hi : Nat) (hr : NRep w lo hi (.mk o n s v l) x) (hhi : hi ≤ w.heap.size) (hS : Sn w ad) (hbad : shapeBad o at_ lp s v l.length = true) :
    Calls Tryd.prog 75 #[x, .int .i64 at_, .bool lp] w (CkPost ad (some (n, 2)) w) := by
  obtain ⟨k, m, z, q, ql, qc, p, cap, rfl, hio, hin, hsz, hrv, hlc, hl112, hall⟩ := hr.open
  have HB := Lib.hid ((Below.refl w.heap.size w).alloc (Nat.le_refl _) (.cells #[.int .i64 o, .int .i64 n, .string s, .int .i64 k, .int .i64 m, .string z, .slice q ql qc, .slice p l.length cap] 40))
  have HX := Lib.hid (heap_alloc_new w (.cells #[.int .i64 o, .int .i64 n, .string s, .int .i64 k, .int .i64 m, .string z, .slice q ql qc, .slice p l.length cap] 40))
  have HS := Lib.hid (fun W (hb : Below w.heap.size w W) => hS.below hb)
  have HR := Lib.hid (fun W (hb : Below w.heap.size w W) => hasRight_any ad o n s v l _ W lo hi (hr.below hb hhi) (by have := hb.size; omega) (hS.below hb))
  have hsl : s.data.toList.length = s.size := by simp
  clear hr hS hrv hall hio hin
  have fin : ∀ w2, Hid (Below w.heap.size w w2) → Hid (CkPost ad (some (n, 2)) w (.returned (.iface 125 (.pointer (some ⟨w2.heap.size, 0, none⟩)))) (w2.alloc (.cells #[.int .i64 n, ev (ad 2)] 127))) := fun w2 hb => Lib.hid ⟨hb.out.alloc hb.out.size _, w2.heap.size, rfl, hb.out.size, heap_alloc_new w2 _⟩
  cases hms : mayStandB o at_ lp with
  | false =>
    have HMS := Lib.hid (fun w => by have := mayStand_any o at_ lp w; rw [hms] at this; exact this)
    have v2 := shape_var (HS.out _ HB.out)
    have FIN := fin _ HB
    clear fin hbad hms
    go_enter Tryd.func75, Tryd.ntmps75
    go_wp2_with (go_at_call 104; refine (HMS.out _).mono ?_; rintro e w2 ⟨rfl, rfl⟩)
    go_ret
    have hf := FIN.out
    rw [World.size_alloc] at hf
    exact hf
  | true =>
    have HMS := Lib.hid (fun w => by have := mayStand_any o at_ lp w; rw [hms] at this; exact this)
    cases hen : enoughB o l.length with
    | false =>
      have HEN := Lib.hid (fun w => by have := hasEnough_any o n s k m z q ql qc p l.length cap w; rw [hen] at this; exact this)
      clear hbad hms hen
      go_enter Tryd.func75, Tryd.ntmps75
      go_wp2_with (first
        | (go_at_call 104; refine (HMS.out _).mono ?_; rintro e w2 ⟨rfl, rfl⟩)
        | (go_at_call 105; refine (HEN.out _).mono ?_; rintro e w3 ⟨rfl, hb3⟩; have HB3 := Lib.hid (HB.out.trans (hb3.mono HB.out.size)); obtain ⟨x0, x1, x2, x3, x4, x5, x6, x7, _⟩ := box8_in _ _ _ _ _ _ _ _ _ _ _ (heap_old HX.out hb3); have v2 := shape_var (HS.out _ HB3.out); have FIN := fin _ HB3; clear hb3))
      go_ret
      exact FIN.out
    | true =>
      have HEN := Lib.hid (fun w => by have := hasEnough_any o n s k m z q ql qc p l.length cap w; rw [hen] at this; exact this)
      cases hri : rightV o v with
      | false =>
        have HRI := Lib.hid (fun W hb => by have := HR.out W hb; rw [hri] at this; exact this)
        clear hbad hms hen hri
        go_enter Tryd.func75, Tryd.ntmps75
        go_wp2_with (first
          | (go_at_call 104; refine (HMS.out _).mono ?_; rintro e w2 ⟨rfl, rfl⟩)
          | (go_at_call 105; refine (HEN.out _).mono ?_; rintro e w3 ⟨rfl, hb3⟩; have HB3 := Lib.hid (HB.out.trans (hb3.mono HB.out.size)); have HX3 := Lib.hid (heap_old HX.out hb3); obtain ⟨x0, x1, x2, x3, x4, x5, x6, x7, _⟩ := box8_in _ _ _ _ _ _ _ _ _ _ _ HX3.out; clear hb3)
          | (go_at_call 106; refine (HRI.out _ HB3.out).mono ?_; rintro e w4 ⟨rfl, hb4⟩; have HB4 := Lib.hid (HB3.out.trans (hb4.mono HB3.out.size)); obtain ⟨y0, y1, y2, y3, y4, y5, y6, y7, _⟩ := box8_in _ _ _ _ _ _ _ _ _ _ _ (heap_old HX3.out hb4); have v2 := shape_var (HS.out _ HB4.out); have FIN := fin _ HB4; clear hb4))
        go_ret
        exact FIN.out
      | true =>
        have HRI := Lib.hid (fun W hb => by have := HR.out W hb; rw [hri] at this; exact this)
        have hs2 : ¬ s.size = 0 ∧ isNamedB o = false := by
          unfold shapeBad at hbad; rw [hms, hen, hri] at hbad; simpa using hbad
        have HNM := Lib.hid (fun w => by have := isNamed_any o w; rw [hs2.2] at this; exact this)
        have hse : s.toList.isEmpty = false := by
          rw [Go.ByteArray.toList_eq]
          cases hl : s.data.toList with
          | nil => rw [hl] at hsl; simp at hsl; exact absurd hsl.symm hs2.1
          | cons c r => rfl
        clear hbad hms hen hri hs2 hsl
        go_enter Tryd.func75, Tryd.ntmps75
        go_wp2_with (first
          | (go_at_call 104; refine (HMS.out _).mono ?_; rintro e w2 ⟨rfl, rfl⟩)
          | (go_at_call 105; refine (HEN.out _).mono ?_; rintro e w3 ⟨rfl, hb3⟩; have HB3 := Lib.hid (HB.out.trans (hb3.mono HB.out.size)); have HX3 := Lib.hid (heap_old HX.out hb3); obtain ⟨x0, x1, x2, x3, x4, x5, x6, x7, _⟩ := box8_in _ _ _ _ _ _ _ _ _ _ _ HX3.out; clear hb3)
          | (go_at_call 106; refine (HRI.out _ HB3.out).mono ?_; rintro e w4 ⟨rfl, hb4⟩; have HB4 := Lib.hid (HB3.out.trans (hb4.mono HB3.out.size)); obtain ⟨y0, y1, y2, y3, y4, y5, y6, y7, _⟩ := box8_in _ _ _ _ _ _ _ _ _ _ _ (heap_old HX3.out hb4); have v2 := shape_var (HS.out _ HB4.out); have FIN := fin _ HB4; clear hb4)
          | (go_at_call 107; refine (HNM.out _).mono ?_; rintro e w5 ⟨rfl, rfl⟩))
        go_ret
        exact FIN.out
end Go.Proofs.YtminmadaeaiihaaDoor
