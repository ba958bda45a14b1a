/- Package tree: the values of nodes. -/
import Derived.Test.YtminmadaeaiihaaDoorTh3
import Derived.Test.YtminmadaeaiihaaDoorValid
import Derived.Test.YtminmadaeaiihaaDoorSn
namespace Go.Proofs.YtminmadaeaiihaaDoor
open Go.RowKit
set_option maxRecDepth 100000

/-- V is as a node of this op has to have it. -/
def rightV (o : Int) (v : T) : Bool := if o = 1 then (if v.k = 4 ∨ (v.k = 0 ∧ v.n = -9223372036854775808) then false else rightB v) else emptyV v

set_option maxHeartbeats 1000000 in
theorem equalNone_any (q : Option Addr) (ql qc : Nat) (f : Value) (w : World) :
    Calls Tryd.prog 95 #[.slice q ql qc, .slice none 0 0, f] w fun e w' => e = .returned (.bool (ql == 0)) ∧ w' = w := by
  by_cases h : ql = 0
  · subst h
    go_enter Tryd.func95, Tryd.ntmps95
    go_wp2
    go_loop [17] (fun i => i = .int .i64 0) (fun _ => 0)
    case atStart => rfl
    case round =>
      subst hrel
      go_wp2
      go_ret
      exact ⟨rfl, rfl⟩
  · have h1 : ((ql : Int) != 0) = true := by simpa using h
    have h2 : ¬ (ql : Int) = 0 := by omega
    have HM := Lib.hid (show (ql == 0) = false from by simpa using h)
    go_enter Tryd.func95, Tryd.ntmps95
    go_wp2
    go_ret
    exact ⟨by rw [HM.out]; rfl, rfl⟩

set_option maxHeartbeats 1000000 in
theorem sameNone_any (v : T) (k m : Int) (z : ByteArray) (q : Option Addr) (ql qc : Nat) (hk : v.k = k) (hm : v.n = m) (hz : v.s = z) (hl : v.l.length = ql) (w : World) :
    Calls Tryd.prog 58 #[.agg #[.int .i64 k, .int .i64 m, .string z, .slice q ql qc], .agg #[.int .i64 0, .int .i64 0, .string ⟨#[]⟩, .slice none 0 0]] w fun e w' => e = .returned (.bool (emptyV v)) ∧ Below w.heap.size w w' := by
  have HE := Lib.hid (show emptyV v = ((k == 0) && (m == 0) && (z.size == 0) && (ql == 0)) from (by unfold emptyV; rw [hk, hm, hz, hl]))
  have HB := Lib.hid (((Below.refl w.heap.size w).alloc (Nat.le_refl _) (.cells #[.int .i64 k, .int .i64 m, .string z, .slice q ql qc] 38)).alloc (by simp) (.cells #[.int .i64 0, .int .i64 0, .string ⟨#[]⟩, .slice none 0 0] 38))
  clear hk hm hz hl
  have hzl : z.data.toList.length = z.size := by simp
  go_enter Tryd.func58, Tryd.ntmps58
  rcases hk : (k == 0)
  · have HM := Lib.hid (show emptyV v = false from (by rw [HE.out, hk]; simp))
    go_wp2
    go_ret
    exact ⟨by rw [HM.out]; rfl, HB.out⟩
  rcases hm : (m == 0)
  · have HM := Lib.hid (show emptyV v = false from (by rw [HE.out, hm]; simp))
    go_wp2
    go_ret
    exact ⟨by rw [HM.out]; rfl, HB.out⟩
  by_cases hz : z.size = 0
  · have hz2 : z.toList.isEmpty = true := by
      rw [Go.ByteArray.toList_eq, List.eq_nil_of_length_eq_zero (by omega : z.data.toList.length = 0)]; rfl
    have HM := Lib.hid (show emptyV v = (ql == 0) from (by rw [HE.out, hk, hm, hz]; simp))
    clear hz
    go_wp2_with (go_at_call 95; refine (equalNone_any _ _ _ _ _).mono ?_; rintro e w2 ⟨rfl, rfl⟩)
    go_ret
    exact ⟨by rw [HM.out]; rfl, HB.out⟩
  · have hz2 : z.toList.isEmpty = false := by
      rw [Go.ByteArray.toList_eq]
      cases hl : z.data.toList with
      | nil => rw [hl] at hzl; simp at hzl; omega
      | cons c r => rfl
    have HM := Lib.hid (show emptyV v = false from (by rw [HE.out]; simp [hz]))
    go_wp2
    go_ret
    exact ⟨by rw [HM.out]; rfl, HB.out⟩

set_option maxHeartbeats 1000000 in
theorem hasRight_any (ad : Nat → Addr) (o n : Int) (s : ByteArray) (v : T) (l : List Nd) (x : Value) (w : World) (lo hi : Nat) (hr : NRep w lo hi (.mk o n s v l) x) (hhi : hi ≤ w.heap.size) (hS : Sn w ad) :
    Calls Tryd.prog 106 #[x] w fun e w' => e = .returned (.bool (rightV o v)) ∧ Below w.heap.size w w' := by
  obtain ⟨k, m, z, q, ql, qc, p, cap, rfl, _, _, _, hrv, _⟩ := hr.open
  obtain ⟨e1, e2, e3, e4⟩ := rep_open hrv
  have HB := Lib.hid (((Below.refl w.heap.size w).alloc (Nat.le_refl _) (.cells #[.int .i64 o, .int .i64 n, .string s, .int .i64 k, .int .i64 m, .string z, .slice q ql qc, .slice p l.length cap] 40)).alloc (by simp) (.cells #[.int .i64 k, .int .i64 m, .string z, .slice q ql qc] 38))
  have HV := Lib.hid (fun W (hb : Below w.heap.size w W) => valid5_any ad v W lo hi _ (hrv.below hb hhi) (by have := hb.size; omega) (hS.below hb))
  have HSN := Lib.hid (fun W => sameNone_any v k m z q ql qc e1 e2 e3 e4 W)
  clear hr hrv hS
  go_enter Tryd.func106, Tryd.ntmps106
  rcases ho : (o == 1)
  · have ho1 : ¬ o = 1 := by simpa using ho
    have hob : (o != 1) = true := by simpa using ho1
    have HM := Lib.hid (show rightV o v = emptyV v from (by unfold rightV; rw [if_neg ho1]))
    clear ho1
    go_wp2_with (go_at_call 58; refine (HSN.out _).mono ?_; rintro e w2 ⟨rfl, hb2⟩)
    go_ret
    exact ⟨by rw [HM.out]; rfl, HB.out.trans (hb2.mono HB.out.size)⟩
  have ho1 : o = 1 := by simpa using ho
  have hob : (o != 1) = false := by rw [ho1]; rfl
  have HO := Lib.hid ho1
  clear ho1 ho
  rcases hk4 : (k == 4)
  · have hk4' : ¬ v.k = 4 := by rw [e1]; simpa using hk4
    have HVI := Lib.hid (fun h : ¬ (v.k = 0 ∧ v.n = -9223372036854775808) => show rightV o v = rightB v from (by unfold rightV; rw [if_pos HO.out, if_neg (by rintro (h1 | h1); exact hk4' h1; exact h h1)]))
    have HR := Lib.hid (show (vIdx v = none ↔ rightB v = true) from (by
      have := vIdx_code v
      unfold rightB
      cases hx : vIdx v with
      | none => rw [hx] at this; simp [errCode] at this; simp [← this]
      | some k => rw [hx] at this; have h2 := vIdx_lt v k hx; simp [errCode] at this; simp; omega))
    have fin : ∀ w2, Below w.heap.size w w2 → Hid (Calls Tryd.prog 100 #[.agg #[.int .i64 k, .int .i64 m, .string z, .slice q ql qc]] w2 fun e w' => e = .returned (errVal ad (vIdx v)) ∧ Below w2.heap.size w2 w') := fun w2 hb => Lib.hid (HV.out w2 hb)
    have fin2 := Lib.hid (fin _ HB.out)
    clear fin hk4' HV
    rcases hk0 : (k == 0)
    · have HM := Lib.hid (HVI.out (by rw [e1]; rintro ⟨h1, _⟩; rw [h1] at hk0; simp at hk0))
      cases hvi : vIdx v with
      | none =>
        rw [hvi] at fin2
        have HF := Lib.hid (show rightV o v = true from (by rw [HM.out]; exact HR.out.1 hvi))
        clear hvi e1 e2 e3 e4
        go_wp2_with (go_at_call 100; refine fin2.out.out.mono ?_; rintro e w2 ⟨rfl, hb2⟩; unfold errVal)
        go_ret
        exact ⟨by rw [HF.out]; rfl, HB.out.trans (hb2.mono HB.out.size)⟩
      | some j =>
        rw [hvi] at fin2
        have HF := Lib.hid (show rightV o v = false from (by rw [HM.out]; cases h : rightB v; rfl; rw [HR.out.2 h] at hvi; cases hvi))
        clear hvi e1 e2 e3 e4
        go_wp2_with (go_at_call 100; refine fin2.out.out.mono ?_; rintro e w2 ⟨rfl, hb2⟩; unfold errVal ev)
        go_ret
        exact ⟨by rw [HF.out]; rfl, HB.out.trans (hb2.mono HB.out.size)⟩
    · rcases hmm : (m == -9223372036854775808)
      · have HM := Lib.hid (HVI.out (by rw [e2]; rintro ⟨_, h1⟩; rw [h1] at hmm; simp at hmm))
        cases hvi : vIdx v with
        | none =>
          rw [hvi] at fin2
          have HF := Lib.hid (show rightV o v = true from (by rw [HM.out]; exact HR.out.1 hvi))
          clear hvi e1 e2 e3 e4
          go_wp2_with (go_at_call 100; refine fin2.out.out.mono ?_; rintro e w2 ⟨rfl, hb2⟩; unfold errVal)
          go_ret
          exact ⟨by rw [HF.out]; rfl, HB.out.trans (hb2.mono HB.out.size)⟩
        | some j =>
          rw [hvi] at fin2
          have HF := Lib.hid (show rightV o v = false from (by rw [HM.out]; cases h : rightB v; rfl; rw [HR.out.2 h] at hvi; cases hvi))
          clear hvi e1 e2 e3 e4
          go_wp2_with (go_at_call 100; refine fin2.out.out.mono ?_; rintro e w2 ⟨rfl, hb2⟩; unfold errVal ev)
          go_ret
          exact ⟨by rw [HF.out]; rfl, HB.out.trans (hb2.mono HB.out.size)⟩
      · have HF := Lib.hid (show rightV o v = false from (by unfold rightV; rw [if_pos HO.out, if_pos (.inr ⟨by rw [e1]; simpa using hk0, by rw [e2]; simpa using hmm⟩)]))
        clear e1 e2 e3 e4
        go_wp2
        go_ret
        exact ⟨by rw [HF.out]; rfl, HB.out⟩
  · have HF := Lib.hid (show rightV o v = false from (by unfold rightV; rw [if_pos HO.out, if_pos (.inl (by rw [e1]; simpa using hk4))]))
    clear e1 e2 e3 e4
    go_wp2
    go_ret
    exact ⟨by rw [HF.out]; rfl, HB.out⟩
end Go.Proofs.YtminmadaeaiihaaDoor
