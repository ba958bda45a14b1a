/- seq.Get. -/
import Derived.Test.YtjipchloebbldaaFirst4
namespace Go.Proofs.Ytjipchloebbldaa
open Go.RowKit
set_option maxRecDepth 100000

def zeroT : T := .mk 0 0 ByteArray.empty []
def getS (l : List T) (i : Int) : T × Int := if hasB l.length i = true then (l.getD (i.toNat - 1) zeroT, 0) else (zeroT, 10)
/-- The answer is this value, in blocks from lo on, and this code. -/
def AnsV (lo : Nat) (w : World) (r : T × Int) (e : Ending) (w' : World) : Prop :=
  ∃ k n s p len cap, e = .returned (.tuple #[.agg #[.int .i64 k, .int .i64 n, .string s, .slice p len cap], .int .i64 r.2]) ∧ Rep w' lo w'.heap.size r.1 (.agg #[.int .i64 k, .int .i64 n, .string s, .slice p len cap]) ∧ Below w.heap.size w w'
theorem rep_zero {w : World} {lo hi : Nat} : Rep w lo hi zeroT (.agg #[.int .i64 0, .int .i64 0, .string ⟨#[]⟩, .slice none 0 0]) := rep_I (n := 0) (by unfold I64; omega)
theorem getS_at {l : List T} {k : Nat} (h : k < l.length) : getS l ((k : Int) + 1) = (l[k], 0) := by
  unfold getS
  rw [if_pos (hasB_iff.2 ⟨by omega, by omega⟩), show ((k : Int) + 1).toNat - 1 = k by omega]
  simp [List.getD, List.getElem?_eq_getElem h]

set_option maxHeartbeats 1000000 in
theorem get_any (l : List T) (p : Option Addr) (cap : Nat) (i : Int) (w : World) (lo hi : Nat) (ha : RepAll w lo hi l p) (hhi : hi ≤ w.heap.size) (hi' : I64 i) (hlen : l.length ≤ 1000000) :
    Calls Try.prog 12 #[.slice p l.length cap, .int .i64 i] w (AnsV w.heap.size w (getS l i)) := by
  by_cases hh : hasB l.length i = true
  · obtain ⟨i1, i2⟩ := hasB_iff.1 hh
    obtain ⟨k, rfl⟩ : ∃ k : Nat, i = (k : Int) + 1 := ⟨(i - 1).toNat, by omega⟩
    have hk : k < l.length := by omega
    obtain ⟨b, off, k1, n1, s1, l1, q1, cc1, rfl, _, hbhi, hli, h0, h1, h2, h3, hrep⟩ := ha.item k hk
    have HS : Hid (getS l ((k : Int) + 1) = (l[k], 0)) := getS_at hk
    have hbw : b < w.heap.size := by omega
    have HR := Lib.hid hrep; clear hrep ha
    rw [HS.out]
    have HLI := Lib.hid hli; clear hli
    generalize l[k] = t at *
    go_enter Try.func12, Try.ntmps12
    go_wp2_with (first
      | (go_at_call 43; (with_reducible refine (has_any l _ cap _ _ hlen).mono ?_); rintro e w1 ⟨rfl, hw⟩; subst hw)
      | (go_at_call 44; go_must (refine (clone_any t _ lo hi _ (HR.out.alloc hhi _) (by simp; omega)).mono ?_); rintro e w2 ⟨⟨v, rfl, hv, hb2⟩, _, _⟩; obtain ⟨k2, n2, s2, q2, len2, cap2, rfl⟩ := rep_form hv; have HV := Lib.hid hv; clear hv; obtain ⟨hx0, hx1, hx2, hx3, hxf⟩ := box4_in w2 w.heap.size _ _ _ _ _ (heap_old (heap_alloc_new w _) hb2); have hxf0 := hxf 0; have hxf1 := hxf 1; have hxf2 := hxf 2; have hxf3 := hxf 3; clear hxf))
    refine bodyPost_ret (v := .tuple #[.agg #[.int .i64 k2, .int .i64 n2, .string s2, .slice q2 len2 cap2], .int .i64 0]) (by simp [results, Try.results12, go_sem, hx0, hx1, hx2, hx3]) rfl ?_
    have hz2 := hb2.size
    rw [World.size_alloc] at hz2
    have hbw2 : Below w.heap.size w w2 := ((Below.refl _ _).alloc (Nat.le_refl _) _).trans (hb2.mono (by simp))
    refine ⟨k2, n2, s2, q2, len2, cap2, rfl, ?_, (((hbw2.setCell (Nat.le_refl _) _).setCell (Nat.le_refl _) _).setCell (Nat.le_refl _) _).setCell (Nat.le_refl _) _⟩
    have hv := HV.out
    rw [World.size_alloc] at hv
    exact ((((hv.setCell (Or.inl (by simp)) _).setCell (Or.inl (by simp)) _).setCell (Or.inl (by simp)) _).setCell (Or.inl (by simp)) _).keep (by simp) (by simp) (fun _ _ _ => rfl)
  · have HS : Hid (getS l i = (zeroT, 10)) := by show _ = _; unfold getS; rw [if_neg hh]
    have h2 : hasB l.length i = false := by simpa using hh
    clear ha
    rw [HS.out]
    go_enter Try.func12, Try.ntmps12
    go_wp2_with (go_at_call 43; (with_reducible refine (has_any l p cap _ _ (by omega)).mono ?_); rintro e w1 ⟨rfl, hw⟩; subst hw)
    refine bodyPost_ret (v := .tuple #[.agg #[.int .i64 0, .int .i64 0, .string ⟨#[]⟩, .slice none 0 0], .int .i64 10]) (by simp [results, Try.results12, go_sem]) rfl ?_
    exact ⟨0, 0, ⟨#[]⟩, none, 0, 0, rfl, rep_zero, by go_grown⟩
end Go.Proofs.Ytjipchloebbldaa
