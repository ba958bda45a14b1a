/- SeqSets: all the ways together. -/
import Derived.Test.YtjipchloebbldaaLawSets
namespace Go.Proofs.Ytjipchloebbldaa
open Go.RowKit
set_option maxRecDepth 100000

set_option maxHeartbeats 2000000 in
theorem sets_all (l : List T) (t : T) (v : Value) (w : World) (pl : Option Addr) (cl : Nat) (hl : RepAll w 0 w.heap.size l pl) (hlc : l.length ≤ cl) (hcl : l.length * 56 ≤ 140737488355328)
    (hv : Rep w 0 w.heap.size t v) :
    Calls Try.prog 5 #[.slice pl l.length cl, v] w fun e w' => e = .returned (.bool true) ∧ Below w.heap.size w w' := by
  obtain ⟨vk, vn, vs, vp, vl, vc, rfl⟩ := rep_form hv
  by_cases hall : fewRight l 40 = true ∧ rightL l = true ∧ rightB t = true
  · exact sets_main l t w pl cl vk vn vs vp vl vc hl hlc hcl hv hall.1 hall.2.1 hall.2.2
  · have HS0 := Lib.hid ((St.mk (W := w) (L := [(l, pl)]) (B := []) (V := [(t, .agg #[.int .i64 vk, .int .i64 vn, .string vs, .slice vp vl vc])]) (fun x hx => by simp at hx; subst hx; exact hl) (fun x hx => by simp at hx) (fun x hx => by simp at hx; subst hx; exact hv)).alloc #[.int .i64 vk, .int .i64 vn, .string vs, .slice vp vl vc] 24)
    have HB0 := Lib.hid ((Below.refl w.heap.size w).alloc (Nat.le_refl _) (.cells #[.int .i64 vk, .int .i64 vn, .string vs, .slice vp vl vc] 24))
    clear hl hv
    obtain ⟨A, hA⟩ : ∃ A, A = fewRight l 40 := ⟨_, rfl⟩
    obtain ⟨B, hB⟩ : ∃ B, B = rightL l := ⟨_, rfl⟩
    obtain ⟨C, hC⟩ : ∃ C, C = rightB t := ⟨_, rfl⟩
    rw [← hA, ← hB, ← hC] at hall
    have HF := Lib.hid hA
    have HA := Lib.hid hB
    have HCC := Lib.hid hC
    clear hA hB hC
    have hl9 : l.length ≤ 9000000000000000000 := by omega
    cases A with
    | false =>
      clear hall HA HCC
      go_enter Try.func5, Try.ntmps5
      go_wp2_with (first
        | (go_at_call 8; (with_reducible refine (first4_any _).mono ?_); rintro e w1 ⟨rfl, hb⟩; have HS1 := Lib.hid ((HS0.out.step hb)); have HB1 := Lib.hid (HB0.out.trans (hb.mono HB0.out.size)); clear hb)
        | (go_at_call 26; (with_reducible refine (wvalues_any l w1 0 w1.heap.size pl cl 40 (HS1.out.all (l, pl) (by simp)) (Nat.le_refl _) hl9).mono ?_); rintro e w2 ⟨rfl, hb⟩; rw [← HF.out]; have HS2 := Lib.hid ((HS1.out.step hb)); have HB2 := Lib.hid (HB1.out.trans (hb.mono HB1.out.size)); clear hb))
      go_ret
      exact ⟨rfl, HB2.out⟩
    | true =>
      cases B with
      | false =>
        clear hall HCC
        go_enter Try.func5, Try.ntmps5
        go_wp2_with (first
          | (go_at_call 8; (with_reducible refine (first4_any _).mono ?_); rintro e w1 ⟨rfl, hb⟩; have HS1 := Lib.hid ((HS0.out.step hb)); have HB1 := Lib.hid (HB0.out.trans (hb.mono HB0.out.size)); clear hb)
          | (go_at_call 26; (with_reducible refine (wvalues_any l w1 0 w1.heap.size pl cl 40 (HS1.out.all (l, pl) (by simp)) (Nat.le_refl _) hl9).mono ?_); rintro e w2 ⟨rfl, hb⟩; rw [← HF.out]; have HS2 := Lib.hid ((HS1.out.step hb)); have HB2 := Lib.hid (HB1.out.trans (hb.mono HB1.out.size)); clear hb)
          | (go_at_call 9; (with_reducible refine (rightL_any l w2 0 w2.heap.size pl cl (HS2.out.all (l, pl) (by simp)) (Nat.le_refl _) hlc hcl).mono ?_); rintro e w3 ⟨rfl, hb⟩; rw [← HA.out]; have HS3 := Lib.hid ((HS2.out.step hb)); have HB3 := Lib.hid (HB2.out.trans (hb.mono HB2.out.size)); clear hb; obtain ⟨hx0, hx1, hx2, hx3, hxf⟩ := box4_in w3 w.heap.size _ _ _ _ _ (HS3.out.box (w.heap.size, bx vk vn vs vp vl vc) (by simp)); clear hxf))
        go_ret
        exact ⟨rfl, HB3.out⟩
      | true =>
        cases C with
        | true => exact absurd ⟨rfl, rfl, rfl⟩ hall
        | false =>
          clear hall
          go_enter Try.func5, Try.ntmps5
          go_wp2_with (first
            | (go_at_call 8; (with_reducible refine (first4_any _).mono ?_); rintro e w1 ⟨rfl, hb⟩; have HS1 := Lib.hid ((HS0.out.step hb)); have HB1 := Lib.hid (HB0.out.trans (hb.mono HB0.out.size)); clear hb)
            | (go_at_call 26; (with_reducible refine (wvalues_any l w1 0 w1.heap.size pl cl 40 (HS1.out.all (l, pl) (by simp)) (Nat.le_refl _) hl9).mono ?_); rintro e w2 ⟨rfl, hb⟩; rw [← HF.out]; have HS2 := Lib.hid ((HS1.out.step hb)); have HB2 := Lib.hid (HB1.out.trans (hb.mono HB1.out.size)); clear hb)
            | (go_at_call 9; (with_reducible refine (rightL_any l w2 0 w2.heap.size pl cl (HS2.out.all (l, pl) (by simp)) (Nat.le_refl _) hlc hcl).mono ?_); rintro e w3 ⟨rfl, hb⟩; rw [← HA.out]; have HS3 := Lib.hid ((HS2.out.step hb)); have HB3 := Lib.hid (HB2.out.trans (hb.mono HB2.out.size)); clear hb; obtain ⟨hx0, hx1, hx2, hx3, hxf⟩ := box4_in w3 w.heap.size _ _ _ _ _ (HS3.out.box (w.heap.size, bx vk vn vs vp vl vc) (by simp)); clear hxf)
            | (go_at_call 10; (with_reducible refine (right_any t w3 0 w3.heap.size _ (HS3.out.val (t, .agg #[.int .i64 vk, .int .i64 vn, .string vs, .slice vp vl vc]) (by simp)) (Nat.le_refl _)).mono ?_); rintro e w4 ⟨rfl, hb⟩; rw [← HCC.out]; have HS4 := Lib.hid ((HS3.out.step hb)); have HB4 := Lib.hid (HB3.out.trans (hb.mono HB3.out.size)); clear hb hx0 hx1 hx2 hx3))
          go_ret
          exact ⟨rfl, HB4.out⟩
end Go.Proofs.Ytjipchloebbldaa
