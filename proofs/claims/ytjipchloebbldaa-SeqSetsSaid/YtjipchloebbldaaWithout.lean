/- seq.Without. -/
import Derived.Test.YtjipchloebbldaaFind
namespace Go.Proofs.Ytjipchloebbldaa
open Go.RowKit
set_option maxRecDepth 100000

def withoutS (l : List T) (t : T) : List T := if fnd t l = l.length then l else l.take (fnd t l) ++ l.drop (fnd t l + 1)

set_option maxHeartbeats 2000000 in
theorem without_any (l : List T) (p : Option Addr) (cap : Nat) (t : T) (v : Value) (w : World) (ha : RepAll w 0 w.heap.size l p) (hca : l.length ≤ cap) (hv : Rep w 0 w.heap.size t v) (hlen : l.length ≤ 1000000) :
    Calls Try.prog 32 #[.slice p l.length cap, v] w (Glued w.heap.size w (withoutS l t)) := by
  obtain ⟨vk, vn, vs, vp, vl, vc, rfl⟩ := rep_form hv
  have HS0 := Lib.hid ((St.mk (W := w) (L := [(l, p)]) (B := []) (V := [(t, .agg #[.int .i64 vk, .int .i64 vn, .string vs, .slice vp vl vc])]) (fun x hx => by simp at hx; subst hx; exact ha) (fun x hx => by simp at hx) (fun x hx => by simp at hx; subst hx; exact hv)).alloc #[.int .i64 vk, .int .i64 vn, .string vs, .slice vp vl vc] 24)
  have HB0 := Lib.hid ((Below.refl w.heap.size w).alloc (Nat.le_refl _) (.cells #[.int .i64 vk, .int .i64 vn, .string vs, .slice vp vl vc] 24))
  have HC := Lib.hid (find_any l p cap t (w.alloc (.cells #[.int .i64 vk, .int .i64 vn, .string vs, .slice vp vl vc] 24)) 0 _ vk vn vs vp vl vc (HS0.out.all (l, p) (by simp)) (HS0.out.val (t, _) (by simp)) (Nat.le_refl _) hlen)
  have hfl := fnd_le t l
  clear ha hv
  by_cases hf : fnd t l = l.length
  · have HS : Hid (withoutS l t = l) := by show _ = _; unfold withoutS; rw [if_pos hf]
    have hF : findS l t = 0 := by unfold findS; rw [if_pos hf]
    rw [hF] at HC
    rw [HS.out]
    clear hF hf HS hfl
    have HK := Lib.hid (fun (W : World) (hall : RepAll W 0 W.heap.size l p) => sclone_any l W 0 W.heap.size p cap hall hca (by omega) (Nat.le_refl _))
    go_enter Try.func32, Try.ntmps32
    go_wp2_with (first
      | (go_at_call 31; (with_reducible refine HC.out.mono ?_); rintro e w2 ⟨rfl, hb⟩; have HS2 := Lib.hid (HS0.out.step hb); have HB2 := Lib.hid (HB0.out.trans (hb.mono HB0.out.size)); clear hb)
      | (go_at_call 49; (with_reducible refine (HK.out _ (HS2.out.all (l, p) (by simp))).mono ?_); rintro e w3 ⟨⟨p3, cap3, rfl, h31, _, h32, hb3⟩, _, _⟩; have H32 := Lib.hid h32; have HB3 := Lib.hid hb3; clear h32 hb3))
    go_ret
    exact ⟨p3, cap3, rfl, h31, H32.out.keep HB2.out.size (Nat.le_refl _) (fun _ _ _ => rfl), HB2.out.trans (HB3.out.mono HB2.out.size)⟩
  · obtain ⟨k, hk⟩ : ∃ k, k = fnd t l := ⟨_, rfl⟩
    have hkl : k < l.length := by omega
    have hF : findS l t = (k : Int) + 1 := by unfold findS; rw [if_neg hf, hk]
    rw [hF] at HC
    obtain ⟨L, hL⟩ : ∃ L, L = l.take k ++ l.drop (k + 1) := ⟨_, rfl⟩
    have HLl : Hid (L.length = l.length - 1) := by show _ = _; rw [hL]; simp; omega
    have HS : Hid (withoutS l t = L) := by show _ = _; unfold withoutS; rw [if_neg hf, ← hk, hL]
    rw [HS.out]
    have hs1 := slice_head p l.length cap k (by omega)
    -- the piece behind, whatever the world
    obtain ⟨q, hq⟩ : ∃ q, q = if cap = k + 1 then p else p.map (·.add ((k + 1) * 4)) := ⟨_, rfl⟩
    have hs2 : ∀ W : World, (Instr.sliceAt 22 (.slice p l.length cap) (some (.int .i64 ((k : Int) + 1))) none none).run Try.prog W = .ok (.slice q (l.length - (k + 1)) (cap - (k + 1))) W := fun W => by
      have h2 : (k : Int) + 1 ≤ (l.length : Int) := by omega
      have ht := Try.underlying22
      have e : ((k : Int) + 1).toNat = k + 1 := by omega
      have h0 : (0 : Int) ≤ (k : Int) + 1 := by omega
      rw [hq]
      simp only [Instr.sliceAt, Instr.slice, run_underlying ht, Instr.sliceBounds, Instr.sliceBound, asIntOf, Sem.run_bind, Sem.run_pure, Result.andThen]
      simp [go_sem, h2, h0, e]
    have hqr : ∀ W, RepAll W 0 W.heap.size l p → RepAll W 0 W.heap.size (l.drop (k + 1)) q := fun W h => by
      rw [hq]
      by_cases hc : cap = k + 1
      · rw [List.drop_of_length_le (by omega)]; unfold RepAll; trivial
      · rw [if_neg hc]; exact h.drop (k + 1)
    have HQ := Lib.hid hqr
    have HL := Lib.hid hL
    have HK := Lib.hid (fun (W : World) (p' : Option Addr) (cap' : Nat) (hall : RepAll W 0 W.heap.size L p') (h1 : L.length ≤ cap') => sclone_any L W 0 W.heap.size p' cap' hall h1 (by have := HLl.out; omega) (Nat.le_refl _))
    have hw1 : IntKind.i64.wrap ((k : Int) + 1 - 1) = (k : Int) := by rw [IntKind.wrap_i64]; omega
    have hw2 : IntKind.i64.wrap (k : Int) = (k : Int) := by rw [IntKind.wrap_i64]; omega
    have hb0 : (0 : Int) ≤ (k : Int) := by omega
    have hb1 : (k : Int) ≤ (cap : Int) := by omega
    have hb2 : (k : Int) + 1 ≤ (l.length : Int) := by omega
    have hb3 : (0 : Int) ≤ (k : Int) + 1 := by omega
    have hne : ((k : Int) + 1 == 0) = false := by simp; omega
    clear hF hf HS hfl hk hL hq hqr
    go_enter Try.func32, Try.ntmps32
    go_wp2_with (go_at_call 31; (with_reducible refine HC.out.mono ?_); rintro e w2 ⟨rfl, hb⟩; have HS2 := Lib.hid (HS0.out.step hb); have HB2 := Lib.hid (HB0.out.trans (hb.mono HB0.out.size)); clear hb)
    have HBW := Lib.hid (((Below.refl w2.heap.size w2).alloc (Nat.le_refl _) (.cells #[.slice p k cap, .slice q (l.length - (k + 1)) (cap - (k + 1))] 22)).drew)
    have HSW := Lib.hid (HS2.out.step HBW.out)
    have hC0 := concat2_any (l.take k) (l.drop (k + 1)) p q cap (cap - (k + 1)) (w2.alloc (.cells #[.slice p k cap, .slice q (l.length - (k + 1)) (cap - (k + 1))] 22)).drew 0 (w2.alloc (.cells #[.slice p k cap, .slice q (l.length - (k + 1)) (cap - (k + 1))] 22)).drew.heap.size w2.heap.size (by rw [List.length_take, List.length_drop, Nat.min_eq_left (by omega)]; exact heap_alloc_new w2 _) ((HSW.out.all (l, p) (by simp)).take k) (by rw [List.length_take]; omega) (HQ.out _ (HSW.out.all (l, p) (by simp))) (by rw [List.length_drop]; omega) (Nat.le_refl _) (Nat.zero_le _) (by rw [← HL.out]; have := HLl.out; omega)
    rw [← HL.out] at hC0
    have HC2 := Lib.hid hC0
    clear hC0
    go_region_held3 (fun _ => True) (first | go_keep | trivial | (go_show; fail)) (first
      | (go_at_call 48; (with_reducible refine HC2.out.mono ?_); rintro e w3 ⟨p3, cap3, rfl, h31, h32, hb3⟩; have H32 := Lib.hid h32; have HB3 := Lib.hid (HB2.out.trans ((HBW.out.trans (hb3.mono HBW.out.size)).mono HB2.out.size)); clear h32 hb3)
      | (go_at_call 49; (with_reducible refine (HK.out _ _ _ H32.out h31).mono ?_); rintro e w4 ⟨⟨p4, cap4, rfl, h41, _, h42, hb4⟩, _, _⟩; have H42 := Lib.hid h42; have HB4 := Lib.hid hb4; clear h42 hb4))
    go_wp2
    go_ret
    exact ⟨p4, cap4, rfl, h41, H42.out.keep HB3.out.size (Nat.le_refl _) (fun _ _ _ => rfl), HB3.out.trans (HB4.out.mono HB3.out.size)⟩
end Go.Proofs.Ytjipchloebbldaa
