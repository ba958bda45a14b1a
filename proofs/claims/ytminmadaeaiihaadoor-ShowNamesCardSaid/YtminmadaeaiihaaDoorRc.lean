/- The document's plain copy of nodes. -/
import Derived.Test.YtminmadaeaiihaaDoorCopy
import Derived.Test.YtminmadaeaiihaaDoorTm
import Derived.Deep.RegionHeld3
import Derived.Handy
namespace Go.Proofs.YtminmadaeaiihaaDoor
open Go.RowKit
set_option maxRecDepth 100000

def NewN (w : World) (t : Nd) (e : Ending) (w' : World) : Prop := ∃ x, e = .returned x ∧ NRep w' w.heap.size w'.heap.size t x ∧ Below w.heap.size w w'
def NewNs (w : World) (l : List Nd) (e : Ending) (w' : World) : Prop := ∃ q c, e = .returned (.slice q l.length c) ∧ l.length ≤ c ∧ NAll w' w.heap.size w'.heap.size l q ∧ Below w.heap.size w w'
theorem Tryd.info_N : (Tryd.prog.info? 40).map (fun i => (i.zero, i.size, i.bytes)) = some (some (.agg #[.int .i64 0, .int .i64 0, .string ⟨#[]⟩, .int .i64 0, .int .i64 0, .string ⟨#[]⟩, .slice none 0 0, .slice none 0 0]), 8, 112) := by kernel_rfl
theorem nrep_form {w : World} {lo hi : Nat} {t : Nd} {x : Value} (h : NRep w lo hi t x) : ∃ (o n : Int) (s : ByteArray) (k m : Int) (z : ByteArray) (q : Option Addr) (ql qc : Nat) (r : Option Addr) (lc c : Nat), x = .agg #[.int .i64 o, .int .i64 n, .string s, .int .i64 k, .int .i64 m, .string z, .slice q ql qc, .slice r lc c] := by
  obtain ⟨o, n, s, v, l⟩ := t
  obtain ⟨k, m, z, q, ql, qc, p, cap, rfl, _⟩ := h.open
  exact ⟨_, _, _, _, _, _, _, _, _, _, _, _, rfl⟩
theorem held8 {a b c d e f g h r : Prop} (H : a ∧ b ∧ c ∧ d ∧ e ∧ f ∧ g ∧ h ∧ r) : a ∧ b ∧ c ∧ d ∧ e ∧ f ∧ g ∧ h := by
  obtain ⟨h1, h2, h3, h4, h5, h6, h7, h8, _⟩ := H; exact ⟨h1, h2, h3, h4, h5, h6, h7, h8⟩
def CopyNs (l : List Nd) : Prop := ∀ (w : World) (lo hi : Nat) (p : Option Addr) (cap : Nat), NAll w lo hi l p → l.length ≤ cap → l.length * 112 ≤ 140737488355328 → hi ≤ w.heap.size →
  Calls Tryd.prog 19 #[.slice p l.length cap] w (NewNs w l)
def CopyN (t : Nd) : Prop := ∀ (w : World) (lo hi : Nat) (x : Value), NRep w lo hi t x → hi ≤ w.heap.size → Calls Tryd.prog 40 #[x] w (NewN w t)

set_option maxHeartbeats 2000000 in
theorem copyNs_of (l : List Nd) (ih : ∀ t ∈ l, CopyN t) : CopyNs l := by
  intro w lo hi p cap hall _hlc hcap hhi
  cases hl : l with
  | nil =>
    simp only [List.length_nil]
    go_enter Tryd.func19, Tryd.ntmps19
    go_wp2
    go_ret
    exact ⟨none, 0, rfl, Nat.le_refl _, NAll.nil _ _ _ _, Below.refl _ _⟩
  | cons x xs =>
    have hpos : 0 < l.length := by rw [hl]; simp
    rw [← hl]
    clear hl
    have H := Lib.hid ih; clear ih
    have HALL := Lib.hid hall; clear hall
    obtain ⟨i0, hi0, hz0, hz1, hz2⟩ := info_parts Tryd.info_N
    have hmk : ∀ W : World, (Instr.makeSlice 22 (.int .i64 0) (.int .i64 (l.length : Int))).run Tryd.prog W = .ok (.slice (some ⟨W.heap.size, 0, none⟩) 0 l.length) (W.alloc (.cells (madeCells #[.int .i64 0, .int .i64 0, .string ⟨#[]⟩, .int .i64 0, .int .i64 0, .string ⟨#[]⟩, .slice none 0 0, .slice none 0 0] (l.length * 8)) 40)) := by
      intro W
      have h := run_make (P := Tryd.prog) W 22 40 i0 _ Tryd.underlying22 hi0 hz0 .i64 .i64 0 l.length (by omega) (by omega) (by rw [hz2]; omega) (by omega)
      rw [hz1] at h
      simpa [Value.cells] using h
    have hl0 : ((l.length : Int) == 0) = false := beq_eq_false_iff_ne.2 (by omega)
    go_enter Tryd.func19, Tryd.ntmps19
    go_wp2
    have hP := Lib.hid (NPart.start w (madeCells #[.int .i64 0, .int .i64 0, .string ⟨#[]⟩, .int .i64 0, .int .i64 0, .string ⟨#[]⟩, .slice none 0 0, .slice none 0 0] (l.length * 8)) l (size_madeCells _ _))
    have hW : Below w.heap.size w (w.alloc (.cells (madeCells #[.int .i64 0, .int .i64 0, .string ⟨#[]⟩, .int .i64 0, .int .i64 0, .string ⟨#[]⟩, .slice none 0 0, .slice none 0 0] (l.length * 8)) 40)) := (Below.refl _ _).alloc (Nat.le_refl _) _
    have hzz : l.length * 112 ≤ 140737488355328 := hcap
    clear hi0 hz0 hz1 hz2
    go_loopw [3, 4] (fun o i wr => ∃ j : Nat, j ≤ l.length ∧ i = .int .i64 j ∧ o = .slice (some ⟨w.heap.size, 0, none⟩) j l.length ∧ Hid (NPart wr w.heap.size l j) ∧ Hid (Below w.heap.size w wr)) (fun _ i _ => l.length - (intOf i).toNat)
    case atStart => exact ⟨0, Nat.zero_le _, rfl, rfl, hP, hW⟩
    case round =>
      obtain ⟨j, hj, rfl, rfl, HP, HBR⟩ := hrel
      have hz := HBR.out.size
      have hzl := HP.out.lt
      by_cases hlt : j < l.length
      · obtain ⟨b, off, o, n, s, v, ll, k, m, z, q, ql, qc, r, c, rfl, _, hbhi, hli, h0, h1, h2, h3, h4, h5, h6, h7, hrep⟩ := (HALL.out.below HBR.out hhi).item j hlt
        have HC := Lib.hid (H.out _ (List.getElem_mem hlt) _ lo hi _ hrep (by omega))
        clear hrep hli
        go_wp2_with (go_at_call 40; refine HC.out.mono ?_; rintro e w2 ⟨x2, rfl, hv, hb2⟩; obtain ⟨o2, n2, s2, k2, m2, z2, q2, ql2, qc2, r2, lc2, c2, rfl⟩ := nrep_form hv; have HV := Lib.hid hv; clear hv; have hbz := hb2.size; have HP2 := Lib.hid (HP.out.below hb2); have HB2 := Lib.hid (HBR.out.trans (hb2.mono hz)); clear hb2; have hwl : w.heap.size < w2.heap.size := (by omega); obtain ⟨⟨u0, hu0⟩, ⟨u1, hu1⟩, ⟨u2, hu2⟩, ⟨u3, hu3⟩, ⟨u4, hu4⟩, ⟨u5, hu5⟩, ⟨u6, hu6⟩, ⟨u7, hu7⟩, hfz⟩ := HP2.out.room j hlt; have hf0 := hfz (j * 8); have hf1 := hfz (j * 8 + 1); have hf2 := hfz (j * 8 + 2); have hf3 := hfz (j * 8 + 3); have hf4 := hfz (j * 8 + 4); have hf5 := hfz (j * 8 + 5); have hf6 := hfz (j * 8 + 6); have hf7 := hfz (j * 8 + 7); clear hfz)
        go_roundw
        case rel =>
          refine ⟨j + 1, by omega, by go_num, by go_num, ?_, ?_⟩
          · exact NPart.below (NPart.step HP2.out hlt _ _ _ _ _ _ _ _ (HV.out.wide (by omega) (Nat.le_refl _))) ((Below.refl _ _).alloc (Nat.le_refl _) _)
          · exact (below_set8 HB2.out (Nat.le_refl _) _ _ _ _ _ _ _ _).alloc (by rw [size_set8]; omega) _
        case measure => simp [intOf]; omega
      · have hjl : j = l.length := by omega
        subst hjl
        go_wp2
        go_ret
        exact ⟨_, _, rfl, Nat.le_refl _, HP.out.done, HBR.out⟩

set_option maxHeartbeats 4000000 in
theorem copyN_of (t : Nd) (ih : CopyNs t.l) : CopyN t := by
  intro w lo hi x hr hhi
  obtain ⟨o, n, s, v, l⟩ := t
  simp only [Nd.l] at ih
  obtain ⟨k, m, z, q, ql, qc, p, cap, rfl, hio, hin, hs, hrv, hlc, hcap, hall⟩ := hr.open
  have HCV := Lib.hid (fun W (hb : Below w.heap.size w W) => value_any v W lo hi _ (hrv.below hb hhi) (by have := hb.size; omega))
  have HCN := Lib.hid (fun W (hb : Below w.heap.size w W) => ih W lo hi p cap (hall.below hb hhi) hlc hcap (by have := hb.size; omega))
  obtain ⟨W1, hW1⟩ : ∃ W1, (w.alloc (.cells #[.int .i64 o, .int .i64 n, .string s, .int .i64 k, .int .i64 m, .string z, .slice q ql qc, .slice p l.length cap] 40)).alloc (.cells #[.int .i64 0, .int .i64 0, .string ⟨#[]⟩, .int .i64 0, .int .i64 0, .string ⟨#[]⟩, .slice none 0 0, .slice none 0 0] 40) = W1 := ⟨_, rfl⟩
  have HB1 : Hid (Below w.heap.size w W1) := hW1 ▸ (((Below.refl w.heap.size w).alloc (Nat.le_refl _) _).alloc (by simp) _)
  have HX : Hid (W1.heap[w.heap.size]? = some (.cells #[.int .i64 o, .int .i64 n, .string s, .int .i64 k, .int .i64 m, .string z, .slice q ql qc, .slice p l.length cap] 40 (0, 0))) := hW1 ▸ heap_alloc_ _ _ _ _ (heap_alloc_new w _)
  have HY : Hid (W1.heap[w.heap.size + 1]? = some (.cells #[.int .i64 0, .int .i64 0, .string ⟨#[]⟩, .int .i64 0, .int .i64 0, .string ⟨#[]⟩, .slice none 0 0, .slice none 0 0] 40 (0, 0))) := hW1 ▸ (by have h := heap_alloc_new (w.alloc (.cells #[.int .i64 o, .int .i64 n, .string s, .int .i64 k, .int .i64 m, .string z, .slice q ql qc, .slice p l.length cap] 40)) (.cells #[.int .i64 0, .int .i64 0, .string ⟨#[]⟩, .int .i64 0, .int .i64 0, .string ⟨#[]⟩, .slice none 0 0, .slice none 0 0] 40); rw [World.size_alloc] at h; exact h)
  have HSF := Lib.hid (fun W (hb : Below W1.heap.size W1 W) => box8_in _ _ _ _ _ _ _ _ _ _ _ (heap_old HX.out hb))
  have HD5 := Lib.hid (Below.refl W1.heap.size W1).drew
  obtain ⟨d0, d1, d2, d3, d4, d5, d6, d7, _⟩ := HSF.out _ HD5.out
  clear hr ih hrv hall
  go_enter Tryd.func40, Tryd.ntmps40
  go_upto_region 1 with fail
  go_region_held3 (fun W' => W'.cell? ⟨w.heap.size, 0, none⟩ = some (.int .i64 o) ∧ W'.cell? ⟨w.heap.size, 1, none⟩ = some (.int .i64 n) ∧ W'.cell? ⟨w.heap.size, 2, none⟩ = some (.string s) ∧ W'.cell? ⟨w.heap.size, 3, none⟩ = some (.int .i64 k) ∧ W'.cell? ⟨w.heap.size, 4, none⟩ = some (.int .i64 m) ∧ W'.cell? ⟨w.heap.size, 5, none⟩ = some (.string z) ∧ W'.cell? ⟨w.heap.size, 6, none⟩ = some (.slice q ql qc) ∧ W'.cell? ⟨w.heap.size, 7, none⟩ = some (.slice p l.length cap)) (first | with_reducible exact held8 (HSF.out _ HD5.out) | with_reducible exact held8 (HSF.out _ HD6.out) | with_reducible exact held8 (HSF.out _ HD7.out) | with_reducible exact held8 (HSF.out _ (below_set8 HD7.out (Nat.le_refl _) _ _ _ _ _ _ _ _)) | go_keep | (go_show; fail)) (first
    | (go_at_call 61; (with_reducible refine (HCV.out _ (HB1.out.trans (HD5.out.mono HB1.out.size))).mono ?_); rintro e w6 ⟨x6, rfl, hv6, hb6⟩; obtain ⟨k6, m6, z6, q6, ql6, qc6, rfl⟩ := rep_form hv6; have HV6 := Lib.hid hv6; have HD6 := Lib.hid (HD5.out.trans (hb6.mono HD5.out.size)); clear hv6 hb6; obtain ⟨a0, a1, a2, a3, a4, a5, a6, a7, _⟩ := HSF.out _ HD6.out)
    | (go_at_call 19; (with_reducible refine (HCN.out _ (HB1.out.trans (HD6.out.mono HB1.out.size))).mono ?_); rintro e w7 ⟨q7, c7, rfl, hlc7, hn7, hb7⟩; have HN7 := Lib.hid hn7; have HB7 := Lib.hid hb7; have HD7 := Lib.hid (HD6.out.trans (hb7.mono HD6.out.size)); clear hn7 hb7; obtain ⟨b0, b1, b2, b3, b4, b5, b6, b7, _⟩ := HSF.out _ HD7.out; obtain ⟨y0, y1, y2, y3, y4, y5, y6, y7, hyf⟩ := box8_in _ _ _ _ _ _ _ _ _ _ _ (heap_old HY.out HD7.out); have hyf0 := hyf 0; have hyf1 := hyf 1; have hyf2 := hyf 2; have hyf3 := hyf 3; have hyf4 := hyf 4; have hyf5 := hyf 5; have hyf6 := hyf 6; have hyf7 := hyf 7; clear hyf))
  go_wp2
  refine bodyPost_ret (v := .agg #[.int .i64 o, .int .i64 n, .string s, .int .i64 k6, .int .i64 m6, .string z6, .slice q6 ql6 qc6, .slice q7 l.length c7]) (by simp [results, Tryd.results40, go_sem, y0, y1, y2, y3, y4, y5, y6, y7]) rfl ?_
  have hb7 := HB1.out.trans (HD7.out.mono HB1.out.size)
  have h61 := (HB1.out.trans (HD6.out.mono HB1.out.size)).size
  refine ⟨_, rfl, ?_, below_set8 hb7 (Nat.le_succ _) _ _ _ _ _ _ _ _⟩
  have hN : NRep w7 (w.heap.size + 2) w7.heap.size (.mk o n s v l) (.agg #[.int .i64 o, .int .i64 n, .string s, .int .i64 k6, .int .i64 m6, .string z6, .slice q6 ql6 qc6, .slice q7 l.length c7]) := by
    unfold NRep
    refine ⟨k6, m6, z6, q6, ql6, qc6, q7, c7, rfl, hio, hin, hs, (HV6.out.below HB7.out (Nat.le_refl _)).keep ?_ HB7.out.size (fun _ _ _ => rfl), hlc7, hcap, HN7.out.wide ?_ (Nat.le_refl _)⟩
    · have := HD5.out.size; rw [← hW1] at this ⊢; simp
    · have := HD6.out.size; rw [← hW1] at this; simp at this; omega
  exact (hN.keep8 (Or.inl (by omega)) _ _ _ _ _ _ _ _).wide (by omega) (by rw [size_set8]; exact Nat.le_refl _)
theorem copyN_any : ∀ t : Nd, CopyN t := Nd.ind_ (fun _ _ _ _ _ ih => copyN_of _ (copyNs_of _ ih))
theorem copyNs_any (L : List Nd) : CopyNs L := copyNs_of L (fun t _ => copyN_any t)
end Go.Proofs.YtminmadaeaiihaaDoor
