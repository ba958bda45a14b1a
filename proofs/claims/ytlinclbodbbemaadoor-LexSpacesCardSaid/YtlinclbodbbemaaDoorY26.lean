/- lit.Read: what it answers of any text. -/
import Derived.Test.YtlinclbodbbemaaDoorY25
import Derived.Test.YtlinclbodbbemaaDoorY06
import Derived.RegionTactic
namespace Go.Proofs.YtlinclbodbbemaaDoor
open Go.RowKit
set_option maxRecDepth 100000

abbrev zeroV : Value := .agg #[.int .i64 0, .int .i64 0, .string ⟨#[]⟩, .slice none 0 0]
theorem SimA.nil {st : List (List T)} {wa wr : T} {sk md : Nat} (h : SimA [] st wa wr sk md) : st = [] := by
  rcases h.r with ⟨_, _, r⟩ | ⟨_, r, _⟩
  · exact r
  · exact List.eq_nil_of_length_eq_zero (by simp at r; omega)
theorem InV.start (w : World) (g : Nat) (s : ByteArray) (h : RdIs w g s ⟨0, .slice none 0 0, 0, 0, .int .i64 0, .int .i64 0, .string ⟨#[]⟩, .slice none 0 0⟩) : InV w g s ⟨0, .slice none 0 0, 0, 0, .int .i64 0, .int .i64 0, .string ⟨#[]⟩, .slice none 0 0⟩ [] :=
  ⟨[], [], ⟨h, World.ownsRow_nil _ _ _ _, trivial, by simp [live, bk, Value.ownBlock]⟩, SimV.start⟩
/-- What was read stands in memory, or it is too much. -/
theorem InA.done {w : World} {g : Nat} {s : ByteArray} {x : Rd} {t : T} (h : InA w g s x [] t) : ∃ t', Rep w (g + 1) w.heap.size t' (.agg #[x.c0, x.c1, x.c2, x.c3]) ∧ ((cnt t ≤ 4096 ∧ t' = t) ∨ (4096 < cnt t ∧ 4096 < cnt t')) := by
  obtain ⟨st, frs, wr, h1, h2, h3⟩ := h
  obtain rfl := h2.nil
  exact ⟨wr, RepP.rep (fun b hb => ⟨hb.1, hb.2.1⟩) _ _ (h3 rfl), h2.done.2⟩

def ReadPost (eD eM eR eS : Value) (aY : Addr) (s : ByteArray) (w : World) (e : Ending) (w' : World) : Prop :=
  Below w.heap.size w w' ∧
  ((∃ p b, p ≤ s.size ∧ (Go .val s.data.toList (.bad (s.data.toList.drop p)) ∨ ∃ t, Go .val s.data.toList (.ok t (s.data.toList.drop p)) ∧ p < s.size) ∧
      e = .returned (.tuple #[zeroV, .iface 71 (.pointer (some ⟨b, 0, none⟩))]) ∧ w.heap.size ≤ b ∧ w'.heap[b]? = some (.cells #[.int .i64 p, .iface 199 (.pointer (some aY))] 73 (0, 0))) ∨
    (∃ t t', Go .val s.data.toList (.ok t []) ∧ ((cnt t ≤ 4096 ∧ t' = t) ∨ (4096 < cnt t ∧ 4096 < cnt t')) ∧
      (((odd t' 1 0).1 = 0 ∧ ∃ v, e = .returned (.tuple #[v, .nilIface]) ∧ Rep w' w.heap.size w'.heap.size t' v) ∨
        ((odd t' 1 0).1 ≠ 0 ∧ e = .returned (.tuple #[zeroV, vRes eD eM eR eS t'])))))

set_option maxHeartbeats 2000000 in
theorem read_any (eD eM eR eS : Value) (aY : Addr) (hP : Ptrs eD eM eR eS) (s : ByteArray) (w : World) (hs : s.size ≤ 140737488355328) (he : Errs w eD eM eR eS) (hy : w.cell? ⟨1, 0, none⟩ = some (.iface 199 (.pointer (some aY)))) (hnm : Names w) :
    Calls Tryd.prog 70 #[.string s] w (ReadPost eD eM eR eS aY s w) := by
  have hng := hnm.lt
  have hyl := World.block_lt_of_cell? w _ hy
  have HE := Lib.hid he; clear he
  have HN := Lib.hid hnm; clear hnm
  go_enter Tryd.func70, Tryd.ntmps70
  go_wp2_with fail
  have hR0 := Lib.hid (show RdIs ((w.alloc (.cells #[.int .i64 0, .int .i64 0, .string ⟨#[]⟩, .slice none 0 0] 32)).alloc (.cells #[.string s, .int .i64 0, .slice none 0 0, .int .i64 0, .int .i64 0, .int .i64 0, .int .i64 0, .string ⟨#[]⟩, .slice none 0 0] 127)) (w.heap.size + 1) s ⟨0, .slice none 0 0, 0, 0, .int .i64 0, .int .i64 0, .string ⟨#[]⟩, .slice none 0 0⟩ from by
    have h := heap_alloc_new (w.alloc (.cells #[.int .i64 0, .int .i64 0, .string ⟨#[]⟩, .slice none 0 0] 32)) (.cells #[.string s, .int .i64 0, .slice none 0 0, .int .i64 0, .int .i64 0, .int .i64 0, .int .i64 0, .string ⟨#[]⟩, .slice none 0 0] 127)
    simp only [World.size_alloc] at h
    exact h)
  have hB0 := Lib.hid (heap_alloc_ _ _ (.cells #[.string s, .int .i64 0, .slice none 0 0, .int .i64 0, .int .i64 0, .int .i64 0, .int .i64 0, .string ⟨#[]⟩, .slice none 0 0] 127) _ (heap_alloc_new w (.cells #[.int .i64 0, .int .i64 0, .string ⟨#[]⟩, .slice none 0 0] 32)))
  have hW := Lib.hid (((Below.refl w.heap.size w).alloc (Nat.le_refl _) (.cells #[.int .i64 0, .int .i64 0, .string ⟨#[]⟩, .slice none 0 0] 32)).alloc (by simp) (.cells #[.string s, .int .i64 0, .slice none 0 0, .int .i64 0, .int .i64 0, .int .i64 0, .int .i64 0, .string ⟨#[]⟩, .slice none 0 0] 127))
  generalize ((w.alloc (.cells #[.int .i64 0, .int .i64 0, .string ⟨#[]⟩, .slice none 0 0] 32)).alloc (.cells #[.string s, .int .i64 0, .slice none 0 0, .int .i64 0, .int .i64 0, .int .i64 0, .int .i64 0, .string ⟨#[]⟩, .slice none 0 0] 127)) = W at *
  refine (all_any s _ (w.heap.size + 1) W (InV.start _ _ _ hR0.out) rfl hs (HN.out.below hW.out hng) (by omega)).mono ?_
  rintro e w2 ⟨x', hp', hx', hb', hcase⟩
  have HB2 := Lib.hid (hW.out.trans (hb'.mono (by omega)))
  have hbz := HB2.out.size
  have hltx := hx'.lt
  have hbx : w2.heap[w.heap.size]? = some (.cells #[.int .i64 0, .int .i64 0, .string ⟨#[]⟩, .slice none 0 0] 32 (0, 0)) := (hb'.block w.heap.size (by omega)).trans hB0.out
  have hy2 : w2.cell? ⟨1, 0, none⟩ = some (.iface 199 (.pointer (some aY))) := (HB2.out.cell (p := ⟨1, 0, none⟩) hyl).trans hy
  obtain ⟨b0, b1, b2, b3, bf⟩ := box4_in _ _ _ _ _ _ _ hbx
  obtain ⟨h0, h1, h2, h3, h4, h5, h6, h7, h8, hf, _⟩ := hx'.open
  have HX2 := Lib.hid hx'
  have HBX := Lib.hid hbx
  clear hb' hx' hy hB0 hR0 hbx
  rcases hcase with ⟨rfl, hg⟩ | ⟨rfl, t, hg, hi⟩
  · have HG := Lib.hid hg; clear hg
    have f0 := bf 0; have f1 := bf 1; have f2 := bf 2; have f3 := bf 3
    clear bf
    have hbs : w.heap.size < w2.heap.size := by omega
    go_wp2
    go_region
    all_goals
      go_wp2_with fail
      refine bodyPost_ret (v := .tuple #[zeroV, .iface 71 (.pointer (some ⟨w2.heap.size, 0, none⟩))]) (by simp [results, Tryd.results70, go_sem, b0, b1, b2, b3, hbs]) rfl ?_
      have hh := heap_alloc_new ((((w2.setCell ⟨w.heap.size, 0, none⟩ (.int .i64 0)).setCell ⟨w.heap.size, 1, none⟩ (.int .i64 0)).setCell ⟨w.heap.size, 2, none⟩ (.string ⟨#[]⟩)).setCell ⟨w.heap.size, 3, none⟩ (.slice none 0 0)) (.cells #[.int .i64 x'.pos, .iface 199 (.pointer (some aY))] 73)
      simp only [World.size_setCell] at hh
      exact ⟨(((((HB2.out.setCell (Nat.le_refl _) _).setCell (Nat.le_refl _) _).setCell (Nat.le_refl _) _).setCell (Nat.le_refl _) _).alloc (by simp only [World.size_setCell]; omega) _).drew, .inl ⟨x'.pos, w2.heap.size, hp', HG.out, rfl, by omega, hh⟩⟩
  · have HG := Lib.hid hg; clear hg
    obtain ⟨t', hrep, hcnt⟩ := hi.done
    have HRP := Lib.hid hrep
    have HCN := Lib.hid hcnt
    have HE2 := Lib.hid (HE.out.below HB2.out HE.out.size)
    obtain ⟨pc, hpc⟩ := hP (odd t' 1 0).1
    obtain ⟨k, n, u, lp, ll, lc, hcells⟩ := rep_form hrep
    simp only [Value.agg.injEq, Array.mk.injEq, List.cons.injEq, and_true] at hcells
    obtain ⟨e5, e6, e7, e8⟩ := hcells
    rw [e5] at h5; rw [e6] at h6; rw [e7] at h7; rw [e8] at h8
    rw [e5, e6, e7, e8] at HRP
    clear hi hrep hcnt e5 e6 e7 e8
    by_cases h0t : (odd t' 1 0).1 = 0
    · have HV := Lib.hid (show vRes eD eM eR eS t' = .nilIface from by unfold vRes; rw [if_pos h0t])
      have H0T := Lib.hid h0t; clear h0t hpc
      go_wp2_with (go_at_call 99; refine (validE_any eD eM eR eS hP t' _ (w.heap.size + 1 + 1) w2.heap.size _ HRP.out (Nat.le_refl _) HE2.out).mono ?_; rintro e w3 ⟨rfl, hb3⟩; rw [HV.out]; have HBX3 := Lib.hid (heap_old HBX.out hb3); obtain ⟨b0, b1, b2, b3, bf⟩ := box4_in _ _ _ _ _ _ _ HBX3.out; have HX3 := Lib.hid (show RdIs w3 (w.heap.size + 1) s x' from heap_old HX2.out hb3); obtain ⟨h0, h1, h2, h3, h4, q5, q6, q7, q8, hf, hlt3⟩ := HX3.out.open; have r5 := (hb3.cell (p := ⟨w.heap.size + 1, 5, none⟩) hltx).trans h5; have r6 := (hb3.cell (p := ⟨w.heap.size + 1, 6, none⟩) hltx).trans h6; have r7 := (hb3.cell (p := ⟨w.heap.size + 1, 7, none⟩) hltx).trans h7; have r8 := (hb3.cell (p := ⟨w.heap.size + 1, 8, none⟩) hltx).trans h8; clear q5 q6 q7 q8 HX3; have HB3 := Lib.hid hb3; clear hb3)
      refine bodyPost_ret (v := .tuple #[.agg #[.int .i64 k, .int .i64 n, .string u, .slice lp ll lc], .nilIface]) (by simp [results, Tryd.results70, go_sem, b0, b1, b2, b3]) rfl ?_
      have hz3 := HB3.out.size
      refine ⟨((((HB2.out.trans (HB3.out.mono hbz)).setCell (Nat.le_refl _) _).setCell (Nat.le_refl _) _).setCell (Nat.le_refl _) _).setCell (Nat.le_refl _) _, .inr ⟨t, t', HG.out, HCN.out, .inl ⟨H0T.out, _, rfl, ?_⟩⟩⟩
      refine Rep.keep (w := w3) (lo := w.heap.size + 1 + 1) (hi := w2.heap.size) (by omega) (by simp only [World.size_setCell]; omega) (fun p hl _ => ?_) _ _ (HRP.out.below HB3.out (Nat.le_refl _))
      have hne : p.block ≠ w.heap.size := by omega
      exact World.cell?_of_block (heap_set4' _ _ _ _ _ _ _ _ _ _ _ hne)
    · have HV := Lib.hid (show vRes eD eM eR eS t' = .iface 199 (.pointer (some pc)) from by unfold vRes; rw [if_neg h0t]; exact hpc)
      have H0T := Lib.hid h0t; clear h0t hpc
      go_wp2_with (go_at_call 99; refine (validE_any eD eM eR eS hP t' _ (w.heap.size + 1 + 1) w2.heap.size _ HRP.out (Nat.le_refl _) HE2.out).mono ?_; rintro e w3 ⟨rfl, hb3⟩; rw [HV.out]; have HBX3 := Lib.hid (heap_old HBX.out hb3); obtain ⟨b0, b1, b2, b3, bf⟩ := box4_in _ _ _ _ _ _ _ HBX3.out; have HX3 := Lib.hid (show RdIs w3 (w.heap.size + 1) s x' from heap_old HX2.out hb3); obtain ⟨h0, h1, h2, h3, h4, q5, q6, q7, q8, hf, hlt3⟩ := HX3.out.open; have r5 := (hb3.cell (p := ⟨w.heap.size + 1, 5, none⟩) hltx).trans h5; have r6 := (hb3.cell (p := ⟨w.heap.size + 1, 6, none⟩) hltx).trans h6; have r7 := (hb3.cell (p := ⟨w.heap.size + 1, 7, none⟩) hltx).trans h7; have r8 := (hb3.cell (p := ⟨w.heap.size + 1, 8, none⟩) hltx).trans h8; clear q5 q6 q7 q8 HX3; have HB3 := Lib.hid hb3; clear hb3)
      refine bodyPost_ret (v := .tuple #[zeroV, .iface 199 (.pointer (some pc))]) (by simp [results, Tryd.results70, go_sem, b0, b1, b2, b3]) rfl ?_
      exact ⟨((((HB2.out.trans (HB3.out.mono hbz)).setCell (Nat.le_refl _) _).setCell (Nat.le_refl _) _).setCell (Nat.le_refl _) _).setCell (Nat.le_refl _) _, .inr ⟨t, t', HG.out, HCN.out, .inr ⟨H0T.out, by rw [HV.out]⟩⟩⟩

end Go.Proofs.YtlinclbodbbemaaDoor
