/- tree.Count, tree.moreThan. -/
import Derived.Test.YtminmadaeaiihaaDoorTw
namespace Go.Proofs.YtminmadaeaiihaaDoor
open Go.RowKit
set_option maxRecDepth 100000
attribute [local go_sem] Oper.semAt_some

theorem heap_setN {X : World} {g : Nat} {v v' : Value} {t : TypeId} (h : X.heap[g]? = some (.cells #[v] t (0, 0))) : (X.setCell ⟨g, 0, none⟩ v').heap[g]? = some (.cells #[v'] t (0, 0)) := by
  simp [World.setCell, Array.getElem?_modify, h]
theorem heap_setO {X : World} {g b : Nat} {v : Value} (h : b ≠ g) : (X.setCell ⟨g, 0, none⟩ v).heap[b]? = X.heap[b]? := Below.heap_setCell _ _ _ _ h
theorem KwA.step {W0 X Y : World} {lo hi B len cap s : Nat} {p : Option Addr} (h : KwA W0 lo hi B p len cap X) (hh : hi ≤ s) (hB : B < s) (hb : Below s X Y) : KwA W0 lo hi B p len cap Y :=
  ⟨⟨Nat.le_trans h.1.1 hb.size, fun a h1 h2 => (hb.cell (by omega)).trans (h.1.2 a h1 h2)⟩, (hb.block _ hB).trans h.2⟩
theorem KwA.set {W0 X : World} {lo hi B len cap g : Nat} {p : Option Addr} (h : KwA W0 lo hi B p len cap X) (hg : hi ≤ g) (hB : B ≠ g) (v : Value) : KwA W0 lo hi B p len cap (X.setCell ⟨g, 0, none⟩ v) :=
  ⟨⟨by simpa using h.1.1, fun a h1 h2 => (World.cell?_setCell_other X ⟨g, 0, none⟩ a v (fun e => by subst e; simp at h2; omega)).trans (h.1.2 a h1 h2)⟩, (heap_setO hB).trans h.2⟩

/-- What the rounds find: the box of the count, the walk's box, the nodes. -/
structure ICn (w : World) (lo hi : Nat) (p : Option Addr) (len cap : Nat) (j : Nat) (X : World) : Prop where
  bel : Below w.heap.size w X
  bc : X.heap[w.heap.size]? = some (.cells #[.int .i64 (j : Int)] 3 (0, 0))
  kw : KwA w lo hi (w.heap.size + 1) p len cap X

set_option maxHeartbeats 1000000 in
theorem count_any (L : List Nd) (w : World) (lo hi : Nat) (p : Option Addr) (cap : Nat) (hall : NAll w lo hi L p) (hhi : hi ≤ w.heap.size) (hlc : L.length ≤ cap) (hcap : L.length * 112 ≤ 140737488355328) (hN : cntAll L ≤ 1000000000) :
    Calls Tryd.prog 8 #[.slice p L.length cap] w fun e w' => e = .returned (.int .i64 (cntAll L : Int)) ∧ Below w.heap.size w w' := by
  have HA := Lib.hid hall
  clear hall
  refine (callsIn_wide (n := 8)).1 ?_
  refine callsIn_of_wp_marks Tryd.func8 rfl trivial ?_ rfl
  simp only [Tryd.ntmps8, List.size_toArray, List.length_cons, List.length_nil, Nat.reduceAdd, Nat.reduceSub, Array.replicate_succ, Array.replicate_zero, List.push_toArray, List.append_toArray, List.nil_append, List.cons_append]
  gi_wp2_with (refine ⟨trivial, ?_⟩; gi_at_call 32; refine (callsIn_wide.2 (all_any p L.length cap _)).mono ?_; rintro e w1 ⟨rfl, hw1⟩; have HW1 := Lib.hid hw1; clear hw1)
  have hz1 : w1.heap.size = w.heap.size + 2 := by rw [HW1.out]; simp
  have HI0 : Hid (ICn w lo hi p L.length cap 0 w1) := by
    have e := HW1.out
    have hb : Below w.heap.size w w1 := by rw [e]; exact ((Below.refl _ w).alloc (Nat.le_refl _) _).alloc (by simp) _
    refine ⟨hb, ?_, ⟨by omega, fun a _ h2 => hb.cell (by omega)⟩, ?_⟩
    · rw [e]; exact heap_alloc_ _ _ _ _ (heap_alloc_new w _)
    · rw [e]
      have h := heap_alloc_new (w.alloc (.cells #[.int .i64 0] 3)) (.cells #[.slice p L.length cap] 22)
      rw [World.size_alloc] at h
      simpa using h
  refine range_keeps rfl (by omega) (gf := 53) (lb := #[.pointer (some ⟨w.heap.size + 1, 0, none⟩)]) rfl trivial (enters_of Tryd.func53 (by kernel_rfl) rfl) (all_hands _ L w (w.heap.size + 1) lo hi p cap HA.out hlc hcap) (fun j xs b X h => by obtain ⟨_, _, rfl, _⟩ := h; rfl)
    (ICn w lo hi p L.length cap) (fun _ _ => False) (fun j X Y h hb => ⟨h.bel.trans (hb.mono (by omega)), (hb.block _ (by omega)).trans h.bc, h.kw.step (by omega) (by omega) hb⟩) (fun _ _ _ h _ => h) (fun j X h => h.kw) HI0.out ?round ?done (fun _ _ h _ => h.elim)
  case round =>
    intro j xs b X hj hI hH hsb hlt
    obtain ⟨_, v, rfl, _⟩ := hH
    have HIX := Lib.hid hI
    clear hI
    gi_wp2
    refine ⟨KeptK.refl _ _, fun r => ?_⟩
    have hbP := putObj_belowK X (B := w1.heap.size) (l := w1.heap.size + 1) (by omega) hlt (.loop r)
    have HIP : Hid (ICn w lo hi p L.length cap j (X.putObj (w1.heap.size + 1) (.loop r))) := ⟨HIX.out.bel.trans (hbP.mono (by omega)), (hbP.block _ (by omega)).trans HIX.out.bc, HIX.out.kw.step (by omega) (by omega) hbP⟩
    generalize X.putObj (w1.heap.size + 1) (.loop r) = P at *
    obtain ⟨xc0, xcf⟩ := cell_oneN _ _ _ _ HIP.out.bc
    have hjN : (j : Int) ≤ 1000000000 := by omega
    gi_wp2
    have hw : ((j : Int) + 1) = ((j + 1 : Nat) : Int) := by omega
    refine ⟨KeptK.setCell _ _ (by show w.heap.size < _; omega) _, HIP.out.bel.setCell (Nat.le_refl _) _, ?_, HIP.out.kw.set hhi (by omega) _⟩
    have := heap_setN (v' := .int .i64 ((j : Int) + 1)) HIP.out.bc
    simpa using this
  case done =>
    intro Z hI hD
    have HIZ := Lib.hid hI
    have HDZ := Lib.hid hD
    obtain ⟨xc0, xcf⟩ := cell_oneN _ _ _ _ hI.bc
    clear hI hD
    gi_wp2
    refine ⟨by simp, .inl ⟨_, _, rfl, run_takeDeferred HDZ.out, ?_⟩⟩
    exact ⟨_, results_tmp rfl _ _ _, rfl, HIZ.out.bel.trans (putObj_belowK _ (by omega) (heap_ltN HDZ.out) _)⟩

/-- What the rounds find where it is asked whether there are more than so many. -/
structure IMt (w : World) (lo hi : Nat) (p : Option Addr) (len cap : Nat) (most : Nat) (j : Nat) (X : World) : Prop where
  bel : Below w.heap.size w X
  bm : X.heap[w.heap.size]? = some (.cells #[.int .i64 (most : Int)] 3 (0, 0))
  br : X.heap[w.heap.size + 1]? = some (.cells #[.bool false] 4 (0, 0))
  bc : X.heap[w.heap.size + 2]? = some (.cells #[.int .i64 (j : Int)] 3 (0, 0))
  kw : KwA w lo hi (w.heap.size + 3) p len cap X
  le : j ≤ most
theorem IMt.step {w X Y : World} {lo hi : Nat} {p : Option Addr} {len cap most j s : Nat} (h : IMt w lo hi p len cap most j X) (hhi : hi ≤ w.heap.size) (hs : s = w.heap.size + 4) (hb : Below s X Y) : IMt w lo hi p len cap most j Y :=
  ⟨h.bel.trans (hb.mono (by omega)), (hb.block _ (by omega)).trans h.bm, (hb.block _ (by omega)).trans h.br, (hb.block _ (by omega)).trans h.bc, h.kw.step (by omega) (by omega) hb, h.le⟩

set_option maxHeartbeats 1000000 in
theorem moreThan_any (most : Nat) (hm : most ≤ 1000000000) (L : List Nd) (w : World) (lo hi : Nat) (p : Option Addr) (cap : Nat) (hall : NAll w lo hi L p) (hhi : hi ≤ w.heap.size) (hlc : L.length ≤ cap) (hcap : L.length * 112 ≤ 140737488355328) :
    Calls Tryd.prog 74 #[.int .i64 (most : Int), .slice p L.length cap] w fun e w' => e = .returned (.bool (decide (most < cntAll L))) ∧ Below w.heap.size w w' := by
  have HA := Lib.hid hall
  clear hall
  refine (callsIn_wide (n := 8)).1 ?_
  refine callsIn_of_wp_marks Tryd.func74 rfl trivial ?_ rfl
  simp only [Tryd.ntmps74, List.size_toArray, List.length_cons, List.length_nil, Nat.reduceAdd, Nat.reduceSub, Array.replicate_succ, Array.replicate_zero, List.push_toArray, List.append_toArray, List.nil_append, List.cons_append]
  gi_wp2_with (refine ⟨trivial, ?_⟩; gi_at_call 32; refine (callsIn_wide.2 (all_any p L.length cap _)).mono ?_; rintro e w1 ⟨rfl, hw1⟩; have HW1 := Lib.hid hw1; clear hw1)
  have hz1 : w1.heap.size = w.heap.size + 4 := by rw [HW1.out]; simp
  have HI0 : Hid (IMt w lo hi p L.length cap most 0 w1) := by
    have e := HW1.out
    have hb : Below w.heap.size w w1 := by rw [e]; exact ((((Below.refl _ w).alloc (Nat.le_refl _) _).alloc (by simp) _).alloc (by simp; omega) _).alloc (by simp; omega) _
    refine ⟨hb, ?_, ?_, ?_, ⟨⟨by omega, fun a _ h2 => hb.cell (by omega)⟩, ?_⟩, Nat.zero_le _⟩
    · rw [e]; exact heap_alloc_ _ _ _ _ (heap_alloc_ _ _ _ _ (heap_alloc_ _ _ _ _ (heap_alloc_new w _)))
    · rw [e]; refine heap_alloc_ _ _ _ _ (heap_alloc_ _ _ _ _ ?_)
      have h := heap_alloc_new (w.alloc (.cells #[.int .i64 (most : Int)] 3)) (.cells #[.bool false] 4)
      rw [World.size_alloc] at h
      exact h
    · rw [e]; refine heap_alloc_ _ _ _ _ ?_
      have h := heap_alloc_new ((w.alloc (.cells #[.int .i64 (most : Int)] 3)).alloc (.cells #[.bool false] 4)) (.cells #[.int .i64 0] 3)
      rw [World.size_alloc, World.size_alloc] at h
      exact h
    · rw [e]
      have h := heap_alloc_new (((w.alloc (.cells #[.int .i64 (most : Int)] 3)).alloc (.cells #[.bool false] 4)).alloc (.cells #[.int .i64 0] 3)) (.cells #[.slice p L.length cap] 22)
      rw [World.size_alloc, World.size_alloc, World.size_alloc] at h
      simpa using h
  refine range_keeps rfl (by omega) (gf := 53) (lb := #[.pointer (some ⟨w.heap.size + 3, 0, none⟩)]) rfl trivial (enters_of Tryd.func53 (by kernel_rfl) rfl) (all_hands _ L w (w.heap.size + 3) lo hi p cap HA.out hlc hcap) (fun j xs b X h => by obtain ⟨_, _, rfl, _⟩ := h; rfl)
    (IMt w lo hi p L.length cap most) (fun c X => c = .ret ∧ most < cntAll L ∧ Below w.heap.size w X ∧ X.heap[w.heap.size + 1]? = some (.cells #[.bool true] 4 (0, 0)))
    (fun j X Y h hb => h.step hhi hz1 hb) (fun _ X Y h hb => ⟨h.1, h.2.1, h.2.2.1.trans (hb.mono (by omega)), (hb.block _ (by omega)).trans h.2.2.2⟩) (fun j X h => h.kw) HI0.out ?round ?done ?stop
  case round =>
    intro j xs b X hj hI hH hsb hlt
    obtain ⟨_, v, rfl, _⟩ := hH
    have HIX := Lib.hid hI
    clear hI
    gi_wp2
    refine ⟨KeptK.refl _ _, fun r => ?_⟩
    have HIP : Hid (IMt w lo hi p L.length cap most j (X.putObj (w1.heap.size + 1) (.loop r))) := HIX.out.step hhi hz1 (putObj_belowK X (B := w1.heap.size) (l := w1.heap.size + 1) (by omega) hlt (.loop r))
    generalize X.putObj (w1.heap.size + 1) (.loop r) = P at *
    obtain ⟨xc0, xcf⟩ := cell_oneN _ _ _ _ HIP.out.bc
    obtain ⟨xm0, xmf⟩ := cell_oneN _ _ _ _ HIP.out.bm
    obtain ⟨xr0, xrf⟩ := cell_oneN _ _ _ _ HIP.out.br
    have hle := HIP.out.le
    have hjN : (j : Int) ≤ 1000000000 := by omega
    by_cases hjm : j < most
    · have hgt : decide ((most : Int) < (j : Int) + 1) = false := by simp; omega
      gi_wp2
      refine ⟨KeptK.setCell _ _ (by show w.heap.size + 2 < _; omega) _, HIP.out.bel.setCell (by show w.heap.size ≤ w.heap.size + 2; omega) _, (heap_setO (by omega)).trans HIP.out.bm, (heap_setO (by omega)).trans HIP.out.br, ?_, HIP.out.kw.set (by omega) (by omega) _, by omega⟩
      have := heap_setN (v' := .int .i64 ((j : Int) + 1)) HIP.out.bc
      simpa using this
    · have hgt : decide ((most : Int) < (j : Int) + 1) = true := by simp; omega
      gi_wp2
      refine ⟨(KeptK.setCell _ _ (by show w.heap.size + 2 < _; omega) _).trans (KeptK.setCell _ _ (by show w.heap.size + 1 < _; omega) _), rfl, by omega, (HIP.out.bel.setCell (by show w.heap.size ≤ w.heap.size + 2; omega) _).setCell (by show w.heap.size ≤ w.heap.size + 1; omega) _, ?_⟩
      exact heap_setN ((heap_setO (by omega)).trans HIP.out.br)
  case done =>
    intro Z hI hD
    have HIZ := Lib.hid hI
    have HDZ := Lib.hid hD
    obtain ⟨xr0, xrf⟩ := cell_oneN _ _ _ _ hI.br
    have hle := hI.le
    clear hI hD
    gi_wp2
    refine ⟨by simp, .inl ⟨_, _, rfl, run_takeDeferred ((heap_setO (by omega)).trans HDZ.out), ?_⟩⟩
    have hb := heap_setN (v' := .bool false) HIZ.out.br
    have hb2 : ((Z.setCell ⟨w.heap.size + 1, 0, none⟩ (.bool false)).putObj w1.heap.size (.deferred none)).heap[w.heap.size + 1]? = some (.cells #[.bool false] 4 (0, 0)) := (World.putObj_heap_other (by omega)).trans hb
    obtain ⟨r40, _⟩ := cell_oneN _ _ _ _ hb2
    have hd : decide (most < cntAll L) = false := by simp; omega
    exact ⟨.bool false, by simp [results, Tryd.results74, go_sem, r40], by rw [hd], (HIZ.out.bel.setCell (by show w.heap.size ≤ w.heap.size + 1; omega) _).trans (putObj_belowK _ (by omega) (by simpa using heap_ltN HDZ.out) _)⟩
  case stop =>
    rintro c Z ⟨rfl, hlt, hbel, hbr⟩ hD
    have HDZ := Lib.hid hD
    have HB := Lib.hid hbel
    have HR := Lib.hid hbr
    clear hD hbel hbr
    gi_wp2
    refine ⟨by simp, .inl ⟨_, _, rfl, run_takeDeferred HDZ.out, ?_⟩⟩
    have hb2 : (Z.putObj w1.heap.size (.deferred none)).heap[w.heap.size + 1]? = some (.cells #[.bool true] 4 (0, 0)) := (World.putObj_heap_other (by omega)).trans HR.out
    obtain ⟨r40, _⟩ := cell_oneN _ _ _ _ hb2
    have hd : decide (most < cntAll L) = true := by simp; omega
    exact ⟨.bool true, by simp [results, Tryd.results74, go_sem, r40], by rw [hd], HB.out.trans (putObj_belowK _ (by omega) (heap_ltN HDZ.out) _)⟩
end Go.Proofs.YtminmadaeaiihaaDoor
