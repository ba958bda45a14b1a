/- SeqEach: what a walk over a list hands out, whole and left early. -/
import Derived.Test.YtjipchloebbldaaEachS
import Derived.Sort.CutIn
import Derived.Test.YtjipchloebbldaaRoundR
import Derived.KernelRfl
namespace Go.Proofs.Ytjipchloebbldaa
open Go.RowKit
set_option maxRecDepth 100000
attribute [local go_sem] Oper.semAt_some

set_option maxHeartbeats 1000000 in
theorem each_any (l : List T) (p : Option Addr) (cap : Nat) (w : World) (lo hi : Nat) (hall : RepAll w lo hi l p) (hlc : l.length ≤ cap) (hcap : l.length * 56 ≤ 140737488355328) (hhi : hi ≤ w.heap.size) :
    Calls Try.prog 27 #[.slice p l.length cap] w fun e w' => ∃ B q c, e = .returned (.func (.func 50) #[] #[.pointer (some ⟨B, 0, none⟩)]) ∧ w.heap.size ≤ B ∧ KwE l B w.heap.size w'.heap.size q c w' ∧ Below w.heap.size w w' := by
  have HC := Lib.hid (sclone_any l w lo hi p cap hall hlc hcap hhi)
  clear hall
  go_enter Try.func27, Try.ntmps27
  go_wp2_with (go_at_call 49; (with_reducible refine HC.out.mono ?_); rintro e w2 ⟨⟨p2, cap2, rfl, h21, _, h22, hb2⟩, _, _⟩; have H22 := Lib.hid h22; have HB2 := Lib.hid hb2; clear h22 hb2)
  go_ret
  have hs := heap_alloc_new w2 (.cells #[.slice p2 l.length cap2] 22)
  refine ⟨w2.heap.size, p2, cap2, rfl, HB2.out.size, ⟨hs, ((H22.out.alloc (Nat.le_refl _) _).keep (Nat.le_refl _) (by simp) (fun _ _ _ => rfl)), Nat.le_refl _⟩, HB2.out.alloc HB2.out.size _⟩

/-- What the first walk's rounds find: the boxes of the statement, its lists, and the list that is gone through. -/
structure IE (w : World) (l : List T) (pl pw q : Option Addr) (cw c s g6 B : Nat) (j : Nat) (X : World) : Prop where
  bel : Below w.heap.size w X
  b4 : X.heap[w.heap.size]? = some (.cells #[.bool false] 4 (0, 0))
  b6 : X.heap[g6]? = some (.cells #[.slice pw l.length cw] 22 (0, 0))
  b7 : X.heap[g6 + 1]? = some (.cells #[.int .i64 (j : Int)] 3 (0, 0))
  kw : KwE l B (g6 + 2) s q c X
  al : RepAll X 0 w.heap.size l pl
  aw : RepAll X 0 g6 l pw
theorem IE.step {w : World} {l : List T} {pl pw q : Option Addr} {cw c s g6 B j : Nat} {X Y : World} (h : IE w l pl pw q cw c s g6 B j X) (hg : w.heap.size < g6) (h7 : g6 + 1 < s) (hB : B < s) (hb : Below s X Y) : IE w l pl pw q cw c s g6 B j Y :=
  ⟨h.bel.trans (hb.mono (by omega)), (hb.block _ (by omega)).trans h.b4, (hb.block _ (by omega)).trans h.b6, (hb.block _ h7).trans h.b7,
    ⟨(hb.block _ hB).trans h.kw.box, h.kw.all.below hb (Nat.le_refl _), Nat.le_trans h.kw.le hb.size⟩, h.al.below hb (by omega), h.aw.below hb (by omega)⟩
theorem heap_set_other {X : World} {g b : Nat} {v : Value} (h : b ≠ g) : (X.setCell ⟨g, 0, none⟩ v).heap[b]? = X.heap[b]? := Below.heap_setCell _ _ _ _ h
theorem IE.next {w : World} {l : List T} {pl pw q : Option Addr} {cw c s g6 B j : Nat} {X : World} (h : IE w l pl pw q cw c s g6 B j X) (hg : w.heap.size < g6) (hB : g6 + 2 ≤ B) (z : Int) (hz : z = ((j + 1 : Nat) : Int)) : IE w l pl pw q cw c s g6 B (j + 1) (X.setCell ⟨g6 + 1, 0, none⟩ (.int .i64 z)) := by
  subst hz
  refine ⟨h.bel.setCell (by show w.heap.size ≤ g6 + 1; omega) _, (heap_set_other (by omega)).trans h.b4, (heap_set_other (by omega)).trans h.b6, ?_, ⟨(heap_set_other (by omega)).trans h.kw.box, h.kw.all.setCell (Or.inl (by show g6 + 1 < g6 + 2; omega)) _, by simpa using h.kw.le⟩, h.al.setCell (Or.inr (by show w.heap.size ≤ g6 + 1; omega)) _, h.aw.setCell (Or.inr (by show g6 ≤ g6 + 1; omega)) _⟩
  have := h.b7
  simp [World.setCell, Array.getElem?_modify, this]

/-- What the second walk's rounds find. -/
structure I2 (w : World) (l : List T) (pl pw q : Option Addr) (cw c s1 s2 g6 gk B K : Nat) (j : Nat) (X : World) : Prop where
  bel : Below w.heap.size w X
  b4 : X.heap[w.heap.size]? = some (.cells #[.bool false] 4 (0, 0))
  b6 : X.heap[g6]? = some (.cells #[.slice pw l.length cw] 22 (0, 0))
  bk : X.heap[gk]? = some (.cells #[.int .i64 (K : Int)] 3 (0, 0))
  bj : X.heap[gk + 1]? = some (.cells #[.int .i64 (j : Int)] 3 (0, 0))
  dm : X.heap[s1]? = some (.deferred (some []))
  kw : KwE l B (gk + 2) s2 q c X
  al : RepAll X 0 w.heap.size l pl
  aw : RepAll X 0 g6 l pw
  le : j ≤ K
theorem I2.step {w : World} {l : List T} {pl pw q : Option Addr} {cw c s1 s2 g6 gk B K j : Nat} {X Y : World} (h : I2 w l pl pw q cw c s1 s2 g6 gk B K j X) (hg : w.heap.size < g6) (h6 : g6 < s1) (h1 : s1 < gk) (hk : gk + 1 < s2) (hB : B < s2) (hb : Below s2 X Y) : I2 w l pl pw q cw c s1 s2 g6 gk B K j Y :=
  ⟨h.bel.trans (hb.mono (by omega)), (hb.block _ (by omega)).trans h.b4, (hb.block _ (by omega)).trans h.b6, (hb.block _ (by omega)).trans h.bk, (hb.block _ hk).trans h.bj, (hb.block _ (by omega)).trans h.dm,
    ⟨(hb.block _ hB).trans h.kw.box, h.kw.all.below hb (Nat.le_refl _), Nat.le_trans h.kw.le hb.size⟩, h.al.below hb (by omega), h.aw.below hb (by omega), h.le⟩
theorem I2.next {w : World} {l : List T} {pl pw q : Option Addr} {cw c s1 s2 g6 gk B K j : Nat} {X : World} (h : I2 w l pl pw q cw c s1 s2 g6 gk B K j X) (hg : w.heap.size < g6) (h6 : g6 < s1) (h1 : s1 < gk) (hB : gk + 2 ≤ B) (hj : j < K) (z : Int) (hz : z = ((j + 1 : Nat) : Int)) : I2 w l pl pw q cw c s1 s2 g6 gk B K (j + 1) (X.setCell ⟨gk + 1, 0, none⟩ (.int .i64 z)) := by
  subst hz
  refine ⟨h.bel.setCell (by show w.heap.size ≤ gk + 1; omega) _, (heap_set_other (by omega)).trans h.b4, (heap_set_other (by omega)).trans h.b6, (heap_set_other (by omega)).trans h.bk, ?_, (heap_set_other (by omega)).trans h.dm, ⟨(heap_set_other (by omega)).trans h.kw.box, h.kw.all.setCell (Or.inl (by show gk + 1 < gk + 2; omega)) _, by simpa using h.kw.le⟩, h.al.setCell (Or.inr (by show w.heap.size ≤ gk + 1; omega)) _, h.aw.setCell (Or.inr (by show g6 ≤ gk + 1; omega)) _, hj⟩
  have := h.bj
  simp [World.setCell, Array.getElem?_modify, this]

set_option maxHeartbeats 4000000 in
theorem lawEach_main (l : List T) (at_ : Int) (w : World) (pl : Option Addr) (cl : Nat) (hl : RepAll w 0 w.heap.size l pl) (hlc : l.length ≤ cl) (hcl : l.length * 56 ≤ 140737488355328) (hat : I64 at_) (hF : fewRight l 50 = true) :
    Calls Try.prog 4 #[.slice pl l.length cl, .int .i64 at_] w fun e w' => e = .returned (.bool true) ∧ Below w.heap.size w w' := by
  have hl50 : l.length ≤ 50 := by unfold fewRight at hF; simp at hF; omega
  have HS0 := Lib.hid ((St.mk (W := w) (L := [(l, pl)]) (B := []) (V := []) (fun x hx => by simp at hx; subst hx; exact hl) (fun x hx => by simp at hx) (fun x hx => by simp at hx)).alloc #[.bool false] 4)
  have HB0 := Lib.hid ((Below.refl w.heap.size w).alloc (Nat.le_refl _) (.cells #[.bool false] 4))
  have HF := Lib.hid hF
  have HLL := Lib.hid hl
  clear hl hF
  refine (callsIn_wide (n := 8)).1 ?_
  refine callsIn_of_wp_marks Try.func4 rfl trivial ?_ rfl
  simp only [Try.ntmps4, List.size_toArray, List.length_cons, List.length_nil, Nat.reduceAdd, Nat.reduceSub, Array.replicate_succ, Array.replicate_zero, List.push_toArray, List.append_toArray, List.nil_append, List.cons_append]
  gi_wp2_with (first
    | (refine ⟨trivial, ?_⟩; gi_at_call 8; refine (callsIn_wide.2 (first4_any _)).mono ?_; rintro e w1 ⟨rfl, hb⟩; have HS1 := Lib.hid (HS0.out.step hb); have HB1 := Lib.hid (HB0.out.trans (hb.mono HB0.out.size)); clear hb)
    | (refine ⟨trivial, ?_⟩; gi_at_call 26; refine (callsIn_wide.2 (wvalues_any l w1 0 w1.heap.size pl cl 50 (HS1.out.all (l, pl) (by simp)) (Nat.le_refl _) (by omega))).mono ?_; rintro e w2 ⟨rfl, hb⟩; rw [HF.out]; have HS2 := Lib.hid (HS1.out.step hb); have HB2 := Lib.hid (HB1.out.trans (hb.mono HB1.out.size)); clear hb)
    | (refine ⟨trivial, ?_⟩; gi_at_call 11; refine (callsIn_wide.2 (values_any l (fun t _ => value_any t) w2 0 w2.heap.size pl cl (HS2.out.all (l, pl) (by simp)) hlc hcl (Nat.le_refl _))).mono ?_; rintro e w3 ⟨pw, cw, rfl, hcw, _, h, hb⟩; have HAW := Lib.hid h; have HW3 := Lib.hid (Nat.lt_of_lt_of_le (heap_lt (HS2.out.box (w.heap.size, .cells #[.bool false] 4 (0, 0)) (by simp))) hb.size); have HS3 := Lib.hid ((((HS2.out.step hb).addL (h.keep (Nat.zero_le _) (Nat.le_refl _) (fun _ _ _ => rfl))).alloc #[.slice pw l.length cw] 22).alloc #[.int .i64 0] 3); have HB3 := Lib.hid (((HB2.out.trans (hb.mono HB2.out.size)).alloc (Nat.le_trans HB2.out.size hb.size) (.cells #[.slice pw l.length cw] 22)).alloc (by have := HB2.out.size; have := hb.size; simp; omega) (.cells #[.int .i64 0] 3)); clear hb h)
    | (refine ⟨trivial, ?_⟩; gi_at_call 27; refine (callsIn_wide.2 (each_any l pl cl _ 0 _ (HS3.out.all (l, pl) (by simp)) hlc hcl (Nat.le_refl _))).mono ?_; rintro e w4 ⟨B, q, c, rfl, hBlo, hkw, hb⟩; have HB4 := Lib.hid (HB3.out.trans (hb.mono HB3.out.size)); have HE4 := Lib.hid hb; have HKW := Lib.hid hkw; have HBL := Lib.hid hBlo; clear hb hkw hBlo))
  have hz3 : w3.heap.size + 2 ≤ w4.heap.size := by have := HE4.out.size; simp at this; omega
  have hzb : w3.heap.size + 2 ≤ B := by have := HBL.out; simp at this; omega
  have hBl : B < w4.heap.size := heap_lt HKW.out.box
  have hw3 : w.heap.size < w3.heap.size := HW3.out
  have HI0 : Hid (IE w l pl pw q cw c w4.heap.size w3.heap.size B 0 w4) := by
    have hs := HS3.out.step HE4.out
    have hb34 : Below w3.heap.size w3 w4 := (((Below.refl w3.heap.size w3).alloc (Nat.le_refl _) (.cells #[.slice pw l.length cw] 22)).alloc (by simp) (.cells #[.int .i64 0] 3)).trans (HE4.out.mono (by simp; omega))
    have hk := HKW.out
    rw [World.size_alloc, World.size_alloc] at hk
    refine ⟨HB4.out, hs.box (w.heap.size, .cells #[.bool false] 4 (0, 0)) (by simp), hs.box (w3.heap.size, .cells #[.slice pw l.length cw] 22 (0, 0)) (by simp), ?_, hk, HLL.out.below HB4.out (Nat.le_refl _), (HAW.out.below hb34 (Nat.le_refl _)).keep (Nat.zero_le _) (Nat.le_refl _) (fun _ _ _ => rfl)⟩
    have h7 := hs.box ((w3.alloc (.cells #[.slice pw l.length cw] 22)).heap.size, .cells #[.int .i64 0] 3 (0, 0)) (by simp)
    rw [World.size_alloc] at h7
    exact h7
  clear HE4 HKW HBL HS0 HB0 HS1 HB1 HS2 HB2 HS3 HB3
  refine range_hands rfl (by omega) (gf := 50) (lb := #[.pointer (some ⟨B, 0, none⟩)]) rfl trivial (enters_of Try.func50 (by kernel_rfl) rfl) (each_hands _ (by omega) l B (w3.heap.size + 2) w4.heap.size q c (by omega)) (fun j xs b X h => by obtain ⟨⟨_, _, _, _, _, _, rfl, _⟩, _, _⟩ := h; rfl)
    (IE w l pl pw q cw c w4.heap.size w3.heap.size B) (fun _ _ => False) (fun j X Y h hb => h.step hw3 (by omega) hBl hb) (fun _ _ _ h _ => h) (fun j X h => h.kw) HI0.out ?round ?done (fun _ _ h _ => h.elim)
  case round =>
    intro j xs b X hj hI hH hsb hlt
    obtain ⟨⟨_, k, n, s, qq, len, rfl, hrep⟩, hnf, hbX⟩ := hH
    have HR := Lib.hid hrep
    have HN := Lib.hid hnf
    have HI := Lib.hid hI
    clear hrep hnf hI
    gi_wp2
    refine ⟨⟨by simp, Below.heap_alloc _ _ _ (by omega), Below.heap_alloc _ _ _ (by omega)⟩, fun r => ?_⟩
    obtain ⟨P, hP⟩ : ∃ P, P = (X.alloc (.cells #[.int .i64 k, .int .i64 n, .string s, .slice qq len len] 24)).putObj (w4.heap.size + 1) (.loop r) := ⟨_, rfl⟩
    have hPz : P.heap.size = X.heap.size + 1 := by rw [hP]; simp
    have hPo : ∀ g, g < X.heap.size → g ≠ w4.heap.size + 1 → P.heap[g]? = X.heap[g]? := fun g h1 h2 => by
      rw [hP]; exact (World.putObj_heap_other h2).trans (Below.heap_alloc _ _ _ h1)
    have hPc : ∀ a : Addr, b ≤ a.block → a.block < X.heap.size → P.cell? a = X.cell? a := fun a h1 h2 => World.cell?_of_block (hPo _ h2 (by omega))
    have HIP : Hid (IE w l pl pw q cw c w4.heap.size w3.heap.size B j P) := HI.out.step hw3 (by omega) hBl (by
      rw [hP]; exact ((Below.refl _ X).alloc (by omega) _).trans (putObj_below _ (by omega) (by simp; omega) _))
    have HBX : Hid (P.heap[X.heap.size]? = some (.cells #[.int .i64 k, .int .i64 n, .string s, .slice qq len len] 24 (0, 0))) := by
      show _ = _; rw [hP]; exact (World.putObj_heap_other (by omega)).trans (heap_alloc_new X _)
    have HRP : Hid (Rep P b X.heap.size l[j] (.agg #[.int .i64 k, .int .i64 n, .string s, .slice qq len len])) := HR.out.keep (Nat.le_refl _) (Nat.le_refl _) hPc
    have HNP : Hid (NoFrz P b X.heap.size) := HN.out.keep (Nat.le_refl _) (Nat.le_refl _) (fun a h1 h2 => by
      have h3 := hPo a.block h2 (by omega)
      simp only [World.frozen?, h3])
    rw [← hP]
    have HPE := Lib.hid hP
    clear hP hPc HI HR HN
    obtain ⟨g9, hg9⟩ : ∃ g9, g9 = X.heap.size := ⟨_, rfl⟩
    rw [← hg9] at hPz HBX HRP HNP hlt hbX ⊢
    obtain ⟨x70, _⟩ := cell_one _ _ _ _ HIP.out.b7
    obtain ⟨x60, _⟩ := cell_one _ _ _ _ HIP.out.b6
    obtain ⟨x90, x91, x92, x93, x9f⟩ := box4_in P g9 _ _ _ _ _ HBX.out
    obtain ⟨bw, ow, k1, n1, s1, l1, q1, cc1, hpw, _, hbwhi, hli, y0, y1, y2, y3, hrw⟩ := HIP.out.aw.item j hj
    have HRW := Lib.hid hrw
    subst hpw
    have hge : decide ((l.length : Int) ≤ (j : Int)) = false := by simp; omega
    have hge2 : decide (l.length ≤ j) = false := by simp; omega
    have hbwP : bw < P.heap.size := by omega
    have hjb : (j : Int) < (l.length : Int) := by omega
    have hj50 : (j : Int) ≤ 50 := by omega
    clear hrw hli x9f hg9 hPo
    gi_upto_region 11 with fail
    gi_cut [47] from 29 (fun c wx => c = .bool false ∧ Hid (Below P.heap.size P wx))
    case first =>
      have hw1 : IntKind.i64.wrap ((j : Int) + 1) = (j : Int) + 1 := by rw [IntKind.wrap_i64]; omega
      obtain ⟨Ix, f, hne, hfx, hcls⟩ : ∃ (Ix : Type) (f : Ix → World), Nonempty Ix ∧ (∀ x, Below P.heap.size P (f x)) ∧ ∀ W, Below P.heap.size P W → ∃ x, W = f x := ⟨{W : World // Below P.heap.size P W}, fun x => x.1, ⟨⟨P, Below.refl _ _⟩⟩, fun x => x.2, fun W h => ⟨⟨W, h⟩, rfl⟩⟩
      have h9P : g9 < P.heap.size := by omega
      have h7P : w3.heap.size + 1 < P.heap.size := by omega
      have z70 : ∀ x, (f x).cell? ⟨w3.heap.size + 1, 0, none⟩ = some (.int .i64 (j : Int)) := fun x => ((hfx x).cell (p := ⟨w3.heap.size + 1, 0, none⟩) h7P).trans x70
      have z60 : ∀ x, (f x).cell? ⟨w3.heap.size, 0, none⟩ = some (.slice (some ⟨bw, ow, none⟩) l.length cw) := fun x => ((hfx x).cell (p := ⟨w3.heap.size, 0, none⟩) (by show w3.heap.size < P.heap.size; omega)).trans x60
      have z90 : ∀ x, (f x).cell? ⟨g9, 0, none⟩ = some (.int .i64 k) := fun x => ((hfx x).cell (p := ⟨g9, 0, none⟩) h9P).trans x90
      have z91 : ∀ x, (f x).cell? ⟨g9, 1, none⟩ = some (.int .i64 n) := fun x => ((hfx x).cell (p := ⟨g9, 1, none⟩) h9P).trans x91
      have z92 : ∀ x, (f x).cell? ⟨g9, 2, none⟩ = some (.string s) := fun x => ((hfx x).cell (p := ⟨g9, 2, none⟩) h9P).trans x92
      have z93 : ∀ x, (f x).cell? ⟨g9, 3, none⟩ = some (.slice qq len len) := fun x => ((hfx x).cell (p := ⟨g9, 3, none⟩) h9P).trans x93
      have zy0 : ∀ x, (f x).cell? ⟨bw, ow + j * 4, none⟩ = some (.int .i64 k1) := fun x => ((hfx x).cell (p := ⟨bw, ow + j * 4, none⟩) hbwP).trans y0
      have zy1 : ∀ x, (f x).cell? ⟨bw, ow + j * 4 + 1, none⟩ = some (.int .i64 n1) := fun x => ((hfx x).cell (p := ⟨bw, ow + j * 4 + 1, none⟩) hbwP).trans y1
      have zy2 : ∀ x, (f x).cell? ⟨bw, ow + j * 4 + 2, none⟩ = some (.string s1) := fun x => ((hfx x).cell (p := ⟨bw, ow + j * 4 + 2, none⟩) hbwP).trans y2
      have zy3 : ∀ x, (f x).cell? ⟨bw, ow + j * 4 + 3, none⟩ = some (.slice q1 l1.length cc1) := fun x => ((hfx x).cell (p := ⟨bw, ow + j * 4 + 3, none⟩) hbwP).trans y3
      have CSV : Hid (∀ x, Calls Try.prog 24 #[.agg #[.int .i64 k, .int .i64 n, .string s, .slice qq len len], .agg #[.int .i64 k1, .int .i64 n1, .string s1, .slice q1 l1.length cc1]] (f x) fun e W => e = .returned (.bool true) ∧ ∃ y, W = f y) := fun x => by
        have hz := (hfx x).size
        have h := sameValue_any l[j] l[j] (f x) b g9 0 w3.heap.size _ _ (HRP.out.below (hfx x) (by omega)) (by omega) (HRW.out.below (hfx x) (by omega)) (by omega)
        rw [eqV_self] at h
        exact h.mono fun e W hh => ⟨hh.1, hcls W ((hfx x).trans (hh.2.mono hz))⟩
      have HFX := Lib.hid hfx
      have HCD := Lib.hid (hcls P.drew (Below.refl _ _).drew)
      have hbP : b ≤ P.heap.size := by omega
      have HBP := Lib.hid hbP
      clear hPz hz3 hzb hBl hw3 hsb hlt hat hl50 hcw hlc hcl hfx hcls hbX x70 x60 x90 x91 x92 x93 y0 y1 y2 y3 h9P h7P hbwP hbP hbwhi
      refine region_round (C := fun W => ∃ x : Ix, W = f x) (by kernel_rfl) (by kernel_rfl) HCD.out (by simp) ?_
      iterate 19 (go_big_quiet_step (first | with_reducible exact CSV.out _))
      refine wpQuiet_nil ?_
      intro W' hw'
      obtain ⟨y, rfl⟩ := hw'
      gi_wp2
      gi_meet
      exact ⟨rfl, HFX.out y⟩
    case rest =>
      obtain ⟨rfl, HBc⟩ := hcut
      obtain ⟨W5, rfl⟩ : ∃ W5 : World, W5 = wc := ⟨wc, rfl⟩
      have hzc := HBc.out.size
      have HBX2 : Hid (W5.heap[g9]? = some (.cells #[.int .i64 k, .int .i64 n, .string s, .slice qq len len] 24 (0, 0))) := (HBc.out.block _ (by omega)).trans HBX.out
      have HRP2 := Lib.hid (HRP.out.below HBc.out (by omega))
      have HNP2 := Lib.hid (HNP.out.below HBc.out (by omega))
      obtain ⟨u90, u91, u92, u93, u9f⟩ := box4_in W5 g9 _ _ _ _ _ HBX2.out
      clear u9f x70 x60 x90 x91 x92 x93 y0 y1 y2 y3
      have HBb : Hid (Below b P W5) := HBc.out.mono (by omega)
      have hb9 : b ≤ W5.heap.size := by omega
      gi_upto_if 51 with fail
      gi_cut [] from 48 (fun wx => Hid (Below b P wx))
      case first =>
        by_cases hlen : 0 < len
        · obtain ⟨bq, oq, hqq, hbq, hbq2, ⟨v0, hv0⟩, ⟨v1, hv1⟩, ⟨v2, hv2⟩, ⟨v3, hv3⟩⟩ : ∃ bq oq, qq = some ⟨bq, oq, none⟩ ∧ b ≤ bq ∧ bq < g9 ∧ (∃ v, W5.cell? ⟨bq, oq, none⟩ = some v) ∧ (∃ v, W5.cell? ⟨bq, oq + 1, none⟩ = some v) ∧ (∃ v, W5.cell? ⟨bq, oq + 2, none⟩ = some v) ∧ (∃ v, W5.cell? ⟨bq, oq + 3, none⟩ = some v) := by
            have h := HRP2.out
            generalize l[j] = t at h
            match t, h with
            | .mk kk nn ss ll, h =>
              unfold Rep at h
              obtain ⟨p', cap', hv, _, _, _, _, _, hall⟩ := h
              simp only [Value.agg.injEq, Array.mk.injEq, List.cons.injEq, and_true, Value.slice.injEq] at hv
              obtain ⟨_, _, _, rfl, rfl, _⟩ := hv
              obtain ⟨bq, oq, c0, c1, c2, c3, hp, h1, h2, e0, e1, e2, e3, _⟩ := hall.at' 0 hlen
              exact ⟨bq, oq, hp, h1, h2, ⟨c0, by simpa using e0⟩, ⟨c1, by simpa using e1⟩, ⟨c2, by simpa using e2⟩, ⟨c3, by simpa using e3⟩⟩
          subst hqq
          have hq0 := HNP2.out bq oq hbq hbq2
          have hq1 := HNP2.out bq (oq + 1) hbq hbq2
          have hq2 := HNP2.out bq (oq + 2) hbq hbq2
          have hq3 := HNP2.out bq (oq + 3) hbq hbq2
          have hgt : (0 : Int) < (len : Int) := by omega
          have hmx : Try.prog.follows .mixedOrders = true := by kernel_rfl
          have HVS := Lib.hid (vS_any ⟨#[111, 116, 104, 101, 114]⟩ W5.drew)
          gi_upto_region 14 with fail
          gi_region_with_o (refine ⟨trivial, ?_⟩; gi_at_call 28; refine (CallsIn.inRound _ (callsIn_wide.2 HVS.out)).mono ?_; rintro e w6 ⟨rfl, hb6⟩; have hb6' : Below W5.heap.size W5 w6 := (Below.refl _ W5).drew.trans hb6; have HB6 := Lib.hid hb6'; obtain ⟨t90, t91, t92, t93, t9f⟩ := box4_in w6 g9 _ _ _ _ _ (heap_old HBX2.out hb6'); have m0 := (hb6'.cell (p := ⟨bq, oq, none⟩) (show bq < W5.heap.size by omega)).trans hv0; have m1 := (hb6'.cell (p := ⟨bq, oq + 1, none⟩) (show bq < W5.heap.size by omega)).trans hv1; have m2 := (hb6'.cell (p := ⟨bq, oq + 2, none⟩) (show bq < W5.heap.size by omega)).trans hv2; have m3 := (hb6'.cell (p := ⟨bq, oq + 3, none⟩) (show bq < W5.heap.size by omega)).trans hv3; have n0 := (hb6'.frozen (p := ⟨bq, oq, none⟩) (show bq < W5.heap.size by omega)).trans hq0; have n1 := (hb6'.frozen (p := ⟨bq, oq + 1, none⟩) (show bq < W5.heap.size by omega)).trans hq1; have n2 := (hb6'.frozen (p := ⟨bq, oq + 2, none⟩) (show bq < W5.heap.size by omega)).trans hq2; have n3 := (hb6'.frozen (p := ⟨bq, oq + 3, none⟩) (show bq < W5.heap.size by omega)).trans hq3; clear hb6 hb6' t9f)
          all_goals gi_wp2
          all_goals gi_meet
          all_goals exact ((((HBb.out.trans (HB6.out.mono hb9)).setCell (p := ⟨bq, oq, none⟩) hbq _).setCell (p := ⟨bq, oq + 1, none⟩) hbq _).setCell (p := ⟨bq, oq + 2, none⟩) hbq _).setCell (p := ⟨bq, oq + 3, none⟩) hbq _
        · have hle0 : (len : Int) ≤ 0 := by omega
          gi_wp2
          gi_meet
          exact HBb
      case rest =>
        have HBf := hcut
        have HIc : Hid (IE w l pl (some ⟨bw, ow, none⟩) q cw c w4.heap.size w3.heap.size B j wc) := HIP.out.step hw3 (by omega) hBl (HBf.out.mono (by omega))
        obtain ⟨v70, vf70⟩ := cell_one _ _ _ _ HIc.out.b7
        clear u90 u91 u92 u93
        gi_wp2
        have hzf := HBf.out.size
        refine ⟨⟨by simpa using hzf, (heap_set_other (by omega)).trans (HBf.out.block _ (by omega)), (heap_set_other (by omega)).trans (HBf.out.block _ (by omega))⟩, HIc.out.next hw3 (by omega) _ ?_⟩
        simp
  case done =>
    intro Y hI hD
    have HI := Lib.hid hI
    have HD := Lib.hid hD
    obtain ⟨x70, xf70⟩ := cell_one _ _ _ _ hI.b7
    obtain ⟨x40, xf40⟩ := cell_one _ _ _ _ hI.b4
    clear hI hD
    have hl50' : (l.length : Int) ≤ 50 := by omega
    by_cases hl0 : l.length = 0
    · have hl0' : (l.length : Int) = 0 := by omega
      gi_wp2
      have hD2 : (Y.setCell ⟨w.heap.size, 0, none⟩ (.bool true)).heap[w4.heap.size]? = some (.deferred (some [])) := (heap_set_other (by omega)).trans HD.out
      have h4 : ((Y.setCell ⟨w.heap.size, 0, none⟩ (.bool true)).putObj w4.heap.size (.deferred none)).heap[w.heap.size]? = some (.cells #[.bool true] 4 (0, 0)) := by
        refine (World.putObj_heap_other (by omega)).trans ?_
        have := HI.out.b4
        simp [World.setCell, Array.getElem?_modify, this]
      obtain ⟨r40, _⟩ := cell_one _ _ _ _ h4
      refine ⟨by simp, .inl ⟨_, _, rfl, run_takeDeferred hD2, ?_⟩⟩
      refine ⟨.bool true, by simp [results, Try.results4, go_sem, r40], rfl, ?_⟩
      exact (HI.out.bel.setCell (Nat.le_refl _) _).trans (putObj_below _ (by omega) (heap_lt hD2) _)
    · have hlp : (0 : Int) < (l.length : Int) := by omega
      obtain ⟨K, hK, hKl⟩ : ∃ K : Nat, numB at_ (l.length : Int) = (K : Int) ∧ K < l.length := ⟨(numB at_ (l.length : Int)).toNat, by
        have h1 := Int.emod_nonneg at_ (b := (l.length : Int)) (by omega)
        have h2 := Int.emod_lt_of_pos at_ (b := (l.length : Int)) (by omega)
        unfold numB; omega⟩
      have C_num : Hid (∀ W : World, Calls Try.prog 29 #[.int .i64 at_, .int .i64 (l.length : Int)] W fun e w' => e = .returned (.int .i64 (K : Int)) ∧ w' = W) := fun W => by
        rw [← hK]; exact number_any at_ _ W hat (by omega) (by omega)
      have hYs : w4.heap.size < Y.heap.size := heap_lt HD.out
      clear hK hat
      gi_wp2_with (first
        | (refine ⟨trivial, ?_⟩; gi_at_call 29; refine (callsIn_wide.2 (C_num.out _)).mono ?_; rintro e w7 ⟨rfl, hw⟩; replace hw := hw.symm; subst hw)
        | (refine ⟨trivial, ?_⟩; gi_at_call 27; refine (callsIn_wide.2 (each_any l pl cl _ 0 w.heap.size ((HI.out.al.alloc (Nat.le_trans HB4.out.size (Nat.le_of_lt hYs)) _).alloc (by have := HB4.out.size; simp; omega) _) hlc hcl (by have := HB4.out.size; simp; omega))).mono ?_; rintro e w8 ⟨B2, q2, c2, rfl, hBlo, hkw, hb⟩; have HE8 := Lib.hid hb; have HKW := Lib.hid hkw; have HBL := Lib.hid hBlo; clear hb hkw hBlo))
      have hz8 : Y.heap.size + 2 ≤ w8.heap.size := by have := HE8.out.size; simp at this; omega
      have hzb2 : Y.heap.size + 2 ≤ B2 := by have := HBL.out; simp at this; omega
      have hBl2 : B2 < w8.heap.size := heap_lt HKW.out.box
      have hs36 : w3.heap.size < w4.heap.size := by omega
      have HI2 : Hid (I2 w l pl pw q2 cw c2 w4.heap.size w8.heap.size w3.heap.size Y.heap.size B2 K 0 w8) := by
        have hbY : Below Y.heap.size Y w8 := (((Below.refl Y.heap.size Y).alloc (Nat.le_refl _) (.cells #[.int .i64 (K : Int)] 3)).alloc (by simp) (.cells #[.int .i64 0] 3)).trans (HE8.out.mono (by simp; omega))
        have hk := HKW.out
        rw [World.size_alloc, World.size_alloc] at hk
        have hyw := HB4.out.size
        refine ⟨HI.out.bel.trans (hbY.mono (by omega)), (hbY.block _ (by omega)).trans HI.out.b4, (hbY.block _ (by omega)).trans HI.out.b6, ?_, ?_, (hbY.block _ hYs).trans HD.out, hk, HI.out.al.below hbY (by omega), HI.out.aw.below hbY (by omega), Nat.zero_le _⟩
        · exact (HE8.out.block _ (by simp; omega)).trans (heap_alloc_ _ _ _ _ (heap_alloc_new Y _))
        · have h := heap_alloc_new (Y.alloc (.cells #[.int .i64 (K : Int)] 3)) (.cells #[.int .i64 0] 3)
          rw [World.size_alloc] at h
          exact (HE8.out.block _ (by simp)).trans h
      have hK50 : (K : Int) ≤ 50 := by omega
      clear HE8 HKW HBL x70 xf70 x40 xf40 C_num
      refine range_hands rfl (by omega) (gf := 50) (lb := #[.pointer (some ⟨B2, 0, none⟩)]) rfl trivial (enters_of Try.func50 (by kernel_rfl) rfl) (each_hands _ (by omega) l B2 (Y.heap.size + 2) w8.heap.size q2 c2 (by omega)) (fun j xs b X h => by obtain ⟨⟨_, _, _, _, _, _, rfl, _⟩, _, _⟩ := h; rfl)
        (I2 w l pl pw q2 cw c2 w4.heap.size w8.heap.size w3.heap.size Y.heap.size B2 K) (fun c X => c = .exit 2 ∧ I2 w l pl pw q2 cw c2 w4.heap.size w8.heap.size w3.heap.size Y.heap.size B2 K K X) (fun j X Y' h hb => h.step hw3 hs36 hYs (by omega) hBl2 hb) (fun _ X Y' h hb => ⟨h.1, h.2.step hw3 hs36 hYs (by omega) hBl2 hb⟩) (fun j X h => h.kw) HI2.out ?round2 ?done2 ?stop2
      case round2 =>
        intro j xs b X hj hI hH hsb hlt
        obtain ⟨⟨_, k, n, s, qq, len, rfl, _⟩, _, _⟩ := hH
        have HIX := Lib.hid hI
        clear hI
        gi_wp2
        refine ⟨⟨Nat.le_refl _, rfl, rfl⟩, fun r => ?_⟩
        have hbP := putObj_below X (B := w8.heap.size) (l := w8.heap.size + 1) (by omega) hlt (.loop r)
        have HIP := Lib.hid (HIX.out.step hw3 hs36 hYs (by omega) hBl2 hbP)
        have hPz : (X.putObj (w8.heap.size + 1) (.loop r)).heap.size = X.heap.size := by simp
        generalize X.putObj (w8.heap.size + 1) (.loop r) = P at *
        obtain ⟨xk0, _⟩ := cell_one _ _ _ _ HIP.out.bk
        obtain ⟨xj0, xjf⟩ := cell_one _ _ _ _ HIP.out.bj
        have hle := HIP.out.le
        by_cases hjk : j = K
        · subst hjk
          gi_wp2
          exact ⟨⟨Nat.le_refl _, rfl, rfl⟩, rfl, HIP.out⟩
        · have hne : ((j : Int) == (K : Int)) = false := by simp; omega
          have hjK : j < K := by omega
          have hj50 : (j : Int) ≤ 50 := by omega
          have HJK := Lib.hid hjK
          clear hjk hjK hle
          gi_wp2
          refine ⟨⟨by simp, heap_set_other (by omega), heap_set_other (by omega)⟩, HIP.out.next hw3 hs36 hYs hzb2 HJK.out _ ?_⟩
          simp
      case done2 =>
        intro Z hI hD
        exact absurd hI.le (by omega)
      case stop2 =>
        rintro cd Z ⟨rfl, hI⟩ hD
        have HIZ := Lib.hid hI
        have HDZ := Lib.hid hD
        obtain ⟨xk0, _⟩ := cell_one _ _ _ _ hI.bk
        obtain ⟨xj0, _⟩ := cell_one _ _ _ _ hI.bj
        obtain ⟨x60, _⟩ := cell_one _ _ _ _ hI.b6
        obtain ⟨x40, xf40⟩ := cell_one _ _ _ _ hI.b4
        have hZs : w8.heap.size < Z.heap.size := heap_lt hD
        have HSL := Lib.hid (same_lists l Z pl pw cl cw (hI.al.keep (Nat.le_refl _) (by have := HB4.out.size; omega) (fun _ _ _ => rfl)) (hI.aw.keep (Nat.le_refl _) (by omega) (fun _ _ _ => rfl)) (by omega))
        clear hI hD
        dsimp only
        gi_wp2_with (refine ⟨trivial, ?_⟩; gi_at_call 25; refine (callsIn_wide.2 HSL.out).mono ?_; rintro e w9 ⟨rfl, hb⟩; have HB9 := Lib.hid hb; obtain ⟨y40, yf40⟩ := cell_one _ _ _ _ ((hb.block _ (by have := HB4.out.size; omega)).trans HIZ.out.b4); clear hb)
        have hb9 := HB9.out
        have hD2 : (w9.setCell ⟨w.heap.size, 0, none⟩ (.bool true)).heap[w8.heap.size]? = some (.deferred (some [])) := (heap_set_other (by omega)).trans ((hb9.block _ hZs).trans HDZ.out)
        have hD1 : ((w9.setCell ⟨w.heap.size, 0, none⟩ (.bool true)).putObj w8.heap.size (.deferred none)).heap[w4.heap.size]? = some (.deferred (some [])) := (World.putObj_heap_other (by omega)).trans ((heap_set_other (by omega)).trans ((hb9.block _ (by omega)).trans HIZ.out.dm))
        have h4 : (((w9.setCell ⟨w.heap.size, 0, none⟩ (.bool true)).putObj w8.heap.size (.deferred none)).putObj w4.heap.size (.deferred none)).heap[w.heap.size]? = some (.cells #[.bool true] 4 (0, 0)) := by
          refine (World.putObj_heap_other (by omega)).trans ((World.putObj_heap_other (by omega)).trans ?_)
          have := (hb9.block _ (by omega)).trans HIZ.out.b4
          simp [World.setCell, Array.getElem?_modify, this]
        obtain ⟨r40, _⟩ := cell_one _ _ _ _ h4
        have bel : Below w.heap.size w (((w9.setCell ⟨w.heap.size, 0, none⟩ (.bool true)).putObj w8.heap.size (.deferred none)).putObj w4.heap.size (.deferred none)) :=
          (((HIZ.out.bel.trans (hb9.mono (by omega))).setCell (Nat.le_refl _) _).trans (putObj_below _ (by omega) (heap_lt hD2) _)).trans (putObj_below _ (by omega) (heap_lt hD1) _)
        refine ⟨by simp, .inl ⟨_, _, rfl, run_takeDeferred hD2, ?_⟩⟩
        refine ⟨by simp, .inl ⟨_, _, rfl, run_takeDeferred hD1, ?_⟩⟩
        exact ⟨.bool true, by simp [results, Try.results4, go_sem, r40], rfl, bel⟩

set_option maxHeartbeats 1000000 in
theorem lawEach_all (l : List T) (at_ : Int) (w : World) (pl : Option Addr) (cl : Nat) (hl : RepAll w 0 w.heap.size l pl) (hlc : l.length ≤ cl) (hcl : l.length * 56 ≤ 140737488355328) (hat : I64 at_) :
    Calls Try.prog 4 #[.slice pl l.length cl, .int .i64 at_] w fun e w' => e = .returned (.bool true) ∧ Below w.heap.size w w' := by
  cases hF : fewRight l 50 with
  | true => exact lawEach_main l at_ w pl cl hl hlc hcl hat hF
  | false =>
    have HS0 := Lib.hid ((St.mk (W := w) (L := [(l, pl)]) (B := []) (V := []) (fun x hx => by simp at hx; subst hx; exact hl) (fun x hx => by simp at hx) (fun x hx => by simp at hx)).alloc #[.bool false] 4)
    have HB0 := Lib.hid ((Below.refl w.heap.size w).alloc (Nat.le_refl _) (.cells #[.bool false] 4))
    have HF := Lib.hid hF
    clear hl hF hat
    refine (callsIn_wide (n := 8)).1 ?_
    refine callsIn_of_wp_marks Try.func4 rfl trivial ?_ rfl
    simp only [Try.ntmps4, List.size_toArray, List.length_cons, List.length_nil, Nat.reduceAdd, Nat.reduceSub, Array.replicate_succ, Array.replicate_zero, List.push_toArray, List.append_toArray, List.nil_append, List.cons_append]
    gi_wp2_with (first
      | (refine ⟨trivial, ?_⟩; gi_at_call 8; refine (callsIn_wide.2 (first4_any _)).mono ?_; rintro e w1 ⟨rfl, hb⟩; have HS1 := Lib.hid (HS0.out.step hb); have HB1 := Lib.hid (HB0.out.trans (hb.mono HB0.out.size)); clear hb)
      | (refine ⟨trivial, ?_⟩; gi_at_call 26; refine (callsIn_wide.2 (wvalues_any l w1 0 w1.heap.size pl cl 50 (HS1.out.all (l, pl) (by simp)) (Nat.le_refl _) (by omega))).mono ?_; rintro e w2 ⟨rfl, hb⟩; rw [HF.out]; have HS2 := Lib.hid (HS1.out.step hb); have HB2 := Lib.hid (HB1.out.trans (hb.mono HB1.out.size)); clear hb; obtain ⟨y40, yf40⟩ := cell_one _ _ _ _ (HS2.out.box (w.heap.size, .cells #[.bool false] 4 (0, 0)) (by simp))))
    have h4 : (w2.setCell ⟨w.heap.size, 0, none⟩ (.bool true)).heap[w.heap.size]? = some (.cells #[.bool true] 4 (0, 0)) := by
      have := HS2.out.box (w.heap.size, .cells #[.bool false] 4 (0, 0)) (by simp)
      simp [World.setCell, Array.getElem?_modify, this]
    obtain ⟨r40, _⟩ := cell_one _ _ _ _ h4
    exact ⟨.bool true, by simp [results, Try.results4, go_sem, r40], rfl, HB2.out.setCell (Nat.le_refl _) _⟩
end Go.Proofs.Ytjipchloebbldaa
