/- Rows that the document's functions put together by append; made, within, Get, CutList, Cat, Delete. -/
import Derived.Test.YtjipchloebbldaaGetS
import Derived.Test.YtjipchloebbldaaCopy
import Derived.Deep.RegionLaw
namespace Go.Proofs.Ytjipchloebbldaa
open Go.RowKit
set_option maxRecDepth 100000

/-- A row of one's own that holds these items; what lay below B is as it was. -/
structure Gl (B lo hi : Nat) (w0 : World) (L : List T) (v : Value) (w : World) : Prop where
  row : ∃ cs, w.ownsRow B 24 4 v L.length cs ∧ Cs w lo hi L cs
  bel : Below B w0 w
theorem Gl.start {B lo hi n : Nat} {w0 W : World} (hb : Below B w0 W) (hB : B ≤ W.heap.size) (hn : n ≤ 1000000) : Gl B lo hi w0 [] (.slice (some ⟨W.heap.size, 0, none⟩) 0 n) (W.alloc (.cells (madeCells #[.int .i64 0, .int .i64 0, .string ⟨#[]⟩, .slice none 0 0] (n * 4)) 24)) :=
  ⟨⟨[], World.ownsRow_made (base := B) (e := 24) (size := 4) W _ n hB (by unfold maxLen; omega) (size_madeCells _ _), rfl⟩, hb.alloc hB _⟩
theorem Gl.run {B lo hi : Nat} {w0 w : World} {L : List T} {v : Value} (h : Gl B lo hi w0 L v w) (hhi : hi ≤ B) (hB : B ≤ w.heap.size) {l : List T} {cs : List Value} {p : Option Addr} {c m : Nat} (hc : Cs w lo hi l cs) (hcell : ∀ a, p = some a → ∀ j u, cs[j]? = some u → w.cell? (a.add j) = some u) (hp : p = none → l = [])
    (hn : L.length + l.length ≤ 1000000) (M : List T) (hM : M = L ++ l) (hm : m = l.length) (ty : TypeId) :
    ∃ q cap w', (Builtin.append_ #[22, 22] ty #[v, .slice p m c]).run Try.prog w = .ok (.slice q M.length cap) w' ∧ Gl B lo hi w0 M (.slice q M.length cap) w' := by
  obtain ⟨i0, hi0, hz0, hz1, hz2⟩ := info_parts Try.info_V
  obtain ⟨⟨xs, hown, hcs⟩, hbel⟩ := h
  subst hm
  rcases Nat.eq_zero_or_pos l.length with h0 | hpos
  · have hl0 : l = [] := List.eq_nil_of_length_eq_zero h0
    subst hl0
    rw [List.append_nil] at hM
    subst hM
    obtain ⟨sp, scap, rfl, hsc⟩ := owns_form hown
    refine ⟨sp, scap, w, ?_, ⟨xs, hown, hcs⟩, hbel⟩
    refine run_append_nothing w _ _ ty 24 i0 Try.underlying22 hi0 sp _ scap hsc _ ?_
    cases p with
    | none => exact Src.ofNil _ Try.underlying22 c
    | some a => exact Src.ofSlice _ Try.underlying22 a 0 c [] (by simp) (fun j u h => by simp at h) (by simp)
  · cases p with
    | none => rw [hp rfl] at hpos; simp at hpos
    | some a =>
      obtain ⟨g, cap, w', hr, ho', hgr, hat, hlt⟩ := run_append_lies (P := Try.prog) w 22 ty B 24 i0 _ 4 56 Try.underlying22 hi0 hz0 hz1 hz2 rfl (by decide) v L.length xs hown a l.length c cs hc.len (hcell a rfl) hc.one hpos (by unfold maxLen; omega) (by omega) hB w.heap.size rfl
      have hMl : M.length = L.length + l.length := by rw [hM, List.length_append]
      have hb2 := below_grown hbel hgr (fun k hk => (hown.lt k hk).1) hB
      have hkeep : ∀ p : Addr, lo ≤ p.block → p.block < hi → w'.cell? p = w.cell? p := fun p _ hp => (hb2.cell (by omega)).trans (hbel.cell (by omega)).symm
      rw [hMl]
      exact ⟨_, cap, w', hr, ⟨_, by rw [hMl]; exact ho', by rw [hM]; exact (hcs.keep (Nat.le_refl _) (Nat.le_refl _) hkeep).app (hc.keep (Nat.le_refl _) (Nat.le_refl _) hkeep)⟩, hb2⟩
theorem mkrow (n : Nat) (h : n ≤ 1000000) (z : Int) (hz : z = (n : Int)) (W : World) : (Instr.makeSlice 22 (.int .i64 0) (.int .i64 z)).run Try.prog W = .ok (.slice (some ⟨W.heap.size, 0, none⟩) 0 n) (W.alloc (.cells (madeCells #[.int .i64 0, .int .i64 0, .string ⟨#[]⟩, .slice none 0 0] (n * 4)) 24)) := by
  obtain ⟨i0, hi0, hz0, hz1, hz2⟩ := info_parts Try.info_V
  subst hz
  have h := run_make (P := Try.prog) W 22 24 i0 _ Try.underlying22 hi0 hz0 .i64 .i64 0 n (by omega) (by omega) (by rw [hz2]; omega) (by omega)
  rw [hz1] at h
  simpa [Value.cells] using h
/-- From a list in memory. -/
theorem Gl.all {B lo hi : Nat} {w0 w : World} {L : List T} {v : Value} (h : Gl B lo hi w0 L v w) (hhi : hi ≤ B) (hB : B ≤ w.heap.size) {l : List T} {p : Option Addr} (hr : RepAll w lo hi l p) (hn : L.length + l.length ≤ 1000000) (M : List T) (hM : M = L ++ l) {m c : Nat} (hm : m = l.length) (ty : TypeId) :
    ∃ q cap w', (Builtin.append_ #[22, 22] ty #[v, .slice p m c]).run Try.prog w = .ok (.slice q M.length cap) w' ∧ Gl B lo hi w0 M (.slice q M.length cap) w' := by
  obtain ⟨cs, h1, h2⟩ := hr.cs
  refine h.run hhi hB h1 h2 (fun hp => ?_) hn M hM hm ty
  cases l with
  | nil => rfl
  | cons t r => unfold RepAll at hr; obtain ⟨a, _, _, _, _, e, _⟩ := hr; rw [hp] at e; cases e
theorem Gl.fin {B lo hi : Nat} {w0 w : World} {L : List T} {v : Value} (h : Gl B lo hi w0 L v w) (hlo : lo ≤ B) (hhi : hi ≤ w.heap.size) : ∃ p cap, v = .slice p L.length cap ∧ L.length ≤ cap ∧ RepAll w lo w.heap.size L p := by
  obtain ⟨⟨cs, h1, h2⟩, _⟩ := h
  exact all_of_row h1 (h2.keep (Nat.le_refl _) hhi (fun _ _ _ => rfl)) hlo (Nat.le_refl _)

set_option maxHeartbeats 1000000 in
theorem made_any (l : List T) (w : World) (lo hi : Nat) (p : Option Addr) (cap : Nat) (hall : RepAll w lo hi l p) (hlc : l.length ≤ cap) (hhi : hi ≤ w.heap.size) (hsz : szAll l ≤ 900000) :
    Calls Try.prog 47 #[.slice p l.length cap] w (Ans lo w (madeS (rfit l) l)) := by
  have hlen := len_le_sz l
  have hr : Rep w lo hi (.mk 4 0 ByteArray.empty l) (.agg #[.int .i64 4, .int .i64 0, .string ByteArray.empty, .slice p l.length cap]) := Rep.mk_ (by unfold I64; omega) (by unfold I64; omega) (by simp) hlc (by omega) hall
  have hs1 : sz (.mk 4 0 ByteArray.empty l) = 1 + szAll l := by rw [sz]; simp
  have HV := Lib.hid (fits_any (.mk 4 0 ByteArray.empty l) w lo hi _ hr hhi (by omega))
  have HALL := Lib.hid hall; clear hall hr
  obtain ⟨C, hC⟩ : ∃ C, C = rfit l := ⟨_, rfl⟩
  have HVC : Hid (Calls Try.prog 37 #[.agg #[.int .i64 4, .int .i64 0, .string ⟨#[]⟩, .slice p l.length cap]] w fun e w' => e = .returned (.int .i64 C) ∧ Below w.heap.size w w') := by rw [hC]; exact HV
  rw [← hC]
  clear hC HV
  by_cases hc : C = 0
  · subst hc
    go_enter Try.func47, Try.ntmps47
    go_wp2_with (go_at_call 37; refine HVC.out.mono ?_; rintro e w2 ⟨rfl, hb2⟩)
    go_ret2
    exact ⟨p, cap, rfl, hlc, (HALL.out.below hb2 hhi).keep (Nat.le_refl _) (Nat.le_trans hhi hb2.size) (fun _ _ _ => rfl), hb2⟩
  · have hne : (C != 0) = true := by simpa using hc
    have HM : Hid (madeS C l = ([], C)) := by show _ = _; unfold madeS; rw [if_neg hc]
    go_enter Try.func47, Try.ntmps47
    go_wp2_with (go_at_call 37; refine HVC.out.mono ?_; rintro e w2 ⟨rfl, hb2⟩)
    go_ret2
    rw [HM.out]
    exact ans_none C hb2
/-- made, as a tail of the calls. -/
theorem made_tail (l : List T) (w : World) (lo : Nat) (hsz : szAll l ≤ 900000) (R : List T × Int) (hR : R = madeS (rfit l) l) : ∀ w2 p cap, RepAll w2 lo w2.heap.size l p → l.length ≤ cap → Below w.heap.size w w2 →
    Calls Try.prog 47 #[.slice p l.length cap] w2 (Ans lo w R) := fun w2 p cap h1 h2 h3 => by
  rw [hR]
  exact (made_any l w2 lo w2.heap.size p cap h1 h2 (Nat.le_refl _) hsz).mono fun e w' h => h.of_below h3 (Nat.le_refl _)

set_option maxHeartbeats 2000000 in
theorem rcat_any (a b : List T) (pa pb : Option Addr) (ca cb : Nat) (w : World) (lo : Nat) (ha : RepAll w lo w.heap.size a pa) (hb : RepAll w lo w.heap.size b pb) (hlo : lo ≤ w.heap.size) (hsz : szAll (a ++ b) ≤ 900000) :
    Calls Try.prog 23 #[.slice pa a.length ca, .slice pb b.length cb] w (Ans lo w (catS rfit a b)) := by
  have hlen := len_le_sz (a ++ b)
  rw [List.length_append] at hlen
  obtain ⟨N, hN⟩ : ∃ N, N = a.length + b.length := ⟨_, rfl⟩
  have hmk := mkrow N (by omega) ((a.length : Int) + (b.length : Int)) (by omega)
  have hnb : (a.length : Int) + (b.length : Int) ≤ 1000000 := by omega
  have HG0 := Lib.hid (Gl.start (lo := lo) (hi := w.heap.size) (Below.refl w.heap.size w) (Nat.le_refl _) (n := N) (by omega))
  have HA := Lib.hid ha
  have HB := Lib.hid hb
  obtain ⟨L, hL⟩ : ∃ L, L = a ++ b := ⟨_, rfl⟩
  obtain ⟨R, hR⟩ : ∃ R, R = madeS (rfit (a ++ b)) (a ++ b) := ⟨_, rfl⟩
  have HK := Lib.hid (made_tail (a ++ b) w lo hsz R hR)
  have HS : Hid (catS rfit a b = R) := by show _ = _; unfold catS; rw [← hR]
  rw [HS.out]
  rw [← hL] at HK
  have HL := Lib.hid hL
  clear ha hb hR hsz HS hL hN
  go_enter Try.func23, Try.ntmps23
  go_wp2_with (first
    | (at_builtin; obtain ⟨q1, cap1, w1, hr1, hg1⟩ := HG0.out.all (Nat.le_refl _) (by simp) ((HA.out.alloc (Nat.le_refl _) (.cells (madeCells #[.int .i64 0, .int .i64 0, .string ⟨#[]⟩, .slice none 0 0] (N * 4)) 24))) (by simp; omega) a rfl (m := a.length) (c := ca) rfl 22; refine Lib.wpList_append_run_sl _ rfl (.tmp 12) (.tmp 13) _ rfl _ _ rfl rfl hr1 ?_; have HG1 := Lib.hid hg1; clear hr1 hg1 HG0)
    | (at_builtin; obtain ⟨q2, cap2, w2, hr2, hg2⟩ := HG1.out.all (Nat.le_refl _) HG1.out.bel.size (HB.out.below HG1.out.bel (Nat.le_refl _)) (by omega) L HL.out (m := b.length) (c := cb) rfl 22; refine Lib.wpList_append_run_sl _ rfl (.tmp 15) (.tmp 16) _ rfl _ _ rfl rfl hr2 ?_; have HG2 := Lib.hid hg2; clear hr2 hg2)
    | (go_at_call 47; obtain ⟨q3, cap3, he3, h31, h32⟩ := HG2.out.fin hlo HG2.out.bel.size; simp only [Value.slice.injEq, true_and] at he3; obtain ⟨rfl, rfl⟩ := he3; (with_reducible refine (HK.out _ _ _ h32 h31 HG2.out.bel).mono ?_); clear h32; rintro e w3 ⟨p3, cap3, rfl, h3⟩; have H3 := Lib.hid h3; clear h3))
  go_ret2
  exact ⟨p3, cap3, rfl, H3.out⟩
end Go.Proofs.Ytjipchloebbldaa
