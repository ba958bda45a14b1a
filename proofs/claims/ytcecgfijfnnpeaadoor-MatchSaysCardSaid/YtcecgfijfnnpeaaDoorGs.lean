/- A row of texts of one's own, that grows. -/
import Derived.Test.YtcecgfijfnnpeaaDoorTr
import Derived.Test.YtcecgfijfnnpeaaDoorChecked
import Derived.WalkKit
import Derived.ProofKit
import Derived.Deep.AppendLies
import Derived.Lib.SlFresh
import Derived.Deep.Upon
import Derived.Deep.DeepCutAuto
namespace Go.Proofs.YtcecgfijfnnpeaaDoor
open Go.RowKit
set_option maxRecDepth 100000

theorem sowns_form {w : World} {B : Nat} {e : TypeId} {size n : Nat} {v : Value} {xs : List Value} (h : w.ownsRow B e size v n xs) : ∃ p cap, v = .slice p n cap ∧ n ≤ cap := by
  rcases h.2 with ⟨rfl, rfl⟩ | ⟨g, cap, cur, rfl, _, _, hnc, _⟩
  · exact ⟨none, 0, rfl, Nat.le_refl _⟩
  · exact ⟨_, cap, rfl, hnc⟩
theorem sbelow_grown {B : Nat} {W0 w w' : World} {v : Value} (h : Below B W0 w) (hg : w.grownBy w' v.ownBlock) (hv : ∀ k, v.ownBlock = some k → B ≤ k) (hB : B ≤ w.heap.size) : Below B W0 w' :=
  h.trans ⟨hg.os, hg.tape, hg.output, hg.size, fun k hk => hg.block k (by omega) (fun e => by have := hv k e.symm; omega)⟩

/-- A row of one's own that holds these texts; what lay below B is as it was. -/
structure Gs (B : Nat) (w0 : World) (L : List ByteArray) (v : Value) (w : World) : Prop where
  row : w.ownsRow B 9 1 v L.length (L.map Value.string)
  bel : Below B w0 w
theorem Tryd.info_Str : (Tryd.prog.info? 9).map (fun i => (i.zero, i.size, i.bytes)) = some (some (.string ⟨#[]⟩), 1, 16) := by kernel_rfl
theorem Gs.start {B n : Nat} {w0 W : World} (hb : Below B w0 W) (hB : B ≤ W.heap.size) (hn : n ≤ 1000000) : Gs B w0 [] (.slice (some ⟨W.heap.size, 0, none⟩) 0 n) (W.alloc (.cells (madeCells #[.string ⟨#[]⟩] n) 9)) :=
  ⟨World.ownsRow_made (base := B) (e := 9) (size := 1) W _ n hB (by unfold maxLen; omega) (by rw [size_madeCells, Nat.mul_one]), hb.alloc hB _⟩
theorem Gs.drew_ {B : Nat} {w0 w : World} {L : List ByteArray} {v : Value} (h : Gs B w0 L v w) : Gs B w0 L v w.drew := ⟨h.row, h.bel.drew⟩
theorem smkrow (n : Nat) (h : n ≤ 1000000) (z : Int) (hz : z = (n : Int)) (W : World) : (Instr.makeSlice 23 (.int .i64 0) (.int .i64 z)).run Tryd.prog W = .ok (.slice (some ⟨W.heap.size, 0, none⟩) 0 n) (W.alloc (.cells (madeCells #[.string ⟨#[]⟩] n) 9)) := by
  obtain ⟨i0, hi0, hz0, hz1, hz2⟩ := info_parts Tryd.info_Str
  subst hz
  have h := run_make (P := Tryd.prog) W 23 9 i0 _ Tryd.underlying23 hi0 hz0 .i64 .i64 0 n (by omega) (by omega) (by rw [hz2]; omega) (by omega)
  rw [hz1] at h
  simpa [Value.cells] using h
/-- Texts of memory, behind it. -/
theorem Gs.run {B : Nat} {w0 w : World} {L : List ByteArray} {v : Value} (h : Gs B w0 L v w) (hB : B ≤ w.heap.size) {C : Nat} {l : List ByteArray} {p : Option Addr} (hr : TRow w C p l)
    (hn : L.length + l.length ≤ 1000000) (M : List ByteArray) (hM : M = L ++ l) {m c : Nat} (hm : m = l.length) (ty : TypeId) :
    ∃ q cap w', (Builtin.append_ #[23, 23] ty #[v, .slice p m c]).run Tryd.prog w = .ok (.slice q M.length cap) w' ∧ Gs B w0 M (.slice q M.length cap) w' := by
  obtain ⟨i0, hi0, hz0, hz1, hz2⟩ := info_parts Tryd.info_Str
  obtain ⟨hown, hbel⟩ := h
  subst hm
  rcases Nat.eq_zero_or_pos l.length with h0 | hpos
  · have hl0 : l = [] := List.eq_nil_of_length_eq_zero h0
    subst hl0
    rw [List.append_nil] at hM
    subst hM
    obtain ⟨sp, scap, rfl, hsc⟩ := sowns_form hown
    refine ⟨sp, scap, w, ?_, hown, hbel⟩
    refine run_append_nothing w _ _ ty 9 i0 Tryd.underlying23 hi0 sp _ scap hsc _ ?_
    cases p with
    | none => exact Src.ofNil _ Tryd.underlying23 c
    | some a => exact Src.ofSlice _ Tryd.underlying23 a 0 c [] (by simp) (fun j u h => by simp at h) (by simp)
  · rcases hr with h | ⟨b, off, hp, ha, hc⟩
    · rw [h] at hpos; simp at hpos
    subst hp
    have hadd : ∀ n, Addr.add ⟨b, off, none⟩ n = ⟨b, off + n, none⟩ := by
      intro n; unfold Addr.add; split
      · rename_i h; subst h; rfl
      · rfl
    obtain ⟨g, cap, w', hr, ho', hgr, hat, hlt⟩ := run_append_lies (P := Tryd.prog) w 23 ty B 9 i0 _ 1 16 Tryd.underlying23 hi0 hz0 hz1 hz2 rfl (by decide) v L.length _ hown ⟨b, off, none⟩ l.length c (l.map Value.string) (by simp)
      (fun j u hj => by
        rw [List.getElem?_map] at hj
        have hjl : j < l.length := by
          rcases Nat.lt_or_ge j l.length with h | h
          · exact h
          · rw [List.getElem?_eq_none h] at hj; cases hj
        rw [List.getElem?_eq_getElem hjl] at hj
        rw [hadd, hc j hjl]; exact hj)
      (fun u hu => by rw [List.mem_map] at hu; obtain ⟨x, _, rfl⟩ := hu; rfl) hpos (by unfold maxLen; omega) (by omega) hB w.heap.size rfl
    have hMl : M.length = L.length + l.length := by rw [hM, List.length_append]
    rw [hMl]
    exact ⟨_, cap, w', hr, by rw [hMl, hM, List.map_append]; exact ho', sbelow_grown hbel hgr (fun k hk => (hown.lt k hk).1) hB⟩
theorem Gs.fin {B : Nat} {w0 w : World} {L : List ByteArray} {v : Value} (h : Gs B w0 L v w) : ∃ p cap, v = .slice p L.length cap ∧ L.length ≤ cap ∧ TRow w w.heap.size p L := by
  obtain ⟨hown, hbel⟩ := h
  obtain ⟨sp, scap, rfl, hsc⟩ := sowns_form hown
  refine ⟨sp, scap, rfl, hsc, ?_⟩
  rcases Nat.eq_zero_or_pos L.length with h0 | hpos
  · exact .inl (List.eq_nil_of_length_eq_zero h0)
  · obtain ⟨g, cap, he, hcap, hlt⟩ := hown.form hpos
    injection he with e1 _ _
    subst e1
    refine .inr ⟨g, 0, rfl, hlt, fun i hi => ?_⟩
    have := hown.cells (g := g) rfl i (.string L[i]) (by rw [List.getElem?_map, List.getElem?_eq_getElem hi]; rfl)
    have hadd : (⟨g, 0, none⟩ : Addr).add i = ⟨g, 0 + i, none⟩ := by unfold Addr.add; split <;> simp_all
    rw [hadd] at this; exact this

theorem Gs.nil_ (B : Nat) (w0 w : World) (h : Below B w0 w) : Gs B w0 [] (.slice none 0 0) w := ⟨World.ownsRow_nil _ _ _ _, h⟩
end Go.Proofs.YtcecgfijfnnpeaaDoor
