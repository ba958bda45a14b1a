/- Which texts and things are light; things as the document has them. -/
import Derived.Test.YtcecgfijfnnpeaaDoorMq
import Derived.Test.YtcecgfijfnnpeaaDoorGs
import Derived.Test.YtcecgfijfnnpeaaDoorMo
import Derived.Deep.RegionLaw
namespace Go.Proofs.YtcecgfijfnnpeaaDoor.Mt
open Go.RowKit
set_option maxRecDepth 100000

def textsB (ss : List ByteArray) (n m : Int) : Bool := decide ((ss.length : Int) ≤ n) && ss.all (fun s => decide ((s.size : Int) ≤ m))
set_option maxHeartbeats 1000000 in
theorem texts_any (ss : List ByteArray) (p : Option Addr) (cap B : Nat) (n m : Int) (w : World) (h : TRow w B p ss) (hl : ss.length ≤ 9223372036854775807) :
    Calls Tryd.prog 10 #[.slice p ss.length cap, .int .i64 n, .int .i64 m] w fun e w' => e = .returned (.bool (textsB ss n m)) ∧ w' = w := by
  have HS := Lib.hid h; clear h
  by_cases hn : (ss.length : Int) ≤ n
  · have e1 : textsB ss n m = ss.all (fun s => decide ((s.size : Int) ≤ m)) := by simp [textsB, hn]
    rw [e1]; clear e1
    have hd : decide (n < (ss.length : Int)) = false := by simp; omega
    clear hn
    go_enter Tryd.func10, Tryd.ntmps10
    go_wp2
    go_loop [7] (fun i => ∃ j : Nat, j ≤ ss.length ∧ i = .int .i64 j ∧ Hid (ss.all (fun s => decide ((s.size : Int) ≤ m)) = (ss.drop j).all (fun s => decide ((s.size : Int) ≤ m)))) (fun i => ss.length - (intOf i).toNat)
    case atStart => exact ⟨0, Nat.zero_le _, rfl, rfl⟩
    case round =>
      obtain ⟨j, hj, rfl, hall⟩ := hrel
      by_cases hlt : j < ss.length
      · obtain ⟨b, off, hp, _, hc⟩ := HS.out.at_ j hlt
        subst hp
        have hdr := Lib.hid (List.drop_eq_getElem_cons hlt)
        have hall2 : Hid (ss.all (fun s => decide ((s.size : Int) ≤ m)) = (decide (((ss[j]).size : Int) ≤ m) && (ss.drop (j + 1)).all (fun s => decide ((s.size : Int) ≤ m)))) := by
          show _ = _
          rw [hall.out, hdr.out]; rfl
        clear hall hdr
        generalize ss[j] = s at *
        by_cases hm : (s.size : Int) ≤ m
        · have hmd : decide (m < (s.size : Int)) = false := by simp; omega
          have HMM := Lib.hid (decide_eq_true hm)
          clear hm
          go_wp2
          go_round
          case measure => simp [intOf]; omega
          case rel => exact ⟨j + 1, by omega, by go_num, by show _ = _; rw [hall2.out, HMM.out]; rfl⟩
        · have hmd : decide (m < (s.size : Int)) = true := by simp; omega
          have HMM := Lib.hid (decide_eq_false hm)
          clear hm
          go_wp2
          go_ret
          exact ⟨ret_bool (by rw [hall2.out, HMM.out]; rfl), rfl⟩
      · have hje : j = ss.length := by omega
        subst hje
        go_wp2
        go_ret
        exact ⟨ret_bool (by rw [hall.out]; simp), rfl⟩
  · have e1 : textsB ss n m = false := by simp [textsB, hn]
    rw [e1]; clear e1
    have hd : decide (n < (ss.length : Int)) = true := by simp; omega
    clear hn
    go_enter Tryd.func10, Tryd.ntmps10
    go_wp2
    go_ret
    exact ⟨rfl, rfl⟩

/-- The slice p holds the things l, whatever their sizes. -/
def GRow0 (w : World) (B : Nat) (p : Option Addr) (l : List Tg) : Prop :=
  l = [] ∨ ∃ b off, p = some ⟨b, off, none⟩ ∧ b < B ∧ ∀ i (h : i < l.length), I64 l[i].1 ∧ w.cell? ⟨b, off + i * 2, none⟩ = some (.int .i64 l[i].1) ∧
    ∃ q c, w.cell? ⟨b, off + i * 2 + 1, none⟩ = some (.slice q l[i].2.length c) ∧ TRow w B q l[i].2 ∧ l[i].2.length ≤ 9223372036854775807
theorem GRow0.below {w w' : World} {B : Nat} {p : Option Addr} {l : List Tg} (h : GRow0 w B p l) (hb : Below B w w') : GRow0 w' B p l := by
  rcases h with h | ⟨b, off, hp, ha, hc⟩
  · exact .inl h
  · refine .inr ⟨b, off, hp, ha, fun i hi => ?_⟩
    obtain ⟨h1, h2, q, c, h3, h4, h5⟩ := hc i hi
    exact ⟨h1, (hb.cell (p := ⟨b, off + i * 2, none⟩) ha).trans h2, q, c, (hb.cell (p := ⟨b, off + i * 2 + 1, none⟩) ha).trans h3, h4.below hb, h5⟩
theorem GRow0.grow {w : World} {B C : Nat} {p : Option Addr} {l : List Tg} (h : GRow0 w B p l) (hb : B ≤ C) : GRow0 w C p l := by
  rcases h with h | ⟨b, off, hp, ha, hc⟩
  · exact .inl h
  · refine .inr ⟨b, off, hp, Nat.lt_of_lt_of_le ha hb, fun i hi => ?_⟩
    obtain ⟨h1, h2, q, c, h3, h4, h5⟩ := hc i hi
    exact ⟨h1, h2, q, c, h3, h4.grow hb, h5⟩
theorem GRow0.at_ {w : World} {B : Nat} {p : Option Addr} {l : List Tg} (h : GRow0 w B p l) (i : Nat) (hi : i < l.length) : ∃ b off q c, p = some ⟨b, off, none⟩ ∧ b < B ∧ I64 l[i].1 ∧ w.cell? ⟨b, off + i * 2, none⟩ = some (.int .i64 l[i].1) ∧
    w.cell? ⟨b, off + i * 2 + 1, none⟩ = some (.slice q l[i].2.length c) ∧ TRow w B q l[i].2 ∧ l[i].2.length ≤ 9223372036854775807 := by
  rcases h with h | ⟨b, off, hp, ha, hc⟩
  · subst h; simp at hi
  · obtain ⟨h1, h2, q, c, h3, h4, h5⟩ := hc i hi
    exact ⟨b, off, q, c, hp, ha, h1, h2, h3, h4, h5⟩
theorem GRow0.full {w : World} {B : Nat} {p : Option Addr} {l : List Tg} (h : GRow0 w B p l) (hs : ∀ t ∈ l, t.2.length ≤ 8 ∧ ∀ s ∈ t.2, s.size ≤ 40) : GRow w B p l := by
  rcases h with h | ⟨b, off, hp, ha, hc⟩
  · exact .inl h
  · refine .inr ⟨b, off, hp, ha, fun i hi => ?_⟩
    obtain ⟨h1, h2, q, c, h3, h4, h5⟩ := hc i hi
    have hz := hs _ (List.getElem_mem hi)
    exact ⟨h1, h2, q, c, h3, h4, by omega, fun s hsm => by have := hz.2 s hsm; omega⟩
def lightB (l : List Tg) : Bool := decide (l.length ≤ 20) && l.all (fun t => textsB t.2 8 40)
set_option maxHeartbeats 1000000 in
theorem light_any (l : List Tg) (p : Option Addr) (cap : Nat) (w : World) (h : GRow0 w w.heap.size p l) (hl : l.length ≤ 9223372036854775807) :
    Calls Tryd.prog 9 #[.slice p l.length cap] w fun e w' => e = .returned (.bool (lightB l)) ∧ w' = w := by
  have H := Lib.hid h; clear h
  by_cases hn : l.length ≤ 20
  · have e1 : lightB l = l.all (fun t => textsB t.2 8 40) := by simp [lightB, hn]
    rw [e1]; clear e1
    have hd : decide ((20 : Int) < (l.length : Int)) = false := by simp; omega
    have hd2 : decide (20 < l.length) = false := by simp; omega
    clear hn
    go_enter Tryd.func9, Tryd.ntmps9
    go_wp2
    go_loop [3] (fun i => ∃ j : Nat, j ≤ l.length ∧ i = .int .i64 j ∧ Hid (l.all (fun t => textsB t.2 8 40) = (l.drop j).all (fun t => textsB t.2 8 40))) (fun i => l.length - (intOf i).toNat)
    case atStart => exact ⟨0, Nat.zero_le _, rfl, rfl⟩
    case round =>
      obtain ⟨j, hj, rfl, hall⟩ := hrel
      by_cases hlt : j < l.length
      · obtain ⟨b, off, q, c, hp, _, _, h0, h1, hq, hql⟩ := H.out.at_ j hlt
        subst hp
        have ha := hall.out
        rw [List.drop_eq_getElem_cons hlt, List.all_cons] at ha
        have HT := Lib.hid (texts_any l[j].2 q c _ 8 40 w hq (by omega))
        obtain ⟨m, hm⟩ : ∃ m, l[j].2.length = m := ⟨_, rfl⟩
        rw [hm] at h1 HT
        clear hall hm hq hql
        cases hb : textsB l[j].2 8 40 with
        | true =>
          rw [hb, Bool.true_and] at ha
          have HA := Lib.hid ha
          rw [hb] at HT
          clear ha hb
          go_wp2_with (go_at_call 10; refine HT.out.mono ?_; rintro e w3 ⟨rfl, rfl⟩)
          go_round
          case measure => simp [intOf]; omega
          case rel => exact ⟨j + 1, by omega, by go_num, HA⟩
        | false =>
          rw [hb, Bool.false_and] at ha
          have HA := Lib.hid ha
          rw [hb] at HT
          clear ha hb
          go_wp2_with (go_at_call 10; refine HT.out.mono ?_; rintro e w3 ⟨rfl, rfl⟩)
          go_ret
          exact ⟨ret_bool HA.out.symm, rfl⟩
      · have hje : j = l.length := by omega
        subst hje
        go_wp2
        go_ret
        exact ⟨ret_bool (by rw [hall.out]; simp), rfl⟩
  · have e1 : lightB l = false := by simp [lightB, hn]
    rw [e1]; clear e1
    have hd : decide ((20 : Int) < (l.length : Int)) = true := by simp; omega
    have hd2 : decide (20 < l.length) = true := by simp; omega
    clear hn
    go_enter Tryd.func9, Tryd.ntmps9
    go_wp2
    go_ret
    exact ⟨rfl, rfl⟩
theorem light_bounds {l : List Tg} (h : lightB l = true) : l.length ≤ 20 ∧ ∀ t ∈ l, t.2.length ≤ 8 ∧ ∀ s ∈ t.2, s.size ≤ 40 := by
  unfold lightB at h
  rw [Bool.and_eq_true, decide_eq_true_eq, List.all_eq_true] at h
  refine ⟨h.1, fun t ht => ?_⟩
  have := h.2 t ht
  unfold textsB at this
  rw [Bool.and_eq_true, decide_eq_true_eq, List.all_eq_true] at this
  refine ⟨by omega, fun s hs => ?_⟩
  have := this.2 s hs
  rw [decide_eq_true_eq] at this; omega

theorem heap_lt2 {w : World} {g : Nat} {o : Obj} (h : w.heap[g]? = some o) : g < w.heap.size := by
  rcases Nat.lt_or_ge g w.heap.size with h1 | h1
  · exact h1
  · rw [Array.getElem?_eq_none h1] at h; cases h
/-- The cells of a row, as they lie. -/
def cellsAt (w : World) (b off : Nat) : Nat → List Value
  | 0 => []
  | n + 1 => cellsAt w b off n ++ [(w.cell? ⟨b, off + n, none⟩).getD .nilIface]
theorem cellsAt_len (w : World) (b off : Nat) : ∀ n, (cellsAt w b off n).length = n
  | 0 => rfl
  | n + 1 => by rw [cellsAt, List.length_append, cellsAt_len w b off n]; rfl
theorem cellsAt_get (w : World) (b off : Nat) : ∀ n i, i < n → (cellsAt w b off n)[i]? = some ((w.cell? ⟨b, off + i, none⟩).getD .nilIface)
  | n + 1, i, h => by
    rw [cellsAt]
    by_cases e : i < n
    · rw [List.getElem?_append_left (by rw [cellsAt_len]; exact e)]; exact cellsAt_get w b off n i e
    · have : i = n := by omega
      subst this
      rw [List.getElem?_append_right (by rw [cellsAt_len]; exact Nat.le_refl _), cellsAt_len, Nat.sub_self]; rfl
theorem info_RThing : (Tryd.prog.info? 62).map (fun i => (i.zero, i.size, i.bytes)) = some (some (.agg #[.int .i64 0, .slice none 0 0]), 2, 32) := by kernel_rfl
theorem sbelow_grown2 {B : Nat} {W0 w w' : World} {v : Value} (h : Below B W0 w) (hg : w.grownBy w' v.ownBlock) (hv : ∀ k, v.ownBlock = some k → B ≤ k) (hB : B ≤ w.heap.size) : Below B W0 w' :=
  h.trans ⟨hg.os, hg.tape, hg.output, hg.size, fun k hk => hg.block k (by omega) (fun e => by have := hv k e.symm; omega)⟩
/-- One more thing behind those that are laid. -/
theorem plain_push {B : Nat} {w0 w : World} {v : Value} {n : Nat} {xs : List Value} (h : w.ownsRow B 62 2 v n xs) (hb : Below B w0 w) (hB : B ≤ w.heap.size) (hn : n ≤ 1000) (c0 c1 : Value) (h0 : c0.oneCell' = true) (h1 : c1.oneCell' = true) (ty : TypeId) (g1 : Nat) (hg1 : g1 = w.heap.size) :
    ∃ g cap w', (Builtin.append_ #[33, 33] ty #[v, .slice (some ⟨g1, 0, none⟩) 1 1]).run Tryd.prog (w.alloc (.cells #[c0, c1] 62)).drew = .ok (.slice (some ⟨g, 0, none⟩) (n + 1) cap) w' ∧
      w'.ownsRow B 62 2 (.slice (some ⟨g, 0, none⟩) (n + 1) cap) (n + 1) (xs ++ [c0, c1]) ∧ Below B w0 w' := by
  subst hg1
  obtain ⟨i0, hi0, hz0, hz1, hz2⟩ := info_parts info_RThing
  have hnew : (w.alloc (.cells #[c0, c1] 62)).drew.heap[w.heap.size]? = some (.cells #[c0, c1] 62 (0, 0)) := heap_alloc_new w _
  have hown : (w.alloc (.cells #[c0, c1] 62)).drew.ownsRow B 62 2 v n xs := h.alloc (.cells #[c0, c1] 62)
  have hbel : Below B w0 (w.alloc (.cells #[c0, c1] 62)).drew := (hb.alloc hB _).drew
  have hz : (w.alloc (.cells #[c0, c1] 62)).drew.heap.size = w.heap.size + 1 := by simp
  generalize (w.alloc (Obj.cells #[c0, c1] 62)).drew = W at *
  have hadd : ∀ n, Addr.add ⟨w.heap.size, 0, none⟩ n = ⟨w.heap.size, 0 + n, none⟩ := by
    intro n; unfold Addr.add; split
    · rename_i h; subst h; rfl
    · rfl
  obtain ⟨g, cap, w', hr, ho', hgr, hat, hlt⟩ := run_append_lies (P := Tryd.prog) W 33 ty B 62 i0 _ 2 32 Tryd.underlying33 hi0 hz0 hz1 hz2 rfl (by decide) v n _ hown ⟨w.heap.size, 0, none⟩ 1 1 [c0, c1] rfl
    (fun j u hj => by
      rw [hadd, cell_of_row _ _ _ _ _ _ hnew, Nat.zero_add]
      rcases j with _ | _ | j
      · simpa using hj
      · simpa using hj
      · simp at hj)
    (fun u hu => by simp at hu; rcases hu with rfl | rfl <;> assumption) (by decide) (by unfold maxLen; omega) (by omega) (by omega) W.heap.size rfl
  exact ⟨g, cap, w', hr, ho', sbelow_grown2 hbel hgr (fun k hk => (hown.lt k hk).1) (by omega)⟩
end Go.Proofs.YtcecgfijfnnpeaaDoor.Mt
