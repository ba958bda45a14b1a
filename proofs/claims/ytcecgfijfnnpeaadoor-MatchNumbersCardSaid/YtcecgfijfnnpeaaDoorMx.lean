/- Package match: numbers as texts; a row of things of one's own, that grows. -/
import Derived.Test.YtcecgfijfnnpeaaDoorMw
import Derived.Test.YtcecgfijfnnpeaaDoorRight
import Derived.Deep.AppendLies
import Derived.Deep.Upon
namespace Go.Proofs.YtcecgfijfnnpeaaDoor.Mt
open Go.RowKit
set_option maxRecDepth 100000

set_option maxHeartbeats 400000 in
theorem rI_any (n : Int) (w : World) :
    Calls Tryd.prog 29 #[.int .i64 n] w fun e w' => e = .returned (.agg #[.int .i64 0, .int .i64 n, .string ByteArray.empty, .slice none 0 0]) ∧ Below w.heap.size w w' := by
  go_enter Tryd.func29, Tryd.ntmps29
  go_wp2
  go_returns
  exact ⟨rfl, by go_grown⟩
set_option maxHeartbeats 1000000 in
theorem rtext0_any (n : Int) (h0 : -9223372036854775808 ≤ n) (h1 : n ≤ 9223372036854775807) (w : World) (hN : NumV w) (P : ByteArray) (hP : (⟨(Lib.itoa n).toArray⟩ : ByteArray) = P) :
    Calls Tryd.prog 47 #[.agg #[.int .i64 0, .int .i64 n, .string ByteArray.empty, .slice none 0 0]] w fun e w' => e = .returned (.string P) ∧ Below w.heap.size w w' := by
  have HF := Lib.hid (fun (W : World) (h : NumV W) => format_any n h0 h1 W h P hP)
  have HN := Lib.hid hN
  have H1 : ∀ o : Obj, Hid (Below w.heap.size w (w.alloc o)) := fun o => (Below.refl _ _).alloc (Nat.le_refl _) _
  clear hP hN
  go_enter Tryd.func47, Tryd.ntmps47
  go_wp2_with (go_at_call 56; refine (HF.out _ (HN.out.below (H1 _).out)).mono ?_; rintro e w3 ⟨rfl, hb3⟩; have HB3 := Lib.hid ((H1 _).out.trans (hb3.mono (by simp))); clear hb3)
  go_ret
  exact ⟨rfl, HB3.out⟩
theorem right0 (n : Int) : rightB (.mk 0 n ByteArray.empty []) = true := by
  have hr : badRange 0 n = false := by unfold badRange; simp
  have hp : printed ByteArray.empty = true := by decide
  unfold rightB oddCode
  simp [odd, hr, badShape, oddAll, hp]
set_option maxHeartbeats 1000000 in
theorem rText_any (n : Int) (h0 : -9223372036854775808 ≤ n) (h1 : n ≤ 9223372036854775807) (w : World) (hN : NumV w) (P : ByteArray) (hP : (⟨(Lib.itoa n).toArray⟩ : ByteArray) = P) :
    Calls Tryd.prog 28 #[.agg #[.int .i64 0, .int .i64 n, .string ByteArray.empty, .slice none 0 0]] w fun e w' => e = .returned (.string P) ∧ Below w.heap.size w w' := by
  have HF := Lib.hid (fun (W : World) (h : NumV W) => rtext0_any n h0 h1 W h P hP)
  have HR := Lib.hid (fun (W : World) => by
    have := right_any (.mk 0 n ByteArray.empty []) W 0 0 (.agg #[.int .i64 0, .int .i64 n, .string ByteArray.empty, .slice none 0 0]) (by unfold Rep; exact ⟨none, 0, rfl, by unfold I64; omega, ⟨h0, h1⟩, by decide, Nat.le_refl _, by decide, by unfold RepAll; trivial⟩) (Nat.zero_le _)
    rw [right0 n] at this; exact this)
  have HN := Lib.hid hN
  have H1 : ∀ o : Obj, Hid (Below w.heap.size w (w.alloc o)) := fun o => (Below.refl _ _).alloc (Nat.le_refl _) _
  have HX := Lib.hid (heap_alloc_new w (.cells #[.int .i64 0, .int .i64 n, .string ByteArray.empty, .slice none 0 0] 50))
  clear hP hN
  go_enter Tryd.func28, Tryd.ntmps28
  go_wp2_with (first
    | (go_at_call 46; refine (HR.out _).mono ?_; rintro e w3 ⟨rfl, hb3⟩; have HB3 := Lib.hid ((H1 _).out.trans (hb3.mono (by simp))); have HX3 := Lib.hid (heap_old HX.out hb3); obtain ⟨x0, x1, x2, x3, _⟩ := box4_in _ _ _ _ _ _ _ HX3.out; clear hb3)
    | (go_at_call 47; refine (HF.out _ (HN.out.below HB3.out)).mono ?_; rintro e w4 ⟨rfl, hb4⟩; have HB4 := Lib.hid (HB3.out.trans (hb4.mono HB3.out.size)); clear hb4))
  go_ret
  exact ⟨rfl, HB4.out⟩
/-- # and a number. -/
def hashB (k : Nat) : ByteArray := ⟨#[35]⟩ ++ ⟨(Lib.itoa (k : Int)).toArray⟩
theorem hash_data (k : Nat) : (hashB k).data.toList = 35 :: Lib.itoa (k : Int) := by unfold hashB; simp [ByteArray.data_append]
theorem num_fin : ∀ k : Fin 31, (match Lib.parseIntB 32 (Lib.itoa (k.val : Int)) with | .ok v => v == (k.val : Int) | _ => false) = true ∧ (Lib.itoa (k.val : Int)).length ≤ 10 := by decide +kernel
theorem num_hash {k : Nat} (hk : k < 31) : numO (hashB k).data.toList = some (k : Int) := by
  have h := (num_fin ⟨k, hk⟩).1
  rw [hash_data]
  have e : numO (35 :: Lib.itoa (k : Int)) = (match Lib.parseIntB 32 (Lib.itoa (k : Int)) with | .ok v => if Lib.itoa v == Lib.itoa (k : Int) then some v else none | _ => none) := rfl
  rw [e]
  simp only at h
  cases hq : Lib.parseIntB 32 (Lib.itoa (k : Int)) with
  | ok v => rw [hq] at h; have hv : v = (k : Int) := by simpa using h
            rw [hv]; simp
  | _ => rw [hq] at h; cases h
theorem hash_small {k : Nat} (hk : k < 31) : (hashB k).size ≤ 11 := by
  have h := (num_fin ⟨k, hk⟩).2
  rw [← len_data, hash_data, List.length_cons]; simp only at h; omega

theorem heap_lt1' {w : World} {g : Nat} {o : Obj} (h : w.heap[g]? = some o) : g < w.heap.size := by
  rcases Nat.lt_or_ge g w.heap.size with h1 | h1
  · exact h1
  · rw [Array.getElem?_eq_none h1] at h; cases h
theorem sbelow_grown' {B : Nat} {W0 w w' : World} {v : Value} (h : Below B W0 w) (hg : w.grownBy w' v.ownBlock) (hv : ∀ k, v.ownBlock = some k → B ≤ k) (hB : B ≤ w.heap.size) : Below B W0 w' :=
  h.trans ⟨hg.os, hg.tape, hg.output, hg.size, fun k hk => hg.block k (by omega) (fun e => by have := hv k e.symm; omega)⟩
/-- A row of things with one name each, of one's own; what lay below B is as it was. -/
def tzCells : List (Int × ByteArray) → List Nat → List Value
  | (id, _) :: r, q :: qs => .int .i64 id :: .slice (some ⟨q, 0, none⟩) 1 1 :: tzCells r qs
  | _, _ => []
theorem tzCells_snoc (id : Int) (s : ByteArray) (q : Nat) : ∀ (L : List (Int × ByteArray)) (qs : List Nat), qs.length = L.length → tzCells (L ++ [(id, s)]) (qs ++ [q]) = tzCells L qs ++ [.int .i64 id, .slice (some ⟨q, 0, none⟩) 1 1]
  | [], [], _ => rfl
  | (i, x) :: r, p :: qs, h => by
    rw [List.cons_append, List.cons_append, tzCells, tzCells, tzCells_snoc id s q r qs (by simpa using h)]; rfl
theorem tzCells_len : ∀ (L : List (Int × ByteArray)) (qs : List Nat), qs.length = L.length → (tzCells L qs).length = L.length * 2
  | [], [], _ => rfl
  | (i, x) :: r, p :: qs, h => by rw [tzCells, List.length_cons, List.length_cons, tzCells_len r qs (by simpa using h), List.length_cons]; omega
theorem tzCells_at : ∀ (L : List (Int × ByteArray)) (qs : List Nat) (i : Nat) (h : i < L.length) (h2 : i < qs.length), (tzCells L qs)[i * 2]? = some (.int .i64 L[i].1) ∧ (tzCells L qs)[i * 2 + 1]? = some (.slice (some ⟨qs[i], 0, none⟩) 1 1)
  | (i, x) :: r, p :: qs, 0, _, _ => ⟨rfl, rfl⟩
  | (i, x) :: r, p :: qs, k + 1, h, h2 => by
    have := tzCells_at r qs k (by simpa using h) (by simpa using h2)
    rw [show (k + 1) * 2 = k * 2 + 1 + 1 by omega, tzCells]
    simpa using this
structure Tz (B : Nat) (w0 : World) (L : List (Int × ByteArray)) (qs : List Nat) (v : Value) (w : World) : Prop where
  len : qs.length = L.length
  row : w.ownsRow B 41 2 v L.length (tzCells L qs)
  bel : Below B w0 w
  nms : ∀ i (h : i < L.length) (h2 : i < qs.length), w.heap[qs[i]]? = some (.cells #[.string L[i].2] 9 (0, 0))
theorem Tz.nil_ (B : Nat) (w0 w : World) (h : Below B w0 w) : Tz B w0 [] [] (.slice none 0 0) w := ⟨rfl, World.ownsRow_nil _ _ _ _, h, fun _ h => by simp at h⟩
theorem Tz.step {B : Nat} {w0 w w' : World} {L : List (Int × ByteArray)} {qs : List Nat} {v : Value} (h : Tz B w0 L qs v w) (hb : Below w.heap.size w w') (hB : B ≤ w.heap.size) : Tz B w0 L qs v w' := by
  obtain ⟨hl, ⟨hl2, h1⟩, h2, h3⟩ := h
  refine ⟨hl, ⟨hl2, ?_⟩, h2.trans (hb.mono hB), fun i h h' => (hb.block _ (heap_lt1' (h3 i h h'))).trans (h3 i h h')⟩
  rcases h1 with h1 | ⟨g, cap, cur, g1, g2, g3, g4⟩
  · exact .inl h1
  · exact .inr ⟨g, cap, cur, g1, g2, (hb.block g (heap_lt1' g3)).trans g3, g4⟩
theorem info_Thing : (Tryd.prog.info? 41).map (fun i => (i.zero, i.size, i.bytes)) = some (some (.agg #[.int .i64 0, .slice none 0 0]), 2, 32) := by kernel_rfl
theorem Tz.push {B : Nat} {w0 w : World} {L : List (Int × ByteArray)} {qs : List Nat} {v : Value} (h : Tz B w0 L qs v w) (hB : B ≤ w.heap.size) (hn : L.length ≤ 1000) (id : Int) (s : ByteArray) (ty : TypeId) (g1 : Nat) (hg1 : g1 = w.heap.size) (g2 : Nat) (hg2 : g2 = w.heap.size + 1) :
    ∃ g cap w', (Builtin.append_ #[22, 22] ty #[v, .slice (some ⟨g2, 0, none⟩) 1 1]).run Tryd.prog ((w.alloc (.cells #[.string s] 9)).alloc (.cells #[.int .i64 id, .slice (some ⟨g1, 0, none⟩) 1 1] 41)) = .ok (.slice (some ⟨g, 0, none⟩) (L.length + 1) cap) w' ∧
      Tz B w0 (L ++ [(id, s)]) (qs ++ [g1]) (.slice (some ⟨g, 0, none⟩) (L.length + 1) cap) w' := by
  subst hg1 hg2
  obtain ⟨i0, hi0, hz0, hz1, hz2⟩ := info_parts info_Thing
  have hb1 : Below w.heap.size w ((w.alloc (.cells #[.string s] 9)).alloc (.cells #[.int .i64 id, .slice (some ⟨w.heap.size, 0, none⟩) 1 1] 41)) := ((Below.refl _ _).alloc (Nat.le_refl _) _).alloc (by simp) _
  have hnew := heap_alloc_new (w.alloc (.cells #[.string s] 9)) (.cells #[.int .i64 id, .slice (some ⟨w.heap.size, 0, none⟩) 1 1] 41)
  have hs1 : ((w.alloc (.cells #[.string s] 9)).alloc (.cells #[.int .i64 id, .slice (some ⟨w.heap.size, 0, none⟩) 1 1] 41)).heap[w.heap.size]? = some (.cells #[.string s] 9 (0, 0)) := heap_alloc_ _ _ _ _ (heap_alloc_new w (.cells #[.string s] 9))
  have hz : ((w.alloc (.cells #[.string s] 9)).alloc (.cells #[.int .i64 id, .slice (some ⟨w.heap.size, 0, none⟩) 1 1] 41)).heap.size = w.heap.size + 2 := by simp
  rw [show (w.alloc (.cells #[.string s] 9)).heap.size = w.heap.size + 1 from by simp] at hnew
  have h' := h.step hb1 hB
  generalize (w.alloc (Obj.cells #[.string s] 9)).alloc (Obj.cells #[.int .i64 id, .slice (some ⟨w.heap.size, 0, none⟩) 1 1] 41) = W at *
  obtain ⟨hl, hown, hbel, hnm⟩ := h'
  have hadd : ∀ n, Addr.add ⟨w.heap.size + 1, 0, none⟩ n = ⟨w.heap.size + 1, 0 + n, none⟩ := by
    intro n; unfold Addr.add; split
    · rename_i h; subst h; rfl
    · rfl
  obtain ⟨g, cap, w', hr, ho', hgr, hat, hlt⟩ := run_append_lies (P := Tryd.prog) W 22 ty B 41 i0 _ 2 32 Tryd.underlying22 hi0 hz0 hz1 hz2 rfl (by decide) v L.length _ hown ⟨w.heap.size + 1, 0, none⟩ 1 1 [.int .i64 id, .slice (some ⟨w.heap.size, 0, none⟩) 1 1] rfl
    (fun j u hj => by
      rw [hadd, cell_of_row _ _ _ _ _ _ hnew, Nat.zero_add]
      rcases j with _ | _ | j
      · simpa using hj
      · simpa using hj
      · simp at hj)
    (fun u hu => by simp at hu; rcases hu with rfl | rfl <;> rfl) (by decide) (by unfold maxLen; omega) (by omega) (by omega) W.heap.size rfl
  have hne : ∀ (k : Nat) (x : ByteArray), W.heap[k]? = some (.cells #[.string x] 9 (0, 0)) → some k ≠ v.ownBlock := fun k x hk e => by
    rcases hown.2 with ⟨rfl, _⟩ | ⟨g0, c0, cur, rfl, _, hg0, _⟩
    · cases e
    · have e2 : k = g0 := by simpa [Value.ownBlock] using e
      subst e2
      rw [hk] at hg0
      injection hg0 with hg0
      injection hg0 with _ ht _
      exact absurd ht (by decide)
  have hkeep : ∀ (k : Nat) (x : ByteArray), W.heap[k]? = some (.cells #[.string x] 9 (0, 0)) → w'.heap[k]? = some (.cells #[.string x] 9 (0, 0)) := fun k x hk =>
    (hgr.block k (heap_lt1' hk) (hne k x hk)).trans hk
  refine ⟨g, cap, w', hr, by simp [hl], ?_, sbelow_grown' hbel hgr (fun k hk => (hown.lt k hk).1) (by omega), fun i hi hi2 => ?_⟩
  · rw [tzCells_snoc id s _ L qs hl, List.length_append, List.length_singleton]; exact ho'
  · by_cases hil : i < L.length
    · rw [List.getElem_append_left hil, List.getElem_append_left (by omega)]
      exact hkeep _ _ (hnm i hil (by omega))
    · have hie : i = L.length := by simp at hi; omega
      subst hie
      have e1 : (L ++ [(id, s)])[L.length] = (id, s) := by simp
      have e2 : (qs ++ [w.heap.size])[L.length]'hi2 = w.heap.size := by simp [← hl]
      rw [e1, e2]
      exact hkeep _ _ hs1
theorem Tz.things {B : Nat} {w0 w : World} {L : List (Int × ByteArray)} {qs : List Nat} {p : Option Addr} {n c : Nat} (h : Tz B w0 L qs (.slice p n c) w) (h1 : ∀ x ∈ L, I64 x.1 ∧ x.2.size ≤ 140737488355328) :
    n = L.length ∧ GRow w w.heap.size p (L.map fun t => (t.1, [t.2])) := by
  obtain ⟨hl, hown, hbel, hnm⟩ := h
  rcases hown.2 with ⟨hv, h0⟩ | ⟨g, cap, cur, hv, hBg, hg, _⟩
  · injection hv with _ hn _
    subst hn
    have : L = [] := List.eq_nil_of_length_eq_zero h0
    subst this
    exact ⟨rfl, .inl rfl⟩
  · injection hv with hp hn _
    subst hp hn
    refine ⟨rfl, .inr ⟨g, 0, rfl, heap_lt1' hg, fun i hi => ?_⟩⟩
    have hi' : i < L.length := by simpa using hi
    obtain ⟨c1, c2⟩ := tzCells_at L qs i hi' (by omega)
    have r1 := hown.cells (g := g) rfl _ _ c1
    have r2 := hown.cells (g := g) rfl _ _ c2
    have hadd : ∀ n, Addr.add ⟨g, 0, none⟩ n = ⟨g, 0 + n, none⟩ := by
      intro n; unfold Addr.add; split
      · rename_i h; subst h; rfl
      · rfl
    rw [hadd] at r1 r2
    have hx := h1 _ (List.getElem_mem hi')
    have hn := hnm i hi' (by omega)
    rw [List.getElem_map]
    refine ⟨hx.1, r1, some ⟨qs[i]'(by omega), 0, none⟩, 1, by rw [← Nat.add_assoc] at r2; exact r2, .inr ⟨qs[i]'(by omega), 0, rfl, heap_lt1' hn, fun k hk => ?_⟩, by simp, by simpa using hx.2⟩
    have hk0 : k = 0 := by simpa using hk
    subst hk0
    rw [cell_of_row _ _ _ _ _ _ hn]; rfl
end Go.Proofs.YtcecgfijfnnpeaaDoor.Mt
