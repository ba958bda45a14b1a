/- Copies in new memory: val.Clone, val.cloneAll, val.L. -/
import Derived.Test.YtminmadaeaiihaaDoorSmall
namespace Go.Proofs.YtminmadaeaiihaaDoor
open Go.RowKit

/-- A copy of the tree's list lies in memory that is new since w. -/
def NewList (w : World) (l : List T) (e : Ending) (w' : World) : Prop := ∃ (p : Option Addr) (cap : Nat), e = .returned (.slice p l.length cap) ∧ l.length ≤ cap ∧ l.length * 56 ≤ 140737488355328 ∧ RepAll w' w.heap.size w'.heap.size l p ∧ Below w.heap.size w w'
def NewVal (w : World) (t : T) (e : Ending) (w' : World) : Prop := ∃ v, e = .returned v ∧ Rep w' w.heap.size w'.heap.size t v ∧ Below w.heap.size w w'

/-- No cell of these blocks is frozen. -/
def NoFrz (w : World) (lo hi : Nat) : Prop := ∀ b o, lo ≤ b → b < hi → w.frozen? ⟨b, o, none⟩ = false
theorem NoFrz.keep {w w' : World} {lo hi lo' hi' : Nat} (h : NoFrz w lo hi) (hlo : lo ≤ lo') (hhi : hi' ≤ hi) (hk : ∀ p : Addr, lo' ≤ p.block → p.block < hi' → w'.frozen? p = w.frozen? p) : NoFrz w' lo' hi' :=
  fun b o h1 h2 => (hk ⟨b, o, none⟩ h1 h2).trans (h b o (by omega) (by omega))
theorem NoFrz.below {w w' : World} {lo hi B : Nat} (h : NoFrz w lo hi) (hb : Below B w w') (hB : hi ≤ B) : NoFrz w' lo hi := h.keep (Nat.le_refl _) (Nat.le_refl _) (fun p _ hp => hb.frozen (by omega))
theorem NoFrz.setCell {w : World} {lo hi : Nat} (h : NoFrz w lo hi) (p : Addr) (u : Value) : NoFrz (w.setCell p u) lo hi := fun b o h1 h2 => by
  rw [← h b o h1 h2]
  simp only [World.frozen?, World.setCell, Array.getElem?_modify]
  by_cases e : p.block = b
  · subst e; simp only [if_true]
    cases hh : w.heap[p.block]? with
    | none => rfl
    | some x => cases x <;> rfl
  · simp [e]
theorem NoFrz.nil (w : World) : NoFrz w w.heap.size w.heap.size := fun b o h1 h2 => absurd h1 (by omega)
theorem NoFrz.alloc {w : World} {lo : Nat} (h : NoFrz w lo w.heap.size) (c : Array Value) (t : TypeId) : NoFrz (w.alloc (.cells c t)) lo (w.alloc (.cells c t)).heap.size := fun b o h1 h2 => by
  rw [World.size_alloc] at h2
  by_cases e : b = w.heap.size
  · subst e
    have h := heap_alloc_new w (.cells c t)
    simp only [World.frozen?, h]; simp
  · exact (((Below.refl w.heap.size w).alloc (Nat.le_refl _) _).frozen (p := ⟨b, o, none⟩) (by show b < w.heap.size; omega)).trans (h b o h1 (by omega))
theorem NoFrz.call {w w2 : World} {lo : Nat} (h : NoFrz w lo w.heap.size) (hb : Below w.heap.size w w2) (h2 : NoFrz w2 w.heap.size w2.heap.size) : NoFrz w2 lo w2.heap.size := fun b o h3 h4 => by
  by_cases e : b < w.heap.size
  · exact (hb.frozen (p := ⟨b, o, none⟩) e).trans (h b o h3 e)
  · exact h2 b o (by omega) h4
def NewListF (w : World) (l : List T) (e : Ending) (w' : World) : Prop := NewList w l e w' ∧ NoFrz w' w.heap.size w'.heap.size ∧ ∀ p n c, e = .returned (.slice p n c) → c = n
def NewValF (w : World) (t : T) (e : Ending) (w' : World) : Prop := NewVal w t e w' ∧ NoFrz w' w.heap.size w'.heap.size ∧ ∀ x y z p n c, e = .returned (.agg #[x, y, z, .slice p n c]) → c = n

theorem Tryd.info_V : (Tryd.prog.info? 38).map (fun i => (i.zero, i.size, i.bytes)) = some (some (.agg #[.int .i64 0, .int .i64 0, .string ⟨#[]⟩, .slice none 0 0]), 4, 56) := by kernel_rfl

/-- The first j copies stand in the new block bo. -/
def Part (wr : World) (bo : Nat) (l : List T) (j : Nat) : Prop := ∃ cs : Array Value, wr.heap[bo]? = some (.cells cs 38 (0, 0)) ∧ cs.size = l.length * 4 ∧
  ∀ i (h : i < l.length), i < j → ∃ c0 c1 c2 c3, cs[i * 4]? = some c0 ∧ cs[i * 4 + 1]? = some c1 ∧ cs[i * 4 + 2]? = some c2 ∧ cs[i * 4 + 3]? = some c3 ∧ Rep wr (bo + 1) wr.heap.size l[i] (.agg #[c0, c1, c2, c3])

theorem heap_lt {w : World} {g : Nat} {o : Obj} (h : w.heap[g]? = some o) : g < w.heap.size := by
  rcases Nat.lt_or_ge g w.heap.size with h1 | h1
  · exact h1
  · rw [Array.getElem?_eq_none h1] at h; cases h
theorem Part.lt {wr : World} {bo : Nat} {l : List T} {j : Nat} (h : Part wr bo l j) : bo < wr.heap.size := by
  obtain ⟨cs, h1, _⟩ := h; exact heap_lt h1
theorem Part.start (w : World) (cs : Array Value) (l : List T) (h : cs.size = l.length * 4) : Part (w.alloc (.cells cs 38)) w.heap.size l 0 :=
  ⟨cs, heap_alloc_new w _, h, fun i _ hi => absurd hi (by omega)⟩
theorem Part.below {wr w2 : World} {bo : Nat} {l : List T} {j : Nat} (h : Part wr bo l j) (hb : Below wr.heap.size wr w2) : Part w2 bo l j := by
  have hlt := h.lt
  obtain ⟨cs, h1, h2, h3⟩ := h
  refine ⟨cs, (hb.block _ hlt).trans h1, h2, fun i hi hj => ?_⟩
  obtain ⟨c0, c1, c2, c3, e0, e1, e2, e3, hr⟩ := h3 i hi hj
  exact ⟨c0, c1, c2, c3, e0, e1, e2, e3, hr.keep (Nat.le_refl _) hb.size (fun p _ hp => hb.cell hp)⟩
theorem Part.room {wr : World} {bo : Nat} {l : List T} {j : Nat} (h : Part wr bo l j) (i : Nat) (hi : i < l.length) :
    (∃ u, wr.cell? ⟨bo, i * 4, none⟩ = some u) ∧ (∃ u, wr.cell? ⟨bo, i * 4 + 1, none⟩ = some u) ∧ (∃ u, wr.cell? ⟨bo, i * 4 + 2, none⟩ = some u) ∧ (∃ u, wr.cell? ⟨bo, i * 4 + 3, none⟩ = some u) ∧ ∀ o, wr.frozen? ⟨bo, o, none⟩ = false := by
  obtain ⟨cs, h1, h2, _⟩ := h
  have hc : ∀ o, wr.cell? ⟨bo, o, none⟩ = cs[o]? := fun o => cell_of_row _ _ o _ _ _ h1
  have hsm : ∀ o, o < l.length * 4 → ∃ u, wr.cell? ⟨bo, o, none⟩ = some u := fun o ho => ⟨cs[o]'(by omega), by rw [hc]; exact Array.getElem?_eq_getElem (by omega)⟩
  exact ⟨hsm _ (by omega), hsm _ (by omega), hsm _ (by omega), hsm _ (by omega), fun o => by simp [World.frozen?, h1]⟩
theorem Part.step {wr : World} {bo : Nat} {l : List T} {j : Nat} (h : Part wr bo l j) (hj : j < l.length) (c0 c1 c2 c3 : Value) (hr : Rep wr (bo + 1) wr.heap.size l[j] (.agg #[c0, c1, c2, c3])) :
    Part ((((wr.setCell ⟨bo, j * 4, none⟩ c0).setCell ⟨bo, j * 4 + 1, none⟩ c1).setCell ⟨bo, j * 4 + 2, none⟩ c2).setCell ⟨bo, j * 4 + 3, none⟩ c3) bo l (j + 1) := by
  obtain ⟨cs, h1, h2, h3⟩ := h
  have hset : ∀ (w : World) (c : Array Value) (o : Nat) (u : Value), w.heap[bo]? = some (.cells c 38 (0, 0)) → (w.setCell ⟨bo, o, none⟩ u).heap[bo]? = some (.cells (c.setIfInBounds o u) 38 (0, 0)) := by
    intro w c o u hw
    simp [World.setCell, Array.getElem?_modify, hw]
  have k0 := hset _ _ (j * 4) c0 h1
  have k1 := hset _ _ (j * 4 + 1) c1 k0
  have k2 := hset _ _ (j * 4 + 2) c2 k1
  have k3 := hset _ _ (j * 4 + 3) c3 k2
  have hkeep : ∀ (t : T) (v : Value), Rep wr (bo + 1) wr.heap.size t v → Rep ((((wr.setCell ⟨bo, j * 4, none⟩ c0).setCell ⟨bo, j * 4 + 1, none⟩ c1).setCell ⟨bo, j * 4 + 2, none⟩ c2).setCell ⟨bo, j * 4 + 3, none⟩ c3) (bo + 1) wr.heap.size t v := by
    intro t v h
    refine Rep.setCell (Rep.setCell (Rep.setCell (Rep.setCell h ?_ _) ?_ _) ?_ _) ?_ _ <;> (left; show bo < bo + 1; omega)
  refine ⟨_, k3, by simpa using h2, fun i hi hij => ?_⟩
  have hsz : ((((wr.setCell ⟨bo, j * 4, none⟩ c0).setCell ⟨bo, j * 4 + 1, none⟩ c1).setCell ⟨bo, j * 4 + 2, none⟩ c2).setCell ⟨bo, j * 4 + 3, none⟩ c3).heap.size = wr.heap.size := by simp
  rw [hsz]
  by_cases hij' : i = j
  · subst hij'
    refine ⟨c0, c1, c2, c3, ?_, ?_, ?_, ?_, hkeep _ _ hr⟩ <;> simp [Array.getElem?_setIfInBounds] <;> omega
  · obtain ⟨d0, d1, d2, d3, e0, e1, e2, e3, hr'⟩ := h3 i hi (by omega)
    refine ⟨d0, d1, d2, d3, ?_, ?_, ?_, ?_, hkeep _ _ hr'⟩
    · rw [Array.getElem?_setIfInBounds_ne (by omega), Array.getElem?_setIfInBounds_ne (by omega), Array.getElem?_setIfInBounds_ne (by omega), Array.getElem?_setIfInBounds_ne (by omega)]; exact e0
    · rw [Array.getElem?_setIfInBounds_ne (by omega), Array.getElem?_setIfInBounds_ne (by omega), Array.getElem?_setIfInBounds_ne (by omega), Array.getElem?_setIfInBounds_ne (by omega)]; exact e1
    · rw [Array.getElem?_setIfInBounds_ne (by omega), Array.getElem?_setIfInBounds_ne (by omega), Array.getElem?_setIfInBounds_ne (by omega), Array.getElem?_setIfInBounds_ne (by omega)]; exact e2
    · rw [Array.getElem?_setIfInBounds_ne (by omega), Array.getElem?_setIfInBounds_ne (by omega), Array.getElem?_setIfInBounds_ne (by omega), Array.getElem?_setIfInBounds_ne (by omega)]; exact e3
/-- A list in memory, out of its items. -/
theorem RepAll.of {w : World} {lo hi b : Nat} (hlo : lo ≤ b) (hhi : b < hi) : ∀ (l : List T) (off : Nat), (∀ i (h : i < l.length), ∃ c0 c1 c2 c3, w.cell? ⟨b, off + i * 4, none⟩ = some c0 ∧ w.cell? ⟨b, off + i * 4 + 1, none⟩ = some c1 ∧ w.cell? ⟨b, off + i * 4 + 2, none⟩ = some c2 ∧ w.cell? ⟨b, off + i * 4 + 3, none⟩ = some c3 ∧ Rep w lo hi l[i] (.agg #[c0, c1, c2, c3])) →
    RepAll w lo hi l (some ⟨b, off, none⟩)
  | [], _, _ => by unfold RepAll; trivial
  | t :: r, off, h => by
    unfold RepAll
    obtain ⟨c0, c1, c2, c3, e0, e1, e2, e3, hr⟩ := h 0 (by simp)
    have hadd : ∀ n, Addr.add ⟨b, off, none⟩ n = ⟨b, off + n, none⟩ := by
      intro n; unfold Addr.add; split
      · rename_i h; subst h; rfl
      · rfl
    refine ⟨⟨b, off, none⟩, c0, c1, c2, c3, rfl, hlo, hhi, by simpa using e0, by rw [hadd]; simpa using e1, by rw [hadd]; simpa using e2, by rw [hadd]; simpa using e3, hr, ?_⟩
    rw [hadd]
    refine RepAll.of hlo hhi r (off + 4) (fun i hi => ?_)
    obtain ⟨d0, d1, d2, d3, f0, f1, f2, f3, hr'⟩ := h (i + 1) (by simpa using hi)
    refine ⟨d0, d1, d2, d3, ?_, ?_, ?_, ?_, by simpa using hr'⟩
    · rw [← f0]; congr 2; omega
    · rw [← f1]; congr 2; omega
    · rw [← f2]; congr 2; omega
    · rw [← f3]; congr 2; omega
theorem Part.done {wr : World} {bo : Nat} {l : List T} (h : Part wr bo l l.length) : RepAll wr bo wr.heap.size l (some ⟨bo, 0, none⟩) := by
  have hlt := h.lt
  obtain ⟨cs, h1, h2, h3⟩ := h
  refine RepAll.of (Nat.le_refl _) hlt l 0 (fun i hi => ?_)
  obtain ⟨c0, c1, c2, c3, e0, e1, e2, e3, hr⟩ := h3 i hi hi
  have hc : ∀ o, wr.cell? ⟨bo, o, none⟩ = cs[o]? := fun o => cell_of_row _ _ o _ _ _ h1
  refine ⟨c0, c1, c2, c3, ?_, ?_, ?_, ?_, hr.keep (by omega) (Nat.le_refl _) (fun _ _ _ => rfl)⟩ <;> (rw [hc, Nat.zero_add]; assumption)

set_option maxHeartbeats 1000000 in
theorem cloneAll_any (l : List T) (ih : ∀ t ∈ l, ∀ (w : World) (lo hi : Nat) (v : Value), Rep w lo hi t v → hi ≤ w.heap.size → Calls Tryd.prog 60 #[v] w (NewValF w t))
    (w : World) (lo hi : Nat) (p : Option Addr) (cap : Nat) (hall : RepAll w lo hi l p) (_hlc : l.length ≤ cap) (hcap : l.length * 56 ≤ 140737488355328) (hhi : hi ≤ w.heap.size) :
    Calls Tryd.prog 96 #[.slice p l.length cap] w (NewListF w l) := by
  cases hl : l with
  | nil =>
    simp only [List.length_nil]
    go_enter Tryd.func96, Tryd.ntmps96
    go_wp2
    go_ret
    exact ⟨⟨none, 0, rfl, Nat.le_refl _, by simp, by unfold RepAll; trivial, Below.refl _ _⟩, NoFrz.nil _, fun _ _ _ h => by cases h; rfl⟩
  | cons x xs =>
    have hpos : 0 < l.length := by rw [hl]; simp
    rw [← hl]
    clear hl
    have H := Lib.hid ih; clear ih
    obtain ⟨i0, hi0, hz0, hz1, hz2⟩ := info_parts Tryd.info_V
    have hmk : ∀ W : World, (Instr.makeSlice 36 (.int .i64 (l.length : Int)) (.int .i64 (l.length : Int))).run Tryd.prog W = .ok (.slice (some ⟨W.heap.size, 0, none⟩) l.length l.length) (W.alloc (.cells (madeCells #[.int .i64 0, .int .i64 0, .string ⟨#[]⟩, .slice none 0 0] (l.length * 4)) 38)) := by
      intro W
      have h := run_make (P := Tryd.prog) W 36 38 i0 _ Tryd.underlying36 hi0 hz0 .i64 .i64 l.length l.length (by omega) (by omega) (by rw [hz2]; omega) (by omega)
      rw [hz1] at h
      simpa [Value.cells] using h
    have hl0 : ((l.length : Int) == 0) = false := beq_eq_false_iff_ne.2 (by omega)
    go_enter Tryd.func96, Tryd.ntmps96
    go_wp2
    have hP := Lib.hid (Part.start w (madeCells #[.int .i64 0, .int .i64 0, .string ⟨#[]⟩, .slice none 0 0] (l.length * 4)) l (size_madeCells _ _))
    have hNF := Lib.hid ((NoFrz.nil w).alloc (madeCells #[.int .i64 0, .int .i64 0, .string ⟨#[]⟩, .slice none 0 0] (l.length * 4)) 38)
    have hW : Below w.heap.size w (w.alloc (.cells (madeCells #[.int .i64 0, .int .i64 0, .string ⟨#[]⟩, .slice none 0 0] (l.length * 4)) 38)) := (Below.refl _ _).alloc (Nat.le_refl _) _
    go_loopw [14] (fun i wr => ∃ j : Nat, j ≤ l.length ∧ i = .int .i64 j ∧ Hid (Part wr w.heap.size l j) ∧ Hid (NoFrz wr w.heap.size wr.heap.size) ∧ Below w.heap.size w wr) (fun i _ => l.length - (intOf i).toNat)
    case atStart => exact ⟨0, Nat.zero_le _, rfl, hP, hNF, hW⟩
    case round =>
      obtain ⟨j, hj, rfl, HP, HNF, hbr⟩ := hrel
      have hz := hbr.size
      have hzl := HP.out.lt
      by_cases hlt : j < l.length
      · obtain ⟨b, off, k1, n1, s1, l1, q1, cc1, rfl, _, hbhi, hli, h0, h1, h2, h3, hrep⟩ := (hall.below hbr hhi).item j hlt
        have hlj : l[j] ∈ l := List.getElem_mem hlt
        rw [hli] at hrep hlj
        have HLI := Lib.hid hli; clear hli
        go_wp2_with (go_at_call 60; refine (H.out _ hlj _ lo hi _ (hrep.alloc (by omega) _) (by simp; omega)).mono ?_; rintro e w2 ⟨⟨v, rfl, hv, hb2⟩, hnf2, _⟩; have HNF2 := Lib.hid ((HNF.out.alloc _ _).call hb2 hnf2); clear hnf2; obtain ⟨k2, n2, s2, q2, len2, cap2, rfl⟩ := rep_form hv; have HV := Lib.hid hv; clear hv; have hbz := hb2.size; rw [World.size_alloc] at hbz; have hb3 := ((Below.refl _ _).alloc (Nat.le_refl _) _).trans (hb2.mono (by simp)); have HP2 := Lib.hid (HP.out.below hb3); obtain ⟨⟨u0, hu0⟩, ⟨u1, hu1⟩, ⟨u2, hu2⟩, ⟨u3, hu3⟩, hfz⟩ := HP2.out.room j hlt; have hf0 := hfz (j * 4); have hf1 := hfz (j * 4 + 1); have hf2 := hfz (j * 4 + 2); have hf3 := hfz (j * 4 + 3); clear hfz)
        go_roundw
        case rel =>
          have hv := HV.out
          have hli := HLI.out
          refine ⟨j + 1, by omega, by go_num, HP2.out.step hlt _ _ _ _ (by rw [hli]; exact hv.keep (by simp; omega) (Nat.le_refl _) (fun _ _ _ => rfl)), ?_, ?_⟩
          · show NoFrz _ _ _
            rw [World.size_setCell, World.size_setCell, World.size_setCell, World.size_setCell]
            exact (((HNF2.out.setCell _ _).setCell _ _).setCell _ _).setCell _ _
          exact ((((hbr.trans (hb3.mono hz)).setCell (Nat.le_refl _) _).setCell (Nat.le_refl _) _).setCell (Nat.le_refl _) _).setCell (Nat.le_refl _) _
        case measure => simp [intOf]; omega
      · have hjl : j = l.length := by omega
        subst hjl
        go_wp2
        go_ret
        exact ⟨⟨_, _, rfl, Nat.le_refl _, by omega, HP.out.done.keep (by omega) (Nat.le_refl _) (fun _ _ _ => rfl), hbr⟩, HNF.out, fun _ _ _ h => by cases h; rfl⟩

/-- The result's header is the old one, its list a copy. -/
theorem Rep.mk_ {w : World} {lo hi : Nat} {k n : Int} {s : ByteArray} {l : List T} {p : Option Addr} {cap : Nat} (hk : I64 k) (hn : I64 n) (hs : s.size ≤ 140737488355328) (h1 : l.length ≤ cap) (h2 : l.length * 56 ≤ 140737488355328) (h3 : RepAll w lo hi l p) :
    Rep w lo hi (.mk k n s l) (.agg #[.int .i64 k, .int .i64 n, .string s, .slice p l.length cap]) := by
  unfold Rep; exact ⟨p, cap, rfl, hk, hn, hs, h1, h2, h3⟩

set_option maxHeartbeats 1000000 in
theorem clone_any : ∀ (t : T) (w : World) (lo hi : Nat) (v : Value), Rep w lo hi t v → hi ≤ w.heap.size → Calls Tryd.prog 60 #[v] w (NewValF w t) := by
  refine T.ind_ (fun k n s l ih w lo hi v hr hhi => ?_)
  unfold Rep at hr
  obtain ⟨p, cap, rfl, hk, hn, hs, hlc, hcap, hall⟩ := hr
  have H := Lib.hid ih; clear ih
  go_enter Tryd.func60, Tryd.ntmps60
  go_wp2_with (go_at_call 96; refine (cloneAll_any l H.out _ lo hi p cap ((hall.alloc hhi _).alloc (by simp; omega) _) hlc hcap (by simp; omega)).mono ?_; rintro e w2 ⟨⟨p2, cap2, rfl, hlc2, hcap2, hall2, hb2⟩, hnf2, hce2⟩; have HCE := Lib.hid (hce2 _ _ _ rfl); clear hce2; have HNF2 := Lib.hid hnf2; clear hnf2; have HA2 := Lib.hid hall2; clear hall2; obtain ⟨hx0, hx1, hx2, hx3, hxf⟩ := box4_in w2 w.heap.size _ _ _ _ _ (heap_old (heap_alloc_ _ _ _ _ (heap_alloc_new w _)) hb2); have hxf3 := hxf 3; clear hxf; obtain ⟨hy0, hy1, hy2, hy3, hyf⟩ := box4_in w2 (w.heap.size + 1) _ _ _ _ _ (heap_old (by have h := heap_alloc_new (w.alloc (.cells #[.int .i64 k, .int .i64 n, .string s, .slice p l.length cap] 38)) (.cells #[.int .i64 0, .int .i64 0, .string ⟨#[]⟩, .slice none 0 0] 38); rw [World.size_alloc] at h; exact h) hb2); have hyf0 := hyf 0; have hyf1 := hyf 1; have hyf2 := hyf 2; have hyf3 := hyf 3; clear hyf)
  refine bodyPost_ret (v := .agg #[.int .i64 k, .int .i64 n, .string s, .slice p2 l.length cap2]) (by simp [results, Tryd.results60, go_sem, hy0, hy1, hy2, hy3]) rfl ?_
  have hbw : Below w.heap.size w w2 := (((Below.refl _ _).alloc (Nat.le_refl _) _).alloc (by simp) _).trans (hb2.mono (by simp; omega))
  refine ⟨?_, by simp only [World.size_setCell]; (repeat (refine NoFrz.setCell ?_ _ _)); exact (((NoFrz.nil w).alloc _ _).alloc _ _).call hb2 HNF2.out, fun _ _ _ _ _ _ h => by cases h; exact HCE.out⟩
  refine ⟨_, rfl, Rep.mk_ hk hn hs hlc2 hcap2 ((((((HA2.out.setCell (Or.inl (by simp; omega)) _).setCell (Or.inl (by simp)) _).setCell (Or.inl (by simp)) _).setCell (Or.inl (by simp)) _).setCell (Or.inl (by simp)) _).keep (by simp; omega) (by simp) (fun _ _ _ => rfl)), ?_⟩
  exact ((((hbw.setCell (Nat.le_refl _) _).setCell (by simp) _).setCell (by simp) _).setCell (by simp) _).setCell (by simp) _

/-- A List of copies. -/
def mkList (l : List T) : T := .mk 4 0 ByteArray.empty l
end Go.Proofs.YtminmadaeaiihaaDoor
