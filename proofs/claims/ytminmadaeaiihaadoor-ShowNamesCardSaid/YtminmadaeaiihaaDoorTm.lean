/- Nodes that are made: rows of nodes in the making; the statements' first. -/
import Derived.Test.YtminmadaeaiihaaDoorTv
namespace Go.Proofs.YtminmadaeaiihaaDoor
open Go.RowKit
set_option maxRecDepth 100000

theorem NAll.of {w : World} {lo hi b : Nat} (hlo : lo ≤ b) (hhi : b < hi) : ∀ (l : List Nd) (off : Nat), (∀ i (h : i < l.length), ∃ c0 c1 c2 c3 c4 c5 c6 c7, w.cell? ⟨b, off + i * 8, none⟩ = some c0 ∧ w.cell? ⟨b, off + i * 8 + 1, none⟩ = some c1 ∧ w.cell? ⟨b, off + i * 8 + 2, none⟩ = some c2 ∧ w.cell? ⟨b, off + i * 8 + 3, none⟩ = some c3 ∧
      w.cell? ⟨b, off + i * 8 + 4, none⟩ = some c4 ∧ w.cell? ⟨b, off + i * 8 + 5, none⟩ = some c5 ∧ w.cell? ⟨b, off + i * 8 + 6, none⟩ = some c6 ∧ w.cell? ⟨b, off + i * 8 + 7, none⟩ = some c7 ∧ NRep w lo hi l[i] (.agg #[c0, c1, c2, c3, c4, c5, c6, c7])) →
    NAll w lo hi l (some ⟨b, off, none⟩)
  | [], _, _ => NAll.nil _ _ _ _
  | t :: r, off, h => by
    unfold NAll
    obtain ⟨c0, c1, c2, c3, c4, c5, c6, c7, e0, e1, e2, e3, e4, e5, e6, e7, hr⟩ := h 0 (by simp)
    have hadd : ∀ n, Addr.add ⟨b, off, none⟩ n = ⟨b, off + n, none⟩ := by
      intro n; unfold Addr.add; split
      · rename_i h; subst h; rfl
      · rfl
    refine ⟨⟨b, off, none⟩, c0, c1, c2, c3, c4, c5, c6, c7, rfl, hlo, hhi, by simpa using e0, by rw [hadd]; simpa using e1, by rw [hadd]; simpa using e2, by rw [hadd]; simpa using e3, by rw [hadd]; simpa using e4, by rw [hadd]; simpa using e5, by rw [hadd]; simpa using e6, by rw [hadd]; simpa using e7, hr, ?_⟩
    rw [hadd]
    refine NAll.of hlo hhi r (off + 8) (fun i hi => ?_)
    obtain ⟨d0, d1, d2, d3, d4, d5, d6, d7, f0, f1, f2, f3, f4, f5, f6, f7, hr'⟩ := h (i + 1) (by simpa using hi)
    refine ⟨d0, d1, d2, d3, d4, d5, d6, d7, ?_, ?_, ?_, ?_, ?_, ?_, ?_, ?_, by simpa using hr'⟩
    · rw [← f0]; congr 2; omega
    · rw [← f1]; congr 2; omega
    · rw [← f2]; congr 2; omega
    · rw [← f3]; congr 2; omega
    · rw [← f4]; congr 2; omega
    · rw [← f5]; congr 2; omega
    · rw [← f6]; congr 2; omega
    · rw [← f7]; congr 2; omega

/-- Eight cells stored in a row. -/
abbrev set8 (W : World) (g o : Nat) (c0 c1 c2 c3 c4 c5 c6 c7 : Value) : World :=
  (((((((W.setCell ⟨g, o, none⟩ c0).setCell ⟨g, o + 1, none⟩ c1).setCell ⟨g, o + 2, none⟩ c2).setCell ⟨g, o + 3, none⟩ c3).setCell ⟨g, o + 4, none⟩ c4).setCell ⟨g, o + 5, none⟩ c5).setCell ⟨g, o + 6, none⟩ c6).setCell ⟨g, o + 7, none⟩ c7
theorem below_set8 {B g o : Nat} {a w : World} (h : Below B a w) (hg : B ≤ g) (c0 c1 c2 c3 c4 c5 c6 c7 : Value) : Below B a (set8 w g o c0 c1 c2 c3 c4 c5 c6 c7) :=
  (((((((h.setCell hg c0).setCell hg c1).setCell hg c2).setCell hg c3).setCell hg c4).setCell hg c5).setCell hg c6).setCell hg c7
theorem heap_set8 {W : World} {g b : Nat} (h : b ≠ g) (o : Nat) (c0 c1 c2 c3 c4 c5 c6 c7 : Value) : (set8 W g o c0 c1 c2 c3 c4 c5 c6 c7).heap[b]? = W.heap[b]? := by
  unfold set8
  rw [Below.heap_setCell _ _ _ _ h, Below.heap_setCell _ _ _ _ h, Below.heap_setCell _ _ _ _ h, Below.heap_setCell _ _ _ _ h, Below.heap_setCell _ _ _ _ h, Below.heap_setCell _ _ _ _ h, Below.heap_setCell _ _ _ _ h, Below.heap_setCell _ _ _ _ h]
theorem size_set8 (W : World) (g o : Nat) (c0 c1 c2 c3 c4 c5 c6 c7 : Value) : (set8 W g o c0 c1 c2 c3 c4 c5 c6 c7).heap.size = W.heap.size := by unfold set8; simp
/-- A box of eight cells, stored anew. -/
theorem heap_set8_box {W : World} {g : Nat} {d0 d1 d2 d3 d4 d5 d6 d7 : Value} {t : TypeId} (h : W.heap[g]? = some (.cells #[d0, d1, d2, d3, d4, d5, d6, d7] t (0, 0))) (c0 c1 c2 c3 c4 c5 c6 c7 : Value) :
    (set8 W g 0 c0 c1 c2 c3 c4 c5 c6 c7).heap[g]? = some (.cells #[c0, c1, c2, c3, c4, c5, c6, c7] t (0, 0)) := by
  have hset : ∀ (w : World) (c : Array Value) (o : Nat) (u : Value), w.heap[g]? = some (.cells c t (0, 0)) → (w.setCell ⟨g, o, none⟩ u).heap[g]? = some (.cells (c.setIfInBounds o u) t (0, 0)) := by
    intro w c o u hw
    simp [World.setCell, Array.getElem?_modify, hw]
  have k := hset _ _ 7 c7 (hset _ _ 6 c6 (hset _ _ 5 c5 (hset _ _ 4 c4 (hset _ _ 3 c3 (hset _ _ 2 c2 (hset _ _ 1 c1 (hset _ _ 0 c0 h)))))))
  simpa using k
theorem NRep.keep8 {W : World} {lo hi g o : Nat} {t : Nd} {v : Value} (h : NRep W lo hi t v) (hg : g < lo ∨ hi ≤ g) (c0 c1 c2 c3 c4 c5 c6 c7 : Value) : NRep (set8 W g o c0 c1 c2 c3 c4 c5 c6 c7) lo hi t v :=
  (((((((h.setCell hg c0).setCell hg c1).setCell hg c2).setCell hg c3).setCell hg c4).setCell hg c5).setCell hg c6).setCell hg c7

/-- A row of nodes in the making: the first j of them stand. -/
def NPart (wr : World) (bo : Nat) (l : List Nd) (j : Nat) : Prop := ∃ cs : Array Value, wr.heap[bo]? = some (.cells cs 40 (0, 0)) ∧ cs.size = l.length * 8 ∧
  ∀ i (h : i < l.length), i < j → ∃ c0 c1 c2 c3 c4 c5 c6 c7, cs[i * 8]? = some c0 ∧ cs[i * 8 + 1]? = some c1 ∧ cs[i * 8 + 2]? = some c2 ∧ cs[i * 8 + 3]? = some c3 ∧ cs[i * 8 + 4]? = some c4 ∧ cs[i * 8 + 5]? = some c5 ∧ cs[i * 8 + 6]? = some c6 ∧ cs[i * 8 + 7]? = some c7 ∧ NRep wr (bo + 1) wr.heap.size l[i] (.agg #[c0, c1, c2, c3, c4, c5, c6, c7])
theorem NPart.lt {wr : World} {bo : Nat} {l : List Nd} {j : Nat} (h : NPart wr bo l j) : bo < wr.heap.size := by
  obtain ⟨cs, h1, _⟩ := h; exact heap_lt h1
theorem NPart.start (w : World) (cs : Array Value) (l : List Nd) (h : cs.size = l.length * 8) : NPart (w.alloc (.cells cs 40)) w.heap.size l 0 :=
  ⟨cs, heap_alloc_new w _, h, fun i _ hi => absurd hi (by omega)⟩
theorem NPart.below {wr w' : World} {bo : Nat} {l : List Nd} {j : Nat} (h : NPart wr bo l j) (hb : Below wr.heap.size wr w') : NPart w' bo l j := by
  have hlt := h.lt
  obtain ⟨cs, h1, h2, h3⟩ := h
  refine ⟨cs, (hb.block _ hlt).trans h1, h2, fun i hi hj => ?_⟩
  obtain ⟨c0, c1, c2, c3, c4, c5, c6, c7, e0, e1, e2, e3, e4, e5, e6, e7, hr⟩ := h3 i hi hj
  exact ⟨c0, c1, c2, c3, c4, c5, c6, c7, e0, e1, e2, e3, e4, e5, e6, e7, hr.keep (Nat.le_refl _) hb.size (fun p _ hp => hb.cell hp)⟩
theorem NPart.room {wr : World} {bo : Nat} {l : List Nd} {j : Nat} (h : NPart wr bo l j) (i : Nat) (hi : i < l.length) :
    (∃ u, wr.cell? ⟨bo, i * 8, none⟩ = some u) ∧ (∃ u, wr.cell? ⟨bo, i * 8 + 1, none⟩ = some u) ∧ (∃ u, wr.cell? ⟨bo, i * 8 + 2, none⟩ = some u) ∧ (∃ u, wr.cell? ⟨bo, i * 8 + 3, none⟩ = some u) ∧ (∃ u, wr.cell? ⟨bo, i * 8 + 4, none⟩ = some u) ∧ (∃ u, wr.cell? ⟨bo, i * 8 + 5, none⟩ = some u) ∧ (∃ u, wr.cell? ⟨bo, i * 8 + 6, none⟩ = some u) ∧ (∃ u, wr.cell? ⟨bo, i * 8 + 7, none⟩ = some u) ∧ ∀ o, wr.frozen? ⟨bo, o, none⟩ = false := by
  obtain ⟨cs, h1, h2, _⟩ := h
  have hc : ∀ o, wr.cell? ⟨bo, o, none⟩ = cs[o]? := fun o => cell_of_row _ _ o _ _ _ h1
  have hsm : ∀ o, o < l.length * 8 → ∃ u, wr.cell? ⟨bo, o, none⟩ = some u := fun o ho => ⟨cs[o]'(by omega), by rw [hc]; exact Array.getElem?_eq_getElem (by omega)⟩
  exact ⟨hsm _ (by omega), hsm _ (by omega), hsm _ (by omega), hsm _ (by omega), hsm _ (by omega), hsm _ (by omega), hsm _ (by omega), hsm _ (by omega), fun o => by simp [World.frozen?, h1]⟩
theorem NPart.step {wr : World} {bo : Nat} {l : List Nd} {j : Nat} (h : NPart wr bo l j) (hj : j < l.length) (c0 c1 c2 c3 c4 c5 c6 c7 : Value) (hr : NRep wr (bo + 1) wr.heap.size l[j] (.agg #[c0, c1, c2, c3, c4, c5, c6, c7])) :
    NPart (set8 wr bo (j * 8) c0 c1 c2 c3 c4 c5 c6 c7) bo l (j + 1) := by
  obtain ⟨cs, h1, h2, h3⟩ := h
  have hset : ∀ (w : World) (c : Array Value) (o : Nat) (u : Value), w.heap[bo]? = some (.cells c 40 (0, 0)) → (w.setCell ⟨bo, o, none⟩ u).heap[bo]? = some (.cells (c.setIfInBounds o u) 40 (0, 0)) := by
    intro w c o u hw
    simp [World.setCell, Array.getElem?_modify, hw]
  have k7 := hset _ _ (j * 8 + 7) c7 (hset _ _ (j * 8 + 6) c6 (hset _ _ (j * 8 + 5) c5 (hset _ _ (j * 8 + 4) c4 (hset _ _ (j * 8 + 3) c3 (hset _ _ (j * 8 + 2) c2 (hset _ _ (j * 8 + 1) c1 (hset _ _ (j * 8) c0 h1)))))))
  have hsz : (set8 wr bo (j * 8) c0 c1 c2 c3 c4 c5 c6 c7).heap.size = wr.heap.size := size_set8 _ _ _ _ _ _ _ _ _ _ _
  refine ⟨_, k7, by simpa using h2, fun i hi hij => ?_⟩
  rw [hsz]
  by_cases hij' : i = j
  · subst hij'
    refine ⟨c0, c1, c2, c3, c4, c5, c6, c7, ?_, ?_, ?_, ?_, ?_, ?_, ?_, ?_, hr.keep8 (Or.inl (by omega)) _ _ _ _ _ _ _ _⟩ <;> simp [Array.getElem?_setIfInBounds] <;> omega
  · obtain ⟨d0, d1, d2, d3, d4, d5, d6, d7, e0, e1, e2, e3, e4, e5, e6, e7, hr'⟩ := h3 i hi (by omega)
    have hne : ∀ (c : Array Value) (m : Nat) (u d : Value), m / 8 ≠ j → c[m]? = some d → ∀ r, r < 8 → (c.setIfInBounds (j * 8 + r) u)[m]? = some d := fun c m u d hm hd r hr => by
      rw [Array.getElem?_setIfInBounds_ne (by omega)]; exact hd
    have hall : ∀ (m : Nat) (d : Value), m / 8 ≠ j → cs[m]? = some d → ((((((((cs.setIfInBounds (j * 8) c0).setIfInBounds (j * 8 + 1) c1).setIfInBounds (j * 8 + 2) c2).setIfInBounds (j * 8 + 3) c3).setIfInBounds (j * 8 + 4) c4).setIfInBounds (j * 8 + 5) c5).setIfInBounds (j * 8 + 6) c6).setIfInBounds (j * 8 + 7) c7)[m]? = some d := fun m d hm hd =>
      hne _ m _ d hm (hne _ m _ d hm (hne _ m _ d hm (hne _ m _ d hm (hne _ m _ d hm (hne _ m _ d hm (hne _ m _ d hm (hne _ m _ d hm hd 0 (by omega)) 1 (by omega)) 2 (by omega)) 3 (by omega)) 4 (by omega)) 5 (by omega)) 6 (by omega)) 7 (by omega)
    exact ⟨d0, d1, d2, d3, d4, d5, d6, d7, hall _ _ (by omega) e0, hall _ _ (by omega) e1, hall _ _ (by omega) e2, hall _ _ (by omega) e3, hall _ _ (by omega) e4, hall _ _ (by omega) e5, hall _ _ (by omega) e6, hall _ _ (by omega) e7, hr'.keep8 (Or.inl (by omega)) _ _ _ _ _ _ _ _⟩
theorem NPart.done {wr : World} {bo : Nat} {l : List Nd} (h : NPart wr bo l l.length) : NAll wr bo wr.heap.size l (some ⟨bo, 0, none⟩) := by
  have hlt := h.lt
  obtain ⟨cs, h1, h2, h3⟩ := h
  refine NAll.of (Nat.le_refl _) hlt l 0 (fun i hi => ?_)
  obtain ⟨c0, c1, c2, c3, c4, c5, c6, c7, e0, e1, e2, e3, e4, e5, e6, e7, hr⟩ := h3 i hi hi
  have hc : ∀ o, wr.cell? ⟨bo, o, none⟩ = cs[o]? := fun o => cell_of_row _ _ o _ _ _ h1
  refine ⟨c0, c1, c2, c3, c4, c5, c6, c7, ?_, ?_, ?_, ?_, ?_, ?_, ?_, ?_, hr.wide (by omega) (Nat.le_refl _)⟩ <;> (rw [hc, Nat.zero_add]; assumption)

/-- Nothing. -/
abbrev zV : T := .mk 0 0 ⟨#[]⟩ []
theorem zV_rep (w : World) (lo hi : Nat) : Rep w lo hi zV (.agg #[.int .i64 0, .int .i64 0, .string ⟨#[]⟩, .slice none 0 0]) := by
  unfold Rep
  exact ⟨none, 0, rfl, by unfold I64; omega, by unfold I64; omega, by show (0 : Nat) ≤ _; omega, Nat.le_refl _, by simp, by unfold RepAll; trivial⟩
/-- A node with no name, of no value. -/
theorem NRep.mk_ {w : World} {lo hi : Nat} {o n : Int} {l : List Nd} {p : Option Addr} {cap : Nat} (ho : I64 o) (hn : I64 n) (h1 : l.length ≤ cap) (h2 : l.length * 112 ≤ 140737488355328) (h3 : NAll w lo hi l p) :
    NRep w lo hi (.mk o n ⟨#[]⟩ zV l) (.agg #[.int .i64 o, .int .i64 n, .string ⟨#[]⟩, .int .i64 0, .int .i64 0, .string ⟨#[]⟩, .slice none 0 0, .slice p l.length cap]) := by
  unfold NRep
  exact ⟨0, 0, ⟨#[]⟩, none, 0, 0, p, cap, rfl, ho, hn, by show (0 : Nat) ≤ _; omega, zV_rep _ _ _, h1, h2, h3⟩

set_option maxHeartbeats 1000000 in
/-- The statements' first. -/
theorem first7_any (ad : Nat → Addr) (w : World) (hS : Sn w ad) : Calls Tryd.prog 6 #[] w fun e w' => e = .returned (.bool true) ∧ Below w.heap.size w w' := by
  have HB := Lib.hid ((Below.refl w.heap.size w).alloc (Nat.le_refl _) (.cells #[.int .i64 45, .int .i64 0, .string ⟨#[]⟩, .int .i64 0, .int .i64 0, .string ⟨#[]⟩, .slice none 0 0, .slice none 0 0] 40))
  have hx := heap_alloc_new w (.cells #[.int .i64 45, .int .i64 0, .string ⟨#[]⟩, .int .i64 0, .int .i64 0, .string ⟨#[]⟩, .slice none 0 0, .slice none 0 0] 40)
  have hr : ∀ W : World, NRep W 0 w.heap.size (.mk 45 0 ⟨#[]⟩ zV []) (.agg #[.int .i64 45, .int .i64 0, .string ⟨#[]⟩, .int .i64 0, .int .i64 0, .string ⟨#[]⟩, .slice none 0 0, .slice none 0 0]) := fun W =>
    NRep.mk_ (l := []) (by unfold I64; omega) (by unfold I64; omega) (Nat.le_refl _) (by simp) (NAll.nil _ _ _ _)
  have HC := Lib.hid (tvalid_any ad [.mk 45 0 ⟨#[]⟩ zV []] _ 0 (w.heap.size + 1) (some ⟨w.heap.size, 0, none⟩) 1 (one_row (hr _) w.heap.size _ (Nat.le_refl _) (Nat.zero_le _) hx) (by simp) (by simp) (by simp) (hS.below HB.out))
  have hv : vldF [.mk 45 0 ⟨#[]⟩ zV []] 0 = .at_ 0 2 := rfl
  rw [hv] at HC
  clear hx hr hS hv
  go_enter Tryd.func6, Tryd.ntmps6
  go_wp2_with (go_at_call 29; refine HC.out.mono ?_; rintro e w2 ⟨hb2, bk, rfl, _, _⟩; have HB2 := Lib.hid (HB.out.trans (hb2.mono HB.out.size)); clear hb2)
  go_ret
  exact ⟨rfl, HB2.out⟩
end Go.Proofs.YtminmadaeaiihaaDoor
