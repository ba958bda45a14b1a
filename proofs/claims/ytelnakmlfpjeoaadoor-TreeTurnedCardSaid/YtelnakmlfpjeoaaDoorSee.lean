/- Errors as plain data: contracts of inglenooksee, for no error and for api's errors. -/
import Derived.Test.YtelnakmlfpjeoaaDoorSameV
import Derived.LaidEql
namespace Go.Proofs.YtelnakmlfpjeoaaDoor
open Go.RowKit
set_option maxRecDepth 100000

/-- A fault with nothing around it. -/
def fv (c : Int) : Value := .agg #[.int .i64 c, .bool false, .int .i64 0, .int .i64 0, .int .i64 0, .string ByteArray.empty, .slice none 0 0]

set_option maxHeartbeats 400000 in
theorem bare_any (c : Int) (w : World) : Calls Tryd.prog 43 #[.int .i64 c] w fun e w' => e = .returned (fv c) ∧ Below w.heap.size w w' := by
  go_enter Tryd.func43, Tryd.ntmps43
  go_wp2
  go_returns
  exact ⟨rfl, by go_grown⟩

set_option maxHeartbeats 400000 in
theorem none_any (w : World) : Calls Tryd.prog 45 #[] w fun e w' => e = .returned (fv 0) ∧ Below w.heap.size w w' := by
  go_enter Tryd.func45, Tryd.ntmps45
  go_wp2
  go_returns
  exact ⟨rfl, by go_grown⟩

set_option maxHeartbeats 1000000 in
theorem sameFault_any (a b : Int) (w : World) : Calls Tryd.prog 39 #[fv a, fv b] w fun e w' => e = .returned (.bool (a == b)) ∧ Below w.heap.size w w' := by
  have h0 : ∀ W : World, Hid (Rep W 0 0 (.mk 0 0 ByteArray.empty []) (.agg #[.int .i64 0, .int .i64 0, .string ByteArray.empty, .slice none 0 0])) := fun W => by
    show Rep _ _ _ _ _
    unfold Rep
    exact ⟨none, 0, rfl, by unfold I64; omega, by unfold I64; omega, by simp, Nat.le_refl _, by simp, by unfold RepAll; trivial⟩
  have hE := Lib.hid (eqV_self (.mk 0 0 ByteArray.empty []))
  unfold fv
  by_cases hab : a = b
  all_goals
    have hab2 : (a == b) = decide (a = b) := by rw [Bool.eq_iff_iff]; simp
    go_enter Tryd.func39, Tryd.ntmps39
    go_wp2_with (go_at_call 52; refine (sameValue_any _ _ _ 0 0 0 0 _ _ (h0 _).out (Nat.zero_le _) (h0 _).out (Nat.zero_le _)).mono ?_; rintro e w2 ⟨rfl, hb2⟩; rw [hE.out]; obtain ⟨hc2, hf2⟩ := below_bcell hb2)
    go_ret
    exact ⟨ret_bool (by simp [hab]), (((Below.refl _ _).alloc (Nat.le_refl _) _).alloc (by simp) _).trans (hb2.mono (by simp; omega))⟩

/-- A box of seven cells (a fault), in whatever world it still stands. -/
theorem box7_in (w2 : World) (g : Nat) (c0 c1 c2 c3 c4 c5 c6 : Value) (t : TypeId) (h : w2.heap[g]? = some (.cells #[c0, c1, c2, c3, c4, c5, c6] t (0, 0))) : w2.cell? ⟨g, 0, none⟩ = some c0 ∧ w2.cell? ⟨g, 1, none⟩ = some c1 ∧
    w2.cell? ⟨g, 2, none⟩ = some c2 ∧ w2.cell? ⟨g, 3, none⟩ = some c3 ∧ w2.cell? ⟨g, 4, none⟩ = some c4 ∧ w2.cell? ⟨g, 5, none⟩ = some c5 ∧ w2.cell? ⟨g, 6, none⟩ = some c6 ∧ ∀ o, w2.frozen? ⟨g, o, none⟩ = false :=
  ⟨(cell_of_row _ _ 0 _ _ _ h).trans rfl, (cell_of_row _ _ 1 _ _ _ h).trans rfl, (cell_of_row _ _ 2 _ _ _ h).trans rfl, (cell_of_row _ _ 3 _ _ _ h).trans rfl, (cell_of_row _ _ 4 _ _ _ h).trans rfl, (cell_of_row _ _ 5 _ _ _ h).trans rfl, (cell_of_row _ _ 6 _ _ _ h).trans rfl, fun o => by simp [World.frozen?, h]⟩
/-- The variables of api's errors, in the order of the text. -/
def gOf (i : Nat) : Nat := [5, 6, 3, 0, 7, 4, 8, 9, 10, 11, 12, 1, 13, 14, 15, 16, 17].getD i 0
/-- An error of api's, as a value. -/
def ev (a : Addr) : Value := .iface 194 (.pointer (some a))
structure Sents (w : World) (ad : Nat → Addr) : Prop where
  var : ∀ i, i < 17 → w.cell? ⟨gOf i, 0, none⟩ = some (ev (ad i))
  blk : ∀ i, i < 17 → ∃ c t, w.heap[(ad i).block]? = some (.cells c t (0, 0))
  inj : ∀ i j, i < 17 → j < 17 → ad i = ad j → i = j
theorem Sents.below {w w' : World} {ad : Nat → Addr} (h : Sents w ad) (hb : Below w.heap.size w w') : Sents w' ad :=
  ⟨fun i hi => (hb.cell (p := ⟨gOf i, 0, none⟩) (World.block_lt_of_cell? w _ (h.var i hi))).trans (h.var i hi),
   fun i hi => by obtain ⟨c, t, hc⟩ := h.blk i hi; exact ⟨c, t, heap_old hc hb⟩, h.inj⟩

theorem Tryd.comp_E : (Tryd.prog.info? 194).map (·.comparable) = some true := by kernel_rfl
theorem Tryd.size_E : (Tryd.prog.info? 208).map (·.size) = some 1 := by kernel_rfl

set_option maxHeartbeats 400000 in
theorem seeAlike_any (ad : Nat → Addr) (i j : Nat) (hi : i < 17) (hj : j < 17) (w : World) (hS : Sents w ad) :
    Calls Tryd.prog 125 #[ev (ad i), ev (ad j)] w fun e w' => e = .returned (.bool (i == j)) ∧ w' = w := by
  obtain ⟨ti, hti, hc⟩ := Option.map_eq_some_iff.1 Tryd.comp_E
  obtain ⟨tj, htj, hs⟩ := Option.map_eq_some_iff.1 Tryd.size_E
  unfold ev
  by_cases hij : i = j
  · subst hij
    go_enter Tryd.func125, Tryd.ntmps125
    go_wp2
    rw [run_eql_iface_ptr_same w (ad i) Tryd.underlying33 Tryd.underlying194 hti hc htj]
    go_wp2
    go_ret
    exact ⟨ret_bool (by simp), rfl⟩
  · obtain ⟨c1, t1, hb1⟩ := hS.blk i hi
    obtain ⟨c2, t2, hb2⟩ := hS.blk j hj
    have hne : ad i ≠ ad j := fun e => hij (hS.inj i j hi hj e)
    have HB := Lib.hid (run_eql_iface_ptr_other (P := Tryd.prog) w Tryd.underlying33 Tryd.underlying194 hti hc htj (by omega) hne hb1 hb2)
    clear hb1 hb2
    go_enter Tryd.func125, Tryd.ntmps125
    go_wp2
    rw [HB.out]
    go_wp2
    go_ret
    exact ⟨ret_bool (by simpa using hij), rfl⟩

end Go.Proofs.YtelnakmlfpjeoaaDoor
