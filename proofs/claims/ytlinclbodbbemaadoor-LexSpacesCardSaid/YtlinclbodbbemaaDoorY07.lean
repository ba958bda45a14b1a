/- The contract of the reader's Strs. -/
import Derived.Test.YtlinclbodbbemaaDoorY03
import Derived.Lib.BufferRead
import Derived.OwnWalk
namespace Go.Proofs.YtlinclbodbbemaaDoor
open Go.RowKit
set_option maxRecDepth 100000

theorem Tryd.info_u8 : (Tryd.prog.info? 5).map (fun i => (i.zero, i.size, i.bytes)) = some (some (.int .u8 0), 1, 1) := by kernel_rfl

theorem But.grown {g : Nat} {w w' : World} (h : But g w w') : w.grownBy w' (some g) := ⟨h.os, h.tape, h.output, h.size, fun k hk hne => h.block k hk (fun e => hne (by rw [e]))⟩
/-- What is owned from block B on is owned yet, where only a block below B was written. -/
theorem owns_but {g B : Nat} {w w' : World} {e : TypeId} {size n : Nat} {v : Value} {xs : List Value} (h : w.ownsRow B e size v n xs) (hb : But g w w') (hg : g < B) : w'.ownsRow B e size v n xs := by
  refine h.kept hb.grown ?_
  cases ho : v.ownBlock with
  | none => exact .inl rfl
  | some k => right; have := (h.lt k ho).1; intro e; injection e with e; omega
theorem but_grown {g : Nat} {w w1 w2 : World} {v : Value} (h : But g w w1) (hg : w1.grownBy w2 v.ownBlock) (hv : ∀ k, v.ownBlock = some k → w.heap.size ≤ k) : But g w w2 :=
  ⟨hg.os.trans h.os, hg.tape.trans h.tape, hg.output.trans h.output, Nat.le_trans h.size hg.size, fun k hk hne => by
    refine (hg.block k (Nat.lt_of_lt_of_le hk h.size) (fun e => ?_)).trans (h.block k hk hne)
    have := hv k e.symm; omega⟩
theorem rd_grown {g : Nat} {s : ByteArray} {x : Rd} {w w' : World} {v : Value} {B : Nat} (h : RdIs w g s x) (hg : w.grownBy w' v.ownBlock) (hv : ∀ k, v.ownBlock = some k → B ≤ k) (hB : g < B) : RdIs w' g s x :=
  (hg.block g h.lt (fun e => by have := hv g e.symm; omega)).trans h
theorem conv_own {w : World} {B : Nat} {v : Value} {l : Bs} (h : w.ownsRow B 5 1 v l.length (Lib.byteCells l)) : (convert 75 9 v).run Tryd.prog w = .ok (.string ⟨l.toArray⟩) w := by
  obtain ⟨_, ⟨rfl, hn⟩ | ⟨g, cap, cur, rfl, hB, hh, hnc, hcm, hcs, htk⟩⟩ := h
  · have hl : l = [] := List.eq_nil_of_length_eq_zero hn
    subst hl
    exact Lib.run_convert_nil_bytes w _ _ _ _ Tryd.underlying75 Tryd.underlying5 Tryd.underlying9
  · rw [Nat.mul_one] at htk
    exact run_convert_bytes_back w _ _ _ ⟨g, 0, none⟩ cap l Tryd.underlying75 Tryd.underlying5 Tryd.underlying9 (Lib.bytes_of_row hh htk)
theorem one_byte (w : World) (c : Value) (t : TypeId) : ∀ (j : Nat) (u : Value), [c][j]? = some u → (w.alloc (.cells #[c] t)).cell? ((⟨w.heap.size, 0, none⟩ : Addr).add j) = some u := by
  intro j u hj
  match j, hj with
  | 0, hj =>
    simp at hj; subst hj
    exact (cell_of_row _ _ 0 _ _ _ (heap_alloc_new w (.cells #[c] t))).trans rfl

def sOut (o : Option Bs) : ByteArray := match o with | some l => ⟨l.toArray⟩ | none => ⟨#[]⟩
def QuoPost (s : ByteArray) (x : Rd) (g : Nat) (w : World) (q : Option Bs × Bs) (e : Ending) (w' : World) : Prop :=
  ∃ p', p' ≤ s.size ∧ s.data.toList.drop p' = q.2 ∧ e = .returned (.tuple #[.string (sOut q.1), .bool q.1.isSome]) ∧ RdIs w' g s { x with pos := p' } ∧ But g w w'

theorem drop_at {s : ByteArray} {p : Nat} (h : p < s.size) : s.data.toList.drop p = nx (s.data.toList.drop p) :: s.data.toList.drop (p + 1) := by
  have h' : p < s.data.toList.length := by simpa using h
  rw [List.drop_eq_getElem_cons h']; rfl
theorem drop_end {s : ByteArray} {p : Nat} (h : ¬ p < s.size) : s.data.toList.drop p = [] := List.drop_of_length_le (by simp; omega)

def pre_ (acc : Bs) (q : Option Bs × Bs) : Option Bs × Bs := (q.1.map (acc ++ ·), q.2)
theorem pre_cons (acc : Bs) (c : UInt8) (q : Option Bs × Bs) : pre_ acc (q.1.map (c :: ·), q.2) = pre_ (acc ++ [c]) q := by
  unfold pre_
  cases q.1 <;> simp

/-- What a round of the reading finds. -/
theorem strOf_bad {s : ByteArray} {p : Nat} {c : Int} (hc : ((nx (s.data.toList.drop p)).toNat : Int) = c) (h : c < 32 ∨ 126 < c) : strOf (s.data.toList.drop p) = (none, s.data.toList.drop p) := by
  by_cases hp : p < s.size
  · have e := drop_at hp
    rw [e, strOf_cons, if_pos (by omega)]
  · rw [drop_end hp, strOf_nil]
theorem strOf_q {s : ByteArray} {p : Nat} (hp : p < s.size) (hc : ((nx (s.data.toList.drop p)).toNat : Int) = 34) : strOf (s.data.toList.drop p) = (some [], s.data.toList.drop (p + 1)) := by
  rw [drop_at hp, strOf_cons, if_neg (by omega), if_pos (by omega)]
theorem strOf_b {s : ByteArray} {p : Nat} (hp : p < s.size) (hc : ((nx (s.data.toList.drop p)).toNat : Int) = 92) {d : Int} (hd : ((nx (s.data.toList.drop (p + 1))).toNat : Int) = d) (h : d ≠ 34 ∧ d ≠ 92) : strOf (s.data.toList.drop p) = (none, s.data.toList.drop (p + 1)) := by
  rw [drop_at hp, strOf_cons, if_neg (by omega), if_neg (by omega), if_pos (by omega)]
  by_cases hp1 : p + 1 < s.size
  · rw [drop_at hp1]; simp only; rw [if_neg (by omega)]
  · rw [drop_end hp1]
theorem strOf_bb {s : ByteArray} {p : Nat} (hp : p < s.size) (hc : ((nx (s.data.toList.drop p)).toNat : Int) = 92) (hp1 : p + 1 < s.size) {d : Int} (hd : ((nx (s.data.toList.drop (p + 1))).toNat : Int) = d) (h : d = 34 ∨ d = 92) (acc : Bs) :
    pre_ acc (strOf (s.data.toList.drop p)) = pre_ (acc ++ [nx (s.data.toList.drop (p + 1))]) (strOf (s.data.toList.drop (p + 2))) := by
  have e : s.data.toList.drop p = nx (s.data.toList.drop p) :: nx (s.data.toList.drop (p + 1)) :: s.data.toList.drop (p + 2) := by rw [← drop_at hp1]; exact drop_at hp
  have hb : nx (s.data.toList.drop p) = 92 := UInt8.toNat_inj.1 (by show _ = 92; omega)
  rw [hb] at e
  rw [e, strOf_back (by omega), pre_cons]
theorem strOf_p {s : ByteArray} {p : Nat} (hp : p < s.size) {c : Int} (hc : ((nx (s.data.toList.drop p)).toNat : Int) = c) (h : 32 ≤ c ∧ c ≤ 126 ∧ c ≠ 34 ∧ c ≠ 92) (acc : Bs) :
    pre_ acc (strOf (s.data.toList.drop p)) = pre_ (acc ++ [nx (s.data.toList.drop p)]) (strOf (s.data.toList.drop (p + 1))) := by
  have e : strOf (s.data.toList.drop p) = strOf (nx (s.data.toList.drop p) :: s.data.toList.drop (p + 1)) := congrArg strOf (drop_at hp)
  rw [e, strOf_plain (by omega) (by omega) (by omega), pre_cons]
theorem byteCells_snoc (acc : Bs) (c : UInt8) {d : Int} (h : (c.toNat : Int) = d) : Lib.byteCells acc ++ [.int .u8 d] = Lib.byteCells (acc ++ [c]) := by subst h; simp [Lib.byteCells]

set_option maxHeartbeats 4000000 in
theorem quoted_any (s : ByteArray) (x : Rd) (g : Nat) (w : World) (hx : RdIs w g s x) (hp : x.pos ≤ s.size) (hs : s.size ≤ 140737488355328) :
    Calls Tryd.prog 168 #[.pointer (some ⟨g, 0, none⟩)] w (QuoPost s x g w (strOf (s.data.toList.drop x.pos))) := by
  obtain ⟨i0, hi, hz0, hz1, hz2⟩ := info_parts Tryd.info_u8
  have HX := Lib.hid hx
  have hgw := hx.lt; clear hx
  go_enter Tryd.func168, Tryd.ntmps168
  go_wp2
  go_loopw [4] (fun v wr => ∃ (acc : Bs) (p : Nat), p ≤ s.size ∧ acc.length ≤ p ∧ Hid (wr.ownsRow w.heap.size 5 1 v acc.length (Lib.byteCells acc)) ∧ Hid (strOf (s.data.toList.drop x.pos) = pre_ acc (strOf (s.data.toList.drop p))) ∧ Hid (RdIs wr g s { x with pos := p }) ∧ Hid (But g w wr)) (fun _ wr => s.size - rdPos wr g)
  case atStart => exact ⟨[], x.pos, hp, Nat.zero_le _, Lib.hid (World.ownsRow_nil _ _ _ _), Lib.hid (by unfold pre_; cases strOf (s.data.toList.drop x.pos) with | mk a b => cases a <;> rfl), HX, Lib.hid (But.refl _ _)⟩
  case round =>
    obtain ⟨acc, p, hpp, hal, hown, hstr, hxr, hbr⟩ := hrel
    obtain ⟨c, hc⟩ : ∃ c : Int, ((nx (s.data.toList.drop p)).toNat : Int) = c := ⟨_, rfl⟩
    have hcb : 0 ≤ c ∧ c < 256 := by have := (nx (s.data.toList.drop p)).toNat_lt; omega
    have HC := Lib.hid hc; clear hc
    by_cases hbad : c < 32 ∨ 126 < c
    · have HE := Lib.hid (hstr.out.trans (congrArg (pre_ acc) (strOf_bad HC.out hbad)))
      rcases hbad with hbad | hbad
      all_goals
        go_wp2_with (go_at_call 158; refine (next_val s _ g _ hxr.out hpp _ HC.out).mono ?_; rintro e w3 ⟨rfl, hx3, hb3⟩)
        go_ret2
        exact ⟨p, hpp, by rw [HE.out]; rfl, by rw [HE.out]; rfl, hx3, hbr.out.trans hb3⟩
    · have hps : p < s.size := nx_drop (by have := HC.out; omega)
      have hc1 : 32 ≤ c ∧ c ≤ 126 := by omega
      clear hbad
      by_cases h34 : c = 34
      · subst h34
        have HE := Lib.hid (hstr.out.trans (congrArg (pre_ acc) (strOf_q hps HC.out)))
        go_wp2_with (first
          | (go_at_call 158; refine (next_val s _ g _ hxr.out hpp _ HC.out).mono ?_; rintro e w3 ⟨rfl, hx3, hb3⟩; obtain ⟨h0, h1, h2, h3, h4, h5, h6, h7, h8, hf, hlt⟩ := hx3.open; have HX3 := Lib.hid hx3; have HB3 := Lib.hid (hbr.out.trans hb3); have hcv := conv_own (owns_but (owns_but hown.out hb3 hgw) ((But.refl g w3).setCell 1 (.int .i64 ((p : Int) + 1))) hgw); clear hx3 hb3))
        go_ret2
        exact ⟨p + 1, by omega, by rw [HE.out]; rfl, by rw [HE.out]; simp [pre_, sOut], HX3.out.setPos _ (by simp), HB3.out.setCell _ _⟩
      · by_cases h92 : c = 92
        · subst h92
          obtain ⟨d, hd⟩ : ∃ d : Int, ((nx (s.data.toList.drop (p + 1))).toNat : Int) = d := ⟨_, rfl⟩
          have hdb : 0 ≤ d ∧ d < 256 := by have := (nx (s.data.toList.drop (p + 1))).toNat_lt; omega
          have HD := Lib.hid hd; clear hd
          by_cases hdg : d = 34 ∨ d = 92
          · have hps1 : p + 1 < s.size := nx_drop (by have := HD.out; omega)
            have HE := Lib.hid (hstr.out.trans (strOf_bb hps HC.out hps1 HD.out hdg acc))
            have HBC := Lib.hid (byteCells_snoc acc _ HD.out)
            have hxr0 := hxr
            rcases hdg with rfl | rfl
            all_goals
              go_wp2_with (first
                | (go_at_call 158; first
                    | (refine (next_val s _ g _ hxr.out hpp _ HC.out).mono ?_; rintro e w3 ⟨rfl, hx3, hb3⟩; obtain ⟨h0, h1, h2, h3, h4, h5, h6, h7, h8, hf, hlt⟩ := hx3.open; have HX3 := Lib.hid (hx3.setPos (p + 1) (q := (p : Int) + 1) (by simp)); have HB3 := Lib.hid (hb3.setCell 1 (.int .i64 ((p : Int) + 1))); clear hx3 hb3)
                    | (refine (next_val s _ g _ HX3.out (by show p + 1 ≤ s.size; omega) _ HD.out).mono ?_; rintro e w4 ⟨rfl, hx4, hb4⟩; obtain ⟨h0, h1, h2, h3, h4, h5, h6, h7, h8, hf, hlt⟩ := hx4.open; have HX4 := Lib.hid hx4; have HO4 := Lib.hid (owns_but (owns_but hown.out HB3.out hgw) hb4 hgw); have HB4 := Lib.hid (hbr.out.trans (HB3.out.trans hb4)); have hz4 := hbr.out.size; have hz5 := HB3.out.size; have hz6 := hb4.size; clear hx4 hb4))
                | (at_builtin; refine wpList_append_own _ rfl (.tmp 45) (.tmp 47) 75 rfl w.heap.size 5 i0 (.int .u8 0) 1 1 Tryd.underlying75 hi hz0 hz1 hz2 rfl (by decide) _ acc.length (Lib.byteCells acc) rfl (HO4.out.alloc _) ⟨w4.heap.size, 0, none⟩ 1 1 [_] rfl rfl (one_byte w4 _ _) (by intro u hu; simp at hu; subst hu; rfl) (by unfold maxLen; omega) (by omega) (by simp; omega) ?_; intro v' w5 hown5 hgr5 _; have hvB := fun k hk => (HO4.out.lt k hk).1; have HX5 := Lib.hid (rd_grown (HX4.out.alloc _) hgr5 hvB hgw); have HB5 := Lib.hid (but_grown (HB4.out.alloc _) hgr5 hvB); rw [HBC.out] at hown5; have HO5 := Lib.hid hown5; obtain ⟨h0, h1, h2, h3, h4, h5, h6, h7, h8, hf, hlt⟩ := HX5.out.open; clear hown5 hgr5 hvB))
              go_roundw
              case measure => rw [hxr0.out.rdPos, (HX5.out.setPos (p + 2) (by simp; omega)).rdPos]; show s.size - (p + 2) < s.size - p; omega
              case rel => exact ⟨acc ++ [nx (s.data.toList.drop (p + 1))], p + 2, by omega, by simp; omega, Lib.hid (by rw [List.length_append]; exact owns_but HO5.out ((But.refl g _).setCell 1 _) hgw), HE, Lib.hid (HX5.out.setPos (p + 2) (by simp; omega)), Lib.hid (HB5.out.setCell _ _)⟩
          · have HE := Lib.hid (hstr.out.trans (congrArg (pre_ acc) (strOf_b hps HC.out HD.out (by omega))))
            have hd1 : ¬ d = 34 := fun h => hdg (.inl h)
            have hd2 : ¬ d = 92 := fun h => hdg (.inr h)
            have hd3 : (d != 34) = true := by simpa using hd1
            have hd4 : (d != 92) = true := by simpa using hd2
            have hd5 : (d == 34) = false := by simpa using hd1
            have hd6 : (d == 92) = false := by simpa using hd2
            clear hdg
            go_wp2_with (first
              | (go_at_call 158; first
                  | (refine (next_val s _ g _ hxr.out hpp _ HC.out).mono ?_; rintro e w3 ⟨rfl, hx3, hb3⟩; obtain ⟨h0, h1, h2, h3, h4, h5, h6, h7, h8, hf, hlt⟩ := hx3.open; have HX3 := Lib.hid (hx3.setPos (p + 1) (q := (p : Int) + 1) (by simp)); have HB3 := Lib.hid (hb3.setCell 1 (.int .i64 ((p : Int) + 1))); clear hx3 hb3)
                  | (refine (next_val s _ g _ HX3.out (by show p + 1 ≤ s.size; omega) _ HD.out).mono ?_; rintro e w4 ⟨rfl, hx4, hb4⟩; have HX4 := Lib.hid hx4; have HB4 := Lib.hid (hbr.out.trans (HB3.out.trans hb4)); clear hx4 hb4)))
            go_ret2
            exact ⟨p + 1, by omega, by rw [HE.out]; rfl, by rw [HE.out]; rfl, HX4.out, HB4.out⟩
        · have HE := Lib.hid (hstr.out.trans (strOf_p hps HC.out (by omega) acc))
          have HBC := Lib.hid (byteCells_snoc acc _ HC.out)
          have hxr0 := hxr
          go_wp2_with (first
            | (go_at_call 158; refine (next_val s _ g _ hxr.out hpp _ HC.out).mono ?_; rintro e w4 ⟨rfl, hx4, hb4⟩; obtain ⟨h0, h1, h2, h3, h4, h5, h6, h7, h8, hf, hlt⟩ := hx4.open; have HX4 := Lib.hid hx4; have HO4 := Lib.hid (owns_but hown.out hb4 hgw); have HB4 := Lib.hid (hbr.out.trans hb4); have hz4 := hbr.out.size; have hz6 := hb4.size; clear hx4 hb4)
            | (at_builtin; refine wpList_append_own _ rfl (.tmp 45) (.tmp 47) 75 rfl w.heap.size 5 i0 (.int .u8 0) 1 1 Tryd.underlying75 hi hz0 hz1 hz2 rfl (by decide) _ acc.length (Lib.byteCells acc) rfl (HO4.out.alloc _) ⟨w4.heap.size, 0, none⟩ 1 1 [_] rfl rfl (one_byte w4 _ _) (by intro u hu; simp at hu; subst hu; rfl) (by unfold maxLen; omega) (by omega) (by simp; omega) ?_; intro v' w5 hown5 hgr5 _; have hvB := fun k hk => (HO4.out.lt k hk).1; have HX5 := Lib.hid (rd_grown (HX4.out.alloc _) hgr5 hvB hgw); have HB5 := Lib.hid (but_grown (HB4.out.alloc _) hgr5 hvB); rw [HBC.out] at hown5; have HO5 := Lib.hid hown5; obtain ⟨h0, h1, h2, h3, h4, h5, h6, h7, h8, hf, hlt⟩ := HX5.out.open; clear hown5 hgr5 hvB))
          go_roundw
          case measure => rw [hxr0.out.rdPos, (HX5.out.setPos (p + 1) (by simp)).rdPos]; show s.size - (p + 1) < s.size - p; omega
          case rel => exact ⟨acc ++ [nx (s.data.toList.drop p)], p + 1, by omega, by simp; omega, Lib.hid (by rw [List.length_append]; exact owns_but HO5.out ((But.refl g _).setCell 1 _) hgw), HE, Lib.hid (HX5.out.setPos (p + 1) (by simp)), Lib.hid (HB5.out.setCell _ _)⟩

end Go.Proofs.YtlinclbodbbemaaDoor
