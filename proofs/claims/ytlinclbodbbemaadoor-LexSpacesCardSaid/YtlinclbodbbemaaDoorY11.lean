/- Contracts of the reader of words: Strs. -/
import Derived.Test.YtlinclbodbbemaaDoorY09
namespace Go.Proofs.YtlinclbodbbemaaDoor
open Go.RowKit
set_option maxRecDepth 100000

def LQuoPost (s : ByteArray) (n g : Nat) (w : World) (q : Option Bs × Bs) (e : Ending) (w' : World) : Prop :=
  ∃ p', p' ≤ s.size ∧ e = .returned (.tuple #[.string (sOut q.1), .bool q.1.isSome]) ∧ (q.1.isSome → s.data.toList.drop p' = q.2) ∧ LR w' g s p' n ∧ But g w w'
theorem owns_drewN {w : World} {B : Nat} {e : TypeId} {size n : Nat} {v : Value} {xs : List Value} (h : w.ownsRow B e size v n xs) (m : Nat) : (w.drewN m).ownsRow B e size v n xs := h
theorem lr_grown {g p n : Nat} {s : ByteArray} {w w' : World} {v : Value} {B : Nat} (h : LR w g s p n) (hg : w.grownBy w' v.ownBlock) (hv : ∀ k, v.ownBlock = some k → B ≤ k) (hB : g < B) : LR w' g s p n :=
  (hg.block g h.lt (fun e => by have := hv g e.symm; omega)).trans h

set_option maxHeartbeats 4000000 in
theorem lquoted_any (s : ByteArray) (p0 n g : Nat) (w : World) (hx : LR w g s p0 n) (hp : p0 < s.size) (hs : s.size ≤ 140737488355328) :
    Calls Tryd.prog 65 #[.pointer (some ⟨g, 0, none⟩)] w (LQuoPost s n g w (strOf (s.data.toList.drop (p0 + 1)))) := by
  obtain ⟨i0, hi, hz0, hz1, hz2⟩ := info_parts Tryd.info_u8
  have HX := Lib.hid hx
  have hgw := hx.lt; clear hx
  go_enter Tryd.func65, Tryd.ntmps65
  go_wp2
  go_loopw [4] (fun v wr => ∃ (acc : Bs) (p : Nat), p < s.size ∧ acc.length ≤ p ∧ Hid (wr.ownsRow w.heap.size 5 1 v acc.length (Lib.byteCells acc)) ∧ Hid (strOf (s.data.toList.drop (p0 + 1)) = pre_ acc (strOf (s.data.toList.drop (p + 1)))) ∧ Hid (LR wr g s p n) ∧ Hid (But g w wr)) (fun _ wr => s.size - rdPos wr g)
  case atStart => exact ⟨[], p0, hp, Nat.zero_le _, Lib.hid (World.ownsRow_nil _ _ _ _), Lib.hid (by unfold pre_; cases strOf (s.data.toList.drop (p0 + 1)) with | mk a b => cases a <;> rfl), HX, Lib.hid (But.refl _ _)⟩
  case round =>
    obtain ⟨acc, p, hpp, hal, hown, hstr, hxr, hbr⟩ := hrel
    obtain ⟨h0, h1, h2, hf, hlt⟩ := hxr.out.open
    have HX1 := Lib.hid (hxr.out.setPos (p + 1) (q := (p : Int) + 1) (by simp))
    have HB1 := Lib.hid (hbr.out.setCell 1 (.int .i64 ((p : Int) + 1)))
    have HO1 := Lib.hid (owns_but hown.out ((But.refl g wr).setCell 1 (.int .i64 ((p : Int) + 1))) hgw)
    have HRP := Lib.hid hxr.out.rdPos
    obtain ⟨c, hc⟩ : ∃ c : Int, ((nx (s.data.toList.drop (p + 1))).toNat : Int) = c := ⟨_, rfl⟩
    have hcb : 0 ≤ c ∧ c < 256 := by have := (nx (s.data.toList.drop (p + 1))).toNat_lt; omega
    have HC := Lib.hid hc; clear hc hxr hbr hown
    by_cases hbad : c < 32 ∨ 126 < c
    · have HE := Lib.hid (hstr.out.trans (congrArg (pre_ acc) (strOf_bad HC.out hbad)))
      rcases hbad with hbad | hbad
      all_goals
        go_wp2_with (go_at_call 64; refine (lnext_any s (p + 1) n g _ HX1.out (by omega) _ HC.out).mono ?_; rintro e w3 ⟨rfl, m, rfl⟩)
        go_ret2
        exact ⟨p + 1, by omega, by rw [HE.out]; rfl, (by rw [HE.out]; intro h; cases h), HX1.out.drewN m, HB1.out.drewN m⟩
    · have hps : p + 1 < s.size := nx_drop (by have := HC.out; omega)
      have hc1 : 32 ≤ c ∧ c ≤ 126 := by omega
      clear hbad
      by_cases h34 : c = 34
      · subst h34
        have HE := Lib.hid (hstr.out.trans (congrArg (pre_ acc) (strOf_q hps HC.out)))
        have hcv := conv_own (owns_but HO1.out ((But.refl g _).setCell 1 (.int .i64 ((p : Int) + 1 + 1))) hgw)
        go_wp2_with (first
          | (go_at_call 64; refine (lnext_any s (p + 1) n g _ HX1.out (by omega) _ HC.out).mono ?_; rintro e w3 ⟨rfl, m, rfl⟩; obtain ⟨h0, h1, h2, hf, hlt⟩ := (HX1.out.drewN m).open; have hcv := conv_own (owns_but (owns_drewN HO1.out m) ((But.refl g _).setCell 1 (.int .i64 ((p : Int) + 1 + 1))) hgw)))
        go_ret2
        exact ⟨p + 2, by omega, by rw [HE.out]; simp [pre_, sOut], (by rw [HE.out]; intro _; rfl), (HX1.out.drewN m).setPos _ (by simp; omega), (HB1.out.drewN m).setCell _ _⟩
      · by_cases h92 : c = 92
        · subst h92
          obtain ⟨d, hd⟩ : ∃ d : Int, ((nx (s.data.toList.drop (p + 1 + 1))).toNat : Int) = d := ⟨_, rfl⟩
          have hdb : 0 ≤ d ∧ d < 256 := by have := (nx (s.data.toList.drop (p + 1 + 1))).toNat_lt; omega
          have HD := Lib.hid hd; clear hd
          have HX2 := fun m => Lib.hid ((HX1.out.drewN m).setPos (p + 1 + 1) (q := (p : Int) + 1 + 1) (by simp))
          have HB2 := fun m => Lib.hid ((HB1.out.drewN m).setCell 1 (.int .i64 ((p : Int) + 1 + 1)))
          have HO2 := fun m => Lib.hid (owns_but (owns_drewN HO1.out m) ((But.refl g _).setCell 1 (.int .i64 ((p : Int) + 1 + 1))) hgw)
          by_cases hdg : d = 34 ∨ d = 92
          · have hps1 : p + 1 + 1 < s.size := nx_drop (by have := HD.out; omega)
            have HE := Lib.hid (hstr.out.trans (strOf_bb hps HC.out hps1 HD.out hdg acc))
            have HBC := Lib.hid (byteCells_snoc acc _ HD.out)
            rcases hdg with rfl | rfl
            all_goals
              go_wp2_with (first
                | (go_at_call 64; first
                    | (refine (lnext_any s (p + 1) n g _ HX1.out (by omega) _ HC.out).mono ?_; rintro e w3 ⟨rfl, m, rfl⟩; obtain ⟨h0, h1, h2, hf, hlt⟩ := (HX1.out.drewN m).open)
                    | (refine (lnext_any s (p + 1 + 1) n g _ (HX2 _).out (by omega) _ HD.out).mono ?_; rintro e w4 ⟨rfl, m4, rfl⟩; obtain ⟨HX4, HB4, HO4⟩ := (⟨Lib.hid (((HX2 m).out.drewN m4)), Lib.hid ((HB2 m).out.drewN m4), Lib.hid (owns_drewN (HO2 m).out m4)⟩ : Hid (LR _ g s (p + 1 + 1) n) ∧ Hid (But g w _) ∧ Hid (World.ownsRow _ w.heap.size 5 1 _ _ _)); obtain ⟨h0, h1, h2, hf, hlt⟩ := HX4.out.open; have hz4 := HB4.out.size; generalize (((wr.setCell ⟨g, 1, none⟩ (.int .i64 ((p : Int) + 1))).drewN m).setCell ⟨g, 1, none⟩ (.int .i64 ((p : Int) + 1 + 1))).drewN m4 = w4 at *))
                | (at_builtin; refine wpList_append_own _ rfl (.tmp 52) (.tmp 54) 75 rfl w.heap.size 5 i0 (.int .u8 0) 1 1 Tryd.underlying75 hi hz0 hz1 hz2 rfl (by decide) _ acc.length (Lib.byteCells acc) rfl (HO4.out.alloc _) ⟨w4.heap.size, 0, none⟩ 1 1 [_] rfl rfl (one_byte w4 _ _) (by intro u hu; simp at hu; subst hu; rfl) (by unfold maxLen; omega) (by omega) (by simp; omega) ?_; intro v' w5 hown5 hgr5 _; have hvB := fun k hk => (HO4.out.lt k hk).1; have HX5 := Lib.hid (lr_grown (HX4.out.alloc _) hgr5 hvB hgw); have HB5 := Lib.hid (but_grown (HB4.out.alloc _) hgr5 hvB); rw [HBC.out] at hown5; have HO5 := Lib.hid hown5; clear hown5 hgr5 hvB))
              go_roundw
              case measure => rw [HRP.out, HX5.out.rdPos]; omega
              case rel => exact ⟨acc ++ [nx (s.data.toList.drop (p + 1 + 1))], p + 1 + 1, by omega, by simp; omega, Lib.hid (by rw [List.length_append]; exact HO5.out), HE, HX5, HB5⟩
          · have HE := Lib.hid (hstr.out.trans (congrArg (pre_ acc) (strOf_b hps HC.out HD.out (by omega))))
            have hd1 : ¬ d = 34 := fun h => hdg (.inl h)
            have hd2 : ¬ d = 92 := fun h => hdg (.inr h)
            have hd3 : (d != 34) = true := by simpa using hd1
            have hd4 : (d != 92) = true := by simpa using hd2
            have hd5 : (d == 34) = false := by simpa using hd1
            have hd6 : (d == 92) = false := by simpa using hd2
            clear hdg
            go_wp2_with (first
              | (go_at_call 64; first
                  | (refine (lnext_any s (p + 1) n g _ HX1.out (by omega) _ HC.out).mono ?_; rintro e w3 ⟨rfl, m, rfl⟩; obtain ⟨h0, h1, h2, hf, hlt⟩ := (HX1.out.drewN m).open)
                  | (refine (lnext_any s (p + 1 + 1) n g _ (HX2 _).out (by omega) _ HD.out).mono ?_; rintro e w4 ⟨rfl, m4, rfl⟩)))
            go_ret2
            exact ⟨p + 1 + 1, by omega, by rw [HE.out]; rfl, (by rw [HE.out]; intro h; cases h), (HX2 m).out.drewN m4, (HB2 m).out.drewN m4⟩
        · have HE := Lib.hid (hstr.out.trans (strOf_p hps HC.out (by omega) acc))
          have HBC := Lib.hid (byteCells_snoc acc _ HC.out)
          go_wp2_with (first
            | (go_at_call 64; refine (lnext_any s (p + 1) n g _ HX1.out (by omega) _ HC.out).mono ?_; rintro e w4 ⟨rfl, m4, rfl⟩; obtain ⟨HX4, HB4, HO4⟩ := (⟨Lib.hid (HX1.out.drewN m4), Lib.hid (HB1.out.drewN m4), Lib.hid (owns_drewN HO1.out m4)⟩ : Hid (LR _ g s (p + 1) n) ∧ Hid (But g w _) ∧ Hid (World.ownsRow _ w.heap.size 5 1 _ _ _)); obtain ⟨h0, h1, h2, hf, hlt⟩ := HX4.out.open; have hz4 := HB4.out.size; generalize (wr.setCell ⟨g, 1, none⟩ (.int .i64 ((p : Int) + 1))).drewN m4 = w4 at *)
            | (at_builtin; refine wpList_append_own _ rfl (.tmp 52) (.tmp 54) 75 rfl w.heap.size 5 i0 (.int .u8 0) 1 1 Tryd.underlying75 hi hz0 hz1 hz2 rfl (by decide) _ acc.length (Lib.byteCells acc) rfl (HO4.out.alloc _) ⟨w4.heap.size, 0, none⟩ 1 1 [_] rfl rfl (one_byte w4 _ _) (by intro u hu; simp at hu; subst hu; rfl) (by unfold maxLen; omega) (by omega) (by simp; omega) ?_; intro v' w5 hown5 hgr5 _; have hvB := fun k hk => (HO4.out.lt k hk).1; have HX5 := Lib.hid (lr_grown (HX4.out.alloc _) hgr5 hvB hgw); have HB5 := Lib.hid (but_grown (HB4.out.alloc _) hgr5 hvB); rw [HBC.out] at hown5; have HO5 := Lib.hid hown5; clear hown5 hgr5 hvB))
          go_roundw
          case measure => rw [HRP.out, HX5.out.rdPos]; omega
          case rel => exact ⟨acc ++ [nx (s.data.toList.drop (p + 1))], p + 1, by omega, by simp; omega, Lib.hid (by rw [List.length_append]; exact HO5.out), HE, HX5, HB5⟩

end Go.Proofs.YtlinclbodbbemaaDoor
