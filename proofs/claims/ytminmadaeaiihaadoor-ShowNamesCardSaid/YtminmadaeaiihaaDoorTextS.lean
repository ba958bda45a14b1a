/- (No ErrSyntax asked.) lit.Text and lit.Plain: what they answer of any right value. -/
import Derived.Test.YtminmadaeaiihaaDoorTxt2
import Derived.Test.YtminmadaeaiihaaDoorOk
import Derived.Lib.SmallJoins
namespace Go.Proofs.YtminmadaeaiihaaDoor
open Go.RowKit
set_option maxRecDepth 100000

/-- What the walks need of the program's variables. -/
structure EnvS (w : World) (eD eM eR eS : Value) : Prop where
  errs : Errs w eD eM eR eS
  names : Names w
  tab : Lib.TabIs Tryd.prog w "internal/strconv.uint64pow10" .u64 Lib.pow10Tab
theorem EnvS.below {w w' : World} {eD eM eR eS : Value} (h : EnvS w eD eM eR eS) (hb : Below w.heap.size w w') : EnvS w' eD eM eR eS :=
  ⟨h.errs.below hb h.errs.size, h.names.below hb h.names.lt, Lib.tabBelow_of_tabIs h.tab w' hb⟩

theorem odd_szS {t : T} (h : (odd t 1 0).1 = 0) : sz t ≤ 4096 := by
  have hk : ∀ (t : T) (d z : Int), (odd t d z).1 = 0 → (odd t d z).2 = z + sz t := by
    refine T.ind_ (fun k n s l ih d z h => ?_)
    have hall : ∀ (l : List T), (∀ t ∈ l, ∀ (d z : Int), (odd t d z).1 = 0 → (odd t d z).2 = z + sz t) → ∀ (d z : Int), (oddAll l d z).1 = 0 → (oddAll l d z).2 = z + szAll l := by
      intro l
      induction l with
      | nil => intro _ d z _; simp [oddAll, szAll]
      | cons x r ihr =>
        intro hx d z h
        rw [oddAll] at h ⊢
        by_cases hc : (odd x d z).1 ≠ 0
        · rw [if_pos hc] at h; exact absurd h hc
        · rw [if_neg hc] at h ⊢
          have h1 := hx x (by simp) d z (by omega)
          have h2 := ihr (fun t ht => hx t (by simp [ht])) d _ h
          rw [h2, h1, szAll]; omega
    obtain ⟨h1, h2, h3, h4, h5⟩ := odd_zero h
    rw [odd_fine (by omega) (by omega) h3 h4, hall l ih (d + 1) _ h5, sz]
    unfold zz
    split <;> omega
  have h1 := hk t 1 0 h
  have h2 := odd_bound t 1 0 h
  omega

set_option maxHeartbeats 1000000 in
theorem textS_any (eD eM eR eS : Value) (hP : Ptrs eD eM eR eS) (t : T) (w : World) (lo hi : Nat) (v : Value) (hr : Rep w lo hi t v) (hhi : hi ≤ w.heap.size) (he : EnvS w eD eM eR eS) (h0 : (odd t 1 0).1 = 0) :
    Calls Tryd.prog 64 #[v] w fun e w' => e = .returned (.string ⟨(tx t).toArray⟩) ∧ Below w.heap.size w w' := by
  have hsz := odd_szS h0
  have htl := tx_len t (Rep.ok t hr h0)
  have HE := Lib.hid he; clear he
  have HR := Lib.hid hr
  obtain ⟨k, n, s, p, len, cap, rfl⟩ := rep_form hr
  have HV := Lib.hid (show vRes eD eM eR eS t = .nilIface from by unfold vRes; rw [if_pos h0])
  clear hr h0
  have hlen : ([] : Bs).length + (tx t).length + 64 ≤ 140737488355328 := by simp; omega
  clear htl hsz
  have H1 : ∀ o : Obj, Hid (Below w.heap.size w (w.alloc o)) := fun o => (Below.refl _ _).alloc (Nat.le_refl _) _
  go_enter Tryd.func64, Tryd.ntmps64
  go_wp2_with (first
    | (go_at_call 100; refine (validE_any eD eM eR eS hP t _ lo hi _ (HR.out.alloc hhi _) (by simp; omega) (HE.out.below (H1 _).out).errs).mono ?_; rintro e w2 ⟨rfl, hb2⟩; rw [HV.out]; have HV2 := Lib.hid (heap_old (heap_alloc_new w _) hb2); obtain ⟨x0, x1, x2, x3, _⟩ := box4_in _ _ _ _ _ _ _ HV2.out; have HB2 := Lib.hid ((H1 _).out.trans (hb2.mono (by simp))); have hz2 := hb2.size; simp at hz2; clear hb2)
    | (go_at_call 101; refine (appendText_any w2.heap.size w2 (HE.out.below HB2.out).names (HE.out.below HB2.out).names.lt (Lib.tabBelow_of_tabIs (HE.out.below HB2.out).tab) t [] _ _ lo hi _ (HR.out.below HB2.out hhi) (by omega) (Buf.start w2) hlen).mono ?_; rintro e w3 ⟨v3, rfl, hb3⟩; have HB3 := Lib.hid (HB2.out.trans (hb3.bel.mono (by omega))); have hcv := conv_own hb3.own; clear hb3))
  go_ret
  exact ⟨rfl, HB3.out⟩

end Go.Proofs.YtminmadaeaiihaaDoor
