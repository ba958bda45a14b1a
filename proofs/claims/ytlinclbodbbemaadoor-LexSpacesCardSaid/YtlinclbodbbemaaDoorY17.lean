/- Contracts of the reader of words: digits, and kinds of runs. Contract of the reader's signs. lit.Text and lit.Plain: what they answer of any right value. What listed variables give the walks, whichever are listed beside: tables of numbers, names, single errors. From the listed variables to what the walks need. All of api's errors among the listed variables, whatever is listed ahead and behind. -/
import Derived.Test.YtlinclbodbbemaaDoorY14
import Derived.Test.YtlinclbodbbemaaDoorY15
import Derived.Test.YtlinclbodbbemaaDoorY06
import Derived.Lib.SmallJoins
import Derived.Test.YtlinclbodbbemaaDoorY02
import Derived.Lib.LaidTab
import Derived.Test.YtlinclbodbbemaaDoorRows
import Derived.KernelRfl
namespace Go.Proofs.YtlinclbodbbemaaDoor
open Go.RowKit
set_option maxRecDepth 100000

theorem isIn_step (d : Bs) (j : Nat) (h : j < 19) : isIn d (keysB.drop j) = if d = keysB.getD j [] then true else isIn d (keysB.drop (j + 1)) := by
  have h' : j < keysB.length := h
  rw [List.drop_eq_getElem_cons h', isIn]
  have e : keysB.getD j [] = keysB[j] := by simp [List.getD, h']
  rw [e]
theorem hasC_step {s : ByteArray} {i : Nat} (h : i < s.size) : hasC (s.data.toList.drop i) = if isC s[i] then true else hasC (s.data.toList.drop (i + 1)) := by
  have h' : i < s.data.toList.length := by simpa using h
  rw [List.drop_eq_getElem_cons h', hasC]; rfl
theorem allD_step {s : ByteArray} {i : Nat} (h : i < s.size) : (s.data.toList.drop i).all isD = (isD s[i] && (s.data.toList.drop (i + 1)).all isD) := by
  have h' : i < s.data.toList.length := by simpa using h
  rw [List.drop_eq_getElem_cons h', List.all_cons]; rfl

set_option maxHeartbeats 4000000 in
theorem kindOf_any (s : ByteArray) (q : Int × Bool) (hq : kindL s.data.toList = q) (w : World) (hs : s.size ≤ 140737488355328) (hT : LexT w) :
    Calls Tryd.prog 74 #[.string s] w fun e w' => e = .returned (.tuple #[.int .i64 q.1, .bool q.2]) ∧ w' = w := by
  subst hq
  obtain ⟨ty, fr, hrow⟩ := hT.key
  clear hT
  have HK := Lib.hid (show kindL s.data.toList = if isIn s.data.toList keysB then (2, true) else if hasC s.data.toList then (0, false) else (1, decide (s.data.toList.length ≤ 32)) from rfl)
  go_enter Tryd.func74, Tryd.ntmps74
  go_wp2_with (refine wpList_load_row rfl 130 _ rfl 5 rfl ty _ fr _ hrow Tryd.underlying130 rfl info_keys ?_)
  clear hrow
  go_loop [8] (fun i => ∃ (j : Nat), i = .int .i64 j ∧ j ≤ 19 ∧ Hid (isIn s.data.toList keysB = isIn s.data.toList (keysB.drop j))) (fun i => 19 - (intOf i).toNat)
  case atStart => exact ⟨0, rfl, by omega, Lib.hid rfl⟩
  case round =>
    obtain ⟨j, rfl, hj, hgo⟩ := hrel
    by_cases hj19 : j < 19
    · have hidx : ∀ W : World, (Instr.index 130 (.agg keysA) (.int .i64 (j : Int))).run Tryd.prog W = .ok (.string (keyS j)) W := fun W => ix_keys W j hj19
      have hst := hgo.out.trans (isIn_step s.data.toList j hj19)
      by_cases he : s.data.toList = keysB.getD j []
      · have hE := Lib.hid (hst.trans (if_pos he))
        have he1 : s = keyS j := ba_ext he
        have he2 : (s.toList == (keyS j).toList) = true := by rw [he1]; simp
        clear hst he he1
        go_wp2
        go_ret2
        exact ⟨by rw [HK.out, hE.out]; rfl, rfl⟩
      · have hE := Lib.hid (hst.trans (if_neg he))
        have he2 : (s.toList == (keyS j).toList) = false := toList_ne (fun h => he (congrArg (fun b : ByteArray => b.data.toList) h))
        clear hst he
        go_wp2
        go_round
        case measure => show 19 - ((j : Int) + 1).toNat < 19 - ((j : Int)).toNat; omega
        case rel => exact ⟨j + 1, by go_num, by omega, hE⟩
    · have hje : j = 19 := by omega
      subst hje
      have hN := Lib.hid (HK.out.trans (if_neg (by rw [hgo.out]; exact fun h => Bool.noConfusion (show false = true from h))))
      clear hj19
      go_wp2
      go_loop [17] (fun i => ∃ (j : Nat), i = .int .i64 j ∧ j ≤ s.size ∧ Hid (hasC s.data.toList = hasC (s.data.toList.drop j))) (fun i => s.size - (intOf i).toNat)
      case atStart => exact ⟨0, rfl, by omega, Lib.hid rfl⟩
      case round =>
        obtain ⟨j, rfl, hj, hgo⟩ := hrel
        by_cases hjs : j < s.size
        · have hst := hgo.out.trans (hasC_step hjs)
          rcases hc : isC s[j]
          · have hE := Lib.hid (hst.trans (if_neg (by rw [hc]; decide)))
            have sC := Lib.hid (fun w => lexCapital_any s[j] _ rfl _ hc w)
            clear hst hc
            go_wp2_with (go_at_call 71; refine (sC.out _).mono ?_; rintro e w2 ⟨rfl, rfl⟩)
            go_round
            case measure => simp [intOf]; omega
            case rel => exact ⟨j + 1, by go_num, by omega, hE⟩
          · have hE := Lib.hid (hst.trans (if_pos (by rw [hc])))
            have sC := Lib.hid (fun w => lexCapital_any s[j] _ rfl _ hc w)
            clear hst hc
            go_wp2_with (go_at_call 71; refine (sC.out _).mono ?_; rintro e w2 ⟨rfl, rfl⟩)
            go_ret2
            exact ⟨by rw [hN.out, hE.out]; rfl, rfl⟩
        · have hje : j = s.size := by omega
          subst hje
          have hE := Lib.hid (hgo.out.trans (show hasC (s.data.toList.drop s.size) = false by rw [List.drop_of_length_le (by simp)]; rfl))
          have hl := Lib.hid (show decide ((s.size : Int) ≤ 32) = decide (s.data.toList.length ≤ 32) from by rw [Bool.eq_iff_iff]; simp; omega)
          go_wp2
          go_ret2
          exact ⟨by rw [hN.out, hE.out, ← hl.out]; rfl, rfl⟩

theorem s_eq48 (s : ByteArray) : (s = ⟨#[48]⟩) ↔ decide (s.data.toList = [48]) = true := by
  rw [decide_eq_true_iff]
  exact ⟨fun e => by rw [e], fun e => ba_ext e⟩
set_option maxHeartbeats 4000000 in
theorem areDigits_any (s : ByteArray) (q : Bool) (hq : areD s.data.toList = q) (w : World) (hs : s.size ≤ 140737488355328) :
    Calls Tryd.prog 69 #[.string s] w fun e w' => e = .returned (.bool q) ∧ w' = w := by
  subst hq
  have HA := Lib.hid (show areD s.data.toList = (s.data.toList.all isD && (decide (s.data.toList = [48]) || (decide (s.data.toList ≠ []) && !hd 48 s.data.toList))) from rfl)
  go_enter Tryd.func69, Tryd.ntmps69
  go_wp2
  go_loop [6] (fun i => ∃ (j : Nat), i = .int .i64 j ∧ j ≤ s.size ∧ Hid (s.data.toList.all isD = (s.data.toList.drop j).all isD)) (fun i => s.size - (intOf i).toNat)
  case atStart => exact ⟨0, rfl, by omega, Lib.hid rfl⟩
  case round =>
    obtain ⟨j, rfl, hj, hgo⟩ := hrel
    by_cases hjs : j < s.size
    · have hst := hgo.out.trans (allD_step hjs)
      rcases hc : isD s[j]
      · have hE := Lib.hid (show s.data.toList.all isD = false from hst.trans (by simp [hc]))
        have sC := Lib.hid (fun w => lexDigit_any s[j] _ rfl _ hc w)
        clear hst hc
        go_wp2_with (go_at_call 67; refine (sC.out _).mono ?_; rintro e w2 ⟨rfl, rfl⟩)
        go_ret
        exact ⟨by rw [HA.out, hE.out]; rfl, rfl⟩
      · have hE := Lib.hid (hst.trans (by rw [hc, Bool.true_and]))
        have sC := Lib.hid (fun w => lexDigit_any s[j] _ rfl _ hc w)
        clear hst hc
        go_wp2_with (go_at_call 67; refine (sC.out _).mono ?_; rintro e w2 ⟨rfl, rfl⟩)
        go_round
        case measure => simp [intOf]; omega
        case rel => exact ⟨j + 1, by go_num, by omega, hE⟩
    · have hje : j = s.size := by omega
      subst hje
      have hall : s.data.toList.all isD = true := hgo.out.trans (by rw [List.drop_of_length_le (by simp)]; rfl)
      have hE := Lib.hid (HA.out.trans (by rw [hall, Bool.true_and]))
      clear hgo hall
      have hb1 : (s.toList == [48]) = decide (s.data.toList = [48]) := by rw [ByteArray.toList_eq, Bool.eq_iff_iff]; simp
      by_cases h48 : s.data.toList = [48]
      · rw [decide_eq_true h48] at hb1
        have hE2 := Lib.hid (show areD s.data.toList = true from hE.out.trans (by rw [decide_eq_true h48]; rfl))
        clear h48 hE
        go_wp2
        go_ret
        exact ⟨by rw [hE2.out]; rfl, rfl⟩
      · rw [decide_eq_false h48] at hb1
        have hE2 := Lib.hid (show areD s.data.toList = (decide (s.data.toList ≠ []) && !hd 48 s.data.toList) from hE.out.trans (by rw [decide_eq_false h48]; rfl))
        clear hE
        rcases Nat.eq_zero_or_pos s.size with h0 | h0
        · have hnil : s.data.toList = [] := List.eq_nil_of_length_eq_zero (by simpa using h0)
          have hb2 : s.toList.isEmpty = true := by rw [ByteArray.toList_eq, hnil]; rfl
          have hE3 := Lib.hid (show areD s.data.toList = false from hE2.out.trans (by rw [hnil]; rfl))
          clear h48 hE2 hnil
          go_wp2
          go_ret
          exact ⟨by rw [hE3.out]; rfl, rfl⟩
        · have hnil : s.data.toList ≠ [] := fun e => by
            have h1 : s.data.toList.length = s.size := by simp
            rw [e] at h1
            exact absurd h1 (by show ¬ (0 = s.size); omega)
          have hb2 : s.toList.isEmpty = false := by
            rw [ByteArray.toList_eq]
            cases h : s.data.toList with
            | nil => exact absurd h hnil
            | cons c r => rfl
          have h0i : (0 : Int) < (s.size : Int) := by omega
          have hx0 : (s[0].toNat != 48) = !hd 48 s.data.toList := by
            have h' : 0 < s.data.toList.length := by simpa using h0
            have e : s.data.toList.drop 0 = s[0] :: s.data.toList.drop 1 := List.drop_eq_getElem_cons h'
            rw [List.drop_zero] at e
            rw [e]; rfl
          have hE3 := Lib.hid (show areD s.data.toList = (s[0].toNat != 48) from hE2.out.trans (by rw [decide_eq_true hnil, Bool.true_and, ← hx0]))
          clear h48 hE2 hnil hx0
          have HCC := Lib.hid (show (s[0].toNat != 48) = (((s[0]).toNat : Int) != 48) from by rw [Bool.eq_iff_iff]; simp; omega)
          go_wp2
          go_ret
          exact ⟨by rw [hE3.out, HCC.out]; rfl, rfl⟩

end Go.Proofs.YtlinclbodbbemaaDoor

namespace Go.Proofs.YtlinclbodbbemaaDoor
open Go.RowKit
set_option maxRecDepth 100000

set_option maxHeartbeats 8000000 in
theorem sign_any (s : ByteArray) (p n g : Nat) (w : World) (hx : LR w g s p n) (hp : p ≤ s.size) (hs : s.size ≤ 140737488355328) (hT : LexT w) :
    Calls Tryd.prog 75 #[.pointer (some ⟨g, 0, none⟩)] w (SignPost s p n g w) := by
  obtain ⟨ty, fr, hrow⟩ := hT.sign
  have HX := Lib.hid hx; clear hx hT
  go_enter Tryd.func75, Tryd.ntmps75
  go_wp2_with (refine wpList_load_row rfl 131 _ rfl 6 rfl ty _ fr _ hrow Tryd.underlying131 rfl info_signs ?_)
  clear hrow
  go_loopw [4, 8] (fun b i wr => ∃ (j : Nat) (bb : Bs), b = .string ⟨bb.toArray⟩ ∧ i = .int .i64 j ∧ j ≤ 33 ∧ Hid (LR wr g s p n) ∧ Hid (But g w wr) ∧ bb.length ≤ 2 ∧ Hid (signL (s.data.toList.drop p) = signAt (s.data.toList.drop p) bb (signsB.drop j))) (fun _ i _ => 33 - (intOf i).toNat)
  case atStart => exact ⟨0, [], rfl, rfl, by omega, HX, Lib.hid (But.refl _ _), by simp, Lib.hid rfl⟩
  case round =>
    obtain ⟨j, bb, rfl, rfl, hj, hxr, hbr, hbl, hgo⟩ := hrel
    obtain ⟨h0, h1, h2, hf, hlt⟩ := hxr.out.open
    by_cases hj33 : j < 33
    · have hidx : ∀ W : World, (Instr.index 131 (.agg signsA) (.int .i64 (j : Int))).run Tryd.prog W = .ok (.string (signS j)) W := fun W => ix_signs W j hj33
      have hst := hgo.out.trans (signAt_step (s.data.toList.drop p) bb j hj33)
      have hl2 : (signsB.getD j []).length ≤ 2 := by
        have h : ∀ k : Fin 33, (signsB.getD k.val []).length ≤ 2 := by decide
        exact h ⟨j, hj33⟩
      rcases hB : pfx (signsB.getD j []) (s.data.toList.drop p)
      · rw [hB, if_neg (by decide)] at hst
        have HE := Lib.hid hst
        have HP := Lib.hid (fun w => hasPrefix_any (s.extract p s.size) (signS j) false (by rw [ext_list]; exact hB) w)
        clear hst hB
        go_wp2_with (go_quiet ((go_at_call 100; refine Calls.quiet_of (HP.out _))))
        go_roundw
        case measure => simp [intOf]; omega
        case rel => exact ⟨j + 1, bb, rfl, by go_num, by omega, Lib.hid (hxr.out.drewN _), Lib.hid (hbr.out.drewN _), hbl, HE⟩
      · rw [hB, if_pos rfl] at hst
        have HE := Lib.hid hst
        have HP := Lib.hid (fun w => hasPrefix_any (s.extract p s.size) (signS j) true (by rw [ext_list]; exact hB) w)
        clear hst hB
        go_wp2_with (go_quiet ((go_at_call 100; refine Calls.quiet_of (HP.out _))))
        go_roundw
        case measure => simp [intOf]; omega
        case rel => exact ⟨j + 1, signsB.getD j [], rfl, by go_num, by omega, Lib.hid (hxr.out.drewN _), Lib.hid (hbr.out.drewN _), hl2, HE⟩
    · have hje : j = 33 := by omega
      subst hje
      have HE := Lib.hid (hgo.out.trans (show signAt (s.data.toList.drop p) bb (signsB.drop 33) = bb from rfl))
      have hpl : p + bb.length ≤ s.size := by
        have h1 := signL_pre (s.data.toList.drop p)
        rw [HE.out] at h1
        have := congrArg List.length h1
        simp at this
        omega
      have hne : Hid ((!bb.isEmpty) = decide (bb ≠ [])) := by
        show (!bb.isEmpty) = decide (bb ≠ [])
        cases bb with
        | nil => rfl
        | cons c r => rfl
      go_wp2
      go_ret2
      refine ⟨?_, ?_, hbr.out.setCell _ _⟩
      · rw [HE.out, ← hne.out]; rfl
      · rw [HE.out]; exact hxr.out.setPos _ (by simp)

theorem sign_val (s : ByteArray) (p n g : Nat) (w : World) (hx : LR w g s p n) (hp : p ≤ s.size) (hs : s.size ≤ 140737488355328) (hT : LexT w) (b : Bs) (hb : signL (s.data.toList.drop p) = b) (d : Bool) (hd : decide (b ≠ []) = d) :
    Calls Tryd.prog 75 #[.pointer (some ⟨g, 0, none⟩)] w fun e w' => e = .returned (.tuple #[.string ⟨b.toArray⟩, .bool d]) ∧ LR w' g s (p + b.length) n ∧ But g w w' := by
  subst hb hd; exact sign_any s p n g w hx hp hs hT

end Go.Proofs.YtlinclbodbbemaaDoor

namespace Go.Proofs.YtlinclbodbbemaaDoor
open Go.RowKit
set_option maxRecDepth 100000

/-- What the walks need of the program's variables. -/
structure Env (w : World) (eD eM eR eS : Value) (aY : Addr) : Prop where
  errs : Errs w eD eM eR eS
  names : Names w
  tab : Lib.TabIs Tryd.prog w "internal/strconv.uint64pow10" .u64 Lib.pow10Tab
  syn : w.cell? ⟨1, 0, none⟩ = some (.iface 199 (.pointer (some aY)))
theorem Env.below {w w' : World} {eD eM eR eS : Value} {aY : Addr} (h : Env w eD eM eR eS aY) (hb : Below w.heap.size w w') : Env w' eD eM eR eS aY :=
  ⟨h.errs.below hb h.errs.size, h.names.below hb h.names.lt, Lib.tabBelow_of_tabIs h.tab w' hb, (hb.cell (p := ⟨1, 0, none⟩) (World.block_lt_of_cell? w _ h.syn)).trans h.syn⟩

theorem odd_sz {t : T} (h : (odd t 1 0).1 = 0) : sz t ≤ 4096 := by
  have hk : ∀ (t : T) (d z : Int), (odd t d z).1 = 0 → (odd t d z).2 = z + sz t := by
    refine T.ind_ (fun k n s l ih d z h => ?_)
    have hall : ∀ (l : List T), (∀ t ∈ l, ∀ (d z : Int), (odd t d z).1 = 0 → (odd t d z).2 = z + sz t) → ∀ (d z : Int), (oddAll l d z).1 = 0 → (oddAll l d z).2 = z + szAll l := by
      intro l
      induction l with
      | nil => intro _ d z _; simp [oddAll, szAll]
      | cons x r ihr =>
        intro hx d z h
        rw [oddAll] at h ⊢
        by_cases hc : (odd x d z).1 ≠ 0
        · rw [if_pos hc] at h; exact absurd h hc
        · rw [if_neg hc] at h ⊢
          have h1 := hx x (by simp) d z (by omega)
          have h2 := ihr (fun t ht => hx t (by simp [ht])) d _ h
          rw [h2, h1, szAll]; omega
    obtain ⟨h1, h2, h3, h4, h5⟩ := odd_zero h
    rw [odd_fine (by omega) (by omega) h3 h4, hall l ih (d + 1) _ h5, sz]
    unfold zz
    split <;> omega
  have h1 := hk t 1 0 h
  have h2 := odd_bound t 1 0 h
  omega

set_option maxHeartbeats 1000000 in
theorem text_any (eD eM eR eS : Value) (aY : Addr) (hP : Ptrs eD eM eR eS) (t : T) (w : World) (lo hi : Nat) (v : Value) (hr : Rep w lo hi t v) (hhi : hi ≤ w.heap.size) (he : Env w eD eM eR eS aY) (h0 : (odd t 1 0).1 = 0) :
    Calls Tryd.prog 78 #[v] w fun e w' => e = .returned (.string ⟨(tx t).toArray⟩) ∧ Below w.heap.size w w' := by
  have hsz := odd_sz h0
  have htl := tx_len t (Rep.ok t hr h0)
  have HE := Lib.hid he; clear he
  have HR := Lib.hid hr
  obtain ⟨k, n, s, p, len, cap, rfl⟩ := rep_form hr
  have HV := Lib.hid (show vRes eD eM eR eS t = .nilIface from by unfold vRes; rw [if_pos h0])
  clear hr h0
  have hlen : ([] : Bs).length + (tx t).length + 64 ≤ 140737488355328 := by simp; omega
  clear htl hsz
  have H1 : ∀ o : Obj, Hid (Below w.heap.size w (w.alloc o)) := fun o => (Below.refl _ _).alloc (Nat.le_refl _) _
  go_enter Tryd.func78, Tryd.ntmps78
  go_wp2_with (first
    | (go_at_call 99; refine (validE_any eD eM eR eS hP t _ lo hi _ (HR.out.alloc hhi _) (by simp; omega) (HE.out.below (H1 _).out).errs).mono ?_; rintro e w2 ⟨rfl, hb2⟩; rw [HV.out]; have HV2 := Lib.hid (heap_old (heap_alloc_new w _) hb2); obtain ⟨x0, x1, x2, x3, _⟩ := box4_in _ _ _ _ _ _ _ HV2.out; have HB2 := Lib.hid ((H1 _).out.trans (hb2.mono (by simp))); have hz2 := hb2.size; simp at hz2; clear hb2)
    | (go_at_call 102; refine (appendText_any w2.heap.size w2 (HE.out.below HB2.out).names (HE.out.below HB2.out).names.lt (Lib.tabBelow_of_tabIs (HE.out.below HB2.out).tab) t [] _ _ lo hi _ (HR.out.below HB2.out hhi) (by omega) (Buf.start w2) hlen).mono ?_; rintro e w3 ⟨v3, rfl, hb3⟩; have HB3 := Lib.hid (HB2.out.trans (hb3.bel.mono (by omega))); have hcv := conv_own hb3.own; clear hb3))
  go_ret
  exact ⟨rfl, HB3.out⟩

end Go.Proofs.YtlinclbodbbemaaDoor

namespace Go.Proofs.YtlinclbodbbemaaDoor
open Go.RowKit
set_option maxRecDepth 100000

/-- One of the listed variables. -/
theorem laid_get (W : World) : ∀ (L : List (String × DataW Unit)) (ps : List MemPlace), DataW.LaidVars Tryd.prog W L ps → ∀ x ∈ L,
    ∃ g t cs fuel p, Tryd.prog.globalNamed x.1 = some g ∧ (Tryd.prog.globals[g]?).map (·.type) = some t ∧ W.var? Tryd.prog x.1 = some cs ∧ DataW.trod (fun _ => ()) Tryd.prog W 0 (fun _ => true) false fuel t cs.toList = some (x.2, p) ∧ ∀ m ∈ MemPlace.row ⟨g, 0, none⟩ cs.size, m ∈ ps
  | [], _, _, x, hx => by cases hx
  | y :: L, ps, h, x, hx => by
    obtain ⟨g, t, cs, fuel, p, q, hg, ht, hv, hd, hq, e⟩ := h
    rcases List.mem_cons.1 hx with rfl | hx
    · exact ⟨g, t, cs, fuel, p, hg, ht, hv, hd, fun m hm => by rw [e]; simp [hm]⟩
    · obtain ⟨g', t', cs', fuel', p', h1, h2, h3, h4, h5⟩ := laid_get W L q hq x hx
      exact ⟨g', t', cs', fuel', p', h1, h2, h3, h4, fun m hm => by rw [e]; simp [h5 m hm]⟩

/-- An array of texts that reads as these holds them. -/
theorem cells_of_strs {H : Type} {enc : TypeId × Value → H} {P : Program} {w : World} {base : Nat} {sp : Nat → Bool} {held : Bool} {fuel : Nat} {t e : TypeId} {n : Nat} {cs : List Value} {zs : List (List UInt8)} {p : List MemPlace}
    (ht : P.underlying t = some (.array n e)) (he : P.underlying e = some .string) (hce : P.cellsOf e = 1) (hct : P.cellsOf t = n)
    (h : DataW.trod enc P w base sp held fuel t cs = some (.agg (zs.map fun z => .lit (.string z)), p)) : cs = zs.map fun z => Value.string ⟨z.toArray⟩ := by
  cases fuel with
  | zero => simp [DataW.trod] at h
  | succ fuel =>
    simp only [DataW.trod, ht, hce, hct, Nat.mul_one] at h
    split at h
    · rename_i hl
      obtain ⟨xs, hm, hx⟩ := Option.map_eq_some_iff.1 h
      have hxs : xs.map (·.1) = zs.map fun z => (DataW.lit (.string z) : DataW H) := by
        have := congrArg Prod.fst hx
        simpa using this
      have hxl : xs.length = n := by simpa using Lib.mapM_length hm
      have hzl : zs.length = n := by
        have := congrArg List.length hxs
        simp at this
        omega
      apply List.ext_getElem?
      intro i
      by_cases hi : i < n
      · obtain ⟨b, hb, hf⟩ := Lib.mapM_at hm i i (by simp [hi])
        obtain ⟨s, hc, rfl, _⟩ := DataW.trod_string he hf
        have h1 : cs[i]? = some (.string s) := by
          have := congrArg (·[0]?) hc
          simpa [List.getElem?_take, List.getElem?_drop] using this
        have h2 : (xs.map (·.1))[i]? = some (DataW.lit (.string s.data.toList) : DataW H) := by simp [hb]
        rw [hxs] at h2
        simp only [List.getElem?_map, Option.map_eq_some_iff, DataW.lit.injEq, Lit.string.injEq] at h2
        obtain ⟨z', hz', rfl⟩ := h2
        simp [h1, hz']
      · rw [List.getElem?_eq_none (by omega), List.getElem?_eq_none (by simp; omega)]
    · cases h

theorem err_of_laid {W : World} {L : List (String × DataW Unit)} (h : laidMet Tryd.prog L W) {nm : String} {text : List UInt8} {g : Nat} (hm : (nm, DataW.iface "*errors.errorString" (.ptr (.agg [.lit (.string text)]))) ∈ L)
    (hg : Tryd.prog.globalNamed nm = some g) (ht : (Tryd.prog.globals[g]?).map (·.type) = some 25) : ∃ a : Addr, W.cell? ⟨g, 0, none⟩ = some (.iface 199 (.pointer (some a))) := by
  obtain ⟨ps, hL, _, hrows⟩ := h
  obtain ⟨g', t, cs, fuel, p, h1, h2, h3, h4, h5⟩ := laid_get W L ps hL _ hm
  obtain rfl := Option.some.inj (hg.symm.trans h1)
  obtain rfl := Option.some.inj (ht.symm.trans h2)
  obtain ⟨l0⟩ := cs
  have ok0 : ∀ u v, l0 = [.iface u v] → Value.okWide Tryd.prog W .any 0 u v := fun u v e => by
    subst e
    exact (hrows g 0 (h5 _ (by simp [MemPlace.row]))).2 u v (by simpa using World.var?_cell hg h3 0)
  obtain ⟨a0, s0, rfl, hc0, _, _, rfl⟩ := errorString_of_trod Tryd.underlying25 Tryd.rowE Tryd.underlying199 Tryd.underlying214 rfl rfl Tryd.underlying9 Tryd.cellsEE Tryd.cellsSS h4 ok0
  exact ⟨a0, by simpa using World.var?_cell hg h3 0⟩

theorem tab_of_laid {W : World} {L : List (String × DataW Unit)} (h : laidMet Tryd.prog L W) {nm : String} {k : IntKind} {zs : List Int} {g t e n : Nat} (hm : (nm, Lib.tabData k zs) ∈ L)
    (hg : Tryd.prog.globalNamed nm = some g) (hty : (Tryd.prog.globals[g]?).map (·.type) = some t) (ht : Tryd.prog.underlying t = some (.array n e)) (he : Tryd.prog.underlying e = some (.int k)) (hce : Tryd.prog.cellsOf e = 1) (hct : Tryd.prog.cellsOf t = n) :
    Lib.TabIs Tryd.prog W nm k zs := by
  obtain ⟨ps, hL, _, hrows⟩ := h
  obtain ⟨g', t', cs, fuel, p, h1, h2, h3, h4, h5⟩ := laid_get W L ps hL _ hm
  obtain rfl := Option.some.inj (hg.symm.trans h1)
  obtain rfl := Option.some.inj (hty.symm.trans h2)
  unfold Lib.TabIs
  rw [h3, ← Lib.cells_of_tab ht he hce hct h4]

theorem names_of_laid {W : World} {L : List (String × DataW Unit)} (h : laidMet Tryd.prog L W) (hm : ("inglenook/lit.names", DataW.agg (names.map fun z => .lit (.string z))) ∈ L) : Names W := by
  obtain ⟨ps, hL, _, hrows⟩ := h
  obtain ⟨g', t', cs, fuel, p, h1, h2, h3, h4, h5⟩ := laid_get W L ps hL _ hm
  have hg : Tryd.prog.globalNamed "inglenook/lit.names" = some 4 := by kernel_rfl
  obtain rfl := Option.some.inj (hg.symm.trans h1)
  have hty : (Tryd.prog.globals[4]?).map (·.type) = some 129 := by kernel_rfl
  obtain rfl := Option.some.inj (hty.symm.trans h2)
  have hcs := cells_of_strs Tryd.underlying129 Tryd.underlying9 Tryd.cellsSS (by kernel_rfl) h4
  refine ⟨fun i hi => ?_⟩
  have hc := World.var?_cell hg h3 i
  rw [hc, ← Array.getElem?_toList, hcs, List.getElem?_map]
  have hi' : i < names.length := hi
  rw [List.getElem?_eq_getElem hi']
  have e : names.getD i [] = names[i] := by simp [List.getD, hi']
  simp only [Option.map_some, nameS, e]

end Go.Proofs.YtlinclbodbbemaaDoor

namespace Go.Proofs.YtlinclbodbbemaaDoor
open Go.RowKit

theorem ptrs_of (aD aM aR aS : Addr) : Ptrs (.iface 199 (.pointer (some aD))) (.iface 199 (.pointer (some aM))) (.iface 199 (.pointer (some aR))) (.iface 199 (.pointer (some aS))) := by
  intro c
  unfold errOf
  split
  · exact ⟨_, rfl⟩
  split
  · exact ⟨_, rfl⟩
  split
  · exact ⟨_, rfl⟩
  · exact ⟨_, rfl⟩

theorem env_of {L : List (String × DataW Unit)} {W : World} (h : laidMet Tryd.prog L W)
    (m1 : ("inglenook/api.ErrDeep", Rows.laid_inglenook_api_ErrDeep) ∈ L) (m2 : ("inglenook/api.ErrMany", Rows.laid_inglenook_api_ErrMany) ∈ L) (m3 : ("inglenook/api.ErrRange", Rows.laid_inglenook_api_ErrRange) ∈ L) (m4 : ("inglenook/api.ErrShape", Rows.laid_inglenook_api_ErrShape) ∈ L)
    (m5 : ("inglenook/api.ErrSyntax", Rows.laid_inglenook_api_ErrSyntax) ∈ L) (m6 : ("inglenook/lit.names", Rows.laid_inglenook_lit_names) ∈ L) (m7 : ("internal/strconv.uint64pow10", Rows.laid_internal_strconv_uint64pow10) ∈ L) :
    ∃ eD eM eR eS aY, Ptrs eD eM eR eS ∧ Env W eD eM eR eS aY := by
  obtain ⟨aD, hD⟩ := err_of_laid (g := 3) h m1 (by kernel_rfl) (by kernel_rfl)
  obtain ⟨aM, hM⟩ := err_of_laid (g := 0) h m2 (by kernel_rfl) (by kernel_rfl)
  obtain ⟨aR, hR⟩ := err_of_laid (g := 2) h m3 (by kernel_rfl) (by kernel_rfl)
  obtain ⟨aS, hS⟩ := err_of_laid (g := 7) h m4 (by kernel_rfl) (by kernel_rfl)
  obtain ⟨aY, hY⟩ := err_of_laid (g := 1) h m5 (by kernel_rfl) (by kernel_rfl)
  exact ⟨_, _, _, _, aY, ptrs_of aD aM aR aS, ⟨⟨hD, hM, hR, hS⟩, names_of_laid h m6, tab_of_laid (g := 20) (t := 195) (e := 157) (n := 20) h m7 (by kernel_rfl) (by kernel_rfl) Tryd.underlying195 Tryd.underlying157 (by kernel_rfl) (by kernel_rfl), hY⟩⟩

end Go.Proofs.YtlinclbodbbemaaDoor

namespace Go.Proofs.YtlinclbodbbemaaDoor
open Go.RowKit
set_option maxRecDepth 100000

theorem laidVars_tail (W : World) : ∀ (A M : List (String × DataW Unit)) (ps : List MemPlace), DataW.LaidVars Tryd.prog W (A ++ M) ps → ∃ pa pm, ps = pa ++ pm ∧ DataW.LaidVars Tryd.prog W M pm
  | [], M, ps, h => ⟨[], ps, rfl, h⟩
  | x :: A, M, ps, h => by
    obtain ⟨g, t, cs, fuel, p, q, _, _, _, _, hq, e⟩ := h
    obtain ⟨pa, pm, e2, hm⟩ := laidVars_tail W A M q hq
    exact ⟨MemPlace.row ⟨g, 0, none⟩ cs.size ++ p ++ pa, pm, by rw [e, e2]; simp, hm⟩
theorem laidVars_head (W : World) : ∀ (M B : List (String × DataW Unit)) (ps : List MemPlace), DataW.LaidVars Tryd.prog W (M ++ B) ps → ∃ pm pb, ps = pm ++ pb ∧ DataW.LaidVars Tryd.prog W M pm
  | [], B, ps, h => ⟨[], ps, rfl, rfl⟩
  | x :: M, B, ps, h => by
    obtain ⟨g, t, cs, fuel, p, q, h1, h2, h3, h4, hq, e⟩ := h
    obtain ⟨pm, pb, e2, hm⟩ := laidVars_head W M B q hq
    exact ⟨MemPlace.row ⟨g, 0, none⟩ cs.size ++ p ++ pm, pb, by rw [e, e2]; simp, ⟨g, t, cs, fuel, p, pm, h1, h2, h3, h4, hm, rfl⟩⟩
theorem laidMet_mid {W : World} (A M B : List (String × DataW Unit)) (h : laidMet Tryd.prog (A ++ (M ++ B)) W) : laidMet Tryd.prog M W := by
  obtain ⟨ps, hL, hnd, hrows⟩ := h
  obtain ⟨pa, pm, rfl, h1⟩ := laidVars_tail W A (M ++ B) ps hL
  obtain ⟨pm, pb, rfl, h2⟩ := laidVars_head W M B pm h1
  rw [List.nodup_append] at hnd
  have hn2 := hnd.2.1
  rw [List.nodup_append] at hn2
  exact ⟨pm, h2, hn2.1, fun b off hm => hrows b off (by simp [hm])⟩

end Go.Proofs.YtlinclbodbbemaaDoor
