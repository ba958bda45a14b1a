/- (No ErrSyntax asked.) lit.Text and lit.Plain: what they answer of any right value. The document's tree: what may stand where. Which values are right, as the statements ask. The document's tree: how many nodes, how deep. How an argument that is a list of values is read: the trees that it holds, within the reach. How an argument that is a node, or a list of nodes, is read: the trees that it holds, within the reach. -/
import Derived.Test.YtemkikjcjhmlaaaGreatDoorM12
import Derived.Test.YtemkikjcjhmlaaaGreatDoorM07
import Derived.Lib.SmallJoins
import Derived.Test.YtemkikjcjhmlaaaGreatDoorM03
import Derived.Test.YtemkikjcjhmlaaaGreatDoorM04
import Derived.Handy
import Derived.Test.YtemkikjcjhmlaaaGreatDoorM00
import Derived.SizedLaws
import Derived.ChangeArms
namespace Go.Proofs.YtemkikjcjhmlaaaGreatDoor
open Go.RowKit
set_option maxRecDepth 100000

/-- What the walks need of the program's variables. -/
structure EnvS (w : World) (eD eM eR eS : Value) : Prop where
  errs : Errs w eD eM eR eS
  names : Names w
  tab : Lib.TabIs Tryz.prog w "internal/strconv.uint64pow10" .u64 Lib.pow10Tab
theorem EnvS.below {w w' : World} {eD eM eR eS : Value} (h : EnvS w eD eM eR eS) (hb : Below w.heap.size w w') : EnvS w' eD eM eR eS :=
  ⟨h.errs.below hb h.errs.size, h.names.below hb h.names.lt, Lib.tabBelow_of_tabIs h.tab w' hb⟩

theorem odd_szS {t : T} (h : (odd t 1 0).1 = 0) : sz t ≤ 4096 := by
  have hk : ∀ (t : T) (d z : Int), (odd t d z).1 = 0 → (odd t d z).2 = z + sz t := by
    refine T.ind_ (fun k n s l ih d z h => ?_)
    have hall : ∀ (l : List T), (∀ t ∈ l, ∀ (d z : Int), (odd t d z).1 = 0 → (odd t d z).2 = z + sz t) → ∀ (d z : Int), (oddAll l d z).1 = 0 → (oddAll l d z).2 = z + szAll l := by
      intro l
      induction l with
      | nil => intro _ d z _; simp [oddAll, szAll]
      | cons x r ihr =>
        intro hx d z h
        rw [oddAll] at h ⊢
        by_cases hc : (odd x d z).1 ≠ 0
        · rw [if_pos hc] at h; exact absurd h hc
        · rw [if_neg hc] at h ⊢
          have h1 := hx x (by simp) d z (by omega)
          have h2 := ihr (fun t ht => hx t (by simp [ht])) d _ h
          rw [h2, h1, szAll]; omega
    obtain ⟨h1, h2, h3, h4, h5⟩ := odd_zero h
    rw [odd_fine (by omega) (by omega) h3 h4, hall l ih (d + 1) _ h5, sz]
    unfold zz
    split <;> omega
  have h1 := hk t 1 0 h
  have h2 := odd_bound t 1 0 h
  omega

set_option maxHeartbeats 1000000 in
theorem textS_any (eD eM eR eS : Value) (hP : Ptrs eD eM eR eS) (t : T) (w : World) (lo hi : Nat) (v : Value) (hr : Rep w lo hi t v) (hhi : hi ≤ w.heap.size) (he : EnvS w eD eM eR eS) (h0 : (odd t 1 0).1 = 0) :
    Calls Tryz.prog 58 #[v] w fun e w' => e = .returned (.string ⟨(tx t).toArray⟩) ∧ Below w.heap.size w w' := by
  have hsz := odd_szS h0
  have htl := tx_len t (Rep.ok t hr h0)
  have HE := Lib.hid he; clear he
  have HR := Lib.hid hr
  obtain ⟨k, n, s, p, len, cap, rfl⟩ := rep_form hr
  have HV := Lib.hid (show vRes eD eM eR eS t = .nilIface from by unfold vRes; rw [if_pos h0])
  clear hr h0
  have hlen : ([] : Bs).length + (tx t).length + 64 ≤ 140737488355328 := by simp; omega
  clear htl hsz
  have H1 : ∀ o : Obj, Hid (Below w.heap.size w (w.alloc o)) := fun o => (Below.refl _ _).alloc (Nat.le_refl _) _
  go_enter Tryz.func58, Tryz.ntmps58
  go_wp2_with (first
    | (go_at_call 79; refine (validE_any eD eM eR eS hP t _ lo hi _ (HR.out.alloc hhi _) (by simp; omega) (HE.out.below (H1 _).out).errs).mono ?_; rintro e w2 ⟨rfl, hb2⟩; rw [HV.out]; have HV2 := Lib.hid (heap_old (heap_alloc_new w _) hb2); obtain ⟨x0, x1, x2, x3, _⟩ := box4_in _ _ _ _ _ _ _ HV2.out; have HB2 := Lib.hid ((H1 _).out.trans (hb2.mono (by simp))); have hz2 := hb2.size; simp at hz2; clear hb2)
    | (go_at_call 87; refine (appendText_any w2.heap.size w2 (HE.out.below HB2.out).names (HE.out.below HB2.out).names.lt (Lib.tabBelow_of_tabIs (HE.out.below HB2.out).tab) t [] _ _ lo hi _ (HR.out.below HB2.out hhi) (by omega) (Buf.start w2) hlen).mono ?_; rintro e w3 ⟨v3, rfl, hb3⟩; have HB3 := Lib.hid (HB2.out.trans (hb3.bel.mono (by omega))); have hcv := conv_own hb3.own; clear hb3))
  go_ret
  exact ⟨rfl, HB3.out⟩

end Go.Proofs.YtemkikjcjhmlaaaGreatDoor

namespace Go.Proofs.YtemkikjcjhmlaaaGreatDoor
open Go.RowKit
set_option maxRecDepth 100000

/-- The document's number of a place. -/
def rp (a : Int) : Int := if a = 0 then 9 else if a = 1 then 7 else if a = 2 then 8 else if a = 3 then 1 else if a = 4 then 2 else if a = 5 then 6 else if a = 6 then 3 else if a = 7 then 4 else 5

set_option maxHeartbeats 400000 in
theorem rexpr_any (o : Int) (w : World) : Calls Tryz.prog 48 #[.int .i64 o] w fun e w' => e = .returned (.bool (isExprB o)) ∧ w' = w := by
  go_enter Tryz.func48, Tryz.ntmps48
  by_cases h1 : (1 : Int) ≤ o
  · by_cases h2 : o ≤ 29
    · have h3 : isExprB o = (o != 26) := by simp [isExprB, h1, h2]
      go_wp2
      go_ret
      exact ⟨by first | rfl | (rw [h3]; rfl), rfl⟩
    · have h3 : isExprB o = false := by simp [isExprB, h2]
      go_wp2
      go_ret
      exact ⟨by first | rfl | (rw [h3]; rfl), rfl⟩
  · have h3 : isExprB o = false := by simp [isExprB, h1]
    go_wp2
    go_ret
    exact ⟨by first | rfl | (rw [h3]; rfl), rfl⟩
set_option maxHeartbeats 400000 in
theorem rstmt_any (o : Int) (w : World) : Calls Tryz.prog 49 #[.int .i64 o] w fun e w' => e = .returned (.bool (isStmtB o)) ∧ w' = w := by
  go_enter Tryz.func49, Tryz.ntmps49
  by_cases h1 : (40 : Int) ≤ o
  · by_cases h2 : o ≤ 51
    · have h3 : isStmtB o = (o != 50) := by simp [isStmtB, h1, h2]
      go_wp2
      go_ret
      exact ⟨by first | rfl | (rw [h3]; rfl), rfl⟩
    · have h3 : isStmtB o = false := by simp [isStmtB, h2]
      go_wp2
      go_ret
      exact ⟨by first | rfl | (rw [h3]; rfl), rfl⟩
  · have h3 : isStmtB o = false := by simp [isStmtB, h1]
    go_wp2
    go_ret
    exact ⟨by first | rfl | (rw [h3]; rfl), rfl⟩

set_option maxHeartbeats 1000000 in
theorem stands_any (o a : Int) (ha : 0 ≤ a ∧ a ≤ 8) (w : World) : Calls Tryz.prog 26 #[.int .i64 o, .int .i64 (rp a)] w fun e w' => e = .returned (.bool (mayStandB o a true)) ∧ w' = w := by
  have hc : a = 0 ∨ a = 1 ∨ a = 2 ∨ a = 3 ∨ a = 4 ∨ a = 5 ∨ a = 6 ∨ a = 7 ∨ a = 8 := by omega
  clear ha
  have HX := Lib.hid (fun w => rexpr_any o w)
  have HT := Lib.hid (fun w => rstmt_any o w)
  rcases hc with rfl | rfl | rfl | rfl | rfl | rfl | rfl | rfl | rfl
  · rw [show rp 0 = 9 from rfl]
    have HM := Lib.hid (show mayStandB o 0 true = isStmtB o from by simp [mayStandB])
    go_enter Tryz.func26, Tryz.ntmps26
    go_wp2_with (go_at_call 49; refine (HT.out _).mono ?_; rintro e w2 ⟨rfl, rfl⟩)
    go_ret; exact ⟨by rw [HM.out]; rfl, rfl⟩
  · rw [show rp 1 = 7 from rfl]
    have HM := Lib.hid (show mayStandB o 1 true = (o == 52) from by simp [mayStandB])
    go_enter Tryz.func26, Tryz.ntmps26
    go_wp2
    go_ret; exact ⟨by rw [HM.out]; rfl, rfl⟩
  · rw [show rp 2 = 8 from rfl]
    have HM := Lib.hid (show mayStandB o 2 true = (o == 50) from by simp [mayStandB])
    go_enter Tryz.func26, Tryz.ntmps26
    go_wp2
    go_ret; exact ⟨by rw [HM.out]; rfl, rfl⟩
  · rw [show rp 3 = 1 from rfl]
    have HM := Lib.hid (show mayStandB o 3 true = isExprB o from by simp [mayStandB])
    go_enter Tryz.func26, Tryz.ntmps26
    go_wp2_with (go_at_call 48; refine (HX.out _).mono ?_; rintro e w2 ⟨rfl, rfl⟩)
    go_ret; exact ⟨by rw [HM.out]; rfl, rfl⟩
  · rw [show rp 4 = 2 from rfl]
    obtain ⟨b, hb⟩ : ∃ b, b = isExprB o := ⟨_, rfl⟩
    have HM := Lib.hid (show mayStandB o 4 true = (b || (o == 26)) from by rw [hb]; simp [mayStandB, Bool.or_comm])
    rw [← hb] at HX
    clear hb
    go_enter Tryz.func26, Tryz.ntmps26
    cases b
    · go_wp2_with (go_at_call 48; refine (HX.out _).mono ?_; rintro e w2 ⟨rfl, rfl⟩)
      go_ret; exact ⟨by rw [HM.out]; rfl, rfl⟩
    · go_wp2_with (go_at_call 48; refine (HX.out _).mono ?_; rintro e w2 ⟨rfl, rfl⟩)
      go_ret; exact ⟨by rw [HM.out]; rfl, rfl⟩
  · rw [show rp 5 = 6 from rfl]
    have HM := Lib.hid (show mayStandB o 5 true = (o == 25) from by simp [mayStandB])
    go_enter Tryz.func26, Tryz.ntmps26
    go_wp2
    go_ret; exact ⟨by rw [HM.out]; rfl, rfl⟩
  · rw [show rp 6 = 3 from rfl]
    have HM := Lib.hid (show mayStandB o 6 true = (((o == 2) || (o == 22)) || (o == 20)) from by simp [mayStandB])
    go_enter Tryz.func26, Tryz.ntmps26
    by_cases k2 : o = 2
    · subst k2; go_wp2; go_ret; exact ⟨by rw [HM.out]; rfl, rfl⟩
    have k2b : (o == 2) = false := by simpa using k2
    by_cases k22 : o = 22
    · subst k22; go_wp2; go_ret; exact ⟨by rw [HM.out]; rfl, rfl⟩
    have k22b : (o == 22) = false := by simpa using k22
    go_wp2; go_ret; exact ⟨by rw [HM.out, k2b, k22b]; rfl, rfl⟩
  · rw [show rp 7 = 4 from rfl]
    have HM := Lib.hid (show mayStandB o 7 true = (o == 2) from by simp [mayStandB])
    go_enter Tryz.func26, Tryz.ntmps26
    go_wp2
    go_ret; exact ⟨by rw [HM.out]; rfl, rfl⟩
  · rw [show rp 8 = 5 from rfl]
    have HM := Lib.hid (show mayStandB o 8 true = ((o == 2) || (o == 26)) from by simp [mayStandB])
    go_enter Tryz.func26, Tryz.ntmps26
    by_cases k2 : o = 2
    · subst k2; go_wp2; go_ret; exact ⟨by rw [HM.out]; rfl, rfl⟩
    have k2b : (o == 2) = false := by simpa using k2
    go_wp2; go_ret; exact ⟨by rw [HM.out, k2b]; rfl, rfl⟩

set_option maxHeartbeats 1000000 in
theorem counts_any (o : Int) (k : Nat) (hk : k ≤ 9223372036854775807) (w : World) : Calls Tryz.prog 27 #[.int .i64 o, .int .i64 (k : Int)] w fun e w' => e = .returned (.bool (enoughB o k)) ∧ w' = w := by
  go_enter Tryz.func27, Tryz.ntmps27
  go_wp2
  all_goals go_ret
  all_goals refine ⟨?_, rfl⟩
  all_goals refine congrArg Ending.returned (congrArg Value.bool ?_)
  all_goals rw [Bool.eq_iff_iff]
  all_goals simp_all [enoughB, boundsN]
  all_goals omega
end Go.Proofs.YtemkikjcjhmlaaaGreatDoor

namespace Go.Proofs.YtemkikjcjhmlaaaGreatDoor
open Go.RowKit

set_option maxHeartbeats 1000000 in
theorem right_any (t : T) (w : World) (lo hi : Nat) (v : Value) (hr : Rep w lo hi t v) (hhi : hi ≤ w.heap.size) :
    Calls Tryz.prog 24 #[v] w fun e w' => e = .returned (.bool (rightB t)) ∧ Below w.heap.size w w' := by
  obtain ⟨k, n, s, p, len, cap, rfl⟩ := rep_form hr
  go_enter Tryz.func24, Tryz.ntmps24
  go_wp2_with (go_at_call 44; refine (rvalid_any t _ lo hi _ (hr.alloc hhi _) (by simp; omega)).mono ?_; rintro e w2 ⟨rfl, hb2⟩)
  go_ret
  exact ⟨rfl, ((Below.refl _ _).alloc (Nat.le_refl _) _).trans (hb2.mono (by simp))⟩

def allRight (l : List T) : Bool := l.all rightB
theorem allRight_drop (l : List T) (j : Nat) (h : j < l.length) : allRight (l.drop j) = (rightB l[j] && allRight (l.drop (j + 1))) := by
  unfold allRight; rw [List.drop_eq_getElem_cons h]; rfl

def fewRight (l : List T) (most : Int) : Bool := decide ((l.length : Int) ≤ most) && allRight l

end Go.Proofs.YtemkikjcjhmlaaaGreatDoor

namespace Go.Proofs.YtemkikjcjhmlaaaGreatDoor
open Go.RowKit
set_option maxRecDepth 100000

/-- How many are left of so many; below 0: there are more. -/
def manyR (c left : Nat) : Int := if c ≤ left then ((left - c : Nat) : Int) else -1
def ManyOk (L : List Nd) : Prop := ∀ (w : World) (lo hi : Nat) (p : Option Addr) (cap left : Nat), NAll w lo hi L p → L.length ≤ cap → L.length * 112 ≤ 140737488355328 → left ≤ 1000000 → hi ≤ w.heap.size →
  Calls Tryz.prog 22 #[.slice p L.length cap, .int .i64 (left : Int)] w fun e w' => e = .returned (.int .i64 (manyR (cntAll L) left)) ∧ w' = w
set_option maxHeartbeats 1000000 in
theorem rmany_of (L : List Nd) (ih : ∀ t ∈ L, ManyOk t.l) : ManyOk L := by
  intro w lo hi p cap left hall hlc hcap hleft hhi
  have HIH := Lib.hid ih
  have HA := Lib.hid hall
  clear ih hall
  go_enter Tryz.func22, Tryz.ntmps22
  go_wp2
  go_loop [1, 5] (fun lf i => ∃ (j m : Nat), j ≤ L.length ∧ i = .int .i64 j ∧ lf = .int .i64 (m : Int) ∧ Hid (m + cntAll (L.take j) = left)) (fun _ i => L.length - (intOf i).toNat)
  case atStart => exact ⟨0, left, Nat.zero_le _, rfl, rfl, Lib.hid (by simp [cntAll])⟩
  case round =>
    obtain ⟨j, m, hj, rfl, rfl, hm⟩ := hrel
    have hm6 : (m : Int) ≤ 1000000 := by have := hm.out; omega
    by_cases hlj : j < L.length
    · obtain ⟨b, off, o, n, s, v, ll, k, mm, z, q, ql, qc, r, c, hp, _, hbhi, hli, h0, h1, h2, h3, h4, h5, h6, h7, hrep⟩ := HA.out.item j hlj
      have hsp := cntAll_split L j hlj
      have hle := cntAll_take_le L (j + 1)
      have hih := HIH.out _ (List.getElem_mem hlj)
      rw [hli] at hih hrep hsp
      simp only [Nd.l, cnt] at hih hsp
      obtain ⟨_, _, _, _, e1, e2, e3⟩ := hrep.parts
      by_cases hm1 : m < 1
      · have HF := Lib.hid (show (manyR (cntAll L) left) = -1 from by have := hm.out; unfold manyR; rw [if_neg (by omega)])
        have hmI : (m : Int) < 1 := by omega
        clear hsp hle hih hrep e3
        go_wp2
        go_ret
        exact ⟨by rw [HF.out]; rfl, rfl⟩
      · have hmI : ¬ (m : Int) < 1 := by omega
        have hC := hih w lo hi r c (m - 1) e3 e1 e2 (by omega) hhi
        unfold manyR at hC
        have hcast : ((m - 1 : Nat) : Int) = (m : Int) - 1 := by omega
        rw [hcast] at hC
        have hbw : b < w.heap.size := by omega
        subst hp
        by_cases hc : cntAll ll ≤ m - 1
        · rw [if_pos hc] at hC
          obtain ⟨m2, hm2⟩ : ∃ m2, m2 = m - 1 - cntAll ll := ⟨_, rfl⟩
          rw [← hm2] at hC
          have HC := Lib.hid hC
          have HM2 := Lib.hid (show m2 + cntAll (L.take (j + 1)) = left from by have := hm.out; omega)
          have hm0 : ¬ (m2 : Int) < 0 := by omega
          clear hC hsp hle hih hrep e3 hcast hm2 hc
          go_wp2_with (go_at_call 22; refine HC.out.mono ?_; rintro e w2 ⟨rfl, rfl⟩)
          go_round
          case rel => exact ⟨j + 1, m2, by omega, by go_num, rfl, HM2⟩
          case measure => simp [intOf]; omega
        · rw [if_neg hc] at hC
          have HC := Lib.hid hC
          have HF := Lib.hid (show (manyR (cntAll L) left) = -1 from by have := hm.out; unfold manyR; rw [if_neg (by omega)])
          clear hC hsp hle hih hrep e3 hcast hc
          go_wp2_with (go_at_call 22; refine HC.out.mono ?_; rintro e w2 ⟨rfl, rfl⟩)
          go_ret
          exact ⟨by rw [HF.out]; rfl, rfl⟩
    · have hje : j = L.length := by omega
      have HF := Lib.hid (show (manyR (cntAll L) left) = (m : Int) from by
        have := hm.out
        rw [hje, List.take_length] at this
        unfold manyR
        rw [if_pos (by omega)]; omega)
      go_wp2
      go_ret
      exact ⟨by rw [HF.out]; rfl, rfl⟩
theorem rmany_any (L : List Nd) : ManyOk L := by
  have key : ∀ t : Nd, ManyOk t.l := Nd.ind_ (fun o n s v l ih => rmany_of l ih)
  exact rmany_of L (fun t _ => key t)
set_option maxHeartbeats 400000 in
theorem rtooMany_any (L : List Nd) (w : World) (lo hi : Nat) (p : Option Addr) (cap : Nat) (hall : NAll w lo hi L p) (hlc : L.length ≤ cap) (hcap : L.length * 112 ≤ 140737488355328) (hhi : hi ≤ w.heap.size) :
    Calls Tryz.prog 14 #[.slice p L.length cap] w fun e w' => e = .returned (.bool (decide (4096 < cntAll L))) ∧ w' = w := by
  have hC := rmany_any L w lo hi p cap 4096 hall hlc hcap (by omega) hhi
  unfold manyR at hC
  clear hall
  by_cases h : cntAll L ≤ 4096
  · rw [if_pos h] at hC
    have HC := Lib.hid hC
    have HD := Lib.hid (show decide (4096 < cntAll L) = false from decide_eq_false (by omega))
    have hn : ¬ ((4096 - cntAll L : Nat) : Int) < 0 := by omega
    clear hC h
    go_enter Tryz.func14, Tryz.ntmps14
    go_wp2_with (go_at_call 22; refine HC.out.mono ?_; rintro e w2 ⟨rfl, rfl⟩)
    go_ret
    exact ⟨by rw [HD.out]; rfl, rfl⟩
  · rw [if_neg h] at hC
    have HC := Lib.hid hC
    have HD := Lib.hid (show decide (4096 < cntAll L) = true from decide_eq_true (by omega))
    clear hC h
    go_enter Tryz.func14, Tryz.ntmps14
    go_wp2_with (go_at_call 22; refine HC.out.mono ?_; rintro e w2 ⟨rfl, rfl⟩)
    go_ret
    exact ⟨by rw [HD.out]; rfl, rfl⟩

def RDeepOk (L : List Nd) : Prop := ∀ (w : World) (lo hi : Nat) (p : Option Addr) (cap : Nat), NAll w lo hi L p → hi ≤ w.heap.size → cntAll L ≤ 1000000000 →
  Calls Tryz.prog 16 #[.slice p L.length cap] w fun e w' => e = .returned (.int .i64 (dpNAll L : Int)) ∧ w' = w
set_option maxHeartbeats 1000000 in
theorem rdeep_of (L : List Nd) (ih : ∀ t ∈ L, RDeepOk t.l) : RDeepOk L := by
  intro w lo hi p cap hall hhi hN
  have HIH := Lib.hid ih
  have HA := Lib.hid hall
  clear ih hall
  have hdle := dpNAll_le L
  have hll := len_cnt L
  go_enter Tryz.func16, Tryz.ntmps16
  go_wp2
  go_loop [3, 4] (fun d i => ∃ j : Nat, j ≤ L.length ∧ d = .int .i64 (dpNAll (L.take j) : Int) ∧ i = .int .i64 j) (fun _ i => L.length - (intOf i).toNat)
  case atStart => exact ⟨0, Nat.zero_le _, by simp [dpNAll], rfl⟩
  case round =>
    obtain ⟨j, hj, rfl, rfl⟩ := hrel
    by_cases hlj : j < L.length
    · obtain ⟨b, off, o, n, s, v, ll, k, m, z, q, ql, qc, r, c, hp, _, hbhi, hli, h0, h1, h2, h3, h4, h5, h6, h7, hrep⟩ := HA.out.item j hlj
      have hmem : L[j] ∈ L := List.getElem_mem hlj
      have hcn := cntAll_mem hmem
      have hsp := dpNAll_split L j hlj
      have hdm := dpNAll_le (L.take j)
      have hct := cntAll_take_le L j
      have hih := HIH.out _ hmem
      rw [hli] at hih hrep hsp hcn
      simp only [Nd.l, dpN, cnt] at hih hsp hcn
      have hdl := dpNAll_le ll
      obtain ⟨_, _, _, _, e1, _, e3⟩ := hrep.parts
      have hC := hih w lo hi r c e3 hhi (by omega)
      have hbw : b < w.heap.size := by omega
      have hb1 : (dpNAll ll : Int) ≤ 1000000000 := by omega
      have hb2 : (dpNAll (L.take j) : Int) ≤ 1000000000 := by omega
      subst hp
      obtain ⟨d1, hd1⟩ : ∃ d1 : Nat, d1 = dpNAll (L.take j) := ⟨_, rfl⟩
      obtain ⟨d2, hd2⟩ : ∃ d2 : Nat, d2 = dpNAll ll := ⟨_, rfl⟩
      have HD := Lib.hid (show dpNAll (L.take (j + 1)) = max d1 (1 + d2) from (by rw [hsp, hd1, hd2]))
      rw [← hd1] at hb2 ⊢
      rw [← hd2] at hb1 hC
      have HC := Lib.hid hC
      clear hrep hli hih hsp hmem e3 hd1 hd2 hdm hdl hcn hC
      by_cases hmx : (d1 : Int) < 1 + (d2 : Int)
      · go_wp2_with (go_at_call 16; refine HC.out.mono ?_; rintro e w2 ⟨rfl, rfl⟩)
        go_round
        case rel => exact ⟨j + 1, by omega, by rw [HD.out]; congr 1; omega, by go_num⟩
        case measure => simp [intOf]; omega
      · go_wp2_with (go_at_call 16; refine HC.out.mono ?_; rintro e w2 ⟨rfl, rfl⟩)
        go_round
        case rel => exact ⟨j + 1, by omega, by rw [HD.out]; congr 1; omega, by go_num⟩
        case measure => simp [intOf]; omega
    · have hje : j = L.length := by omega
      subst hje
      go_wp2
      go_ret
      exact ⟨by simp, rfl⟩
theorem rdeep_any (L : List Nd) : RDeepOk L := by
  have key : ∀ t : Nd, RDeepOk t.l := Nd.ind_ (fun o n s v l ih => rdeep_of l ih)
  exact rdeep_of L (fun t _ => key t)
end Go.Proofs.YtemkikjcjhmlaaaGreatDoor

namespace Go.Proofs.YtemkikjcjhmlaaaGreatDoor
open Go.RowKit
set_option maxRecDepth 100000

theorem Tryz.cellsV : Tryz.prog.cellsOf 31 = 4 := by kernel_rfl
theorem Tryz.bytesV : Tryz.prog.bytesOf 31 = 56 := by kernel_rfl
theorem Tryz.cellsI : Tryz.prog.cellsOf 3 = 1 := by kernel_rfl
theorem Tryz.cellsL : Tryz.prog.cellsOf 2 = 1 := by kernel_rfl
theorem Tryz.cellsS : Tryz.prog.cellsOf 9 = 1 := by kernel_rfl
theorem Tryz.cellsVs : Tryz.prog.cellsOf 29 = 1 := by kernel_rfl

theorem i64_of_wf {n : Int} (h : (Lit.int .i64 n).wf = true) : I64 n := by
  unfold Lit.wf at h
  unfold I64
  have h1 : IntKind.i64.min = -9223372036854775808 := rfl
  have h2 : IntKind.i64.max = 9223372036854775807 := rfl
  simp only [Bool.and_eq_true, decide_eq_true_eq, h1, h2] at h
  exact h

section
variable {H : Type} {enc : TypeId × Value → H} {w : World} {spare : Nat → Bool} {held : Bool}

def Fit (t : TypeId) (d : DataW H) : Prop := ∀ n ∈ DataW.weights Tryz.prog t d, n ≤ reachBytes

theorem weightsAll_mem {P : Program} {e : TypeId} : ∀ {l : List (DataW H)} {d : DataW H}, d ∈ l → ∀ n ∈ DataW.weights P e d, n ∈ DataW.weightsAll P e l
  | [], _, h, _, _ => absurd h (by simp)
  | x :: r, d, h, n, hn => by
    simp only [DataW.weightsAll, List.mem_append]
    rcases List.mem_cons.1 h with rfl | h
    · exact Or.inl hn
    · exact Or.inr (weightsAll_mem h n hn)

theorem read_both : ∀ fuel : Nat,
    (∀ (cs : List Value) (x : DataW H × List MemPlace), DataW.trod enc Tryz.prog w 0 (fun _ => true) held fuel 31 cs = some x → Fit 31 x.1 → ∃ t, ∃ c0 c1 c2 c3, cs = [c0, c1, c2, c3] ∧ Rep w 0 w.heap.size t (.agg #[c0, c1, c2, c3])) ∧
    (∀ (cs : List Value) (x : DataW H × List MemPlace), DataW.trod enc Tryz.prog w 0 (fun _ => true) held fuel 29 cs = some x → Fit 29 x.1 → ∃ l p cap, cs = [.slice p (l : List T).length cap] ∧ l.length ≤ cap ∧ l.length * 56 ≤ 140737488355328 ∧ RepAll w 0 w.heap.size l p) := by
  intro fuel
  induction fuel using Nat.strongRecOn with
  | ind fuel ih =>
    refine ⟨fun cs x h hf => ?_, fun cs x h hf => ?_⟩
    · obtain ⟨xs, n, hn, hx, hlen, hxl, hg⟩ := DataW.trod_struct Tryz.underlying31 h
      rw [Tryz.cellsV] at hlen
      match cs, hlen with
      | [c0, c1, c2, c3], _ =>
        match xs, hxl with
        | [y0, y1, y2, y3], _ =>
          have g0 := hg 0 _ rfl
          have g1 := hg 1 _ rfl
          have g2 := hg 2 _ rfl
          have g3 := hg 3 _ rfl
          simp [Tryz.cellsI, Tryz.cellsL, Tryz.cellsS, Tryz.cellsVs] at g0 g1 g2 g3
          obtain ⟨k, hk, hk2, hkw⟩ := DataW.trod_int Tryz.underlying3 g0
          obtain ⟨m, hm, hm2, hmw⟩ := DataW.trod_int Tryz.underlying2 g1
          obtain ⟨s, hs, hs2, _⟩ := DataW.trod_string Tryz.underlying9 g2
          simp only [List.cons.injEq, and_true] at hk hm hs
          subst hk hm hs
          have hw : ∀ q ∈ DataW.weightsEach Tryz.prog [3, 2, 9, 29] [y0.1, y1.1, y2.1, y3.1], q ≤ reachBytes := by
            intro q hq
            refine hf q ?_
            rw [hx]
            simpa [DataW.weights, Tryz.underlying31] using hq
          have hs3 : s.size ≤ reachBytes := by
            have := hw s.data.toList.length (by rw [hs2]; simp [DataW.weightsEach, DataW.weights])
            simpa using this
          obtain ⟨l, p, cap, hc, h1, h2, h3⟩ := (ih n (by omega)).2 _ _ g3 (fun q hq => hw q (by simp only [DataW.weightsEach, List.mem_append]; exact Or.inr (Or.inr (Or.inr (Or.inl hq)))))
          simp only [List.cons.injEq, and_true] at hc
          subst hc
          have hs4 : s.size ≤ 140737488355328 := by unfold reachBytes at hs3; omega
          exact ⟨.mk k m s l, _, _, _, _, rfl, Rep.mk_ (i64_of_wf hkw) (i64_of_wf hmw) hs4 h1 h2 h3⟩
    · rcases DataW.trod_slice Tryz.underlying29 h with ⟨rfl, _⟩ | ⟨a, len, cap, elems, rest, n, hn, rfl, hx, _, hlc, _, hel, hit, hsp, _⟩
      · exact ⟨[], none, 0, rfl, Nat.le_refl _, by simp, by unfold RepAll; trivial⟩
      · obtain ⟨hrl, _⟩ := hsp rfl
        rw [Tryz.cellsV] at hit
        have hbytes : cap * 56 ≤ reachBytes := by
          have := hf ((elems.length + rest.length) * 56) (by rw [hx]; simp [DataW.weights, Tryz.underlying29, Tryz.bytesV])
          rw [hel, hrl] at this
          have e : len + (cap - len) = cap := by omega
          rw [e] at this; exact this
        have hel2 : ∀ i, i < len → ∃ t c0 c1 c2 c3, w.cell? (a.add (i * 4)) = some c0 ∧ w.cell? (a.add (i * 4 + 1)) = some c1 ∧ w.cell? (a.add (i * 4 + 2)) = some c2 ∧ w.cell? (a.add (i * 4 + 3)) = some c3 ∧ Rep w 0 w.heap.size t (.agg #[c0, c1, c2, c3]) := by
          intro i hi
          have hI := hit i hi
          have hex : elems[i]? = some (elems[i]'(by omega)) := List.getElem?_eq_getElem (by omega)
          rw [hex] at hI
          cases hcs : w.cells? 0 (a.add (i * 4)) 4 with
          | none => rw [hcs] at hI; simp at hI
          | some cs' =>
            rw [hcs] at hI
            simp only [Option.bind_some] at hI
            obtain ⟨t, c0, c1, c2, c3, hc, hr⟩ := (ih n (by omega)).1 _ _ hI (fun q hq => hf q (by
              rw [hx]
              simp only [DataW.weights, Tryz.underlying29, List.mem_cons, List.mem_append]
              exact Or.inr (Or.inl (weightsAll_mem (List.mem_map_of_mem (List.getElem_mem (by omega))) q hq))))
            obtain ⟨_, _, hat⟩ := World.cells?_some hcs
            subst hc
            refine ⟨t, c0, c1, c2, c3, ?_, ?_, ?_, ?_, hr⟩
            · have := hat 0 (by omega); rw [add_add] at this; simpa using this
            · have := hat 1 (by omega); rw [add_add] at this; simpa using this
            · have := hat 2 (by omega); rw [add_add] at this; simpa using this
            · have := hat 3 (by omega); rw [add_add] at this; simpa using this
        have hmk : ∀ (m i0 : Nat), i0 + m = len → ∃ l : List T, l.length = m ∧ RepAll w 0 w.heap.size l (some (a.add (i0 * 4))) := by
          intro m
          induction m with
          | zero => intro i0 _; exact ⟨[], rfl, by unfold RepAll; trivial⟩
          | succ m ihm =>
            intro i0 hi0
            obtain ⟨t, c0, c1, c2, c3, e0, e1, e2, e3, hr⟩ := hel2 i0 (by omega)
            obtain ⟨l, hl, hrl⟩ := ihm (i0 + 1) (by omega)
            refine ⟨t :: l, by simp [hl], ?_⟩
            unfold RepAll
            have hblk := World.block_lt_of_cell? w _ e0
            refine ⟨a.add (i0 * 4), c0, c1, c2, c3, rfl, Nat.zero_le _, hblk, e0, by rw [add_add]; exact e1, by rw [add_add]; exact e2, by rw [add_add]; exact e3, hr, ?_⟩
            rw [add_add]
            have e : i0 * 4 + 4 = (i0 + 1) * 4 := by omega
            rw [e]; exact hrl
        obtain ⟨l, hl, hrl2⟩ := hmk len 0 (by omega)
        rw [Nat.zero_mul, add_zero] at hrl2
        unfold reachBytes at hbytes
        exact ⟨l, some a, cap, by rw [hl], by omega, by omega, hrl2⟩
end

end Go.Proofs.YtemkikjcjhmlaaaGreatDoor

namespace Go.Proofs.YtemkikjcjhmlaaaGreatDoor
open Go.RowKit
set_option maxRecDepth 100000

theorem Tryz.cellsN : Tryz.prog.cellsOf 33 = 8 := by kernel_rfl
theorem Tryz.bytesN : Tryz.prog.bytesOf 33 = 112 := by kernel_rfl
theorem Tryz.cellsNs : Tryz.prog.cellsOf 22 = 1 := by kernel_rfl

section
variable {H : Type} {enc : TypeId × Value → H} {w : World} {spare : Nat → Bool} {held : Bool}

set_option maxHeartbeats 1000000 in
theorem readN_both : ∀ fuel : Nat,
    (∀ (cs : List Value) (x : DataW H × List MemPlace), DataW.trod enc Tryz.prog w 0 (fun _ => true) held fuel 33 cs = some x → Fit 33 x.1 → ∃ t, ∃ c0 c1 c2 c3 c4 c5 c6 c7, cs = [c0, c1, c2, c3, c4, c5, c6, c7] ∧ NRep w 0 w.heap.size t (.agg #[c0, c1, c2, c3, c4, c5, c6, c7])) ∧
    (∀ (cs : List Value) (x : DataW H × List MemPlace), DataW.trod enc Tryz.prog w 0 (fun _ => true) held fuel 22 cs = some x → Fit 22 x.1 → ∃ l p cap, cs = [.slice p (l : List Nd).length cap] ∧ l.length ≤ cap ∧ l.length * 112 ≤ 140737488355328 ∧ NAll w 0 w.heap.size l p) := by
  intro fuel
  induction fuel using Nat.strongRecOn with
  | ind fuel ih =>
    refine ⟨fun cs x h hf => ?_, fun cs x h hf => ?_⟩
    · obtain ⟨xs, n, hn, hx, hlen, hxl, hg⟩ := DataW.trod_struct Tryz.underlying33 h
      rw [Tryz.cellsN] at hlen
      match cs, hlen with
      | [c0, c1, c2, c3, c4, c5, c6, c7], _ =>
        match xs, hxl with
        | [y0, y1, y2, y3, y4], _ =>
          have g0 := hg 0 _ rfl
          have g1 := hg 1 _ rfl
          have g2 := hg 2 _ rfl
          have g3 := hg 3 _ rfl
          have g4 := hg 4 _ rfl
          simp [Tryz.cellsI, Tryz.cellsV, Tryz.cellsS, Tryz.cellsNs] at g0 g1 g2 g3 g4
          obtain ⟨o, ho, ho2, how⟩ := DataW.trod_int Tryz.underlying3 g0
          obtain ⟨m, hm, hm2, hmw⟩ := DataW.trod_int Tryz.underlying3 g1
          obtain ⟨s, hs, hs2, _⟩ := DataW.trod_string Tryz.underlying9 g2
          simp only [List.cons.injEq, and_true] at ho hm hs
          subst ho hm hs
          have hw : ∀ q ∈ DataW.weightsEach Tryz.prog [3, 3, 9, 31, 22] [y0.1, y1.1, y2.1, y3.1, y4.1], q ≤ reachBytes := by
            intro q hq
            refine hf q ?_
            rw [hx]
            simpa [DataW.weights, Tryz.underlying33] using hq
          have hs3 : s.size ≤ reachBytes := by
            have := hw s.data.toList.length (by rw [hs2]; simp [DataW.weightsEach, DataW.weights])
            simpa using this
          obtain ⟨v, e0, e1, e2, e3, he, hv⟩ := (read_both n).1 _ _ g3 (fun q hq => hw q (by simp only [DataW.weightsEach, List.mem_append]; exact Or.inr (Or.inr (Or.inr (Or.inl hq)))))
          simp only [List.cons.injEq, and_true] at he
          obtain ⟨rfl, rfl, rfl, rfl⟩ := he
          obtain ⟨l, p, cap, hc, h1, h2, h3⟩ := (ih n (by omega)).2 _ _ g4 (fun q hq => hw q (by simp only [DataW.weightsEach, List.mem_append]; exact Or.inr (Or.inr (Or.inr (Or.inr (Or.inl hq))))))
          simp only [List.cons.injEq, and_true] at hc
          subst hc
          have hs4 : s.size ≤ 140737488355328 := by unfold reachBytes at hs3; omega
          obtain ⟨k', n', s', p', len', cap', hform⟩ := rep_form hv
          simp only [Value.agg.injEq, Array.mk.injEq, List.cons.injEq, and_true] at hform
          obtain ⟨rfl, rfl, rfl, rfl⟩ := hform
          refine ⟨.mk o m s v l, _, _, _, _, _, _, _, _, rfl, ?_⟩
          unfold NRep
          exact ⟨_, _, _, _, _, _, _, _, rfl, i64_of_wf how, i64_of_wf hmw, hs4, hv, h1, h2, h3⟩
    · rcases DataW.trod_slice Tryz.underlying22 h with ⟨rfl, _⟩ | ⟨a, len, cap, elems, rest, n, hn, rfl, hx, _, hlc, _, hel, hit, hsp, _⟩
      · exact ⟨[], none, 0, rfl, Nat.le_refl _, by simp, NAll.nil _ _ _ _⟩
      · obtain ⟨hrl, _⟩ := hsp rfl
        rw [Tryz.cellsN] at hit
        have hbytes : cap * 112 ≤ reachBytes := by
          have := hf ((elems.length + rest.length) * 112) (by rw [hx]; simp [DataW.weights, Tryz.underlying22, Tryz.bytesN])
          rw [hel, hrl] at this
          have e : len + (cap - len) = cap := by omega
          rw [e] at this; exact this
        have hel2 : ∀ i, i < len → ∃ t c0 c1 c2 c3 c4 c5 c6 c7, w.cell? (a.add (i * 8)) = some c0 ∧ w.cell? (a.add (i * 8 + 1)) = some c1 ∧ w.cell? (a.add (i * 8 + 2)) = some c2 ∧ w.cell? (a.add (i * 8 + 3)) = some c3 ∧ w.cell? (a.add (i * 8 + 4)) = some c4 ∧ w.cell? (a.add (i * 8 + 5)) = some c5 ∧ w.cell? (a.add (i * 8 + 6)) = some c6 ∧ w.cell? (a.add (i * 8 + 7)) = some c7 ∧ NRep w 0 w.heap.size t (.agg #[c0, c1, c2, c3, c4, c5, c6, c7]) := by
          intro i hi
          have hI := hit i hi
          have hex : elems[i]? = some (elems[i]'(by omega)) := List.getElem?_eq_getElem (by omega)
          rw [hex] at hI
          cases hcs : w.cells? 0 (a.add (i * 8)) 8 with
          | none => rw [hcs] at hI; simp at hI
          | some cs' =>
            rw [hcs] at hI
            simp only [Option.bind_some] at hI
            obtain ⟨t, c0, c1, c2, c3, c4, c5, c6, c7, hc, hr⟩ := (ih n (by omega)).1 _ _ hI (fun q hq => hf q (by
              rw [hx]
              simp only [DataW.weights, Tryz.underlying22, List.mem_cons, List.mem_append]
              exact Or.inr (Or.inl (weightsAll_mem (List.mem_map_of_mem (List.getElem_mem (by omega))) q hq))))
            obtain ⟨_, _, hat⟩ := World.cells?_some hcs
            subst hc
            refine ⟨t, c0, c1, c2, c3, c4, c5, c6, c7, ?_, ?_, ?_, ?_, ?_, ?_, ?_, ?_, hr⟩
            · have := hat 0 (by omega); rw [add_add] at this; simpa using this
            · have := hat 1 (by omega); rw [add_add] at this; simpa using this
            · have := hat 2 (by omega); rw [add_add] at this; simpa using this
            · have := hat 3 (by omega); rw [add_add] at this; simpa using this
            · have := hat 4 (by omega); rw [add_add] at this; simpa using this
            · have := hat 5 (by omega); rw [add_add] at this; simpa using this
            · have := hat 6 (by omega); rw [add_add] at this; simpa using this
            · have := hat 7 (by omega); rw [add_add] at this; simpa using this
        have hmk : ∀ (m i0 : Nat), i0 + m = len → ∃ l : List Nd, l.length = m ∧ NAll w 0 w.heap.size l (some (a.add (i0 * 8))) := by
          intro m
          induction m with
          | zero => intro i0 _; exact ⟨[], rfl, NAll.nil _ _ _ _⟩
          | succ m ihm =>
            intro i0 hi0
            obtain ⟨t, c0, c1, c2, c3, c4, c5, c6, c7, e0, e1, e2, e3, e4, e5, e6, e7, hr⟩ := hel2 i0 (by omega)
            obtain ⟨l, hl, hrl⟩ := ihm (i0 + 1) (by omega)
            refine ⟨t :: l, by simp [hl], ?_⟩
            unfold NAll
            have hblk := World.block_lt_of_cell? w _ e0
            refine ⟨a.add (i0 * 8), c0, c1, c2, c3, c4, c5, c6, c7, rfl, Nat.zero_le _, hblk, e0, by rw [add_add]; exact e1, by rw [add_add]; exact e2, by rw [add_add]; exact e3, by rw [add_add]; exact e4, by rw [add_add]; exact e5, by rw [add_add]; exact e6, by rw [add_add]; exact e7, hr, ?_⟩
            rw [add_add]
            have e : i0 * 8 + 8 = (i0 + 1) * 8 := by omega
            rw [e]; exact hrl
        obtain ⟨l, hl, hrl2⟩ := hmk len 0 (by omega)
        rw [Nat.zero_mul, add_zero] at hrl2
        unfold reachBytes at hbytes
        exact ⟨l, some a, cap, by rw [hl], by omega, by omega, hrl2⟩
end
end Go.Proofs.YtemkikjcjhmlaaaGreatDoor
