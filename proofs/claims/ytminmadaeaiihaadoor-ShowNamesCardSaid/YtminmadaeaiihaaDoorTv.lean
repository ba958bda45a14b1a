/- tree.valid, Valid, Expr. -/
import Derived.Test.YtminmadaeaiihaaDoorTck3
import Derived.Test.YtminmadaeaiihaaDoorTc
namespace Go.Proofs.YtminmadaeaiihaaDoor
open Go.RowKit
set_option maxRecDepth 100000

theorem check_any (ad : Nat → Addr) : ∀ t, CkOk ad t := Nd.ind_ (fun o n s v l ih => by
  intro x at_ lp w lo hi hr hhi hcn hS
  simp only [cnt] at hcn
  rw [ckN]
  cases h1 : shapeBad o at_ lp s v l.length with
  | true => rw [if_pos rfl]; exact check_shape ad o n s v l x at_ lp w lo hi hr hhi hS h1
  | false =>
    rw [if_neg (by simp)]
    cases h2 : nameBad o s with
    | true => rw [if_pos rfl]; exact check_name ad o n s v l x at_ lp w lo hi hr hhi hS h1 h2
    | false => rw [if_neg (by simp)]; exact check_fine ad o n s v l ih x at_ lp w lo hi hr hhi (by omega) hS h1 h2)

/-- A fault: none, one without a line, one with a line. -/
inductive Flt where
  | ok
  | bare (k : Nat)
  | at_ (n : Int) (k : Nat)
def firstF : List Nd → Int → Flt
  | [], _ => .ok
  | t :: r, a => match ckN t a false with
    | some f => .at_ f.1 f.2
    | none => firstF r a
def vldF (l : List Nd) (a : Int) : Flt := if 4096 < cntAll l then .bare 3 else if 40 < dpNAll l then .bare 11 else firstF l a
def VPost (ad : Nat → Addr) (r : Flt) (w : World) (e : Ending) (w' : World) : Prop :=
  Below w.heap.size w w' ∧ match r with
    | .ok => e = .returned .nilIface
    | .bare k => e = .returned (ev (ad k))
    | .at_ n k => ∃ bk, e = .returned (.iface 125 (.pointer (some ⟨bk, 0, none⟩))) ∧ w.heap.size ≤ bk ∧ w'.heap[bk]? = some (.cells #[.int .i64 n, ev (ad k)] 127 (0, 0))
theorem firstF_drop (l : List Nd) (j : Nat) (h : j < l.length) (a : Int) : firstF (l.drop j) a = match ckN l[j] a false with
    | some f => .at_ f.1 f.2
    | none => firstF (l.drop (j + 1)) a := by
  rw [List.drop_eq_getElem_cons h, firstF]

set_option maxHeartbeats 2000000 in
theorem valid_at (ad : Nat → Addr) (L : List Nd) (a : Int) (w : World) (lo hi : Nat) (p : Option Addr) (cap : Nat) (hall : NAll w lo hi L p) (hhi : hi ≤ w.heap.size) (hlc : L.length ≤ cap) (hcap : L.length * 112 ≤ 140737488355328) (hS : Sn w ad) :
    Calls Tryd.prog 47 #[.slice p L.length cap, .int .i64 a] w (VPost ad (vldF L a) w) := by
  have HA := Lib.hid hall
  have HS := Lib.hid (fun W (hb : Below w.heap.size w W) => hS.below hb)
  have HM := Lib.hid (fun (W : World) (hb : Below w.heap.size w W) => moreThan_any 4096 (by omega) L W lo hi p cap (hall.below hb hhi) (by have := hb.size; omega) hlc hcap)
  have hll := len_cnt L
  have HW := Lib.hid (Below.refl w.heap.size w)
  clear hall hS
  by_cases h1 : 4096 < cntAll L
  · have HF := Lib.hid (show vldF L a = .bare 3 from by unfold vldF; rw [if_pos h1])
    have HM1 := Lib.hid (by have := HM.out w HW.out; rw [decide_eq_true h1] at this; exact this)
    clear h1 HM hll
    go_enter Tryd.func47, Tryd.ntmps47
    go_wp2_with (go_at_call 74; refine HM1.out.mono ?_; rintro e w2 ⟨rfl, hb2⟩; have HB2 := Lib.hid hb2; have v3 := many_var (HS.out _ hb2); clear hb2)
    go_ret
    rw [HF.out]
    exact ⟨HB2.out, rfl⟩
  have HM1 := Lib.hid (by have := HM.out w HW.out; rw [decide_eq_false h1] at this; exact this)
  have HD := Lib.hid (fun (W : World) (hb : Below w.heap.size w W) => deep_any L W lo hi p cap (HA.out.below hb hhi) (by have := hb.size; omega) hlc hcap (by omega))
  have hdl := dpNAll_le L
  by_cases h2 : 40 < dpNAll L
  · have HF := Lib.hid (show vldF L a = .bare 11 from by unfold vldF; rw [if_neg h1, if_pos h2])
    have h2i : (40 : Int) < (dpNAll L : Int) := by omega
    clear h1 HM hll h2 hdl
    go_enter Tryd.func47, Tryd.ntmps47
    go_wp2_with (first
      | (go_at_call 74; refine HM1.out.mono ?_; rintro e w2 ⟨rfl, hb2⟩; have HB2 := Lib.hid hb2; clear hb2)
      | (go_at_call 10; refine (HD.out _ HB2.out).mono ?_; rintro e w3 ⟨rfl, hb3⟩; have HB3 := Lib.hid (HB2.out.trans (hb3.mono HB2.out.size)); have v3 := deep_var (HS.out _ HB3.out); clear hb3))
    go_ret
    rw [HF.out]
    exact ⟨HB3.out, rfl⟩
  have HF := Lib.hid (show vldF L a = firstF L a from by unfold vldF; rw [if_neg h1, if_neg h2])
  have h2i : ¬ (40 : Int) < (dpNAll L : Int) := by omega
  have hl9 : L.length ≤ 4096 := by omega
  have hc9 : cntAll L ≤ 4096 := by omega
  rw [HF.out]
  clear h1 HM hll h2 hdl
  go_enter Tryd.func47, Tryd.ntmps47
  go_wp2_with (first
    | (go_at_call 74; refine HM1.out.mono ?_; rintro e w2 ⟨rfl, hb2⟩; have HB2 := Lib.hid hb2; clear hb2)
    | (go_at_call 10; refine (HD.out _ HB2.out).mono ?_; rintro e w3 ⟨rfl, hb3⟩; have HB3 := Lib.hid (HB2.out.trans (hb3.mono HB2.out.size)); clear hb3))
  clear h2i HM1 HD HB2 HF
  go_loopw [17] (fun i wr => ∃ j : Nat, j ≤ L.length ∧ i = .int .i64 j ∧ Hid (Below w.heap.size w wr) ∧ Hid (firstF (L.drop j) a = firstF L a)) (fun i _ => L.length - (intOf i).toNat)
  case atStart => exact ⟨0, Nat.zero_le _, rfl, HB3, Lib.hid rfl⟩
  case round =>
    obtain ⟨j, hj, rfl, HL, HD⟩ := hrel
    by_cases hlj : j < L.length
    · have hallr := HA.out.below HL.out hhi
      have hwr := HL.out.size
      obtain ⟨b, off, o, n, s, v, ll, k, m, z, q, ql, qc, r, c, hp, _, hbhi, hli, h0, h1, h2, h3, h4, h5, h6, h7, hrep⟩ := hallr.item j hlj
      have hmem : L[j] ∈ L := List.getElem_mem hlj
      have hcm := cntAll_mem hmem
      have HBW := Lib.hid ((Below.refl wr.heap.size wr).alloc (Nat.le_refl _) (.cells #[.int .i64 o, .int .i64 n, .string s, .int .i64 k, .int .i64 m, .string z, .slice q ql qc, .slice r ll.length c] 40))
      have HBL := Lib.hid (HL.out.trans (HBW.out.mono hwr))
      have HC := Lib.hid (check_any ad L[j] _ a false _ lo hi (hrep.below HBW.out (by omega)) (by have := HBW.out.size; omega) (by omega) (HS.out _ HBL.out))
      have HDR := Lib.hid (firstF_drop L j hlj a)
      have hbw : b < wr.heap.size := by omega
      subst hp
      clear hallr hrep hmem hcm hli
      cases hres : ckN L[j] a false with
      | none =>
        rw [hres] at HC HDR
        clear hres
        go_wp2_with (go_at_call 75; refine HC.out.mono ?_; rintro e w7 ⟨hb7, rfl⟩; have HB7 := Lib.hid (HBL.out.trans (hb7.mono HBL.out.size)); clear hb7)
        go_roundw
        case rel => exact ⟨j + 1, by omega, by go_num, HB7, Lib.hid (HDR.out.symm.trans HD.out)⟩
        case measure => simp [intOf]; omega
      | some f =>
        obtain ⟨fl, fk⟩ := f
        rw [hres] at HC HDR
        clear hres
        have HF := Lib.hid (show firstF L a = .at_ fl fk from HD.out.symm.trans HDR.out)
        go_wp2_with (go_at_call 75; refine HC.out.mono ?_; rintro e w7 ⟨hb7, bk, rfl, hbk, hx7⟩; have HB7 := Lib.hid (HBL.out.trans (hb7.mono HBL.out.size)); have HX7 := Lib.hid hx7; have HBK := Lib.hid (Nat.le_trans HBL.out.size hbk); clear hb7 hbk hx7)
        go_ret
        rw [HF.out]
        exact ⟨HB7.out, bk, rfl, HBK.out, HX7.out⟩
    · have hje : j = L.length := by omega
      have HF := Lib.hid (show firstF L a = .ok from by rw [← HD.out, hje, List.drop_length, firstF])
      go_wp2
      go_ret
      rw [HF.out]
      exact ⟨HL.out, rfl⟩

set_option maxHeartbeats 400000 in
theorem tvalid_any (ad : Nat → Addr) (L : List Nd) (w : World) (lo hi : Nat) (p : Option Addr) (cap : Nat) (hall : NAll w lo hi L p) (hhi : hi ≤ w.heap.size) (hlc : L.length ≤ cap) (hcap : L.length * 112 ≤ 140737488355328) (hS : Sn w ad) :
    Calls Tryd.prog 29 #[.slice p L.length cap] w (VPost ad (vldF L 0) w) := by
  have HC := Lib.hid (valid_at ad L 0 w lo hi p cap hall hhi hlc hcap hS)
  clear hall hS
  go_enter Tryd.func29, Tryd.ntmps29
  have key : ∀ e w', VPost ad (vldF L 0) w e w' → ∃ v, e = .returned v := fun e w' h => by
    obtain ⟨_, h⟩ := h
    cases hr : vldF L 0 <;> rw [hr] at h
    · exact ⟨_, h⟩
    · exact ⟨_, h⟩
    · obtain ⟨_, h, _⟩ := h; exact ⟨_, h⟩
  go_wp2_with (go_at_call 47; refine HC.out.mono ?_; intro e w2 h2; obtain ⟨v2, rfl⟩ := key _ _ h2; have H2 := Lib.hid h2; clear h2)
  go_ret
  exact H2.out

/-- One node, in a row of its own. -/
theorem one_row {w : World} {lo hi : Nat} {o n k m : Int} {s z : ByteArray} {v : T} {l : List Nd} {q r : Option Addr} {ql qc len c : Nat} (h : NRep w lo hi (.mk o n s v l) (.agg #[.int .i64 o, .int .i64 n, .string s, .int .i64 k, .int .i64 m, .string z, .slice q ql qc, .slice r len c])) (g : Nat) (t : TypeId) (hg : hi ≤ g) (hgl : lo ≤ g)
    (hb : w.heap[g]? = some (.cells #[.int .i64 o, .int .i64 n, .string s, .int .i64 k, .int .i64 m, .string z, .slice q ql qc, .slice r len c] t (0, 0))) : NAll w lo (g + 1) [.mk o n s v l] (some ⟨g, 0, none⟩) := by
  obtain ⟨x0, x1, x2, x3, x4, x5, x6, x7, _⟩ := box8_in _ _ _ _ _ _ _ _ _ _ _ hb
  have hadd : ∀ j, (⟨g, 0, none⟩ : Addr).add j = ⟨g, j, none⟩ := fun j => by unfold Addr.add; split <;> simp_all
  unfold NAll
  refine ⟨⟨g, 0, none⟩, _, _, _, _, _, _, _, _, rfl, hgl, Nat.lt_succ_self _, x0, ?_, ?_, ?_, ?_, ?_, ?_, ?_, h.wide (Nat.le_refl _) (by omega), NAll.nil _ _ _ _⟩
  all_goals (rw [hadd]; assumption)

set_option maxHeartbeats 1000000 in
theorem texpr_any (ad : Nat → Addr) (t : Nd) (x : Value) (w : World) (lo hi : Nat) (hr : NRep w lo hi t x) (hlo : lo ≤ w.heap.size) (hhi : hi ≤ w.heap.size) (hS : Sn w ad) :
    Calls Tryd.prog 44 #[x] w (VPost ad (vldF [t] 3) w) := by
  obtain ⟨o, n, s, v, l⟩ := t
  obtain ⟨k, m, z, q, ql, qc, p, cap, rfl, _⟩ := hr.open
  have HB := Lib.hid ((Below.refl w.heap.size w).alloc (Nat.le_refl _) (.cells #[.int .i64 o, .int .i64 n, .string s, .int .i64 k, .int .i64 m, .string z, .slice q ql qc, .slice p l.length cap] 40))
  have HS := Lib.hid (fun W (hb : Below w.heap.size w W) => hS.below hb)
  have HC := Lib.hid (fun (W : World) (g : Nat) (tt : TypeId) (hb : Below w.heap.size w W) (hg : w.heap.size ≤ g) (hx : W.heap[g]? = some (.cells #[.int .i64 o, .int .i64 n, .string s, .int .i64 k, .int .i64 m, .string z, .slice q ql qc, .slice p l.length cap] tt (0, 0))) =>
    valid_at ad [.mk o n s v l] 3 W lo (g + 1) (some ⟨g, 0, none⟩) 1 (one_row (hr.below hb hhi) g tt (by omega) (by omega) hx) (heap_lt hx) (by simp) (by simp) (hS.below hb))
  clear hr hS
  have key : ∀ W e w', VPost ad (vldF [.mk o n s v l] 3) W e w' → ∃ v, e = .returned v := fun W e w' h => by
    obtain ⟨_, h⟩ := h
    cases hr : vldF [.mk o n s v l] 3 <;> rw [hr] at h
    · exact ⟨_, h⟩
    · exact ⟨_, h⟩
    · obtain ⟨_, h, _⟩ := h; exact ⟨_, h⟩
  have fin : ∀ (W : World) e w', Below w.heap.size w W → VPost ad (vldF [.mk o n s v l] 3) W e w' → VPost ad (vldF [.mk o n s v l] 3) w e w' := fun W e w' hb h => by
    obtain ⟨h1, h2⟩ := h
    refine ⟨hb.trans (h1.mono hb.size), ?_⟩
    cases hr : vldF [.mk o n s v l] 3 <;> rw [hr] at h2
    · exact h2
    · exact h2
    · obtain ⟨bk, h3, h4, h5⟩ := h2; exact ⟨bk, h3, Nat.le_trans hb.size h4, h5⟩
  go_enter Tryd.func44, Tryd.ntmps44
  have HB2 := Lib.hid (HB.out.alloc HB.out.size (.cells #[.int .i64 o, .int .i64 n, .string s, .int .i64 k, .int .i64 m, .string z, .slice q ql qc, .slice p l.length cap] 40))
  have hx2 := heap_alloc_new (w.alloc (.cells #[.int .i64 o, .int .i64 n, .string s, .int .i64 k, .int .i64 m, .string z, .slice q ql qc, .slice p l.length cap] 40)) (.cells #[.int .i64 o, .int .i64 n, .string s, .int .i64 k, .int .i64 m, .string z, .slice q ql qc, .slice p l.length cap] 40)
  rw [World.size_alloc] at hx2
  have HC2 := Lib.hid (HC.out _ (w.heap.size + 1) _ HB2.out (by omega) hx2)
  clear hx2 HC
  go_wp2_with (go_at_call 47; refine HC2.out.mono ?_; intro e w2 h2; obtain ⟨v2, rfl⟩ := key _ _ _ h2; have H2 := Lib.hid (fin _ _ _ HB2.out h2); clear h2)
  go_ret
  exact H2.out
end Go.Proofs.YtminmadaeaiihaaDoor
