/- The walk of the statement on the names of codes and the numbers of texts. -/
import Derived.Test.YtcinhndidkllbaaDoorNames
import Derived.Test.YtcinhndidkllbaaDoorRefNum
import Derived.Test.YtcinhndidkllbaaDoorLaw2
namespace Go.Proofs.YtcinhndidkllbaaDoor
open Go.RowKit
set_option maxRecDepth 100000

/-- What the reading of texts needs of the variables. -/
structure EnvR (w : World) (eD eM eR eS : Value) (aY : Addr) : Prop where
  errs : Errs w eD eM eR eS
  names : Names w
  syn : w.cell? ⟨0, 0, none⟩ = some (.iface 129 (.pointer (some aY)))
theorem EnvR.below {w w' : World} {eD eM eR eS : Value} {aY : Addr} (h : EnvR w eD eM eR eS aY) (hb : Below w.heap.size w w') : EnvR w' eD eM eR eS aY :=
  ⟨h.errs.below hb h.errs.size, h.names.below hb h.names.lt, (hb.cell (p := ⟨0, 0, none⟩) (World.block_lt_of_cell? w _ h.syn)).trans h.syn⟩

/-- A right value's text is read as it. -/
theorem read_txR (eD eM eR eS : Value) (aY : Addr) (hP : Ptrs eD eM eR eS) (t : T) (s : ByteArray) (w : World) (hs : s.size ≤ 140737488355328) (he : EnvR w eD eM eR eS aY) (hok : okT t) (h0 : (odd t 1 0).1 = 0) (ht : s.data.toList = tx t) :
    Calls Tryd.prog 21 #[.string s] w fun e w' => (∃ v, e = .returned (.tuple #[v, .nilIface]) ∧ Rep w' w.heap.size w'.heap.size t v) ∧ Below w.heap.size w w' := by
  have hg : Go .val s.data.toList (.ok t []) := by
    have := Go.full t hok [] (fun _ => rfl)
    rw [List.append_nil] at this
    rw [ht]; exact this
  have hc : cnt t ≤ 4096 := by have := cnt_le_sz t; have := odd_sz h0; omega
  refine (read_any eD eM eR eS aY hP s w hs he.errs he.syn he.names).mono fun e w' hp => ?_
  obtain ⟨hb, h⟩ := hp
  refine ⟨?_, hb⟩
  rcases h with ⟨p, b, hp, h, _⟩ | ⟨t1, t2, h1, h2, h3⟩
  · rcases h with h | ⟨t', h, hp2⟩
    · cases Go.det hg h
    · have e := Go.det hg h
      injection e with _ e
      have := congrArg List.length e
      simp at this
      omega
  · have e := Go.det hg h1
    injection e with e _
    subst e
    rcases h2 with ⟨_, rfl⟩ | ⟨h2, _⟩
    · rcases h3 with ⟨_, h3⟩ | ⟨h3, _⟩
      · exact h3
      · exact absurd h0 h3
    · omega

set_option maxHeartbeats 1000000 in
theorem first2_anyR (eD eM eR eS : Value) (aY : Addr) (hP : Ptrs eD eM eR eS) (w : World) (he : EnvR w eD eM eR eS aY) :
    Calls Tryd.prog 18 #[] w fun e w' => e = .returned (.bool true) ∧ Below w.heap.size w w' := by
  have HE := Lib.hid he; clear he
  go_enter Tryd.func18, Tryd.ntmps18
  go_wp2_with (go_at_call 21; refine (read_txR eD eM eR eS aY hP exT exS _ (by decide) HE.out ex_ok ex_odd ex_tx).mono ?_; rintro e w2 ⟨⟨v, rfl, hr⟩, hb2⟩; have HB2 := Lib.hid hb2; unfold Rep at hr; obtain ⟨p, cap, rfl, _, _, _, _, _, hra⟩ := hr; obtain ⟨b, off, k1, n1, s1, l1, q1, cc1, rfl, hlo, hhi, e1, x10, x11, x12, x13, _⟩ := hra.item 1 (by decide); obtain ⟨b', off', k2, n2, s2, l2, q2, cc2, e9, _, _, e2, x20, x21, x22, x23, _⟩ := hra.item 2 (by decide); cases e9; injection e1 with f1 f2 f3 f4; injection e2 with g1 g2 g3 g4; subst f1 f2 f3 f4 g1 g2 g3 g4; clear hra hb2)
  go_ret
  exact ⟨rfl, HB2.out.alloc HB2.out.size _⟩

theorem litNumber_ref (s : ByteArray) (w : World) (hs : s.size ≤ 140737488355328) (q : Int × Bool) (hq : refNum s.data.toList = q) :
    Calls Tryd.prog 30 #[.string s] w fun e w' => e = .returned (.tuple #[.int .i64 q.1, .bool q.2]) ∧ Below w.heap.size w w' := by
  have h : numOf s.data.toList = q := (refNum_eq _).trans hq
  subst h; exact litNumber_any s w hs

theorem names_long (eD eM eR eS : Value) (aY : Addr) (hP : Ptrs eD eM eR eS) (code : Int) (s : ByteArray) (w : World) (he : EnvR w eD eM eR eS aY) (hs : 100 < s.size) :
    Calls Tryd.prog 6 #[.int .i64 code, .string s] w fun e w' => e = .returned (.bool true) ∧ Below w.heap.size w w' := by
  have HE := Lib.hid he; clear he
  have hsd : decide ((100 : Int) < (s.size : Int)) = true := by simp; omega
  go_enter Tryd.func6, Tryd.ntmps6
  go_wp2_with (go_at_call 18; refine (first2_anyR eD eM eR eS aY hP _ HE.out).mono ?_; rintro e w1 ⟨rfl, hb1⟩; have HB1 := Lib.hid hb1; clear hb1)
  go_ret
  exact ⟨rfl, HB1.out⟩

set_option maxHeartbeats 1000000 in
theorem names_main (eD eM eR eS : Value) (aY : Addr) (hP : Ptrs eD eM eR eS) (code : Int) (s : ByteArray) (w : World) (he : EnvR w eD eM eR eS aY) (hc : I64 code) (hs : s.size ≤ 100) :
    Calls Tryd.prog 6 #[.int .i64 code, .string s] w fun e w' => e = .returned (.bool true) ∧ Below w.heap.size w w' := by
  have HE := Lib.hid he; clear he
  have hsd : decide ((100 : Int) < (s.size : Int)) = false := by simp; omega
  obtain ⟨⟨a, is⟩, hq⟩ : ∃ q, codeL s.data.toList = q := ⟨_, rfl⟩
  obtain ⟨⟨m, on⟩, hm⟩ : ∃ q, refNum s.data.toList = q := ⟨_, rfl⟩
  have Z := Lib.hid (show s.size ≤ 140737488355328 by omega)
  have Z2 := Lib.hid hs
  have C1 := Lib.hid (fun (W : World) (h : Names W) => litCode_any s W h _ hq)
  have C2 := Lib.hid (fun (W : World) => refCode_any s W _ hq)
  have N1 := Lib.hid (fun (W : World) => litNumber_ref s W Z.out _ hm)
  have N2 := Lib.hid (fun (W : World) => refNumber_any s W Z2.out _ hm)
  have M2 := Lib.hid (fun (W : World) => refName_any code W)
  have M1 := Lib.hid (fun (W : World) (h : Names W) => name_any code W h hc)
  clear hq hm hs
  by_cases hin : 0 ≤ code ∧ code ≤ 14
  · obtain ⟨h0, h1⟩ := hin
    have D1 := Lib.hid (fun (W : World) (h : Names W) => litCode_any ⟨(nameOf code).toArray⟩ W h (code, true) (codeL_name h0 h1))
    obtain ⟨N, hN⟩ : ∃ N : ByteArray, ⟨(nameOf code).toArray⟩ = N := ⟨_, rfl⟩
    rw [hN] at D1 M1 M2
    clear hN
    go_enter Tryd.func6, Tryd.ntmps6
    go_wp2_with (first
      | (go_at_call 18; refine (first2_anyR eD eM eR eS aY hP _ HE.out).mono ?_; rintro e w1 ⟨rfl, hb1⟩; have HB1 := Lib.hid hb1; have HE1 := Lib.hid (HE.out.below hb1); clear hb1)
      | (go_at_call 28; first | (with_reducible refine (C1.out _ HE1.out.names).mono ?_; rintro e w2 ⟨rfl, rfl⟩) | (with_reducible refine (D1.out _ HE2.out.names).mono ?_; rintro e w2 ⟨rfl, rfl⟩))
      | (go_at_call 29; refine (C2.out _).mono ?_; rintro e w2 ⟨rfl, rfl⟩)
      | (go_at_call 30; refine (N1.out _).mono ?_; rintro e w2 ⟨rfl, hb2⟩; have HB2 := Lib.hid (HB1.out.trans (hb2.mono HB1.out.size)); have HE2 := Lib.hid (HE1.out.below hb2); clear hb2)
      | (go_at_call 31; refine (N2.out _).mono ?_; rintro e w3 ⟨rfl, rfl⟩)
      | (go_at_call 32; refine (M1.out _ HE2.out.names).mono ?_; rintro e w3 ⟨rfl, rfl⟩)
      | (go_at_call 33; refine (M2.out _).mono ?_; rintro e w3 ⟨rfl, rfl⟩))
    go_ret
    exact ⟨rfl, HB2.out⟩
  · have hout : code < 0 ∨ 14 < code := by omega
    have D1 := Lib.hid (fun (W : World) (h : Names W) => litCode_any ⟨(nameOf code).toArray⟩ W h (0, false) (codeL_out hout))
    obtain ⟨N, hN⟩ : ∃ N : ByteArray, ⟨(nameOf code).toArray⟩ = N := ⟨_, rfl⟩
    rw [hN] at D1 M1 M2
    clear hN
    clear hin
    rcases hout with hout | hout
    · go_enter Tryd.func6, Tryd.ntmps6
      go_wp2_with (first
        | (go_at_call 18; refine (first2_anyR eD eM eR eS aY hP _ HE.out).mono ?_; rintro e w1 ⟨rfl, hb1⟩; have HB1 := Lib.hid hb1; have HE1 := Lib.hid (HE.out.below hb1); clear hb1)
        | (go_at_call 28; first | (with_reducible refine (C1.out _ HE1.out.names).mono ?_; rintro e w2 ⟨rfl, rfl⟩) | (with_reducible refine (D1.out _ HE2.out.names).mono ?_; rintro e w2 ⟨rfl, rfl⟩))
        | (go_at_call 29; refine (C2.out _).mono ?_; rintro e w2 ⟨rfl, rfl⟩)
        | (go_at_call 30; refine (N1.out _).mono ?_; rintro e w2 ⟨rfl, hb2⟩; have HB2 := Lib.hid (HB1.out.trans (hb2.mono HB1.out.size)); have HE2 := Lib.hid (HE1.out.below hb2); clear hb2)
        | (go_at_call 31; refine (N2.out _).mono ?_; rintro e w3 ⟨rfl, rfl⟩)
        | (go_at_call 32; refine (M1.out _ HE2.out.names).mono ?_; rintro e w3 ⟨rfl, rfl⟩)
        | (go_at_call 33; refine (M2.out _).mono ?_; rintro e w3 ⟨rfl, rfl⟩))
      go_ret
      exact ⟨rfl, HB2.out⟩
    · have d14 : decide (code ≤ 14) = false := by simp; omega
      go_enter Tryd.func6, Tryd.ntmps6
      go_wp2_with (first
        | (go_at_call 18; refine (first2_anyR eD eM eR eS aY hP _ HE.out).mono ?_; rintro e w1 ⟨rfl, hb1⟩; have HB1 := Lib.hid hb1; have HE1 := Lib.hid (HE.out.below hb1); clear hb1)
        | (go_at_call 28; first | (with_reducible refine (C1.out _ HE1.out.names).mono ?_; rintro e w2 ⟨rfl, rfl⟩) | (with_reducible refine (D1.out _ HE2.out.names).mono ?_; rintro e w2 ⟨rfl, rfl⟩))
        | (go_at_call 29; refine (C2.out _).mono ?_; rintro e w2 ⟨rfl, rfl⟩)
        | (go_at_call 30; refine (N1.out _).mono ?_; rintro e w2 ⟨rfl, hb2⟩; have HB2 := Lib.hid (HB1.out.trans (hb2.mono HB1.out.size)); have HE2 := Lib.hid (HE1.out.below hb2); clear hb2)
        | (go_at_call 31; refine (N2.out _).mono ?_; rintro e w3 ⟨rfl, rfl⟩)
        | (go_at_call 32; refine (M1.out _ HE2.out.names).mono ?_; rintro e w3 ⟨rfl, rfl⟩)
        | (go_at_call 33; refine (M2.out _).mono ?_; rintro e w3 ⟨rfl, rfl⟩))
      go_ret
      exact ⟨rfl, HB2.out⟩
theorem names_all (eD eM eR eS : Value) (aY : Addr) (hP : Ptrs eD eM eR eS) (code : Int) (s : ByteArray) (w : World) (he : EnvR w eD eM eR eS aY) (hc : I64 code) :
    Calls Tryd.prog 6 #[.int .i64 code, .string s] w fun e w' => e = .returned (.bool true) ∧ Below w.heap.size w w' := by
  by_cases hs : 100 < s.size
  · exact names_long eD eM eR eS aY hP code s w he hs
  · exact names_main eD eM eR eS aY hP code s w he hc (by omega)

end Go.Proofs.YtcinhndidkllbaaDoor
