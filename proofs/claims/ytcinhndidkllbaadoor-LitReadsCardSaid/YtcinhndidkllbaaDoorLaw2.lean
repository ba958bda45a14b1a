/- What the statements of the second chapter lean on: reading a right text; lit.Plain; lit.Number; the chapter's example. -/
import Derived.Test.YtcinhndidkllbaaDoorText
import Derived.Test.YtcinhndidkllbaaDoorRead2
import Derived.Deep.QuietTactic
namespace Go.Proofs.YtcinhndidkllbaaDoor
open Go.RowKit
set_option maxRecDepth 100000

/-- A right value's text is read as it. -/
theorem read_tx (eD eM eR eS : Value) (aY : Addr) (hP : Ptrs eD eM eR eS) (t : T) (s : ByteArray) (w : World) (hs : s.size ≤ 140737488355328) (he : Env w eD eM eR eS aY) (hok : okT t) (h0 : (odd t 1 0).1 = 0) (ht : s.data.toList = tx t) :
    Calls Tryd.prog 21 #[.string s] w fun e w' => (∃ v, e = .returned (.tuple #[v, .nilIface]) ∧ Rep w' w.heap.size w'.heap.size t v) ∧ Below w.heap.size w w' := by
  have hg : Go .val s.data.toList (.ok t []) := by
    have := Go.full t hok [] (fun _ => rfl)
    rw [List.append_nil] at this
    rw [ht]; exact this
  have hc : cnt t ≤ 4096 := by have := cnt_le_sz t; have := odd_sz h0; omega
  refine (read_any eD eM eR eS aY hP s w hs he.errs he.syn he.names).mono fun e w' hp => ?_
  obtain ⟨hb, h⟩ := hp
  refine ⟨?_, hb⟩
  rcases h with ⟨p, b, hp, h, _⟩ | ⟨t1, t2, h1, h2, h3⟩
  · rcases h with h | ⟨t', h, hp2⟩
    · cases Go.det hg h
    · have e := Go.det hg h
      injection e with _ e
      have := congrArg List.length e
      simp at this
      omega
  · have e := Go.det hg h1
    injection e with e _
    subst e
    rcases h2 with ⟨_, rfl⟩ | ⟨h2, _⟩
    · rcases h3 with ⟨_, h3⟩ | ⟨h3, _⟩
      · exact h3
      · exact absurd h0 h3
    · omega

/-- A text that is none is told where. -/
def BadPost (aY : Addr) (p : Nat) (w : World) (e : Ending) (w' : World) : Prop :=
  Below w.heap.size w w' ∧ ∃ b, e = .returned (.tuple #[zeroV, .iface 63 (.pointer (some ⟨b, 0, none⟩))]) ∧ w.heap.size ≤ b ∧ w'.heap[b]? = some (.cells #[.int .i64 p, .iface 129 (.pointer (some aY))] 65 (0, 0))
theorem drop_inj {α : Type} {l : List α} {p q : Nat} (hp : p ≤ l.length) (hq : q ≤ l.length) (h : l.drop p = l.drop q) : p = q := by
  have := congrArg List.length h
  simp at this
  omega
theorem read_bad (eD eM eR eS : Value) (aY : Addr) (hP : Ptrs eD eM eR eS) (s : ByteArray) (w : World) (hs : s.size ≤ 140737488355328) (he : Env w eD eM eR eS aY) (p : Nat) (hp : p ≤ s.size) (hg : Go .val s.data.toList (.bad (s.data.toList.drop p)) ∨ ∃ t, Go .val s.data.toList (.ok t (s.data.toList.drop p)) ∧ p < s.size) :
    Calls Tryd.prog 21 #[.string s] w (BadPost aY p w) := by
  have hl : s.data.toList.length = s.size := by simp
  refine (read_any eD eM eR eS aY hP s w hs he.errs he.syn he.names).mono fun e w' hq => ?_
  obtain ⟨hb, h⟩ := hq
  refine ⟨hb, ?_⟩
  rcases h with ⟨q, b, hq, h, h2, h3, h4⟩ | ⟨t1, t2, h1, h2, h3⟩
  · have hpq : p = q := by
      rcases hg with hg | ⟨t, hg, _⟩
      · rcases h with h | ⟨t', h, _⟩
        · have e := Go.det hg h
          injection e with e
          exact drop_inj (by omega) (by omega) e
        · cases Go.det hg h
      · rcases h with h | ⟨t', h, _⟩
        · cases Go.det hg h
        · have e := Go.det hg h
          injection e with _ e
          exact drop_inj (by omega) (by omega) e
    subst hpq
    exact ⟨b, h2, h3, h4⟩
  · rcases hg with hg | ⟨t, hg, hlt⟩
    · cases Go.det hg h1
    · have e := Go.det hg h1
      injection e with _ e
      have := congrArg List.length e
      simp at this
      omega

def plainOf (t : T) : ByteArray := if t.k = 2 then t.s else if t.k = 4 then ⟨#[123, 108, 105, 115, 116, 125]⟩ else ⟨(tx t).toArray⟩
set_option maxHeartbeats 1000000 in
theorem plain_any (eD eM eR eS : Value) (aY : Addr) (hP : Ptrs eD eM eR eS) (t : T) (w : World) (lo hi : Nat) (v : Value) (hr : Rep w lo hi t v) (hhi : hi ≤ w.heap.size) (he : Env w eD eM eR eS aY) (h0 : (odd t 1 0).1 = 0) :
    Calls Tryd.prog 23 #[v] w fun e w' => e = .returned (.string (plainOf t)) ∧ Below w.heap.size w w' := by
  have hsz := odd_sz h0
  have htl := tx_len t (Rep.ok t hr h0)
  have HE := Lib.hid he; clear he
  have HR := Lib.hid hr
  have HV := Lib.hid (show vRes eD eM eR eS t = .nilIface from by unfold vRes; rw [if_pos h0])
  clear h0
  have hlen : ([] : Bs).length + (tx t).length + 64 ≤ 140737488355328 := by simp; omega
  clear htl hsz
  have H1 : ∀ o : Obj, Hid (Below w.heap.size w (w.alloc o)) := fun o => (Below.refl _ _).alloc (Nat.le_refl _) _
  obtain ⟨k, n, s, l⟩ := t
  unfold Rep at hr
  obtain ⟨p, cap, rfl, _⟩ := hr
  by_cases h2 : k = 2
  · subst h2
    go_enter Tryd.func23, Tryd.ntmps23
    go_wp2_with (go_at_call 16; refine (validE_any eD eM eR eS hP _ _ lo hi _ (HR.out.alloc hhi _) (by simp; omega) (HE.out.below (H1 _).out).errs).mono ?_; rintro e w2 ⟨rfl, hb2⟩; rw [HV.out]; have HV2 := Lib.hid (heap_old (heap_alloc_new w _) hb2); obtain ⟨x0, x1, x2, x3, _⟩ := box4_in _ _ _ _ _ _ _ HV2.out; have HB2 := Lib.hid ((H1 _).out.trans (hb2.mono (by simp))); have hz2 := hb2.size; simp at hz2; clear hb2)
    go_ret
    exact ⟨rfl, HB2.out⟩
  · by_cases h4 : k = 4
    · subst h4
      go_enter Tryd.func23, Tryd.ntmps23
      go_wp2_with (go_at_call 16; refine (validE_any eD eM eR eS hP _ _ lo hi _ (HR.out.alloc hhi _) (by simp; omega) (HE.out.below (H1 _).out).errs).mono ?_; rintro e w2 ⟨rfl, hb2⟩; rw [HV.out]; have HV2 := Lib.hid (heap_old (heap_alloc_new w _) hb2); obtain ⟨x0, x1, x2, x3, _⟩ := box4_in _ _ _ _ _ _ _ HV2.out; have HB2 := Lib.hid ((H1 _).out.trans (hb2.mono (by simp))); have hz2 := hb2.size; simp at hz2; clear hb2)
      go_ret
      exact ⟨rfl, HB2.out⟩
    · have HP2 := Lib.hid (show plainOf (.mk k n s l) = ⟨(tx (.mk k n s l)).toArray⟩ from by unfold plainOf; exact (if_neg h2).trans (if_neg h4))
      generalize (T.mk k n s l) = t at *
      go_enter Tryd.func23, Tryd.ntmps23
      go_wp2_with (first
        | (go_at_call 16; refine (validE_any eD eM eR eS hP t _ lo hi _ (HR.out.alloc hhi _) (by simp; omega) (HE.out.below (H1 _).out).errs).mono ?_; rintro e w2 ⟨rfl, hb2⟩; rw [HV.out]; have HV2 := Lib.hid (heap_old (heap_alloc_new w _) hb2); obtain ⟨x0, x1, x2, x3, _⟩ := box4_in _ _ _ _ _ _ _ HV2.out; have HB2 := Lib.hid ((H1 _).out.trans (hb2.mono (by simp))); have hz2 := hb2.size; simp at hz2; clear hb2)
        | (go_at_call 42; refine (appendText_any w2.heap.size w2 (HE.out.below HB2.out).names (HE.out.below HB2.out).names.lt (Lib.tabBelow_of_tabIs (HE.out.below HB2.out).tab) t [] _ _ lo hi _ (HR.out.below HB2.out hhi) (by omega) (Buf.start w2) hlen).mono ?_; rintro e w3 ⟨v3, rfl, hb3⟩; have HB3 := Lib.hid (HB2.out.trans (hb3.bel.mono (by omega))); have hcv := conv_own hb3.own; clear hb3))
      go_ret
      exact ⟨by rw [HP2.out]; rfl, HB3.out⟩

/-- The number that a text says. -/
def numOf (s : Bs) : Int × Bool := match numC 9223372036854775807 s with | (some n, []) => (n, true) | _ => (0, false)
set_option maxHeartbeats 1000000 in
theorem litNumber_any (s : ByteArray) (w : World) (hs : s.size ≤ 140737488355328) :
    Calls Tryd.prog 30 #[.string s] w fun e w' => e = .returned (.tuple #[.int .i64 (numOf s.data.toList).1, .bool (numOf s.data.toList).2]) ∧ Below w.heap.size w w' := by
  rcases hq : numC 9223372036854775807 s.data.toList with ⟨o, r⟩
  have hR0 : Hid (RdIs (w.alloc (.cells #[.string s, .int .i64 0, .slice none 0 0, .int .i64 0, .int .i64 0, .int .i64 0, .int .i64 0, .string ⟨#[]⟩, .slice none 0 0] 62)) w.heap.size s ⟨0, .slice none 0 0, 0, 0, .int .i64 0, .int .i64 0, .string ⟨#[]⟩, .slice none 0 0⟩) := heap_alloc_new w _
  have H1 := Lib.hid ((Below.refl w.heap.size w).alloc (Nat.le_refl _) (.cells #[.string s, .int .i64 0, .slice none 0 0, .int .i64 0, .int .i64 0, .int .i64 0, .int .i64 0, .string ⟨#[]⟩, .slice none 0 0] 62))
  have HQ := Lib.hid hq
  have hz := Lib.hid (show (w.alloc (.cells #[.string s, .int .i64 0, .slice none 0 0, .int .i64 0, .int .i64 0, .int .i64 0, .int .i64 0, .string ⟨#[]⟩, .slice none 0 0] 62)).heap.size = w.heap.size + 1 from by simp)
  cases o with
  | none =>
    have hv : numOf s.data.toList = (0, false) := by unfold numOf; rw [hq]
    rw [hv]
    clear hq hv
    go_enter Tryd.func30, Tryd.ntmps30
    go_wp2_with (go_at_call 52; refine (num_bad s _ _ 9223372036854775807 9223372036854775807 _ hR0.out (Nat.zero_le _) hs (by omega) (by omega) (by omega) HQ.out).mono ?_; rintro e w2 ⟨p', hp', hd', rfl, hx2, hb2⟩)
    go_ret2
    have hb := but_below hb2 hR0.out.lt
    exact ⟨rfl, H1.out.trans hb⟩
  | some n =>
    cases r with
    | nil =>
      have hv : numOf s.data.toList = (n, true) := by unfold numOf; rw [hq]
      rw [hv]
      clear hq hv
      go_enter Tryd.func30, Tryd.ntmps30
      go_wp2_with (go_at_call 52; refine (num_ok s _ _ 9223372036854775807 9223372036854775807 _ hR0.out (Nat.zero_le _) hs (by omega) (by omega) (by omega) HQ.out).mono ?_; rintro e w2 ⟨p', hp', hd', rfl, hx2, hb2⟩; obtain ⟨h0, h1, h2, h3, h4, h5, h6, h7, h8, hf, hlt⟩ := hx2.open; have HB2 := Lib.hid (but_below hb2 hR0.out.lt); have hpe : ((p' : Int) != (s.size : Int)) = false := (by have := congrArg List.length hd'; simp at this; simp; omega); clear hd' hb2 hx2)
      go_ret2
      exact ⟨rfl, H1.out.trans HB2.out⟩
    | cons c r =>
      have hv : numOf s.data.toList = (0, false) := by unfold numOf; rw [hq]
      rw [hv]
      clear hq hv
      go_enter Tryd.func30, Tryd.ntmps30
      go_wp2_with (go_at_call 52; refine (num_ok s _ _ 9223372036854775807 9223372036854775807 _ hR0.out (Nat.zero_le _) hs (by omega) (by omega) (by omega) HQ.out).mono ?_; rintro e w2 ⟨p', hp', hd', rfl, hx2, hb2⟩; obtain ⟨h0, h1, h2, h3, h4, h5, h6, h7, h8, hf, hlt⟩ := hx2.open; have HB2 := Lib.hid (but_below hb2 hR0.out.lt); have hpe : ((p' : Int) != (s.size : Int)) = true := (by have := congrArg List.length hd'; simp at this; simp; omega); clear hd' hb2 hx2)
      go_ret2
      exact ⟨rfl, H1.out.trans HB2.out⟩

/-- The chapter's example, as a value. -/
abbrev exT : T := .mk 4 0 ByteArray.empty [.mk 0 1 ByteArray.empty [], .mk 2 0 ⟨#[97, 34]⟩ [], .mk 1 (-1) ByteArray.empty []]
abbrev exS : ByteArray := ⟨#[123, 49, 44, 32, 34, 97, 92, 34, 34, 44, 32, 35, 45, 49, 125]⟩
theorem ex_tx : exS.data.toList = tx exT := by
  have h1 : Lib.itoa 1 = [49] := by unfold Lib.itoa; rw [if_neg (by omega)]; exact dec_small (by omega)
  have h2 : Lib.itoa (-1) = [45, 49] := by unfold Lib.itoa; rw [if_pos (by omega)]; exact congrArg (45 :: ·) (dec_small (u := 1) (by omega))
  rw [tx4, txs, txr, txr, txr, tx0, tx1, tx2, h1, h2]
  rfl
theorem ex_ok : okT exT := by
  rw [okT]
  refine .inr (.inr (.inr (.inr ⟨rfl, rfl, rfl, ?_⟩)))
  refine ⟨?_, ?_, ?_, trivial⟩
  · rw [okT]; exact .inl ⟨rfl, by unfold I64; omega, rfl, rfl⟩
  · rw [okT]; exact .inr (.inr (.inl ⟨rfl, rfl, rfl, by decide⟩))
  · rw [okT]; exact .inr (.inl ⟨rfl, by omega, by omega, rfl, rfl⟩)
theorem ex_odd : (odd exT 1 0).1 = 0 := (odd_of_ok exT 1 0 ex_ok (by simp [dp, dpAll]; omega) (by simp [sz, szAll]; decide)).1

set_option maxHeartbeats 1000000 in
theorem first2_any (eD eM eR eS : Value) (aY : Addr) (hP : Ptrs eD eM eR eS) (w : World) (he : Env w eD eM eR eS aY) :
    Calls Tryd.prog 18 #[] w fun e w' => e = .returned (.bool true) ∧ Below w.heap.size w w' := by
  have HE := Lib.hid he; clear he
  go_enter Tryd.func18, Tryd.ntmps18
  go_wp2_with (go_at_call 21; refine (read_tx eD eM eR eS aY hP exT exS _ (by decide) HE.out ex_ok ex_odd ex_tx).mono ?_; rintro e w2 ⟨⟨v, rfl, hr⟩, hb2⟩; have HB2 := Lib.hid hb2; unfold Rep at hr; obtain ⟨p, cap, rfl, _, _, _, _, _, hra⟩ := hr; obtain ⟨b, off, k1, n1, s1, l1, q1, cc1, rfl, hlo, hhi, e1, x10, x11, x12, x13, _⟩ := hra.item 1 (by decide); obtain ⟨b', off', k2, n2, s2, l2, q2, cc2, e9, _, _, e2, x20, x21, x22, x23, _⟩ := hra.item 2 (by decide); cases e9; injection e1 with f1 f2 f3 f4; injection e2 with g1 g2 g3 g4; subst f1 f2 f3 f4 g1 g2 g3 g4; clear hra hb2)
  go_ret
  exact ⟨rfl, HB2.out.alloc HB2.out.size _⟩

end Go.Proofs.YtcinhndidkllbaaDoor
