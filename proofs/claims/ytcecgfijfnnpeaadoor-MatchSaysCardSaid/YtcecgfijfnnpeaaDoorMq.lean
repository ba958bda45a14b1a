/- Package match: which of the things have a name that fits. -/
import Derived.Test.YtcecgfijfnnpeaaDoorMo
import Derived.Test.YtcecgfijfnnpeaaDoorTr
import Derived.WalkSpells
import Derived.Shelf.Abstract
namespace Go.Proofs.YtcecgfijfnnpeaaDoor.Mt
open Go.RowKit
set_option maxRecDepth 100000

/-- The slice p holds the things l, in a block below B; names of at most so many bytes. -/
def GRow (w : World) (B : Nat) (p : Option Addr) (l : List Tg) : Prop :=
  l = [] ∨ ∃ b off, p = some ⟨b, off, none⟩ ∧ b < B ∧ ∀ i (h : i < l.length), I64 l[i].1 ∧ w.cell? ⟨b, off + i * 2, none⟩ = some (.int .i64 l[i].1) ∧
    ∃ q c, w.cell? ⟨b, off + i * 2 + 1, none⟩ = some (.slice q l[i].2.length c) ∧ TRow w B q l[i].2 ∧ l[i].2.length ≤ 9000000000000000000 ∧ ∀ s ∈ l[i].2, s.size ≤ 140737488355328
theorem GRow.below {w w' : World} {B : Nat} {p : Option Addr} {l : List Tg} (h : GRow w B p l) (hb : Below B w w') : GRow w' B p l := by
  rcases h with h | ⟨b, off, hp, ha, hc⟩
  · exact .inl h
  · refine .inr ⟨b, off, hp, ha, fun i hi => ?_⟩
    obtain ⟨h1, h2, q, c, h3, h4, h5⟩ := hc i hi
    exact ⟨h1, (hb.cell (p := ⟨b, off + i * 2, none⟩) ha).trans h2, q, c, (hb.cell (p := ⟨b, off + i * 2 + 1, none⟩) ha).trans h3, h4.below hb, h5⟩
theorem GRow.grow {w : World} {B C : Nat} {p : Option Addr} {l : List Tg} (h : GRow w B p l) (hb : B ≤ C) : GRow w C p l := by
  rcases h with h | ⟨b, off, hp, ha, hc⟩
  · exact .inl h
  · refine .inr ⟨b, off, hp, Nat.lt_of_lt_of_le ha hb, fun i hi => ?_⟩
    obtain ⟨h1, h2, q, c, h3, h4, h5⟩ := hc i hi
    exact ⟨h1, h2, q, c, h3, h4.grow hb, h5⟩
theorem GRow.at_ {w : World} {B : Nat} {p : Option Addr} {l : List Tg} (h : GRow w B p l) (i : Nat) (hi : i < l.length) : ∃ b off q c, p = some ⟨b, off, none⟩ ∧ b < B ∧ I64 l[i].1 ∧ w.cell? ⟨b, off + i * 2, none⟩ = some (.int .i64 l[i].1) ∧
    w.cell? ⟨b, off + i * 2 + 1, none⟩ = some (.slice q l[i].2.length c) ∧ TRow w B q l[i].2 ∧ l[i].2.length ≤ 9000000000000000000 ∧ ∀ s ∈ l[i].2, s.size ≤ 140737488355328 := by
  rcases h with h | ⟨b, off, hp, ha, hc⟩
  · subst h; simp at hi
  · obtain ⟨h1, h2, q, c, h3, h4, h5, h6⟩ := hc i hi
    exact ⟨b, off, q, c, hp, ha, h1, h2, h3, h4, h5, h6⟩

theorem box2 (w : World) (c0 c1 : Value) (t : TypeId) : (w.alloc (.cells #[c0, c1] t)).cell? ⟨w.heap.size, 0, none⟩ = some c0 ∧ (w.alloc (.cells #[c0, c1] t)).cell? ⟨w.heap.size, 1, none⟩ = some c1 := by
  have h : (w.alloc (.cells #[c0, c1] t)).heap[w.heap.size]? = some (.cells #[c0, c1] t (0, 0)) := heap_alloc_new w _
  exact ⟨by rw [cell_of_row _ _ _ _ _ _ h]; rfl, by rw [cell_of_row _ _ _ _ _ _ h]; rfl⟩

theorem enters_alike : ∀ args w, (callFunc 30 args).run Tryd.prog w = .ok (.enter 30 args) w := enters_of Tryd.func30 (by kernel_rfl) rfl
theorem enters_begins : ∀ args w, (callFunc 41 args).run Tryd.prog w = .ok (.enter 41 args) w := enters_of Tryd.func41 (by kernel_rfl) rfl

set_option maxHeartbeats 2000000 in
theorem named_alike (id : Int) (ss : List ByteArray) (q : Option Addr) (c : Nat) (s : ByteArray) (w : World) (h : TRow w w.heap.size q ss) (hl : ss.length ≤ 9000000000000000000) (hz : ∀ x ∈ ss, x.size ≤ 140737488355328) (hs : s.size ≤ 140737488355328) :
    Calls Tryd.prog 58 #[.agg #[.int .i64 id, .slice q ss.length c], .string s, .func (.func 30) #[] #[]] w fun e w' => e = .returned (.bool (namedB alikeB s.data.toList (id, ss))) ∧ Below w.heap.size w w' := by
  have H := Lib.hid h; clear h
  have HZ := Lib.hid hz; clear hz
  have H0 := Lib.hid ((Below.refl w.heap.size w).alloc (Nat.le_refl _) (.cells #[.int .i64 id, .slice q ss.length c] 41))
  have HM := Lib.hid (fun (n : ByteArray) (w : World) (hn : n.size ≤ 140737488355328) => alike_any n s hn hs w)
  have hN : Hid (namedB alikeB s.data.toList (id, ss) = ss.any (fun n => alikeB n.data.toList s.data.toList)) := Lib.hid rfl
  obtain ⟨x0, x1⟩ := box2 w (.int .i64 id) (.slice q ss.length c) 41
  have ea := enters_alike
  go_enter Tryd.func58, Tryd.ntmps58
  go_wp2
  go_loopw [12] (fun i wr => ∃ j : Nat, j ≤ ss.length ∧ i = .int .i64 j ∧ Hid (ss.any (fun n => alikeB n.data.toList s.data.toList) = (ss.drop j).any (fun n => alikeB n.data.toList s.data.toList)) ∧ Hid (Below w.heap.size w wr)) (fun i _ => ss.length - (intOf i).toNat)
  case atStart => exact ⟨0, Nat.zero_le _, rfl, Lib.hid rfl, H0⟩
  case round =>
    obtain ⟨j, hj, rfl, HA, HB⟩ := hrel
    by_cases hlt : j < ss.length
    · obtain ⟨b, off, hp, hb, h0⟩ := (H.out.below HB.out).at_ j hlt
      subst hp
      have HD := Lib.hid (List.drop_eq_getElem_cons hlt)
      have HC := Lib.hid (fun w => HM.out ss[j] w (HZ.out _ (List.getElem_mem hlt)))
      have HA2 : Hid (ss.any (fun n => alikeB n.data.toList s.data.toList) = (alikeB ss[j].data.toList s.data.toList || (ss.drop (j + 1)).any (fun n => alikeB n.data.toList s.data.toList))) := Lib.hid (by rw [HA.out, HD.out]; rfl)
      cases hq : alikeB ss[j].data.toList s.data.toList with
      | true =>
        have HF := Lib.hid (show namedB alikeB s.data.toList (id, ss) = true from by rw [hN.out, HA2.out, hq]; rfl)
        have HC2 := Lib.hid (fun w => by have := HC.out w; rw [hq] at this; exact this)
        clear HA HA2 HD HC hq
        go_wp2_with (go_at_call 30; refine (HC2.out _).mono ?_; rintro e w2 ⟨rfl, hd⟩; have HB2 := Lib.hid (HB.out.trans (hd.below.mono HB.out.size)); clear hd)
        go_ret; exact ⟨by rw [HF.out]; rfl, HB2.out⟩
      | false =>
        have HF : Hid (ss.any (fun n => alikeB n.data.toList s.data.toList) = (ss.drop (j + 1)).any (fun n => alikeB n.data.toList s.data.toList)) := Lib.hid (by rw [HA2.out, hq]; rfl)
        have HC2 := Lib.hid (fun w => by have := HC.out w; rw [hq] at this; exact this)
        clear HA HA2 HD HC hq
        go_wp2_with (go_at_call 30; refine (HC2.out _).mono ?_; rintro e w2 ⟨rfl, hd⟩; have HB2 := Lib.hid (HB.out.trans (hd.below.mono HB.out.size)); clear hd)
        go_roundw
        case rel => exact ⟨j + 1, by omega, by go_num, HF, HB2⟩
        case measure => simp [intOf]; omega
    · have hje : j = ss.length := by omega
      have HF := Lib.hid (show namedB alikeB s.data.toList (id, ss) = false from by rw [hN.out, HA.out, hje, List.drop_length]; rfl)
      clear HA
      go_wp2
      go_ret; exact ⟨by rw [HF.out]; rfl, HB.out⟩

set_option maxHeartbeats 2000000 in
theorem named_begins (id : Int) (ss : List ByteArray) (q : Option Addr) (c : Nat) (s : ByteArray) (w : World) (h : TRow w w.heap.size q ss) (hl : ss.length ≤ 9000000000000000000) (hz : ∀ x ∈ ss, x.size ≤ 140737488355328) (hs : s.size ≤ 140737488355328) :
    Calls Tryd.prog 58 #[.agg #[.int .i64 id, .slice q ss.length c], .string s, .func (.func 41) #[] #[]] w fun e w' => e = .returned (.bool (namedB beginsB s.data.toList (id, ss))) ∧ Below w.heap.size w w' := by
  have H := Lib.hid h; clear h
  have HZ := Lib.hid hz; clear hz
  have H0 := Lib.hid ((Below.refl w.heap.size w).alloc (Nat.le_refl _) (.cells #[.int .i64 id, .slice q ss.length c] 41))
  have HM := Lib.hid (fun (n : ByteArray) (w : World) (hn : n.size ≤ 140737488355328) => begins_any n s hn hs w)
  have hN : Hid (namedB beginsB s.data.toList (id, ss) = ss.any (fun n => beginsB n.data.toList s.data.toList)) := Lib.hid rfl
  obtain ⟨x0, x1⟩ := box2 w (.int .i64 id) (.slice q ss.length c) 41
  have ea := enters_begins
  go_enter Tryd.func58, Tryd.ntmps58
  go_wp2
  go_loopw [12] (fun i wr => ∃ j : Nat, j ≤ ss.length ∧ i = .int .i64 j ∧ Hid (ss.any (fun n => beginsB n.data.toList s.data.toList) = (ss.drop j).any (fun n => beginsB n.data.toList s.data.toList)) ∧ Hid (Below w.heap.size w wr)) (fun i _ => ss.length - (intOf i).toNat)
  case atStart => exact ⟨0, Nat.zero_le _, rfl, Lib.hid rfl, H0⟩
  case round =>
    obtain ⟨j, hj, rfl, HA, HB⟩ := hrel
    by_cases hlt : j < ss.length
    · obtain ⟨b, off, hp, hb, h0⟩ := (H.out.below HB.out).at_ j hlt
      subst hp
      have HD := Lib.hid (List.drop_eq_getElem_cons hlt)
      have HC := Lib.hid (fun w => HM.out ss[j] w (HZ.out _ (List.getElem_mem hlt)))
      have HA2 : Hid (ss.any (fun n => beginsB n.data.toList s.data.toList) = (beginsB ss[j].data.toList s.data.toList || (ss.drop (j + 1)).any (fun n => beginsB n.data.toList s.data.toList))) := Lib.hid (by rw [HA.out, HD.out]; rfl)
      cases hq : beginsB ss[j].data.toList s.data.toList with
      | true =>
        have HF := Lib.hid (show namedB beginsB s.data.toList (id, ss) = true from by rw [hN.out, HA2.out, hq]; rfl)
        have HC2 := Lib.hid (fun w => by have := HC.out w; rw [hq] at this; exact this)
        clear HA HA2 HD HC hq
        go_wp2_with (go_at_call 41; refine (HC2.out _).mono ?_; rintro e w2 ⟨rfl, hd⟩; have HB2 := Lib.hid (HB.out.trans (hd.below.mono HB.out.size)); clear hd)
        go_ret; exact ⟨by rw [HF.out]; rfl, HB2.out⟩
      | false =>
        have HF : Hid (ss.any (fun n => beginsB n.data.toList s.data.toList) = (ss.drop (j + 1)).any (fun n => beginsB n.data.toList s.data.toList)) := Lib.hid (by rw [HA2.out, hq]; rfl)
        have HC2 := Lib.hid (fun w => by have := HC.out w; rw [hq] at this; exact this)
        clear HA HA2 HD HC hq
        go_wp2_with (go_at_call 41; refine (HC2.out _).mono ?_; rintro e w2 ⟨rfl, hd⟩; have HB2 := Lib.hid (HB.out.trans (hd.below.mono HB.out.size)); clear hd)
        go_roundw
        case rel => exact ⟨j + 1, by omega, by go_num, HF, HB2⟩
        case measure => simp [intOf]; omega
    · have hje : j = ss.length := by omega
      have HF := Lib.hid (show namedB beginsB s.data.toList (id, ss) = false from by rw [hN.out, HA.out, hje, List.drop_length]; rfl)
      clear HA
      go_wp2
      go_ret; exact ⟨by rw [HF.out]; rfl, HB.out⟩

/-- What only answers. -/
def onlyV (o : Option Int) : Value := match o with | none => .tuple #[.int .i64 0, .bool false] | some x => .tuple #[.int .i64 x, .bool true]
end Go.Proofs.YtcecgfijfnnpeaaDoor.Mt
