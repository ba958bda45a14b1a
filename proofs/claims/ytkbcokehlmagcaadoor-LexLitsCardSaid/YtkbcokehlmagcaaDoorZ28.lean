/- What the statements of the second chapter lean on: reading a right text; lit.Plain; lit.Number; the chapter's example. Numbers among the words: what lit.Read answers of digits. The contract of the reader of words: the boxes. The contract of the reader of words: what a number is read into. The walk of the statement on texts of values. -/
import Derived.Test.YtkbcokehlmagcaaDoorZ17
import Derived.Test.YtkbcokehlmagcaaDoorZ27
import Derived.Deep.QuietTactic
import Derived.Test.YtkbcokehlmagcaaDoorZ00
import Derived.Test.YtkbcokehlmagcaaDoorZ11
import Derived.Test.YtkbcokehlmagcaaDoorZ08
import Derived.Test.YtkbcokehlmagcaaDoorZ19
import Derived.Test.YtkbcokehlmagcaaDoorZ06
import Derived.Test.YtkbcokehlmagcaaDoorZ02
import Derived.Deep.RegionHeld3
import Derived.Deep.DeepCutAuto
namespace Go.Proofs.YtkbcokehlmagcaaDoor
open Go.RowKit
set_option maxRecDepth 100000

/-- A right value's text is read as it. -/
theorem read_tx (eD eM eR eS : Value) (aY : Addr) (hP : Ptrs eD eM eR eS) (t : T) (s : ByteArray) (w : World) (hs : s.size ≤ 140737488355328) (he : Env w eD eM eR eS aY) (hok : okT t) (h0 : (odd t 1 0).1 = 0) (ht : s.data.toList = tx t) :
    Calls Tryd.prog 38 #[.string s] w fun e w' => (∃ v, e = .returned (.tuple #[v, .nilIface]) ∧ Rep w' w.heap.size w'.heap.size t v) ∧ Below w.heap.size w w' := by
  have hg : Go .val s.data.toList (.ok t []) := by
    have := Go.full t hok [] (fun _ => rfl)
    rw [List.append_nil] at this
    rw [ht]; exact this
  have hc : cnt t ≤ 4096 := by have := cnt_le_sz t; have := odd_sz h0; omega
  refine (read_any eD eM eR eS aY hP s w hs he.errs he.syn he.names).mono fun e w' hp => ?_
  obtain ⟨hb, h⟩ := hp
  refine ⟨?_, hb⟩
  rcases h with ⟨p, b, hp, h, _⟩ | ⟨t1, t2, h1, h2, h3⟩
  · rcases h with h | ⟨t', h, hp2⟩
    · cases Go.det hg h
    · have e := Go.det hg h
      injection e with _ e
      have := congrArg List.length e
      simp at this
      omega
  · have e := Go.det hg h1
    injection e with e _
    subst e
    rcases h2 with ⟨_, rfl⟩ | ⟨h2, _⟩
    · rcases h3 with ⟨_, h3⟩ | ⟨h3, _⟩
      · exact h3
      · exact absurd h0 h3
    · omega

/-- A text that is none is told where. -/
def BadPost (aY : Addr) (p : Nat) (w : World) (e : Ending) (w' : World) : Prop :=
  Below w.heap.size w w' ∧ ∃ b, e = .returned (.tuple #[zeroV, .iface 53 (.pointer (some ⟨b, 0, none⟩))]) ∧ w.heap.size ≤ b ∧ w'.heap[b]? = some (.cells #[.int .i64 p, .iface 134 (.pointer (some aY))] 55 (0, 0))
theorem drop_inj {α : Type} {l : List α} {p q : Nat} (hp : p ≤ l.length) (hq : q ≤ l.length) (h : l.drop p = l.drop q) : p = q := by
  have := congrArg List.length h
  simp at this
  omega
theorem read_bad (eD eM eR eS : Value) (aY : Addr) (hP : Ptrs eD eM eR eS) (s : ByteArray) (w : World) (hs : s.size ≤ 140737488355328) (he : Env w eD eM eR eS aY) (p : Nat) (hp : p ≤ s.size) (hg : Go .val s.data.toList (.bad (s.data.toList.drop p)) ∨ ∃ t, Go .val s.data.toList (.ok t (s.data.toList.drop p)) ∧ p < s.size) :
    Calls Tryd.prog 38 #[.string s] w (BadPost aY p w) := by
  have hl : s.data.toList.length = s.size := by simp
  refine (read_any eD eM eR eS aY hP s w hs he.errs he.syn he.names).mono fun e w' hq => ?_
  obtain ⟨hb, h⟩ := hq
  refine ⟨hb, ?_⟩
  rcases h with ⟨q, b, hq, h, h2, h3, h4⟩ | ⟨t1, t2, h1, h2, h3⟩
  · have hpq : p = q := by
      rcases hg with hg | ⟨t, hg, _⟩
      · rcases h with h | ⟨t', h, _⟩
        · have e := Go.det hg h
          injection e with e
          exact drop_inj (by omega) (by omega) e
        · cases Go.det hg h
      · rcases h with h | ⟨t', h, _⟩
        · cases Go.det hg h
        · have e := Go.det hg h
          injection e with _ e
          exact drop_inj (by omega) (by omega) e
    subst hpq
    exact ⟨b, h2, h3, h4⟩
  · rcases hg with hg | ⟨t, hg, hlt⟩
    · cases Go.det hg h1
    · have e := Go.det hg h1
      injection e with _ e
      have := congrArg List.length e
      simp at this
      omega

def plainOf (t : T) : ByteArray := if t.k = 2 then t.s else if t.k = 4 then ⟨#[123, 108, 105, 115, 116, 125]⟩ else ⟨(tx t).toArray⟩
/-- The number that a text says. -/
def numOf (s : Bs) : Int × Bool := match numC 9223372036854775807 s with | (some n, []) => (n, true) | _ => (0, false)
/-- The chapter's example, as a value. -/
abbrev exT : T := .mk 4 0 ByteArray.empty [.mk 0 1 ByteArray.empty [], .mk 2 0 ⟨#[97, 34]⟩ [], .mk 1 (-1) ByteArray.empty []]
abbrev exS : ByteArray := ⟨#[123, 49, 44, 32, 34, 97, 92, 34, 34, 44, 32, 35, 45, 49, 125]⟩
theorem ex_tx : exS.data.toList = tx exT := by
  have h1 : Lib.itoa 1 = [49] := by unfold Lib.itoa; rw [if_neg (by omega)]; exact dec_small (by omega)
  have h2 : Lib.itoa (-1) = [45, 49] := by unfold Lib.itoa; rw [if_pos (by omega)]; exact congrArg (45 :: ·) (dec_small (u := 1) (by omega))
  rw [tx4, txs, txr, txr, txr, tx0, tx1, tx2, h1, h2]
  rfl
theorem ex_ok : okT exT := by
  rw [okT]
  refine .inr (.inr (.inr (.inr ⟨rfl, rfl, rfl, ?_⟩)))
  refine ⟨?_, ?_, ?_, trivial⟩
  · rw [okT]; exact .inl ⟨rfl, by unfold I64; omega, rfl, rfl⟩
  · rw [okT]; exact .inr (.inr (.inl ⟨rfl, rfl, rfl, by decide⟩))
  · rw [okT]; exact .inr (.inl ⟨rfl, by omega, by omega, rfl, rfl⟩)
theorem ex_odd : (odd exT 1 0).1 = 0 := (odd_of_ok exT 1 0 ex_ok (by simp [dp, dpAll]; omega) (by simp [sz, szAll]; decide)).1

end Go.Proofs.YtkbcokehlmagcaaDoor

namespace Go.Proofs.YtkbcokehlmagcaaDoor
open Go.RowKit
set_option maxRecDepth 100000

theorem areD_iff {d : Bs} : areD d = true ↔ (d.all isD = true ∧ (d = [48] ∨ (d ≠ [] ∧ hd 48 d = false))) := by
  unfold areD; simp
theorem dig_drop (most : Nat) : ∀ (i : Bs) (n : Nat), ∃ p, p ≤ i.length ∧ (dig most n i).2.2 = i.drop p
  | [], n => ⟨0, by simp, rfl⟩
  | c :: r, n => by
    rw [dig]
    split
    · split
      · exact ⟨0, by simp, rfl⟩
      · obtain ⟨p, h1, h2⟩ := dig_drop most r (n * 10 + (c.toNat - 48))
        exact ⟨p + 1, by simp; omega, by rw [h2]; rfl⟩
    · exact ⟨0, by simp, rfl⟩
theorem dig_all (most : Nat) : ∀ (i : Bs) (n : Nat), i.all isD = true → (dig most n i).1 = true → (dig most n i).2.2 = []
  | [], n, _, _ => rfl
  | c :: r, n, h, h1 => by
    rw [List.all_cons, Bool.and_eq_true] at h
    rw [dig, if_pos h.1] at h1 ⊢
    split at h1
    · cases h1
    · rename_i hc
      rw [if_neg hc]
      exact dig_all most r _ h.2 h1
theorem numU_drop (most : Nat) (sg : Int) (i : Bs) : ∃ p, p ≤ i.length ∧ (numU most sg i).2 = i.drop p := by
  unfold numU
  split
  · exact ⟨0, by simp, rfl⟩
  · exact dig_drop most i 0
theorem numC_drop (most : Nat) (i : Bs) : ∃ p, p ≤ i.length ∧ (numC most i).2 = i.drop p := by
  unfold numC
  split
  · rename_i h
    obtain ⟨c, r, rfl, _⟩ := hd_iff h
    exact ⟨1, by simp, rfl⟩
  · split
    · rename_i h
      obtain ⟨c, r, rfl, _⟩ := hd_iff h
      obtain ⟨p, h1, h2⟩ := numU_drop (most + 1) (-1) r
      refine ⟨p + 1, by simp; omega, ?_⟩
      simpa using h2
    · exact numU_drop most 1 i
theorem numU_nil {most : Nat} {sg : Int} {d : Bs} (h : d.all isD = true) {n : Int} (hn : (numU most sg d).1 = some n) : (numU most sg d).2 = [] := by
  unfold numU at hn ⊢
  split at hn
  · cases hn
  · rename_i hb
    rw [if_neg hb]
    refine dig_all most d 0 h ?_
    simp only at hn
    split at hn
    · assumption
    · cases hn
/-- What is handed on: digits, with a sign ahead or without. -/
def NumT (minus : Bool) (t d : Bs) : Prop := areD d = true ∧ ((minus = false ∧ t = d) ∨ (minus = true ∧ d ≠ [48] ∧ t = 45 :: d))
theorem NumT.head {minus : Bool} {t d : Bs} (h : NumT minus t d) : (hd 45 t || hdD t) = true := by
  obtain ⟨h1, h2⟩ := h
  rw [areD_iff] at h1
  rcases h2 with ⟨_, rfl⟩ | ⟨_, _, rfl⟩
  · cases t with
    | nil => rcases h1.2 with h | h; cases h; exact absurd rfl h.1
    | cons c r => have := h1.1; rw [List.all_cons, Bool.and_eq_true] at this; simp [hdD, this.1]
  · rfl
theorem NumT.rest {minus : Bool} {t d : Bs} {most : Nat} {n : Int} (h : NumT minus t d) (hn : (numC most t).1 = some n) : numC most t = (some n, []) := by
  obtain ⟨h1, h2⟩ := h
  rw [areD_iff] at h1
  have key : (numC most t).2 = [] := by
    rcases h2 with ⟨_, rfl⟩ | ⟨_, hne, rfl⟩
    · rcases h1.2 with h | h
      · subst h; rfl
      · cases t with
        | nil => exact absurd rfl h.1
        | cons c r =>
          have hc := h1.1
          rw [List.all_cons, Bool.and_eq_true, isD_iff] at hc
          have h45 : hd 45 (c :: r) = false := by simp [hd]; omega
          unfold numC at hn ⊢
          rw [h.2, h45] at hn ⊢
          exact numU_nil h1.1 hn
    · unfold numC at hn ⊢
      exact numU_nil h1.1 hn
  rw [← hn, ← key]
theorem num_tx {most : Nat} {n : Int} {t : Bs} (hm : 9 ≤ most) (h : numC most t = (some n, [])) : t = Lib.itoa n ∧ -(most : Int) - 1 ≤ n ∧ n ≤ most := by
  have := numC_sound hm h
  rwa [List.append_nil] at this

/-- What the reader of literals needs of the program's variables. -/
structure REnv (w : World) (eD eM eR eS : Value) (aY : Addr) : Prop where
  errs : Errs w eD eM eR eS
  names : Names w
  syn : w.cell? ⟨3, 0, none⟩ = some (.iface 134 (.pointer (some aY)))
theorem REnv.below {w w' : World} {eD eM eR eS : Value} {aY : Addr} (h : REnv w eD eM eR eS aY) (hb : Below w.heap.size w w') : REnv w' eD eM eR eS aY :=
  ⟨h.errs.below hb h.errs.size, h.names.below hb h.names.lt, (hb.cell (p := ⟨3, 0, none⟩) (World.block_lt_of_cell? w _ h.syn)).trans h.syn⟩
theorem rread_tx (eD eM eR eS : Value) (aY : Addr) (hP : Ptrs eD eM eR eS) (t : T) (s : ByteArray) (w : World) (hs : s.size ≤ 140737488355328) (he : REnv w eD eM eR eS aY) (hok : okT t) (h0 : (odd t 1 0).1 = 0) (ht : s.data.toList = tx t) :
    Calls Tryd.prog 38 #[.string s] w fun e w' => (∃ v, e = .returned (.tuple #[v, .nilIface]) ∧ Rep w' w.heap.size w'.heap.size t v) ∧ Below w.heap.size w w' := by
  have hg : Go .val s.data.toList (.ok t []) := by
    have := Go.full t hok [] (fun _ => rfl)
    rw [List.append_nil] at this
    rw [ht]; exact this
  have hc : cnt t ≤ 4096 := by have := cnt_le_sz t; have := odd_sz h0; omega
  refine (read_any eD eM eR eS aY hP s w hs he.errs he.syn he.names).mono fun e w' hp => ?_
  obtain ⟨hb, h⟩ := hp
  refine ⟨?_, hb⟩
  rcases h with ⟨p, b, hp, h, _⟩ | ⟨t1, t2, h1, h2, h3⟩
  · rcases h with h | ⟨t', h, hp2⟩
    · cases Go.det hg h
    · have e := Go.det hg h
      injection e with _ e
      have := congrArg List.length e
      simp at this
      omega
  · have e := Go.det hg h1
    injection e with e _
    subst e
    rcases h2 with ⟨_, rfl⟩ | ⟨h2, _⟩
    · rcases h3 with ⟨_, h3⟩ | ⟨h3, _⟩
      · exact h3
      · exact absurd h0 h3
    · omega
theorem rread_bad (eD eM eR eS : Value) (aY : Addr) (hP : Ptrs eD eM eR eS) (s : ByteArray) (w : World) (hs : s.size ≤ 140737488355328) (he : REnv w eD eM eR eS aY) (p : Nat) (hg : Go .val s.data.toList (.bad (s.data.toList.drop p))) :
    Calls Tryd.prog 38 #[.string s] w fun e w' => (∃ b, e = .returned (.tuple #[zeroV, .iface 53 (.pointer (some ⟨b, 0, none⟩))])) ∧ Below w.heap.size w w' := by
  refine (read_any eD eM eR eS aY hP s w hs he.errs he.syn he.names).mono fun e w' hq => ?_
  obtain ⟨hb, h⟩ := hq
  refine ⟨?_, hb⟩
  rcases h with ⟨q, b, hq, h, h2, _⟩ | ⟨t1, t2, h1, h2, h3⟩
  · exact ⟨b, h2⟩
  · cases Go.det hg h1

/-- What is read: a number as it stands (kind 0), or an Obj behind its sign (kind 1). -/
def NumS (kind : Int) (most : Nat) (l t : Bs) : Prop := (kind = 0 ∧ most = 9223372036854775807 ∧ l = t) ∨ (kind = 1 ∧ most = 2147483647 ∧ l = 35 :: t)
theorem readN_ok (eD eM eR eS : Value) (aY : Addr) (hP : Ptrs eD eM eR eS) (s : ByteArray) (w : World) (hs : s.size ≤ 140737488355328) (he : REnv w eD eM eR eS aY) {kind : Int} {most : Nat} {minus : Bool} {t d : Bs} {n : Int}
    (hS : NumS kind most s.data.toList t) (hT : NumT minus t d) (hn : (numC most t).1 = some n) :
    Calls Tryd.prog 38 #[.string s] w fun e w' => (∃ q c, e = .returned (.tuple #[.agg #[.int .i64 kind, .int .i64 n, .string ⟨#[]⟩, .slice q 0 c], .nilIface])) ∧ Below w.heap.size w w' := by
  have hr := hT.rest hn
  have hb : 9 ≤ most := by rcases hS with ⟨_, rfl, _⟩ | ⟨_, rfl, _⟩ <;> omega
  obtain ⟨ht, h1, h2⟩ := num_tx hb hr
  have hok : okT (.mk kind n ByteArray.empty []) := by
    rw [okT]
    rcases hS with ⟨rfl, rfl, _⟩ | ⟨rfl, rfl, _⟩
    · exact .inl ⟨rfl, by unfold I64; omega, rfl, rfl⟩
    · exact .inr (.inl ⟨rfl, by omega, by omega, rfl, rfl⟩)
  have htx : s.data.toList = tx (.mk kind n ByteArray.empty []) := by
    rcases hS with ⟨rfl, _, e⟩ | ⟨rfl, _, e⟩
    · rw [tx0, e, ht]
    · rw [tx1, e, ht]
  have hodd : (odd (.mk kind n ByteArray.empty []) 1 0).1 = 0 := (odd_of_ok _ 1 0 hok (by simp [dp, dpAll]) (by simp [sz, szAll])).1
  refine (rread_tx eD eM eR eS aY hP _ s w hs he hok hodd htx).mono fun e w' h => ?_
  obtain ⟨⟨v, e1, hrep⟩, hb⟩ := h
  unfold Rep at hrep
  obtain ⟨p, cap, rfl, _⟩ := hrep
  exact ⟨⟨p, cap, e1⟩, hb⟩
theorem readN_bad (eD eM eR eS : Value) (aY : Addr) (hP : Ptrs eD eM eR eS) (s : ByteArray) (w : World) (hs : s.size ≤ 140737488355328) (he : REnv w eD eM eR eS aY) {kind : Int} {most : Nat} {minus : Bool} {t d : Bs}
    (hS : NumS kind most s.data.toList t) (hT : NumT minus t d) (hn : (numC most t).1 = none) :
    Calls Tryd.prog 38 #[.string s] w fun e w' => (∃ b, e = .returned (.tuple #[zeroV, .iface 53 (.pointer (some ⟨b, 0, none⟩))])) ∧ Below w.heap.size w w' := by
  have hh := hT.head
  have hg : ∃ p, p ≤ s.size ∧ Go .val s.data.toList (.bad (s.data.toList.drop p)) := by
    have hl : s.data.toList.length = s.size := by simp
    rcases hS with ⟨rfl, rfl, e⟩ | ⟨rfl, rfl, e⟩
    · obtain ⟨p, h1, h2⟩ := numC_drop 9223372036854775807 t
      refine ⟨p, by rw [← hl, e]; exact h1, ?_⟩
      rw [e]
      obtain ⟨h3, h4, h5, _⟩ := num_head hh
      have ho : one t = .bad (t.drop p) := by
        unfold one
        rw [h3, h4, hh]
        simp only [Bool.false_eq_true, if_false, if_true]
        unfold res; rw [hn, h2]
      rw [← ho]; exact Go.one h5
    · obtain ⟨p, h1, h2⟩ := numC_drop 2147483647 t
      refine ⟨p + 1, by rw [← hl, e]; simp; omega, ?_⟩
      rw [e]
      have ho : one (35 :: t) = .bad (t.drop p) := by
        have h34 : hd 34 (35 :: t) = false := rfl
        have h35 : hd 35 (35 :: t) = true := rfl
        unfold one
        rw [h34, h35]
        simp only [Bool.false_eq_true, if_false, if_true, List.drop_succ_cons, List.drop_zero]
        unfold res; rw [hn, h2]
      rw [List.drop_succ_cons, ← ho]; exact Go.one rfl
  obtain ⟨p, _, hg⟩ := hg
  exact rread_bad eD eM eR eS aY hP s w hs he p hg

end Go.Proofs.YtkbcokehlmagcaaDoor

namespace Go.Proofs.YtkbcokehlmagcaaDoor
open Go.RowKit
set_option maxRecDepth 100000

/-- A word of the program's: its line, what it is. -/
def tokVal (k : Int) (n : Nat) (s : Bs) (t : T) (q : Option Addr) (c : Nat) : Value := .agg #[.int .i64 k, .int .i64 n, .string ⟨s.toArray⟩, .int .i64 t.k, .int .i64 t.n, .string t.s, .slice q 0 c]
abbrev zeroTok : Value := .agg #[.int .i64 0, .int .i64 0, .string ⟨#[]⟩, .int .i64 0, .int .i64 0, .string ⟨#[]⟩, .slice none 0 0]
def eY (aY : Addr) : Value := .iface 134 (.pointer (some aY))
def WordPost (eR : Value) (aY : Addr) (s : ByteArray) (n g : Nat) (w : World) : WR → Ending → World → Prop
  | .ok k t v r, e, w' => ∃ p' q c, p' ≤ s.size ∧ s.data.toList.drop p' = r ∧ e = .returned (.tuple #[tokVal k n t v q c, .nilIface]) ∧ LR w' g s p' n ∧ But g w w'
  | .bad b, e, w' => ∃ p', e = .returned (.tuple #[zeroTok, if b then eR else eY aY]) ∧ LR w' g s p' n ∧ But g w w'
/-- What the walk holds of the two boxes. -/
structure Bx (s : ByteArray) (n g gR gT : Nat) (w W : World) (p : Nat) (k : Int) (u : ByteArray) (v0 v1 : Int) (v2 : ByteArray) (q : Option Addr) (c : Nat) : Prop where
  lr : LR W g s p n
  but : But g w W
  res : W.heap[gR]? = some (.cells #[.int .i64 0, .int .i64 0, .string ⟨#[]⟩, .int .i64 0, .int .i64 0, .string ⟨#[]⟩, .slice none 0 0] 34 (0, 0))
  tok : W.heap[gT]? = some (.cells #[.int .i64 k, .int .i64 n, .string u, .int .i64 v0, .int .i64 v1, .string v2, .slice q 0 c] 34 (0, 0))
  r0 : w.heap.size ≤ gR
  rt : gR < gT
  gw : g < w.heap.size
theorem Bx.call {s : ByteArray} {n g gR gT : Nat} {w W W' : World} {p p' : Nat} {k : Int} {u : ByteArray} {v0 v1 : Int} {v2 : ByteArray} {q : Option Addr} {c : Nat} (h : Bx s n g gR gT w W p k u v0 v1 v2 q c) (hl : LR W' g s p' n) (hb : But g W W') : Bx s n g gR gT w W' p' k u v0 v1 v2 q c :=
  ⟨hl, h.but.trans hb, but_heap h.res hb (by have := h.r0; have := h.gw; omega), but_heap h.tok hb (by have := h.r0; have := h.gw; have := h.rt; omega), h.r0, h.rt, h.gw⟩
theorem Bx.drewN {s : ByteArray} {n g gR gT : Nat} {w W : World} {p : Nat} {k : Int} {u : ByteArray} {v0 v1 : Int} {v2 : ByteArray} {q : Option Addr} {c : Nat} (h : Bx s n g gR gT w W p k u v0 v1 v2 q c) (m : Nat) : Bx s n g gR gT w (W.drewN m) p k u v0 v1 v2 q c :=
  ⟨h.lr.drewN m, h.but.drewN m, h.res, h.tok, h.r0, h.rt, h.gw⟩
theorem Bx.start {s : ByteArray} {n g : Nat} {w : World} {p : Nat} (h : LR w g s p n) : Bx s n g w.heap.size (w.heap.size + 1) w ((w.alloc (.cells #[.int .i64 0, .int .i64 0, .string ⟨#[]⟩, .int .i64 0, .int .i64 0, .string ⟨#[]⟩, .slice none 0 0] 34)).alloc (.cells #[.int .i64 3, .int .i64 n, .string ⟨#[]⟩, .int .i64 0, .int .i64 0, .string ⟨#[]⟩, .slice none 0 0] 34)) p 3 ⟨#[]⟩ 0 0 ⟨#[]⟩ none 0 :=
  ⟨(h.alloc _).alloc _, ((But.refl _ _).alloc _).alloc _, heap_alloc_ _ _ _ _ (heap_alloc_new w _), by
    have h := heap_alloc_new (w.alloc (.cells #[.int .i64 0, .int .i64 0, .string ⟨#[]⟩, .int .i64 0, .int .i64 0, .string ⟨#[]⟩, .slice none 0 0] 34)) (.cells #[.int .i64 3, .int .i64 n, .string ⟨#[]⟩, .int .i64 0, .int .i64 0, .string ⟨#[]⟩, .slice none 0 0] 34)
    simp only [World.size_alloc] at h
    exact h, Nat.le_refl _, by omega, h.lt⟩
theorem ba_list (d : Bs) : (⟨d.toArray⟩ : ByteArray).data.toList = d := rfl
theorem row_set7 {W : World} {b : Nat} {c0 c1 c2 c3 c4 c5 c6 : Value} {t : TypeId} (h : W.heap[b]? = some (.cells #[c0, c1, c2, c3, c4, c5, c6] t (0, 0))) (v : Value) :
    (W.setCell ⟨b, 0, none⟩ v).heap[b]? = some (.cells #[v, c1, c2, c3, c4, c5, c6] t (0, 0)) ∧ (W.setCell ⟨b, 2, none⟩ v).heap[b]? = some (.cells #[c0, c1, v, c3, c4, c5, c6] t (0, 0)) ∧ (W.setCell ⟨b, 3, none⟩ v).heap[b]? = some (.cells #[c0, c1, c2, v, c4, c5, c6] t (0, 0)) ∧
    (W.setCell ⟨b, 4, none⟩ v).heap[b]? = some (.cells #[c0, c1, c2, c3, v, c5, c6] t (0, 0)) ∧ (W.setCell ⟨b, 5, none⟩ v).heap[b]? = some (.cells #[c0, c1, c2, c3, c4, v, c6] t (0, 0)) ∧ (W.setCell ⟨b, 6, none⟩ v).heap[b]? = some (.cells #[c0, c1, c2, c3, c4, c5, v] t (0, 0)) := by
  refine ⟨?_, ?_, ?_, ?_, ?_, ?_⟩ <;> simp [World.setCell, Array.getElem?_modify, h]
theorem Bx.far {s : ByteArray} {n g gR gT : Nat} {w W : World} {p : Nat} {k : Int} {u : ByteArray} {v0 v1 : Int} {v2 : ByteArray} {q : Option Addr} {c : Nat} (h : Bx s n g gR gT w W p k u v0 v1 v2 q c) (o : Nat) (v : Value) :
    LR (W.setCell ⟨gT, o, none⟩ v) g s p n ∧ But g w (W.setCell ⟨gT, o, none⟩ v) ∧ (W.setCell ⟨gT, o, none⟩ v).heap[gR]? = some (.cells #[.int .i64 0, .int .i64 0, .string ⟨#[]⟩, .int .i64 0, .int .i64 0, .string ⟨#[]⟩, .slice none 0 0] 34 (0, 0)) := by
  have h1 := h.r0; have h2 := h.rt; have h3 := h.gw
  exact ⟨h.lr.other _ (by show gT ≠ g; omega) _, h.but.far (by show w.heap.size ≤ gT; omega) _, (Below.heap_setCell _ _ _ _ (by show gR ≠ gT; omega)).trans h.res⟩
theorem Bx.setK {s : ByteArray} {n g gR gT : Nat} {w W : World} {p : Nat} {k : Int} {u : ByteArray} {v0 v1 : Int} {v2 : ByteArray} {q : Option Addr} {c : Nat} (h : Bx s n g gR gT w W p k u v0 v1 v2 q c) (x : Int) : Bx s n g gR gT w (W.setCell ⟨gT, 0, none⟩ (.int .i64 x)) p x u v0 v1 v2 q c :=
  ⟨(h.far 0 _).1, (h.far 0 _).2.1, (h.far 0 _).2.2, (row_set7 h.tok _).1, h.r0, h.rt, h.gw⟩
theorem Bx.setS {s : ByteArray} {n g gR gT : Nat} {w W : World} {p : Nat} {k : Int} {u : ByteArray} {v0 v1 : Int} {v2 : ByteArray} {q : Option Addr} {c : Nat} (h : Bx s n g gR gT w W p k u v0 v1 v2 q c) (x : ByteArray) : Bx s n g gR gT w (W.setCell ⟨gT, 2, none⟩ (.string x)) p k x v0 v1 v2 q c :=
  ⟨(h.far 2 _).1, (h.far 2 _).2.1, (h.far 2 _).2.2, (row_set7 h.tok _).2.1, h.r0, h.rt, h.gw⟩
theorem Bx.setV0 {s : ByteArray} {n g gR gT : Nat} {w W : World} {p : Nat} {k : Int} {u : ByteArray} {v0 v1 : Int} {v2 : ByteArray} {q : Option Addr} {c : Nat} (h : Bx s n g gR gT w W p k u v0 v1 v2 q c) (x : Int) : Bx s n g gR gT w (W.setCell ⟨gT, 3, none⟩ (.int .i64 x)) p k u x v1 v2 q c :=
  ⟨(h.far 3 _).1, (h.far 3 _).2.1, (h.far 3 _).2.2, (row_set7 h.tok _).2.2.1, h.r0, h.rt, h.gw⟩
theorem Bx.setV1 {s : ByteArray} {n g gR gT : Nat} {w W : World} {p : Nat} {k : Int} {u : ByteArray} {v0 v1 : Int} {v2 : ByteArray} {q : Option Addr} {c : Nat} (h : Bx s n g gR gT w W p k u v0 v1 v2 q c) (x : Int) : Bx s n g gR gT w (W.setCell ⟨gT, 4, none⟩ (.int .i64 x)) p k u v0 x v2 q c :=
  ⟨(h.far 4 _).1, (h.far 4 _).2.1, (h.far 4 _).2.2, (row_set7 h.tok _).2.2.2.1, h.r0, h.rt, h.gw⟩
theorem Bx.setV2 {s : ByteArray} {n g gR gT : Nat} {w W : World} {p : Nat} {k : Int} {u : ByteArray} {v0 v1 : Int} {v2 : ByteArray} {q : Option Addr} {c : Nat} (h : Bx s n g gR gT w W p k u v0 v1 v2 q c) (x : ByteArray) : Bx s n g gR gT w (W.setCell ⟨gT, 5, none⟩ (.string x)) p k u v0 v1 x q c :=
  ⟨(h.far 5 _).1, (h.far 5 _).2.1, (h.far 5 _).2.2, (row_set7 h.tok _).2.2.2.2.1, h.r0, h.rt, h.gw⟩
theorem Bx.setV3 {s : ByteArray} {n g gR gT : Nat} {w W : World} {p : Nat} {k : Int} {u : ByteArray} {v0 v1 : Int} {v2 : ByteArray} {q : Option Addr} {c : Nat} (h : Bx s n g gR gT w W p k u v0 v1 v2 q c) (x : Option Addr) (d : Nat) : Bx s n g gR gT w (W.setCell ⟨gT, 6, none⟩ (.slice x 0 d)) p k u v0 v1 v2 x d :=
  ⟨(h.far 6 _).1, (h.far 6 _).2.1, (h.far 6 _).2.2, (row_set7 h.tok _).2.2.2.2.2, h.r0, h.rt, h.gw⟩
/-- What is stored into the result's box. -/
theorem Bx.out {s : ByteArray} {n g gR gT : Nat} {w W : World} {p : Nat} {k : Int} {u : ByteArray} {v0 v1 : Int} {v2 : ByteArray} {q : Option Addr} {c : Nat} (h : Bx s n g gR gT w W p k u v0 v1 v2 q c) (c0 c1 c2 c3 c4 c5 c6 : Value) :
    LR (((((((W.setCell ⟨gR, 0, none⟩ c0).setCell ⟨gR, 1, none⟩ c1).setCell ⟨gR, 2, none⟩ c2).setCell ⟨gR, 3, none⟩ c3).setCell ⟨gR, 4, none⟩ c4).setCell ⟨gR, 5, none⟩ c5).setCell ⟨gR, 6, none⟩ c6) g s p n ∧
    But g w (((((((W.setCell ⟨gR, 0, none⟩ c0).setCell ⟨gR, 1, none⟩ c1).setCell ⟨gR, 2, none⟩ c2).setCell ⟨gR, 3, none⟩ c3).setCell ⟨gR, 4, none⟩ c4).setCell ⟨gR, 5, none⟩ c5).setCell ⟨gR, 6, none⟩ c6) := by
  have h1 := h.r0; have h3 := h.gw
  have hne : gR ≠ g := by omega
  exact ⟨((((((h.lr.other _ hne _).other _ hne _).other _ hne _).other _ hne _).other _ hne _).other _ hne _).other _ hne _, ((((((h.but.far h1 _).far h1 _).far h1 _).far h1 _).far h1 _).far h1 _).far h1 _⟩

end Go.Proofs.YtkbcokehlmagcaaDoor

namespace Go.Proofs.YtkbcokehlmagcaaDoor
open Go.RowKit
set_option maxRecDepth 100000

theorem Bx.alloc {s : ByteArray} {n g gR gT : Nat} {w W : World} {p : Nat} {k : Int} {u : ByteArray} {v0 v1 : Int} {v2 : ByteArray} {q : Option Addr} {c : Nat} (h : Bx s n g gR gT w W p k u v0 v1 v2 q c) (o : Obj) : Bx s n g gR gT w (W.alloc o) p k u v0 v1 v2 q c :=
  ⟨h.lr.alloc o, h.but.alloc o, heap_alloc_ _ _ _ _ h.res, heap_alloc_ _ _ _ _ h.tok, h.r0, h.rt, h.gw⟩
theorem Bx.drew {s : ByteArray} {n g gR gT : Nat} {w W : World} {p : Nat} {k : Int} {u : ByteArray} {v0 v1 : Int} {v2 : ByteArray} {q : Option Addr} {c : Nat} (h : Bx s n g gR gT w W p k u v0 v1 v2 q c) : Bx s n g gR gT w W.drew p k u v0 v1 v2 q c := h.drewN 1
theorem Bx.bel {s : ByteArray} {n g gR gT : Nat} {w W W' : World} {p : Nat} {k : Int} {u : ByteArray} {v0 v1 : Int} {v2 : ByteArray} {q : Option Addr} {c : Nat} (h : Bx s n g gR gT w W p k u v0 v1 v2 q c) (hb : Below W.heap.size W W') : Bx s n g gR gT w W' p k u v0 v1 v2 q c :=
  h.call (h.lr.below hb) (But.of_below hb)
theorem Bx.tl {s : ByteArray} {n g gR gT : Nat} {w W : World} {p : Nat} {k : Int} {u : ByteArray} {v0 v1 : Int} {v2 : ByteArray} {q : Option Addr} {c : Nat} (h : Bx s n g gR gT w W p k u v0 v1 v2 q c) : gT < W.heap.size := heap_lt' h.tok
/-- Another box that is written. -/
theorem Bx.set4 {s : ByteArray} {n g gR gT : Nat} {w W : World} {p : Nat} {k : Int} {u : ByteArray} {v0 v1 : Int} {v2 : ByteArray} {q : Option Addr} {c : Nat} (h : Bx s n g gR gT w W p k u v0 v1 v2 q c) {b : Nat} (hb : gT < b) (x0 x1 x2 x3 : Value) :
    Bx s n g gR gT w ((((W.setCell ⟨b, 0, none⟩ x0).setCell ⟨b, 1, none⟩ x1).setCell ⟨b, 2, none⟩ x2).setCell ⟨b, 3, none⟩ x3) p k u v0 v1 v2 q c := by
  have h1 := h.r0; have h2 := h.rt; have h3 := h.gw
  have hg : (b : Nat) ≠ g := by omega
  have hw : w.heap.size ≤ b := by omega
  exact ⟨(((h.lr.other _ hg _).other _ hg _).other _ hg _).other _ hg _, (((h.but.far hw _).far hw _).far hw _).far hw _, (heap_set4' _ _ _ _ _ _ _ _ _ _ _ (by omega)).trans h.res, (heap_set4' _ _ _ _ _ _ _ _ _ _ _ (by omega)).trans h.tok, h.r0, h.rt, h.gw⟩
theorem row4_set {W : World} {b : Nat} {c0 c1 c2 c3 : Value} {t : TypeId} (h : W.heap[b]? = some (.cells #[c0, c1, c2, c3] t (0, 0))) (x0 x1 x2 x3 : Value) :
    ((((W.setCell ⟨b, 0, none⟩ x0).setCell ⟨b, 1, none⟩ x1).setCell ⟨b, 2, none⟩ x2).setCell ⟨b, 3, none⟩ x3).heap[b]? = some (.cells #[x0, x1, x2, x3] t (0, 0)) := by
  simp [World.setCell, Array.getElem?_modify, h]
/-- The boxes, and the one that a value was read into. -/
structure Vx (s : ByteArray) (n g gR gT : Nat) (w W : World) (p : Nat) (x : Nat) (xk xn : Int) (xs : ByteArray) (xq : Option Addr) (xc : Nat) : Prop where
  bx : Bx s n g gR gT w W p 3 ⟨#[]⟩ 0 0 ⟨#[]⟩ none 0
  box : W.heap[x]? = some (.cells #[.int .i64 xk, .int .i64 xn, .string xs, .slice xq 0 xc] 32 (0, 0))
  lt : gT < x
theorem Vx.of_set {s : ByteArray} {n g gR gT : Nat} {w W : World} {p x : Nat} {c0 c1 c2 c3 : Value} (h : Bx s n g gR gT w W p 3 ⟨#[]⟩ 0 0 ⟨#[]⟩ none 0) (hx : gT < x) (hb : W.heap[x]? = some (.cells #[c0, c1, c2, c3] 32 (0, 0))) (xk xn : Int) (xs : ByteArray) (xq : Option Addr) (xc : Nat) :
    Vx s n g gR gT w ((((W.setCell ⟨x, 0, none⟩ (.int .i64 xk)).setCell ⟨x, 1, none⟩ (.int .i64 xn)).setCell ⟨x, 2, none⟩ (.string xs)).setCell ⟨x, 3, none⟩ (.slice xq 0 xc)) p x xk xn xs xq xc :=
  ⟨h.set4 hx _ _ _ _, row4_set hb _ _ _ _, hx⟩
theorem Vx.of_alloc {s : ByteArray} {n g gR gT : Nat} {w W : World} {p : Nat} (h : Bx s n g gR gT w W p 3 ⟨#[]⟩ 0 0 ⟨#[]⟩ none 0) (xk xn : Int) (xs : ByteArray) (xq : Option Addr) (xc : Nat) :
    Vx s n g gR gT w (W.alloc (.cells #[.int .i64 xk, .int .i64 xn, .string xs, .slice xq 0 xc] 32)) p W.heap.size xk xn xs xq xc :=
  ⟨h.alloc _, heap_alloc_new W _, h.tl⟩
theorem set4_cell {W : World} {b g o : Nat} {u : Value} (h : W.cell? ⟨g, o, none⟩ = some u) (hne : g ≠ b) (x0 x1 x2 x3 : Value) : ((((W.setCell ⟨b, 0, none⟩ x0).setCell ⟨b, 1, none⟩ x1).setCell ⟨b, 2, none⟩ x2).setCell ⟨b, 3, none⟩ x3).cell? ⟨g, o, none⟩ = some u :=
  (World.cell?_of_block (a := ⟨g, o, none⟩) (heap_set4' _ _ _ _ _ _ _ _ _ _ _ hne)).trans h
theorem beq48 (d : Bs) (b : Bool) (h : decide (d = [48]) = b) : ((⟨d.toArray⟩ : ByteArray).toList == [48]) = b := by
  subst h
  rw [ByteArray.toList_eq, ba_list, Bool.eq_iff_iff]; simp

end Go.Proofs.YtkbcokehlmagcaaDoor

namespace Go.Proofs.YtkbcokehlmagcaaDoor
open Go.RowKit
set_option maxRecDepth 100000

theorem tx_short {w : World} {lo hi : Nat} {t : T} {v : Value} (hr : Rep w lo hi t v) (h0 : (odd t 1 0).1 = 0) : (tx t).length ≤ 4000000 := by
  have h1 := odd_sz h0
  have h2 := tx_len t (Rep.ok t hr h0)
  omega

set_option maxHeartbeats 1000000 in
theorem refTextR_any (t : T) (w : World) (lo hi : Nat) (v : Value) (hr : Rep w lo hi t v) (hhi : hi ≤ w.heap.size) (hT : TabI w) (h0 : (odd t 1 0).1 = 0) (hR : rightB t = true) :
    Calls Tryd.prog 18 #[v] w fun e w' => e = .returned (.string (strB (tx t))) ∧ Below w.heap.size w w' := by
  have hs := tx_short hr h0
  have HR := Lib.hid hr
  have HT := Lib.hid hT; clear hT
  have H := Lib.hid hR; clear hR
  obtain ⟨k, n, sv, p, len, cap, rfl⟩ := rep_form hr
  clear hr
  have H1 : ∀ o : Obj, Hid (Below w.heap.size w (w.alloc o)) := fun o => (Below.refl _ _).alloc (Nat.le_refl _) _
  go_enter Tryd.func18, Tryd.ntmps18
  go_wp2_with (first
    | (go_at_call 17; refine (right_any t _ lo hi _ (HR.out.below (H1 _).out hhi) (by simp; omega)).mono ?_; rintro e w2 ⟨rfl, hb2⟩; rw [H.out]; have HV2 := Lib.hid (heap_old (heap_alloc_new w _) hb2); have HB2 := Lib.hid ((H1 _).out.trans (hb2.mono (by simp))); obtain ⟨x0, x1, x2, x3, _⟩ := box4_in _ _ _ _ _ _ _ HV2.out; clear hb2)
    | (go_at_call 31; refine (refText_any t _ lo hi _ (HR.out.below HB2.out hhi) (by have := HB2.out.size; omega) hs (HT.out.below HB2.out)).mono ?_; rintro e w3 ⟨rfl, hb3⟩; have HB3 := Lib.hid (HB2.out.trans (hb3.mono HB2.out.size)); clear hb3))
  go_ret
  exact ⟨rfl, HB3.out⟩

end Go.Proofs.YtkbcokehlmagcaaDoor
