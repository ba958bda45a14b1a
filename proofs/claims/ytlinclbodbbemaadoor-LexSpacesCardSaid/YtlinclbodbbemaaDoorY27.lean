/- What the statements of the second chapter lean on: reading a right text; lit.Plain; lit.Number; the chapter's example. Numbers among the words: what lit.Read answers of digits. The contract of the reader of words: the boxes. The contract of the reader of words: what a number is read into. Words read back: what All found is found again, with a blank, an end of line, or nothing behind it. Rows of words with what stands between them, as plain data: how they are read; what Join makes. No program is named. The text of the statement on spaces, as plain data: more between the words changes nothing but lines. No program is named. Of which kinds words are; how long their text is when joined. No program is named. -/
import Derived.Test.YtlinclbodbbemaaDoorY17
import Derived.Test.YtlinclbodbbemaaDoorY26
import Derived.Deep.QuietTactic
import Derived.Test.YtlinclbodbbemaaDoorY00
import Derived.Test.YtlinclbodbbemaaDoorY11
import Derived.Test.YtlinclbodbbemaaDoorY08
import Derived.Test.YtlinclbodbbemaaDoorY02
namespace Go.Proofs.YtlinclbodbbemaaDoor
open Go.RowKit
set_option maxRecDepth 100000

/-- A right value's text is read as it. -/
theorem read_tx (eD eM eR eS : Value) (aY : Addr) (hP : Ptrs eD eM eR eS) (t : T) (s : ByteArray) (w : World) (hs : s.size ≤ 140737488355328) (he : Env w eD eM eR eS aY) (hok : okT t) (h0 : (odd t 1 0).1 = 0) (ht : s.data.toList = tx t) :
    Calls Tryd.prog 70 #[.string s] w fun e w' => (∃ v, e = .returned (.tuple #[v, .nilIface]) ∧ Rep w' w.heap.size w'.heap.size t v) ∧ Below w.heap.size w w' := by
  have hg : Go .val s.data.toList (.ok t []) := by
    have := Go.full t hok [] (fun _ => rfl)
    rw [List.append_nil] at this
    rw [ht]; exact this
  have hc : cnt t ≤ 4096 := by have := cnt_le_sz t; have := odd_sz h0; omega
  refine (read_any eD eM eR eS aY hP s w hs he.errs he.syn he.names).mono fun e w' hp => ?_
  obtain ⟨hb, h⟩ := hp
  refine ⟨?_, hb⟩
  rcases h with ⟨p, b, hp, h, _⟩ | ⟨t1, t2, h1, h2, h3⟩
  · rcases h with h | ⟨t', h, hp2⟩
    · cases Go.det hg h
    · have e := Go.det hg h
      injection e with _ e
      have := congrArg List.length e
      simp at this
      omega
  · have e := Go.det hg h1
    injection e with e _
    subst e
    rcases h2 with ⟨_, rfl⟩ | ⟨h2, _⟩
    · rcases h3 with ⟨_, h3⟩ | ⟨h3, _⟩
      · exact h3
      · exact absurd h0 h3
    · omega

/-- A text that is none is told where. -/
def BadPost (aY : Addr) (p : Nat) (w : World) (e : Ending) (w' : World) : Prop :=
  Below w.heap.size w w' ∧ ∃ b, e = .returned (.tuple #[zeroV, .iface 71 (.pointer (some ⟨b, 0, none⟩))]) ∧ w.heap.size ≤ b ∧ w'.heap[b]? = some (.cells #[.int .i64 p, .iface 199 (.pointer (some aY))] 73 (0, 0))
theorem drop_inj {α : Type} {l : List α} {p q : Nat} (hp : p ≤ l.length) (hq : q ≤ l.length) (h : l.drop p = l.drop q) : p = q := by
  have := congrArg List.length h
  simp at this
  omega
theorem read_bad (eD eM eR eS : Value) (aY : Addr) (hP : Ptrs eD eM eR eS) (s : ByteArray) (w : World) (hs : s.size ≤ 140737488355328) (he : Env w eD eM eR eS aY) (p : Nat) (hp : p ≤ s.size) (hg : Go .val s.data.toList (.bad (s.data.toList.drop p)) ∨ ∃ t, Go .val s.data.toList (.ok t (s.data.toList.drop p)) ∧ p < s.size) :
    Calls Tryd.prog 70 #[.string s] w (BadPost aY p w) := by
  have hl : s.data.toList.length = s.size := by simp
  refine (read_any eD eM eR eS aY hP s w hs he.errs he.syn he.names).mono fun e w' hq => ?_
  obtain ⟨hb, h⟩ := hq
  refine ⟨hb, ?_⟩
  rcases h with ⟨q, b, hq, h, h2, h3, h4⟩ | ⟨t1, t2, h1, h2, h3⟩
  · have hpq : p = q := by
      rcases hg with hg | ⟨t, hg, _⟩
      · rcases h with h | ⟨t', h, _⟩
        · have e := Go.det hg h
          injection e with e
          exact drop_inj (by omega) (by omega) e
        · cases Go.det hg h
      · rcases h with h | ⟨t', h, _⟩
        · cases Go.det hg h
        · have e := Go.det hg h
          injection e with _ e
          exact drop_inj (by omega) (by omega) e
    subst hpq
    exact ⟨b, h2, h3, h4⟩
  · rcases hg with hg | ⟨t, hg, hlt⟩
    · cases Go.det hg h1
    · have e := Go.det hg h1
      injection e with _ e
      have := congrArg List.length e
      simp at this
      omega

def plainOf (t : T) : ByteArray := if t.k = 2 then t.s else if t.k = 4 then ⟨#[123, 108, 105, 115, 116, 125]⟩ else ⟨(tx t).toArray⟩
/-- The number that a text says. -/
def numOf (s : Bs) : Int × Bool := match numC 9223372036854775807 s with | (some n, []) => (n, true) | _ => (0, false)
/-- The chapter's example, as a value. -/
abbrev exT : T := .mk 4 0 ByteArray.empty [.mk 0 1 ByteArray.empty [], .mk 2 0 ⟨#[97, 34]⟩ [], .mk 1 (-1) ByteArray.empty []]
abbrev exS : ByteArray := ⟨#[123, 49, 44, 32, 34, 97, 92, 34, 34, 44, 32, 35, 45, 49, 125]⟩
theorem ex_tx : exS.data.toList = tx exT := by
  have h1 : Lib.itoa 1 = [49] := by unfold Lib.itoa; rw [if_neg (by omega)]; exact dec_small (by omega)
  have h2 : Lib.itoa (-1) = [45, 49] := by unfold Lib.itoa; rw [if_pos (by omega)]; exact congrArg (45 :: ·) (dec_small (u := 1) (by omega))
  rw [tx4, txs, txr, txr, txr, tx0, tx1, tx2, h1, h2]
  rfl
theorem ex_ok : okT exT := by
  rw [okT]
  refine .inr (.inr (.inr (.inr ⟨rfl, rfl, rfl, ?_⟩)))
  refine ⟨?_, ?_, ?_, trivial⟩
  · rw [okT]; exact .inl ⟨rfl, by unfold I64; omega, rfl, rfl⟩
  · rw [okT]; exact .inr (.inr (.inl ⟨rfl, rfl, rfl, by decide⟩))
  · rw [okT]; exact .inr (.inl ⟨rfl, by omega, by omega, rfl, rfl⟩)
theorem ex_odd : (odd exT 1 0).1 = 0 := (odd_of_ok exT 1 0 ex_ok (by simp [dp, dpAll]; omega) (by simp [sz, szAll]; decide)).1

end Go.Proofs.YtlinclbodbbemaaDoor

namespace Go.Proofs.YtlinclbodbbemaaDoor
open Go.RowKit
set_option maxRecDepth 100000

theorem areD_iff {d : Bs} : areD d = true ↔ (d.all isD = true ∧ (d = [48] ∨ (d ≠ [] ∧ hd 48 d = false))) := by
  unfold areD; simp
theorem dig_drop (most : Nat) : ∀ (i : Bs) (n : Nat), ∃ p, p ≤ i.length ∧ (dig most n i).2.2 = i.drop p
  | [], n => ⟨0, by simp, rfl⟩
  | c :: r, n => by
    rw [dig]
    split
    · split
      · exact ⟨0, by simp, rfl⟩
      · obtain ⟨p, h1, h2⟩ := dig_drop most r (n * 10 + (c.toNat - 48))
        exact ⟨p + 1, by simp; omega, by rw [h2]; rfl⟩
    · exact ⟨0, by simp, rfl⟩
theorem dig_all (most : Nat) : ∀ (i : Bs) (n : Nat), i.all isD = true → (dig most n i).1 = true → (dig most n i).2.2 = []
  | [], n, _, _ => rfl
  | c :: r, n, h, h1 => by
    rw [List.all_cons, Bool.and_eq_true] at h
    rw [dig, if_pos h.1] at h1 ⊢
    split at h1
    · cases h1
    · rename_i hc
      rw [if_neg hc]
      exact dig_all most r _ h.2 h1
theorem numU_drop (most : Nat) (sg : Int) (i : Bs) : ∃ p, p ≤ i.length ∧ (numU most sg i).2 = i.drop p := by
  unfold numU
  split
  · exact ⟨0, by simp, rfl⟩
  · exact dig_drop most i 0
theorem numC_drop (most : Nat) (i : Bs) : ∃ p, p ≤ i.length ∧ (numC most i).2 = i.drop p := by
  unfold numC
  split
  · rename_i h
    obtain ⟨c, r, rfl, _⟩ := hd_iff h
    exact ⟨1, by simp, rfl⟩
  · split
    · rename_i h
      obtain ⟨c, r, rfl, _⟩ := hd_iff h
      obtain ⟨p, h1, h2⟩ := numU_drop (most + 1) (-1) r
      refine ⟨p + 1, by simp; omega, ?_⟩
      simpa using h2
    · exact numU_drop most 1 i
theorem numU_nil {most : Nat} {sg : Int} {d : Bs} (h : d.all isD = true) {n : Int} (hn : (numU most sg d).1 = some n) : (numU most sg d).2 = [] := by
  unfold numU at hn ⊢
  split at hn
  · cases hn
  · rename_i hb
    rw [if_neg hb]
    refine dig_all most d 0 h ?_
    simp only at hn
    split at hn
    · assumption
    · cases hn
/-- What is handed on: digits, with a sign ahead or without. -/
def NumT (minus : Bool) (t d : Bs) : Prop := areD d = true ∧ ((minus = false ∧ t = d) ∨ (minus = true ∧ d ≠ [48] ∧ t = 45 :: d))
theorem NumT.head {minus : Bool} {t d : Bs} (h : NumT minus t d) : (hd 45 t || hdD t) = true := by
  obtain ⟨h1, h2⟩ := h
  rw [areD_iff] at h1
  rcases h2 with ⟨_, rfl⟩ | ⟨_, _, rfl⟩
  · cases t with
    | nil => rcases h1.2 with h | h; cases h; exact absurd rfl h.1
    | cons c r => have := h1.1; rw [List.all_cons, Bool.and_eq_true] at this; simp [hdD, this.1]
  · rfl
theorem NumT.rest {minus : Bool} {t d : Bs} {most : Nat} {n : Int} (h : NumT minus t d) (hn : (numC most t).1 = some n) : numC most t = (some n, []) := by
  obtain ⟨h1, h2⟩ := h
  rw [areD_iff] at h1
  have key : (numC most t).2 = [] := by
    rcases h2 with ⟨_, rfl⟩ | ⟨_, hne, rfl⟩
    · rcases h1.2 with h | h
      · subst h; rfl
      · cases t with
        | nil => exact absurd rfl h.1
        | cons c r =>
          have hc := h1.1
          rw [List.all_cons, Bool.and_eq_true, isD_iff] at hc
          have h45 : hd 45 (c :: r) = false := by simp [hd]; omega
          unfold numC at hn ⊢
          rw [h.2, h45] at hn ⊢
          exact numU_nil h1.1 hn
    · unfold numC at hn ⊢
      exact numU_nil h1.1 hn
  rw [← hn, ← key]
theorem num_tx {most : Nat} {n : Int} {t : Bs} (hm : 9 ≤ most) (h : numC most t = (some n, [])) : t = Lib.itoa n ∧ -(most : Int) - 1 ≤ n ∧ n ≤ most := by
  have := numC_sound hm h
  rwa [List.append_nil] at this

/-- What the reader of literals needs of the program's variables. -/
structure REnv (w : World) (eD eM eR eS : Value) (aY : Addr) : Prop where
  errs : Errs w eD eM eR eS
  names : Names w
  syn : w.cell? ⟨1, 0, none⟩ = some (.iface 199 (.pointer (some aY)))
theorem REnv.below {w w' : World} {eD eM eR eS : Value} {aY : Addr} (h : REnv w eD eM eR eS aY) (hb : Below w.heap.size w w') : REnv w' eD eM eR eS aY :=
  ⟨h.errs.below hb h.errs.size, h.names.below hb h.names.lt, (hb.cell (p := ⟨1, 0, none⟩) (World.block_lt_of_cell? w _ h.syn)).trans h.syn⟩
theorem rread_tx (eD eM eR eS : Value) (aY : Addr) (hP : Ptrs eD eM eR eS) (t : T) (s : ByteArray) (w : World) (hs : s.size ≤ 140737488355328) (he : REnv w eD eM eR eS aY) (hok : okT t) (h0 : (odd t 1 0).1 = 0) (ht : s.data.toList = tx t) :
    Calls Tryd.prog 70 #[.string s] w fun e w' => (∃ v, e = .returned (.tuple #[v, .nilIface]) ∧ Rep w' w.heap.size w'.heap.size t v) ∧ Below w.heap.size w w' := by
  have hg : Go .val s.data.toList (.ok t []) := by
    have := Go.full t hok [] (fun _ => rfl)
    rw [List.append_nil] at this
    rw [ht]; exact this
  have hc : cnt t ≤ 4096 := by have := cnt_le_sz t; have := odd_sz h0; omega
  refine (read_any eD eM eR eS aY hP s w hs he.errs he.syn he.names).mono fun e w' hp => ?_
  obtain ⟨hb, h⟩ := hp
  refine ⟨?_, hb⟩
  rcases h with ⟨p, b, hp, h, _⟩ | ⟨t1, t2, h1, h2, h3⟩
  · rcases h with h | ⟨t', h, hp2⟩
    · cases Go.det hg h
    · have e := Go.det hg h
      injection e with _ e
      have := congrArg List.length e
      simp at this
      omega
  · have e := Go.det hg h1
    injection e with e _
    subst e
    rcases h2 with ⟨_, rfl⟩ | ⟨h2, _⟩
    · rcases h3 with ⟨_, h3⟩ | ⟨h3, _⟩
      · exact h3
      · exact absurd h0 h3
    · omega
theorem rread_bad (eD eM eR eS : Value) (aY : Addr) (hP : Ptrs eD eM eR eS) (s : ByteArray) (w : World) (hs : s.size ≤ 140737488355328) (he : REnv w eD eM eR eS aY) (p : Nat) (hg : Go .val s.data.toList (.bad (s.data.toList.drop p))) :
    Calls Tryd.prog 70 #[.string s] w fun e w' => (∃ b, e = .returned (.tuple #[zeroV, .iface 71 (.pointer (some ⟨b, 0, none⟩))])) ∧ Below w.heap.size w w' := by
  refine (read_any eD eM eR eS aY hP s w hs he.errs he.syn he.names).mono fun e w' hq => ?_
  obtain ⟨hb, h⟩ := hq
  refine ⟨?_, hb⟩
  rcases h with ⟨q, b, hq, h, h2, _⟩ | ⟨t1, t2, h1, h2, h3⟩
  · exact ⟨b, h2⟩
  · cases Go.det hg h1

/-- What is read: a number as it stands (kind 0), or an Obj behind its sign (kind 1). -/
def NumS (kind : Int) (most : Nat) (l t : Bs) : Prop := (kind = 0 ∧ most = 9223372036854775807 ∧ l = t) ∨ (kind = 1 ∧ most = 2147483647 ∧ l = 35 :: t)
theorem readN_ok (eD eM eR eS : Value) (aY : Addr) (hP : Ptrs eD eM eR eS) (s : ByteArray) (w : World) (hs : s.size ≤ 140737488355328) (he : REnv w eD eM eR eS aY) {kind : Int} {most : Nat} {minus : Bool} {t d : Bs} {n : Int}
    (hS : NumS kind most s.data.toList t) (hT : NumT minus t d) (hn : (numC most t).1 = some n) :
    Calls Tryd.prog 70 #[.string s] w fun e w' => (∃ q c, e = .returned (.tuple #[.agg #[.int .i64 kind, .int .i64 n, .string ⟨#[]⟩, .slice q 0 c], .nilIface])) ∧ Below w.heap.size w w' := by
  have hr := hT.rest hn
  have hb : 9 ≤ most := by rcases hS with ⟨_, rfl, _⟩ | ⟨_, rfl, _⟩ <;> omega
  obtain ⟨ht, h1, h2⟩ := num_tx hb hr
  have hok : okT (.mk kind n ByteArray.empty []) := by
    rw [okT]
    rcases hS with ⟨rfl, rfl, _⟩ | ⟨rfl, rfl, _⟩
    · exact .inl ⟨rfl, by unfold I64; omega, rfl, rfl⟩
    · exact .inr (.inl ⟨rfl, by omega, by omega, rfl, rfl⟩)
  have htx : s.data.toList = tx (.mk kind n ByteArray.empty []) := by
    rcases hS with ⟨rfl, _, e⟩ | ⟨rfl, _, e⟩
    · rw [tx0, e, ht]
    · rw [tx1, e, ht]
  have hodd : (odd (.mk kind n ByteArray.empty []) 1 0).1 = 0 := (odd_of_ok _ 1 0 hok (by simp [dp, dpAll]) (by simp [sz, szAll])).1
  refine (rread_tx eD eM eR eS aY hP _ s w hs he hok hodd htx).mono fun e w' h => ?_
  obtain ⟨⟨v, e1, hrep⟩, hb⟩ := h
  unfold Rep at hrep
  obtain ⟨p, cap, rfl, _⟩ := hrep
  exact ⟨⟨p, cap, e1⟩, hb⟩
theorem readN_bad (eD eM eR eS : Value) (aY : Addr) (hP : Ptrs eD eM eR eS) (s : ByteArray) (w : World) (hs : s.size ≤ 140737488355328) (he : REnv w eD eM eR eS aY) {kind : Int} {most : Nat} {minus : Bool} {t d : Bs}
    (hS : NumS kind most s.data.toList t) (hT : NumT minus t d) (hn : (numC most t).1 = none) :
    Calls Tryd.prog 70 #[.string s] w fun e w' => (∃ b, e = .returned (.tuple #[zeroV, .iface 71 (.pointer (some ⟨b, 0, none⟩))])) ∧ Below w.heap.size w w' := by
  have hh := hT.head
  have hg : ∃ p, p ≤ s.size ∧ Go .val s.data.toList (.bad (s.data.toList.drop p)) := by
    have hl : s.data.toList.length = s.size := by simp
    rcases hS with ⟨rfl, rfl, e⟩ | ⟨rfl, rfl, e⟩
    · obtain ⟨p, h1, h2⟩ := numC_drop 9223372036854775807 t
      refine ⟨p, by rw [← hl, e]; exact h1, ?_⟩
      rw [e]
      obtain ⟨h3, h4, h5, _⟩ := num_head hh
      have ho : one t = .bad (t.drop p) := by
        unfold one
        rw [h3, h4, hh]
        simp only [Bool.false_eq_true, if_false, if_true]
        unfold res; rw [hn, h2]
      rw [← ho]; exact Go.one h5
    · obtain ⟨p, h1, h2⟩ := numC_drop 2147483647 t
      refine ⟨p + 1, by rw [← hl, e]; simp; omega, ?_⟩
      rw [e]
      have ho : one (35 :: t) = .bad (t.drop p) := by
        have h34 : hd 34 (35 :: t) = false := rfl
        have h35 : hd 35 (35 :: t) = true := rfl
        unfold one
        rw [h34, h35]
        simp only [Bool.false_eq_true, if_false, if_true, List.drop_succ_cons, List.drop_zero]
        unfold res; rw [hn, h2]
      rw [List.drop_succ_cons, ← ho]; exact Go.one rfl
  obtain ⟨p, _, hg⟩ := hg
  exact rread_bad eD eM eR eS aY hP s w hs he p hg

end Go.Proofs.YtlinclbodbbemaaDoor

namespace Go.Proofs.YtlinclbodbbemaaDoor
open Go.RowKit
set_option maxRecDepth 100000

/-- A word of the program's: its line, what it is. -/
def tokVal (k : Int) (n : Nat) (s : Bs) (t : T) (q : Option Addr) (c : Nat) : Value := .agg #[.int .i64 k, .int .i64 n, .string ⟨s.toArray⟩, .int .i64 t.k, .int .i64 t.n, .string t.s, .slice q 0 c]
abbrev zeroTok : Value := .agg #[.int .i64 0, .int .i64 0, .string ⟨#[]⟩, .int .i64 0, .int .i64 0, .string ⟨#[]⟩, .slice none 0 0]
def eY (aY : Addr) : Value := .iface 199 (.pointer (some aY))
def WordPost (eR : Value) (aY : Addr) (s : ByteArray) (n g : Nat) (w : World) : WR → Ending → World → Prop
  | .ok k t v r, e, w' => ∃ p' q c, p' ≤ s.size ∧ s.data.toList.drop p' = r ∧ e = .returned (.tuple #[tokVal k n t v q c, .nilIface]) ∧ LR w' g s p' n ∧ But g w w'
  | .bad b, e, w' => ∃ p', e = .returned (.tuple #[zeroTok, if b then eR else eY aY]) ∧ LR w' g s p' n ∧ But g w w'
/-- What the walk holds of the two boxes. -/
structure Bx (s : ByteArray) (n g gR gT : Nat) (w W : World) (p : Nat) (k : Int) (u : ByteArray) (v0 v1 : Int) (v2 : ByteArray) (q : Option Addr) (c : Nat) : Prop where
  lr : LR W g s p n
  but : But g w W
  res : W.heap[gR]? = some (.cells #[.int .i64 0, .int .i64 0, .string ⟨#[]⟩, .int .i64 0, .int .i64 0, .string ⟨#[]⟩, .slice none 0 0] 34 (0, 0))
  tok : W.heap[gT]? = some (.cells #[.int .i64 k, .int .i64 n, .string u, .int .i64 v0, .int .i64 v1, .string v2, .slice q 0 c] 34 (0, 0))
  r0 : w.heap.size ≤ gR
  rt : gR < gT
  gw : g < w.heap.size
theorem Bx.call {s : ByteArray} {n g gR gT : Nat} {w W W' : World} {p p' : Nat} {k : Int} {u : ByteArray} {v0 v1 : Int} {v2 : ByteArray} {q : Option Addr} {c : Nat} (h : Bx s n g gR gT w W p k u v0 v1 v2 q c) (hl : LR W' g s p' n) (hb : But g W W') : Bx s n g gR gT w W' p' k u v0 v1 v2 q c :=
  ⟨hl, h.but.trans hb, but_heap h.res hb (by have := h.r0; have := h.gw; omega), but_heap h.tok hb (by have := h.r0; have := h.gw; have := h.rt; omega), h.r0, h.rt, h.gw⟩
theorem Bx.drewN {s : ByteArray} {n g gR gT : Nat} {w W : World} {p : Nat} {k : Int} {u : ByteArray} {v0 v1 : Int} {v2 : ByteArray} {q : Option Addr} {c : Nat} (h : Bx s n g gR gT w W p k u v0 v1 v2 q c) (m : Nat) : Bx s n g gR gT w (W.drewN m) p k u v0 v1 v2 q c :=
  ⟨h.lr.drewN m, h.but.drewN m, h.res, h.tok, h.r0, h.rt, h.gw⟩
theorem Bx.start {s : ByteArray} {n g : Nat} {w : World} {p : Nat} (h : LR w g s p n) : Bx s n g w.heap.size (w.heap.size + 1) w ((w.alloc (.cells #[.int .i64 0, .int .i64 0, .string ⟨#[]⟩, .int .i64 0, .int .i64 0, .string ⟨#[]⟩, .slice none 0 0] 34)).alloc (.cells #[.int .i64 3, .int .i64 n, .string ⟨#[]⟩, .int .i64 0, .int .i64 0, .string ⟨#[]⟩, .slice none 0 0] 34)) p 3 ⟨#[]⟩ 0 0 ⟨#[]⟩ none 0 :=
  ⟨(h.alloc _).alloc _, ((But.refl _ _).alloc _).alloc _, heap_alloc_ _ _ _ _ (heap_alloc_new w _), by
    have h := heap_alloc_new (w.alloc (.cells #[.int .i64 0, .int .i64 0, .string ⟨#[]⟩, .int .i64 0, .int .i64 0, .string ⟨#[]⟩, .slice none 0 0] 34)) (.cells #[.int .i64 3, .int .i64 n, .string ⟨#[]⟩, .int .i64 0, .int .i64 0, .string ⟨#[]⟩, .slice none 0 0] 34)
    simp only [World.size_alloc] at h
    exact h, Nat.le_refl _, by omega, h.lt⟩
theorem ba_list (d : Bs) : (⟨d.toArray⟩ : ByteArray).data.toList = d := rfl
theorem row_set7 {W : World} {b : Nat} {c0 c1 c2 c3 c4 c5 c6 : Value} {t : TypeId} (h : W.heap[b]? = some (.cells #[c0, c1, c2, c3, c4, c5, c6] t (0, 0))) (v : Value) :
    (W.setCell ⟨b, 0, none⟩ v).heap[b]? = some (.cells #[v, c1, c2, c3, c4, c5, c6] t (0, 0)) ∧ (W.setCell ⟨b, 2, none⟩ v).heap[b]? = some (.cells #[c0, c1, v, c3, c4, c5, c6] t (0, 0)) ∧ (W.setCell ⟨b, 3, none⟩ v).heap[b]? = some (.cells #[c0, c1, c2, v, c4, c5, c6] t (0, 0)) ∧
    (W.setCell ⟨b, 4, none⟩ v).heap[b]? = some (.cells #[c0, c1, c2, c3, v, c5, c6] t (0, 0)) ∧ (W.setCell ⟨b, 5, none⟩ v).heap[b]? = some (.cells #[c0, c1, c2, c3, c4, v, c6] t (0, 0)) ∧ (W.setCell ⟨b, 6, none⟩ v).heap[b]? = some (.cells #[c0, c1, c2, c3, c4, c5, v] t (0, 0)) := by
  refine ⟨?_, ?_, ?_, ?_, ?_, ?_⟩ <;> simp [World.setCell, Array.getElem?_modify, h]
theorem Bx.far {s : ByteArray} {n g gR gT : Nat} {w W : World} {p : Nat} {k : Int} {u : ByteArray} {v0 v1 : Int} {v2 : ByteArray} {q : Option Addr} {c : Nat} (h : Bx s n g gR gT w W p k u v0 v1 v2 q c) (o : Nat) (v : Value) :
    LR (W.setCell ⟨gT, o, none⟩ v) g s p n ∧ But g w (W.setCell ⟨gT, o, none⟩ v) ∧ (W.setCell ⟨gT, o, none⟩ v).heap[gR]? = some (.cells #[.int .i64 0, .int .i64 0, .string ⟨#[]⟩, .int .i64 0, .int .i64 0, .string ⟨#[]⟩, .slice none 0 0] 34 (0, 0)) := by
  have h1 := h.r0; have h2 := h.rt; have h3 := h.gw
  exact ⟨h.lr.other _ (by show gT ≠ g; omega) _, h.but.far (by show w.heap.size ≤ gT; omega) _, (Below.heap_setCell _ _ _ _ (by show gR ≠ gT; omega)).trans h.res⟩
theorem Bx.setK {s : ByteArray} {n g gR gT : Nat} {w W : World} {p : Nat} {k : Int} {u : ByteArray} {v0 v1 : Int} {v2 : ByteArray} {q : Option Addr} {c : Nat} (h : Bx s n g gR gT w W p k u v0 v1 v2 q c) (x : Int) : Bx s n g gR gT w (W.setCell ⟨gT, 0, none⟩ (.int .i64 x)) p x u v0 v1 v2 q c :=
  ⟨(h.far 0 _).1, (h.far 0 _).2.1, (h.far 0 _).2.2, (row_set7 h.tok _).1, h.r0, h.rt, h.gw⟩
theorem Bx.setS {s : ByteArray} {n g gR gT : Nat} {w W : World} {p : Nat} {k : Int} {u : ByteArray} {v0 v1 : Int} {v2 : ByteArray} {q : Option Addr} {c : Nat} (h : Bx s n g gR gT w W p k u v0 v1 v2 q c) (x : ByteArray) : Bx s n g gR gT w (W.setCell ⟨gT, 2, none⟩ (.string x)) p k x v0 v1 v2 q c :=
  ⟨(h.far 2 _).1, (h.far 2 _).2.1, (h.far 2 _).2.2, (row_set7 h.tok _).2.1, h.r0, h.rt, h.gw⟩
theorem Bx.setV0 {s : ByteArray} {n g gR gT : Nat} {w W : World} {p : Nat} {k : Int} {u : ByteArray} {v0 v1 : Int} {v2 : ByteArray} {q : Option Addr} {c : Nat} (h : Bx s n g gR gT w W p k u v0 v1 v2 q c) (x : Int) : Bx s n g gR gT w (W.setCell ⟨gT, 3, none⟩ (.int .i64 x)) p k u x v1 v2 q c :=
  ⟨(h.far 3 _).1, (h.far 3 _).2.1, (h.far 3 _).2.2, (row_set7 h.tok _).2.2.1, h.r0, h.rt, h.gw⟩
theorem Bx.setV1 {s : ByteArray} {n g gR gT : Nat} {w W : World} {p : Nat} {k : Int} {u : ByteArray} {v0 v1 : Int} {v2 : ByteArray} {q : Option Addr} {c : Nat} (h : Bx s n g gR gT w W p k u v0 v1 v2 q c) (x : Int) : Bx s n g gR gT w (W.setCell ⟨gT, 4, none⟩ (.int .i64 x)) p k u v0 x v2 q c :=
  ⟨(h.far 4 _).1, (h.far 4 _).2.1, (h.far 4 _).2.2, (row_set7 h.tok _).2.2.2.1, h.r0, h.rt, h.gw⟩
theorem Bx.setV2 {s : ByteArray} {n g gR gT : Nat} {w W : World} {p : Nat} {k : Int} {u : ByteArray} {v0 v1 : Int} {v2 : ByteArray} {q : Option Addr} {c : Nat} (h : Bx s n g gR gT w W p k u v0 v1 v2 q c) (x : ByteArray) : Bx s n g gR gT w (W.setCell ⟨gT, 5, none⟩ (.string x)) p k u v0 v1 x q c :=
  ⟨(h.far 5 _).1, (h.far 5 _).2.1, (h.far 5 _).2.2, (row_set7 h.tok _).2.2.2.2.1, h.r0, h.rt, h.gw⟩
theorem Bx.setV3 {s : ByteArray} {n g gR gT : Nat} {w W : World} {p : Nat} {k : Int} {u : ByteArray} {v0 v1 : Int} {v2 : ByteArray} {q : Option Addr} {c : Nat} (h : Bx s n g gR gT w W p k u v0 v1 v2 q c) (x : Option Addr) (d : Nat) : Bx s n g gR gT w (W.setCell ⟨gT, 6, none⟩ (.slice x 0 d)) p k u v0 v1 v2 x d :=
  ⟨(h.far 6 _).1, (h.far 6 _).2.1, (h.far 6 _).2.2, (row_set7 h.tok _).2.2.2.2.2, h.r0, h.rt, h.gw⟩
/-- What is stored into the result's box. -/
theorem Bx.out {s : ByteArray} {n g gR gT : Nat} {w W : World} {p : Nat} {k : Int} {u : ByteArray} {v0 v1 : Int} {v2 : ByteArray} {q : Option Addr} {c : Nat} (h : Bx s n g gR gT w W p k u v0 v1 v2 q c) (c0 c1 c2 c3 c4 c5 c6 : Value) :
    LR (((((((W.setCell ⟨gR, 0, none⟩ c0).setCell ⟨gR, 1, none⟩ c1).setCell ⟨gR, 2, none⟩ c2).setCell ⟨gR, 3, none⟩ c3).setCell ⟨gR, 4, none⟩ c4).setCell ⟨gR, 5, none⟩ c5).setCell ⟨gR, 6, none⟩ c6) g s p n ∧
    But g w (((((((W.setCell ⟨gR, 0, none⟩ c0).setCell ⟨gR, 1, none⟩ c1).setCell ⟨gR, 2, none⟩ c2).setCell ⟨gR, 3, none⟩ c3).setCell ⟨gR, 4, none⟩ c4).setCell ⟨gR, 5, none⟩ c5).setCell ⟨gR, 6, none⟩ c6) := by
  have h1 := h.r0; have h3 := h.gw
  have hne : gR ≠ g := by omega
  exact ⟨((((((h.lr.other _ hne _).other _ hne _).other _ hne _).other _ hne _).other _ hne _).other _ hne _).other _ hne _, ((((((h.but.far h1 _).far h1 _).far h1 _).far h1 _).far h1 _).far h1 _).far h1 _⟩

end Go.Proofs.YtlinclbodbbemaaDoor

namespace Go.Proofs.YtlinclbodbbemaaDoor
open Go.RowKit
set_option maxRecDepth 100000

theorem Bx.alloc {s : ByteArray} {n g gR gT : Nat} {w W : World} {p : Nat} {k : Int} {u : ByteArray} {v0 v1 : Int} {v2 : ByteArray} {q : Option Addr} {c : Nat} (h : Bx s n g gR gT w W p k u v0 v1 v2 q c) (o : Obj) : Bx s n g gR gT w (W.alloc o) p k u v0 v1 v2 q c :=
  ⟨h.lr.alloc o, h.but.alloc o, heap_alloc_ _ _ _ _ h.res, heap_alloc_ _ _ _ _ h.tok, h.r0, h.rt, h.gw⟩
theorem Bx.drew {s : ByteArray} {n g gR gT : Nat} {w W : World} {p : Nat} {k : Int} {u : ByteArray} {v0 v1 : Int} {v2 : ByteArray} {q : Option Addr} {c : Nat} (h : Bx s n g gR gT w W p k u v0 v1 v2 q c) : Bx s n g gR gT w W.drew p k u v0 v1 v2 q c := h.drewN 1
theorem Bx.bel {s : ByteArray} {n g gR gT : Nat} {w W W' : World} {p : Nat} {k : Int} {u : ByteArray} {v0 v1 : Int} {v2 : ByteArray} {q : Option Addr} {c : Nat} (h : Bx s n g gR gT w W p k u v0 v1 v2 q c) (hb : Below W.heap.size W W') : Bx s n g gR gT w W' p k u v0 v1 v2 q c :=
  h.call (h.lr.below hb) (But.of_below hb)
theorem Bx.tl {s : ByteArray} {n g gR gT : Nat} {w W : World} {p : Nat} {k : Int} {u : ByteArray} {v0 v1 : Int} {v2 : ByteArray} {q : Option Addr} {c : Nat} (h : Bx s n g gR gT w W p k u v0 v1 v2 q c) : gT < W.heap.size := heap_lt' h.tok
/-- Another box that is written. -/
theorem Bx.set4 {s : ByteArray} {n g gR gT : Nat} {w W : World} {p : Nat} {k : Int} {u : ByteArray} {v0 v1 : Int} {v2 : ByteArray} {q : Option Addr} {c : Nat} (h : Bx s n g gR gT w W p k u v0 v1 v2 q c) {b : Nat} (hb : gT < b) (x0 x1 x2 x3 : Value) :
    Bx s n g gR gT w ((((W.setCell ⟨b, 0, none⟩ x0).setCell ⟨b, 1, none⟩ x1).setCell ⟨b, 2, none⟩ x2).setCell ⟨b, 3, none⟩ x3) p k u v0 v1 v2 q c := by
  have h1 := h.r0; have h2 := h.rt; have h3 := h.gw
  have hg : (b : Nat) ≠ g := by omega
  have hw : w.heap.size ≤ b := by omega
  exact ⟨(((h.lr.other _ hg _).other _ hg _).other _ hg _).other _ hg _, (((h.but.far hw _).far hw _).far hw _).far hw _, (heap_set4' _ _ _ _ _ _ _ _ _ _ _ (by omega)).trans h.res, (heap_set4' _ _ _ _ _ _ _ _ _ _ _ (by omega)).trans h.tok, h.r0, h.rt, h.gw⟩
theorem row4_set {W : World} {b : Nat} {c0 c1 c2 c3 : Value} {t : TypeId} (h : W.heap[b]? = some (.cells #[c0, c1, c2, c3] t (0, 0))) (x0 x1 x2 x3 : Value) :
    ((((W.setCell ⟨b, 0, none⟩ x0).setCell ⟨b, 1, none⟩ x1).setCell ⟨b, 2, none⟩ x2).setCell ⟨b, 3, none⟩ x3).heap[b]? = some (.cells #[x0, x1, x2, x3] t (0, 0)) := by
  simp [World.setCell, Array.getElem?_modify, h]
/-- The boxes, and the one that a value was read into. -/
structure Vx (s : ByteArray) (n g gR gT : Nat) (w W : World) (p : Nat) (x : Nat) (xk xn : Int) (xs : ByteArray) (xq : Option Addr) (xc : Nat) : Prop where
  bx : Bx s n g gR gT w W p 3 ⟨#[]⟩ 0 0 ⟨#[]⟩ none 0
  box : W.heap[x]? = some (.cells #[.int .i64 xk, .int .i64 xn, .string xs, .slice xq 0 xc] 32 (0, 0))
  lt : gT < x
theorem Vx.of_set {s : ByteArray} {n g gR gT : Nat} {w W : World} {p x : Nat} {c0 c1 c2 c3 : Value} (h : Bx s n g gR gT w W p 3 ⟨#[]⟩ 0 0 ⟨#[]⟩ none 0) (hx : gT < x) (hb : W.heap[x]? = some (.cells #[c0, c1, c2, c3] 32 (0, 0))) (xk xn : Int) (xs : ByteArray) (xq : Option Addr) (xc : Nat) :
    Vx s n g gR gT w ((((W.setCell ⟨x, 0, none⟩ (.int .i64 xk)).setCell ⟨x, 1, none⟩ (.int .i64 xn)).setCell ⟨x, 2, none⟩ (.string xs)).setCell ⟨x, 3, none⟩ (.slice xq 0 xc)) p x xk xn xs xq xc :=
  ⟨h.set4 hx _ _ _ _, row4_set hb _ _ _ _, hx⟩
theorem Vx.of_alloc {s : ByteArray} {n g gR gT : Nat} {w W : World} {p : Nat} (h : Bx s n g gR gT w W p 3 ⟨#[]⟩ 0 0 ⟨#[]⟩ none 0) (xk xn : Int) (xs : ByteArray) (xq : Option Addr) (xc : Nat) :
    Vx s n g gR gT w (W.alloc (.cells #[.int .i64 xk, .int .i64 xn, .string xs, .slice xq 0 xc] 32)) p W.heap.size xk xn xs xq xc :=
  ⟨h.alloc _, heap_alloc_new W _, h.tl⟩
theorem set4_cell {W : World} {b g o : Nat} {u : Value} (h : W.cell? ⟨g, o, none⟩ = some u) (hne : g ≠ b) (x0 x1 x2 x3 : Value) : ((((W.setCell ⟨b, 0, none⟩ x0).setCell ⟨b, 1, none⟩ x1).setCell ⟨b, 2, none⟩ x2).setCell ⟨b, 3, none⟩ x3).cell? ⟨g, o, none⟩ = some u :=
  (World.cell?_of_block (a := ⟨g, o, none⟩) (heap_set4' _ _ _ _ _ _ _ _ _ _ _ hne)).trans h
theorem beq48 (d : Bs) (b : Bool) (h : decide (d = [48]) = b) : ((⟨d.toArray⟩ : ByteArray).toList == [48]) = b := by
  subst h
  rw [ByteArray.toList_eq, ba_list, Bool.eq_iff_iff]; simp

end Go.Proofs.YtlinclbodbbemaaDoor

namespace Go.Proofs.YtlinclbodbbemaaDoor
open Go.RowKit
set_option maxRecDepth 100000

/-- Does a blank, an end of line, or nothing stand first? -/
def gap : Bs → Bool
  | [] => true
  | c :: _ => c.toNat == 10 || c.toNat == 32
theorem gap_cases {r : Bs} (h : gap r = true) : r = [] ∨ (∃ q, r = 10 :: q) ∨ ∃ q, r = 32 :: q := by
  cases r with
  | nil => exact .inl rfl
  | cons c q =>
    simp only [gap, Bool.or_eq_true, beq_iff_eq] at h
    rcases h with h | h
    · exact .inr (.inl ⟨q, by rw [← UInt8.ofNat_toNat (x := c), h]; rfl⟩)
    · exact .inr (.inr ⟨q, by rw [← UInt8.ofNat_toNat (x := c), h]; rfl⟩)
theorem gap_stop {r : Bs} (h : gap r = true) : stop r = true := by
  rcases gap_cases h with rfl | ⟨q, rfl⟩ | ⟨q, rfl⟩ <;> rfl
/-- A word as text. -/
def txTok (t : Tok) : Bs := if t.k = 3 then tx t.v else t.s
def Good (k : Int) (s : Bs) (v : T) : Prop := ∀ r, gap r = true → ∀ n, wordL (txTok ⟨k, n, s, v⟩ ++ r) = .ok k s v r ∧ begW (txTok ⟨k, n, s, v⟩ ++ r) = true
theorem good_lit {v : T} (h : litT v) : Good 3 [] v := fun r hr n => by
  have e : txTok ⟨3, n, [], v⟩ = tx v := by unfold txTok; exact if_pos rfl
  rw [e]
  exact ⟨lit_word h r (.inr (gap_stop hr)), tx_beg h r⟩
theorem codeAt_sound (l : Bs) : ∀ (xs : List Bs) (i : Nat) {j : Nat}, codeAt l i xs = some j → ∃ k, xs[k]? = some l ∧ j = i + k
  | [], _, _, h => by simp [codeAt] at h
  | m :: r, i, j, h => by
    rw [codeAt] at h
    by_cases e : m = l
    · rw [if_pos e] at h; injection h with h; exact ⟨0, by simp [e], by omega⟩
    · rw [if_neg e] at h
      obtain ⟨k, h1, h2⟩ := codeAt_sound l r (i + 1) h
      exact ⟨k + 1, by simpa using h1, by omega⟩
theorem codeL_sound {l : Bs} {q : Int} (h : codeL l = (q, true)) : 0 ≤ q ∧ q ≤ 14 ∧ nameOf q = l := by
  unfold codeL at h
  cases hc : codeAt l 0 names with
  | none => rw [hc] at h; simp at h
  | some j =>
    rw [hc] at h
    simp only [Prod.mk.injEq, and_true] at h
    obtain ⟨k, h1, h2⟩ := codeAt_sound l names 0 hc
    have hk : k < 15 := (List.getElem?_eq_some_iff.1 h1).1
    subst h
    refine ⟨by omega, by omega, ?_⟩
    unfold nameOf
    rw [if_neg (by omega), show ((j : Int)).toNat = k by omega, h1]; rfl
theorem signAt_mem (i : Bs) : ∀ (xs : List Bs) (b : Bs), signAt i b xs = b ∨ signAt i b xs ∈ xs
  | [], b => .inl rfl
  | x :: r, b => by
    rw [signAt]
    by_cases h : pfx x i = true
    · rw [if_pos h]
      rcases signAt_mem i r x with h1 | h1
      · right; rw [h1]; exact List.mem_cons_self
      · exact .inr (List.mem_cons_of_mem _ h1)
    · rw [if_neg h]
      rcases signAt_mem i r b with h1 | h1
      · exact .inl h1
      · exact .inr (List.mem_cons_of_mem _ h1)
theorem sign_word (b : Bs) (hb : b ∈ signsB) (r : Bs) (hr : gap r = true) : wordL (b ++ r) = .ok 4 b zT r ∧ begW (b ++ r) = true := by
  have hm : ∀ P : Bs → Prop, (P [33] ∧ P [33, 61] ∧ P [36] ∧ P [37] ∧ P [38, 38] ∧ P [39] ∧ P [40] ∧ P [41] ∧ P [42] ∧ P [43] ∧ P [44] ∧ P [45] ∧ P [46] ∧ P [46, 46] ∧ P [47] ∧ P [58] ∧ P [59] ∧ P [60] ∧ P [60, 61] ∧ P [61] ∧ P [61, 61] ∧ P [61, 62] ∧ P [62] ∧ P [62, 61] ∧ P [63] ∧ P [64] ∧ P [91] ∧ P [93] ∧ P [96] ∧ P [123] ∧ P [124] ∧ P [124, 124] ∧ P [125]) → P b := fun P h => by
    simp only [signsB, List.mem_cons, List.not_mem_nil, or_false] at hb
    obtain ⟨h0, h1, h2, h3, h4, h5, h6, h7, h8, h9, h10, h11, h12, h13, h14, h15, h16, h17, h18, h19, h20, h21, h22, h23, h24, h25, h26, h27, h28, h29, h30, h31, h32⟩ := h
    rcases hb with rfl | rfl | rfl | rfl | rfl | rfl | rfl | rfl | rfl | rfl | rfl | rfl | rfl | rfl | rfl | rfl | rfl | rfl | rfl | rfl | rfl | rfl | rfl | rfl | rfl | rfl | rfl | rfl | rfl | rfl | rfl | rfl | rfl <;> assumption
  refine hm (fun b => wordL (b ++ r) = .ok 4 b zT r ∧ begW (b ++ r) = true) ?_
  rcases gap_cases hr with rfl | ⟨q, rfl⟩ | ⟨q, rfl⟩
  all_goals exact ⟨⟨rfl, rfl⟩, ⟨rfl, rfl⟩, ⟨rfl, rfl⟩, ⟨rfl, rfl⟩, ⟨rfl, rfl⟩, ⟨rfl, rfl⟩, ⟨rfl, rfl⟩, ⟨rfl, rfl⟩, ⟨rfl, rfl⟩, ⟨rfl, rfl⟩, ⟨rfl, rfl⟩, ⟨rfl, rfl⟩, ⟨rfl, rfl⟩, ⟨rfl, rfl⟩, ⟨rfl, rfl⟩, ⟨rfl, rfl⟩, ⟨rfl, rfl⟩, ⟨rfl, rfl⟩, ⟨rfl, rfl⟩, ⟨rfl, rfl⟩, ⟨rfl, rfl⟩, ⟨rfl, rfl⟩, ⟨rfl, rfl⟩, ⟨rfl, rfl⟩, ⟨rfl, rfl⟩, ⟨rfl, rfl⟩, ⟨rfl, rfl⟩, ⟨rfl, rfl⟩, ⟨rfl, rfl⟩, ⟨rfl, rfl⟩, ⟨rfl, rfl⟩, ⟨rfl, rfl⟩, ⟨rfl, rfl⟩⟩

theorem word_good {j : Bs} {k : Int} {s : Bs} {v : T} {r : Bs} (hj : j ≠ []) (h : wordL j = .ok k s v r) : Good k s v ∧ (∀ n, (txTok ⟨k, n, s, v⟩).length + r.length ≤ j.length) := by
  cases j with
  | nil => exact absurd rfl hj
  | cons c q =>
    have hw := h
    rw [wordL_cons] at h
    split at h
    · unfold strWord at h
      rcases hq : strOf q with ⟨o, r'⟩
      rw [hq] at h
      cases o with
      | none => cases h
      | some l =>
        simp only [WR.ok.injEq] at h
        obtain ⟨rfl, rfl, rfl, rfl⟩ := h
        obtain ⟨e, hp⟩ := strOf_sound _ _ (Nat.le_refl _) hq
        refine ⟨good_lit (.inr (.inr (.inl ⟨rfl, rfl, rfl, hp⟩))), fun n => ?_⟩
        have e2 : txTok ⟨3, n, [], .mk 2 0 ⟨l.toArray⟩ []⟩ = 34 :: (esc l ++ [34]) := by unfold txTok; rw [if_pos rfl, tx2]
        rw [e2, e]; simp; omega
    · split at h
      · unfold objWord at h
        split at h
        · obtain ⟨hA, rfl, rfl, rfl, N, hn, rfl, hz⟩ := numWord_ok h
          have hT : NumT true (45 :: runB (q.drop 1)) (runB (q.drop 1)) := ⟨hA, .inr ⟨rfl, fun e => hz ⟨rfl, e⟩, rfl⟩⟩
          obtain ⟨e, h1, h2⟩ := num_tx (by omega) (hT.rest hn)
          refine ⟨good_lit (.inr (.inl ⟨rfl, by omega, by omega, rfl, rfl⟩)), fun n => ?_⟩
          have e2 : txTok ⟨3, n, [], .mk 1 N ⟨#[]⟩ []⟩ = 35 :: 45 :: runB (q.drop 1) := by unfold txTok; rw [if_pos rfl, tx1, e]
          have hl : (runB (q.drop 1)).length ≤ q.length - 1 := by have := runB_le (q.drop 1); rw [List.length_drop] at this; exact this
          have hq1 : 0 < q.length := by
            rename_i h45
            obtain ⟨_, _, rfl, _⟩ := hd_iff h45
            simp
          rw [e2]; simp only [List.length_cons, List.length_drop]; omega
        · obtain ⟨hA, rfl, rfl, rfl, N, hn, rfl, hz⟩ := numWord_ok h
          have hT : NumT false (runB q) (runB q) := ⟨hA, .inl ⟨rfl, rfl⟩⟩
          obtain ⟨e, h1, h2⟩ := num_tx (by omega) (hT.rest hn)
          refine ⟨good_lit (.inr (.inl ⟨rfl, by omega, by omega, rfl, rfl⟩)), fun n => ?_⟩
          have e2 : txTok ⟨3, n, [], .mk 1 N ⟨#[]⟩ []⟩ = 35 :: runB q := by unfold txTok; rw [if_pos rfl, tx1, e]
          have hl := runB_le q
          rw [e2]; simp; omega
      · split at h
        · rename_i hc
          obtain ⟨hA, rfl, rfl, rfl, N, hn, rfl, hz⟩ := numWord_ok h
          have hT : NumT false (runB (c :: q)) (runB (c :: q)) := ⟨hA, .inl ⟨rfl, rfl⟩⟩
          obtain ⟨e, h1, h2⟩ := num_tx (by omega) (hT.rest hn)
          have hN : 0 ≤ N := by
            rcases Int.lt_or_le N 0 with hneg | hpos
            · rw [itoa_neg hneg, runB, isD_R hc, if_pos rfl] at e
              injection e with e _
              subst e; cases hc
            · exact hpos
          refine ⟨good_lit (.inl ⟨rfl, hN, by omega, rfl, rfl⟩), fun n => ?_⟩
          have e2 : txTok ⟨3, n, [], .mk 0 N ⟨#[]⟩ []⟩ = runB (c :: q) := by unfold txTok; rw [if_pos rfl, tx0, e]
          have hl := runB_le (c :: q)
          rw [e2, List.length_drop]; omega
        · split at h
          · unfold errWord at h
            split at h
            · rename_i hb
              simp only [WR.ok.injEq] at h
              obtain ⟨rfl, rfl, rfl, rfl⟩ := h
              obtain ⟨h1, h2, h3⟩ := codeL_sound (l := runB (c :: q)) (q := (codeL (runB (c :: q))).1) (by rw [← hb])
              refine ⟨good_lit (.inr (.inr (.inr ⟨rfl, h1, h2, rfl, rfl⟩))), fun n => ?_⟩
              have e2 : txTok ⟨3, n, [], .mk 3 (codeL (runB (c :: q))).1 ⟨#[]⟩ []⟩ = runB (c :: q) := by unfold txTok; rw [if_pos rfl, tx3, h3]
              have hl := runB_le (c :: q)
              rw [e2, List.length_drop]; omega
            · cases h
          · split at h
            · rename_i g34 g35 gD gC gS
              unfold nameWord at h
              split at h
              · rename_i hb
                simp only [WR.ok.injEq] at h
                obtain ⟨hk, rfl, rfl, rfl⟩ := h
                have hR : isR c = true := by
                  unfold isR
                  simp only [hd, Bool.or_eq_true, beq_iff_eq] at gS
                  rcases gS with gS | gS
                  · rw [gS]; simp
                  · simp [gS]
                have hk3 : k ≠ 3 := by
                  rw [← hk]; unfold kindL
                  split
                  · decide
                  · split
                    · decide
                    · show (1 : Int) ≠ 3; decide
                have e2 : ∀ n, txTok ⟨k, n, runB (c :: q), zT⟩ = runB (c :: q) := fun n => by unfold txTok; rw [if_neg hk3]
                have hrc : runB (c :: q) = c :: runB q := by rw [runB, hR, if_pos rfl]
                refine ⟨fun r' hr' n => ?_, fun n => ?_⟩
                · rw [e2]
                  have hrr := runB_app (runB (c :: q)) r' (runB_all _) (gap_stop hr')
                  rw [hrc] at hrr hk hb ⊢
                  rw [List.cons_append] at hrr ⊢
                  refine ⟨?_, ?_⟩
                  · rw [wordL_cons, if_neg (show ¬ (hd 34 (c :: (runB q ++ r')) = true) from g34), if_neg (show ¬ (hd 35 (c :: (runB q ++ r')) = true) from g35), if_neg gD, if_neg gC, if_pos (show (isS c || hd 95 (c :: (runB q ++ r'))) = true from gS)]
                    unfold nameWord
                    rw [hrr, if_pos hb, hk, ← List.cons_append, List.drop_left]
                  · simp only [begW, Bool.and_eq_true, bne_iff_ne]
                    unfold isR isS isC isD at hR
                    simp at hR
                    omega
                · rw [e2, List.length_drop]; have hl := runB_le (c :: q); omega
              · cases h
            · unfold signWord at h
              split at h
              · cases h
              · rename_i hb
                simp only [WR.ok.injEq] at h
                obtain ⟨rfl, rfl, rfl, rfl⟩ := h
                have hm : signL (c :: q) ∈ signsB := (signAt_mem (c :: q) signsB []).resolve_left hb
                have e2 : ∀ n, txTok ⟨4, n, signL (c :: q), zT⟩ = signL (c :: q) := fun n => by unfold txTok; exact if_neg (show ¬ ((4 : Int) = 3) by decide)
                refine ⟨fun r' hr' n => by rw [e2]; exact sign_word _ hm r' hr', fun n => ?_⟩
                have hl := congrArg List.length (signL_pre (c :: q))
                rw [e2]; simp at hl ⊢; omega

end Go.Proofs.YtlinclbodbbemaaDoor

namespace Go.Proofs.YtlinclbodbbemaaDoor
open Go.RowKit
set_option maxRecDepth 100000

/-- Blanks and ends of lines alone. -/
def blank (b : Bs) : Bool := b.all (fun c => c.toNat == 10 || c.toNat == 32)
/-- How many ends of lines. -/
def nl : Bs → Nat
  | [] => 0
  | c :: r => (if c.toNat = 10 then 1 else 0) + nl r
theorem nl_app : ∀ a b, nl (a ++ b) = nl a + nl b
  | [], b => by simp [nl]
  | c :: r, b => by rw [List.cons_append, nl, nl, nl_app r b]; omega
theorem nl_rep : ∀ n, nl (List.replicate n 10) = n
  | 0 => rfl
  | n + 1 => by rw [List.replicate_succ, nl, nl_rep n, if_pos (by decide)]; omega
theorem nl_rep32 : ∀ n, nl (List.replicate n 32) = 0
  | 0 => rfl
  | n + 1 => by rw [List.replicate_succ, nl, nl_rep32 n, if_neg (by decide)]
theorem blank_app (a b : Bs) : blank (a ++ b) = (blank a && blank b) := by unfold blank; rw [List.all_append]
theorem skip_blank : ∀ (b : Bs) (n : Nat) (r : Bs), blank b = true → skipL n (b ++ r) = skipL (n + nl b) r
  | [], n, r, _ => rfl
  | c :: b, n, r, h => by
    unfold blank at h
    rw [List.all_cons, Bool.and_eq_true] at h
    have ih := fun m => skip_blank b m r h.2
    rw [List.cons_append, skipL, nl]
    by_cases h10 : c.toNat = 10
    · rw [if_pos h10, if_pos h10, ih]; congr 1; omega
    · have h32 : c.toNat = 32 := by have := h.1; simp [h10] at this; exact this
      rw [if_neg h10, if_pos h32, if_neg h10, ih]; congr 1; omega
theorem blank_gap {b : Bs} (r : Bs) (h : blank b = true) (hr : b = [] → gap r = true) : gap (b ++ r) = true := by
  cases b with
  | nil => exact hr rfl
  | cons c q => unfold blank at h; rw [List.all_cons, Bool.and_eq_true] at h; exact h.1

abbrev GRow := List (Bs × Tok)
def catG : GRow → Bs
  | [] => []
  | (g, t) :: r => g ++ (txTok t ++ catG r)
/-- The words, on the lines that what stands between them makes. -/
def linesG : Nat → GRow → List Tok
  | _, [] => []
  | n, (g, t) :: r => ⟨t.k, n + nl g, t.s, t.v⟩ :: linesG (n + nl g) r
/-- What is between: blanks alone, and something ahead of each but the first. -/
def OkG : Bool → GRow → Prop
  | _, [] => True
  | first, (g, t) :: r => blank g = true ∧ (first = false → g ≠ []) ∧ Good t.k t.s t.v ∧ OkG false r
theorem okG_gap : ∀ (L : GRow) (e : Bs), OkG false L → blank e = true → gap (catG L ++ e) = true
  | [], e, _, he => by rw [catG, List.nil_append, ← List.append_nil e]; exact blank_gap [] he (fun _ => rfl)
  | (g, t) :: r, e, h, _ => by
    rw [catG, List.append_assoc]
    exact blank_gap _ h.1 (fun h0 => absurd h0 (h.2.1 rfl))
theorem rows_lx : ∀ (L : GRow) (first : Bool) (n : Nat) (e : Bs), OkG first L → blank e = true → Lx n (catG L ++ e) (.ok (linesG n L))
  | [], _, n, e, _, he => by
    refine Lx.done (m := n + nl e) ?_
    rw [catG, List.nil_append]
    have := skip_blank e n [] he
    rwa [List.append_nil] at this
  | (g, t) :: r, first, n, e, h, he => by
    obtain ⟨h1, _, h3, h4⟩ := h
    have hgap := okG_gap r e h4 he
    obtain ⟨k1, k2⟩ := h3 (catG r ++ e) hgap t.n
    obtain ⟨s1, s2⟩ := skipL_self (n := n + nl g) k2
    have ec : catG ((g, t) :: r) ++ e = g ++ (txTok t ++ (catG r ++ e)) := by rw [catG]; simp
    rw [ec]
    exact Lx.cons (R := .ok (linesG (n + nl g) r)) (by rw [skip_blank _ _ _ h1]; exact s1) s2 k1 (rows_lx r false (n + nl g) e h4 he)

/-- What Join lays ahead of a word. -/
def sepJ (first : Bool) (line n : Nat) : Bs := (if !first && decide (n ≤ line) then [32] else []) ++ List.replicate (n - line) 10
def joinG : Bool → Nat → List Tok → GRow
  | _, _, [] => []
  | first, line, t :: r => (sepJ first line t.n, t) :: joinG false (max line t.n) r
def joinL (l : List Tok) : Bs := catG (joinG true 1 l)
theorem sepJ_blank (f : Bool) (a n : Nat) : blank (sepJ f a n) = true := by
  unfold sepJ
  rw [blank_app]
  have h : blank (List.replicate (n - a) 10) = true := by
    unfold blank
    rw [List.all_eq_true]
    intro c hc
    obtain ⟨_, rfl⟩ := List.mem_replicate.1 hc
    decide
  rw [h, Bool.and_true]
  split <;> decide
theorem sepJ_ne (a n : Nat) : sepJ false a n ≠ [] := by
  unfold sepJ
  by_cases h : n ≤ a
  · simp [h]
  · intro e
    have := congrArg List.length e
    simp [h] at this
    omega
theorem sepJ_nl (f : Bool) (a n : Nat) : nl (sepJ f a n) = n - a := by
  unfold sepJ
  rw [nl_app, nl_rep]
  split
  · simp [nl]
  · simp [nl]
/-- The lines rise. -/
def Up : Nat → List Tok → Prop
  | _, [] => True
  | n, t :: r => n ≤ t.n ∧ Up t.n r
def AllGood (l : List Tok) : Prop := ∀ t ∈ l, Good t.k t.s t.v
theorem joinG_ok : ∀ (l : List Tok) (f : Bool) (a : Nat), AllGood l → OkG f (joinG f a l)
  | [], _, _, _ => trivial
  | t :: r, f, a, h => ⟨sepJ_blank _ _ _, fun e => by subst e; exact sepJ_ne _ _, h t (by simp), joinG_ok r false _ (fun x hx => h x (by simp [hx]))⟩
theorem joinG_lines : ∀ (l : List Tok) (f : Bool) (a : Nat), Up a l → linesG a (joinG f a l) = l
  | [], _, _, _ => rfl
  | t :: r, f, a, h => by
    rw [joinG, linesG, sepJ_nl]
    have e : a + (t.n - a) = t.n := by have := h.1; omega
    rw [e, Nat.max_eq_right h.1, joinG_lines r false t.n h.2]
theorem join_lx {l : List Tok} (hg : AllGood l) (hu : Up 1 l) : Lx 1 (joinL l) (.ok l) := by
  have := rows_lx (joinG true 1 l) true 1 [] (joinG_ok l true 1 hg) rfl
  rw [List.append_nil, joinG_lines l true 1 hu] at this
  exact this

theorem skipL_facts : ∀ (i : Bs) (n : Nat), n ≤ (skipL n i).1 ∧ (skipL n i).1 + (skipL n i).2.length ≤ n + i.length
  | [], n => by simp [skipL]
  | c :: r, n => by
    rw [skipL]
    split
    · have := skipL_facts r (n + 1); simp only [List.length_cons]; omega
    · split
      · have := skipL_facts r n; simp only [List.length_cons]; omega
      · simp
def txSum : List Tok → Nat
  | [] => 0
  | t :: r => (txTok t).length + txSum r
/-- What All found: good words, on rising lines, together no longer than the text. -/
theorem lx_facts {n : Nat} {i : Bs} {R : AR} (h : Lx n i R) : ∀ l, R = .ok l → AllGood l ∧ Up n l ∧ txSum l ≤ i.length ∧ l.length ≤ i.length ∧ ∀ t ∈ l, t.n ≤ n + i.length := by
  induction h with
  | done _ => intro l e; injection e with e; subst e; exact ⟨(fun t ht => by cases ht), trivial, Nat.zero_le _, Nat.zero_le _, (fun t ht => by cases ht)⟩
  | bad _ _ _ => intro l e; cases e
  | @cons n i m j k s v r R h1 hj hw _ ih =>
    intro l e
    cases R with
    | bad a b => cases e
    | ok l' =>
      injection e with e
      subst e
      obtain ⟨g1, g2, g3, g4, g5⟩ := ih l' rfl
      obtain ⟨w1, w2⟩ := word_good hj hw
      have w2' := w2 m
      have hs := skipL_facts i n
      rw [h1] at hs
      simp only at hs
      have hl := wordL_len hj hw
      refine ⟨?_, ⟨hs.1, g2⟩, ?_, ?_, ?_⟩
      · intro t ht
        rcases List.mem_cons.1 ht with rfl | ht
        · exact w1
        · exact g1 t ht
      · show (txTok ⟨k, m, s, v⟩).length + txSum l' ≤ _
        omega
      · show l'.length + 1 ≤ _
        omega
      · intro t ht
        rcases List.mem_cons.1 ht with rfl | ht
        · show m ≤ _; omega
        · have := g5 t ht; omega

end Go.Proofs.YtlinclbodbbemaaDoor

namespace Go.Proofs.YtlinclbodbbemaaDoor
open Go.RowKit
set_option maxRecDepth 100000

def addSep (p : Bs) : GRow → GRow
  | [] => []
  | (g, t) :: r => (p ++ g, t) :: r
theorem addSep_cat (p : Bs) {G : GRow} (h : G ≠ []) : catG (addSep p G) = p ++ catG G := by
  cases G with
  | nil => exact absurd rfl h
  | cons x r => rw [addSep, catG, catG, List.append_assoc]
theorem addSep_lines (p : Bs) (n : Nat) (G : GRow) : linesG n (addSep p G) = linesG (n + nl p) G := by
  cases G with
  | nil => rfl
  | cons x r => rw [addSep, linesG, linesG, nl_app, Nat.add_assoc]
theorem addSep_ok {p : Bs} {f : Bool} {G : GRow} (hp : blank p = true) (hf : f = false → p ≠ []) (h : OkG true G) : OkG f (addSep p G) := by
  cases G with
  | nil => trivial
  | cons x r =>
    obtain ⟨h1, _, h3, h4⟩ := h
    exact ⟨by rw [blank_app, hp, h1]; rfl, fun e e2 => hf e (List.append_eq_nil_iff.1 e2).1, h3, h4⟩
theorem okG_app : ∀ {A B : GRow} {f : Bool}, A ≠ [] → OkG f A → OkG false B → OkG f (A ++ B)
  | [], _, _, h, _, _ => absurd rfl h
  | [x], B, f, _, h, hB => ⟨h.1, h.2.1, h.2.2.1, hB⟩
  | x :: y :: r, B, f, _, h, hB => ⟨h.1, h.2.1, h.2.2.1, okG_app (by simp) h.2.2.2 hB⟩
theorem catG_app : ∀ A B : GRow, catG (A ++ B) = catG A ++ catG B
  | [], B => rfl
  | x :: r, B => by rw [List.cons_append, catG, catG, catG_app r B]; simp
/-- On which line one stands behind. -/
def endG : Nat → GRow → Nat
  | n, [] => n
  | n, (g, _) :: r => endG (n + nl g) r
theorem linesG_app : ∀ (A B : GRow) (n : Nat), linesG n (A ++ B) = linesG n A ++ linesG (endG n A) B
  | [], B, n => rfl
  | x :: r, B, n => by rw [List.cons_append, linesG, linesG, linesG_app r B, endG]; rfl
theorem endG_add (p : Bs) (n : Nat) {G : GRow} (h : G ≠ []) : endG n (addSep p G) = endG (n + nl p) G := by
  cases G with
  | nil => exact absurd rfl h
  | cons x r => rw [addSep, endG, endG, nl_app, Nat.add_assoc]
/-- Words, so many lines on. -/
def shiftT (d : Nat) (l : List Tok) : List Tok := l.map fun t => ⟨t.k, t.n + d, t.s, t.v⟩
def lastN : Nat → List Tok → Nat
  | n, [] => n
  | _, t :: r => lastN t.n r
theorem joinG_shift : ∀ (l : List Tok) (f : Bool) (a d : Nat), Up a l → linesG (a + d) (joinG f a l) = shiftT d l ∧ endG (a + d) (joinG f a l) = lastN a l + d
  | [], _, _, _, _ => ⟨rfl, rfl⟩
  | t :: r, f, a, d, h => by
    have e : a + d + (t.n - a) = t.n + d := by have := h.1; omega
    obtain ⟨h1, h2⟩ := joinG_shift r false t.n d h.2
    refine ⟨?_, ?_⟩
    · rw [joinG, linesG, sepJ_nl, e, Nat.max_eq_right h.1, h1]; rfl
    · rw [joinG, endG, sepJ_nl, e, Nat.max_eq_right h.1, h2]; rfl
theorem joinG_ne {f : Bool} {a : Nat} {l : List Tok} (h : l ≠ []) : joinG f a l ≠ [] := by
  cases l with
  | nil => exact absurd rfl h
  | cons x r => simp [joinG]
/-- Words taken so many lines back. -/
def backT (d : Nat) (l : List Tok) : List Tok := l.map fun t => ⟨t.k, t.n - d, t.s, t.v⟩
theorem back_up : ∀ (l : List Tok) (a d : Nat), d ≤ a → Up a l → Up (a - d) (backT d l)
  | [], _, _, _, _ => trivial
  | t :: r, a, d, hd, h => ⟨by show a - d ≤ t.n - d; have := h.1; omega, back_up r t.n d (Nat.le_trans hd h.1) h.2⟩
theorem up_all : ∀ (l : List Tok) (a : Nat), Up a l → ∀ t ∈ l, a ≤ t.n
  | [], _, _, t, ht => by cases ht
  | x :: r, a, h, t, ht => by
    rcases List.mem_cons.1 ht with rfl | ht
    · exact h.1
    · exact Nat.le_trans h.1 (up_all r x.n h.2 t ht)
theorem shift_back {l : List Tok} {a d e : Nat} (h : Up a l) (hd : d ≤ a) : shiftT (d + e) (backT d l) = shiftT e l := by
  have hall := up_all l a h
  unfold shiftT backT
  rw [List.map_map]
  refine List.map_congr_left (fun t ht => ?_)
  have := hall t ht
  show (⟨t.k, t.n - d + (d + e), t.s, t.v⟩ : Tok) = ⟨t.k, t.n + e, t.s, t.v⟩
  congr 1; omega
theorem back_good {l : List Tok} {d : Nat} (h : AllGood l) : AllGood (backT d l) := fun t ht => by
  obtain ⟨x, hx, rfl⟩ := List.mem_map.1 ht
  exact h x hx
theorem up_app : ∀ (l1 l2 : List Tok) (a : Nat), Up a (l1 ++ l2) → Up a l1 ∧ Up (lastN a l1) l2
  | [], l2, a, h => ⟨trivial, h⟩
  | t :: r, l2, a, h => by
    obtain ⟨h1, h2⟩ := up_app r l2 t.n h.2
    exact ⟨⟨h.1, h1⟩, h2⟩
/-- So many times a blank and an end of line. -/
def rep2 : Nat → Bs
  | 0 => []
  | n + 1 => 32 :: 10 :: rep2 n
theorem rep2_blank : ∀ n, blank (rep2 n) = true
  | 0 => rfl
  | n + 1 => by
    have := rep2_blank n
    unfold blank at this ⊢
    rw [rep2, List.all_cons, List.all_cons, this]; rfl
theorem rep2_nl : ∀ n, nl (rep2 n) = n
  | 0 => rfl
  | n + 1 => by rw [rep2, nl, nl, rep2_nl n, if_neg (by decide), if_pos (by decide)]; omega

/-- The statement's text is read as the same words, L lines on. -/
theorem spaces_lx {l1 l2 : List Tok} {x : Tok} (L : Nat) (hg : AllGood (l1 ++ x :: l2)) (hu : Up 1 (l1 ++ x :: l2)) :
    Lx 1 (List.replicate L 10 ++ [32, 32] ++ joinL l1 ++ rep2 (x.n - lastN 1 l1) ++ [32, 32, 32] ++ joinL (backT (x.n - 1) (x :: l2))) (.ok (shiftT L (l1 ++ x :: l2))) := by
  obtain ⟨u1, u2⟩ := up_app l1 (x :: l2) 1 hu
  have g1 : AllGood l1 := fun t ht => hg t (by simp [ht])
  have g2 : AllGood (x :: l2) := fun t ht => hg t (by rcases List.mem_cons.1 ht with h | h <;> simp [h])
  have hxn : lastN 1 l1 ≤ x.n := u2.1
  have h1l : ∀ (l : List Tok) (a : Nat), Up a l → a ≤ lastN a l := by
    intro l
    induction l with
    | nil => intro a _; exact Nat.le_refl _
    | cons t r ih => intro a h; exact Nat.le_trans h.1 (ih t.n h.2)
  have hx1 : 1 ≤ x.n := Nat.le_trans (h1l l1 1 u1) hxn
  have ux : Up x.n (x :: l2) := ⟨Nat.le_refl _, u2.2⟩
  have ub : Up 1 (backT (x.n - 1) (x :: l2)) := by
    have := back_up (x :: l2) x.n (x.n - 1) (by omega) ux
    rwa [show x.n - (x.n - 1) = 1 by omega] at this
  have gb := back_good (d := x.n - 1) g2
  have hb2 : blank (rep2 (x.n - lastN 1 l1) ++ [32, 32, 32]) = true := by rw [blank_app, rep2_blank]; rfl
  have hn2 : nl (rep2 (x.n - lastN 1 l1) ++ [32, 32, 32]) = x.n - lastN 1 l1 := by rw [nl_app, rep2_nl]; rfl
  have hb1 : blank (List.replicate L 10 ++ [32, 32]) = true := by
    rw [blank_app]
    have : blank (List.replicate L 10) = true := by
      unfold blank
      rw [List.all_eq_true]
      intro c hc
      obtain ⟨_, rfl⟩ := List.mem_replicate.1 hc
      decide
    rw [this]; rfl
  have hn1 : nl (List.replicate L 10 ++ [32, 32]) = L := by rw [nl_app, nl_rep]; rfl
  have hB : joinG true 1 (backT (x.n - 1) (x :: l2)) ≠ [] := joinG_ne (by simp [backT])
  have okB := joinG_ok (backT (x.n - 1) (x :: l2)) true 1 gb
  have lnB : linesG (1 + (x.n - 1 + L)) (joinG true 1 (backT (x.n - 1) (x :: l2))) = shiftT L (x :: l2) := by
    rw [(joinG_shift _ true 1 (x.n - 1 + L) ub).1]
    exact shift_back ux (by omega)
  unfold joinL
  generalize hP1 : (List.replicate L 10 ++ [32, 32] : Bs) = P1 at *
  generalize hP2 : (rep2 (x.n - lastN 1 l1) ++ [32, 32, 32] : Bs) = P2 at *
  cases l1 with
  | nil =>
    have e : P1 ++ catG (joinG true 1 []) ++ rep2 (x.n - lastN 1 []) ++ [32, 32, 32] ++ catG (joinG true 1 (backT (x.n - 1) (x :: l2))) = catG (addSep (P1 ++ P2) (joinG true 1 (backT (x.n - 1) (x :: l2)))) ++ [] := by
      rw [addSep_cat _ hB, ← hP2]
      simp [joinG, catG]
    rw [e]
    have h := rows_lx (addSep (P1 ++ P2) (joinG true 1 (backT (x.n - 1) (x :: l2)))) true 1 [] (addSep_ok (by rw [blank_app, hb1, hb2]; rfl) (fun h => by cases h) okB) rfl
    rw [addSep_lines, nl_app, hn1, hn2, show 1 + (L + (x.n - lastN 1 [])) = 1 + (x.n - 1 + L) by show 1 + (L + (x.n - 1)) = _; omega, lnB] at h
    exact h
  | cons y r =>
    have hA : joinG true 1 (y :: r) ≠ [] := joinG_ne (by simp)
    have hA2 : addSep P1 (joinG true 1 (y :: r)) ≠ [] := by simp [joinG, addSep]
    have e : P1 ++ catG (joinG true 1 (y :: r)) ++ rep2 (x.n - lastN 1 (y :: r)) ++ [32, 32, 32] ++ catG (joinG true 1 (backT (x.n - 1) (x :: l2))) = catG (addSep P1 (joinG true 1 (y :: r)) ++ addSep P2 (joinG true 1 (backT (x.n - 1) (x :: l2)))) ++ [] := by
      rw [catG_app, addSep_cat _ hB, addSep_cat _ hA, ← hP2]
      simp
    rw [e]
    have okA := joinG_ok (y :: r) true 1 g1
    have h := rows_lx _ true 1 [] (okG_app hA2 (addSep_ok hb1 (fun h => by cases h) okA) (addSep_ok hb2 (fun _ => by rw [← hP2]; simp) okB)) rfl
    obtain ⟨j1, j2⟩ := joinG_shift (y :: r) true 1 L u1
    rw [linesG_app, addSep_lines, endG_add _ _ hA, hn1, addSep_lines, hn2, j1, j2, show lastN 1 (y :: r) + L + (x.n - lastN 1 (y :: r)) = 1 + (x.n - 1 + L) by omega, lnB] at h
    rw [show shiftT L (y :: r ++ x :: l2) = shiftT L (y :: r) ++ shiftT L (x :: l2) from by unfold shiftT; rw [List.map_append]]
    exact h

end Go.Proofs.YtlinclbodbbemaaDoor

namespace Go.Proofs.YtlinclbodbbemaaDoor
open Go.RowKit
set_option maxRecDepth 100000

/-- A literal, or nothing beside the text. -/
def KindT (k : Int) (v : T) : Prop := (k = 3 ∧ litT v) ∨ (k ≠ 3 ∧ v = zT)
theorem word_kind {j : Bs} {k : Int} {s : Bs} {v : T} {r : Bs} (hj : j ≠ []) (h : wordL j = .ok k s v r) : KindT k v := by
  cases j with
  | nil => exact absurd rfl hj
  | cons c q =>
    rw [wordL_cons] at h
    split at h
    · unfold strWord at h
      rcases hq : strOf q with ⟨o, r'⟩
      rw [hq] at h
      cases o with
      | none => cases h
      | some l =>
        simp only [WR.ok.injEq] at h
        obtain ⟨rfl, rfl, rfl, rfl⟩ := h
        obtain ⟨_, hp⟩ := strOf_sound _ _ (Nat.le_refl _) hq
        exact .inl ⟨rfl, .inr (.inr (.inl ⟨rfl, rfl, rfl, hp⟩))⟩
    · split at h
      · unfold objWord at h
        split at h
        · obtain ⟨hA, rfl, rfl, rfl, N, hn, rfl, hz⟩ := numWord_ok h
          have hT : NumT true (45 :: runB (q.drop 1)) (runB (q.drop 1)) := ⟨hA, .inr ⟨rfl, fun e => hz ⟨rfl, e⟩, rfl⟩⟩
          obtain ⟨_, h1, h2⟩ := num_tx (by omega) (hT.rest hn)
          exact .inl ⟨rfl, .inr (.inl ⟨rfl, by omega, by omega, rfl, rfl⟩)⟩
        · obtain ⟨hA, rfl, rfl, rfl, N, hn, rfl, _⟩ := numWord_ok h
          have hT : NumT false (runB q) (runB q) := ⟨hA, .inl ⟨rfl, rfl⟩⟩
          obtain ⟨_, h1, h2⟩ := num_tx (by omega) (hT.rest hn)
          exact .inl ⟨rfl, .inr (.inl ⟨rfl, by omega, by omega, rfl, rfl⟩)⟩
      · split at h
        · rename_i hc
          obtain ⟨hA, rfl, rfl, rfl, N, hn, rfl, _⟩ := numWord_ok h
          have hT : NumT false (runB (c :: q)) (runB (c :: q)) := ⟨hA, .inl ⟨rfl, rfl⟩⟩
          obtain ⟨e, h1, h2⟩ := num_tx (by omega) (hT.rest hn)
          have hN : 0 ≤ N := by
            rcases Int.lt_or_le N 0 with hneg | hpos
            · rw [itoa_neg hneg, runB, isD_R hc, if_pos rfl] at e
              injection e with e _
              subst e; cases hc
            · exact hpos
          exact .inl ⟨rfl, .inl ⟨rfl, hN, by omega, rfl, rfl⟩⟩
        · split at h
          · unfold errWord at h
            split at h
            · rename_i hb
              simp only [WR.ok.injEq] at h
              obtain ⟨rfl, rfl, rfl, rfl⟩ := h
              obtain ⟨h1, h2, _⟩ := codeL_sound (l := runB (c :: q)) (q := (codeL (runB (c :: q))).1) (by rw [← hb])
              exact .inl ⟨rfl, .inr (.inr (.inr ⟨rfl, h1, h2, rfl, rfl⟩))⟩
            · cases h
          · split at h
            · unfold nameWord at h
              split at h
              · simp only [WR.ok.injEq] at h
                obtain ⟨hk, rfl, rfl, rfl⟩ := h
                refine .inr ⟨?_, rfl⟩
                rw [← hk]; unfold kindL
                split
                · decide
                · split
                  · decide
                  · show (1 : Int) ≠ 3; decide
              · cases h
            · unfold signWord at h
              split at h
              · cases h
              · simp only [WR.ok.injEq] at h
                obtain ⟨rfl, rfl, rfl, rfl⟩ := h
                exact .inr ⟨by decide, rfl⟩
theorem lx_kinds {n : Nat} {i : Bs} {R : AR} (h : Lx n i R) : ∀ l, R = .ok l → ∀ t ∈ l, KindT t.k t.v := by
  induction h with
  | done _ => intro l e; injection e with e; subst e; exact fun t ht => by cases ht
  | bad _ _ _ => intro l e; cases e
  | @cons n i m j k s v r R h1 hj hw _ ih =>
    intro l e
    cases R with
    | bad a b => cases e
    | ok l' =>
      injection e with e
      subst e
      intro t ht
      rcases List.mem_cons.1 ht with rfl | ht
      · exact word_kind hj hw
      · exact ih l' rfl t ht
theorem sepJ_len (f : Bool) (a n : Nat) : (sepJ f a n).length ≤ 1 + (n - a) := by
  unfold sepJ
  rw [List.length_append, List.length_replicate]
  split
  · simp
  · simp
theorem lastN_ge : ∀ (l : List Tok) (a : Nat), Up a l → a ≤ lastN a l
  | [], _, _ => Nat.le_refl _
  | t :: r, _, h => Nat.le_trans h.1 (lastN_ge r t.n h.2)
theorem joinG_len : ∀ (l : List Tok) (f : Bool) (a : Nat), Up a l → (catG (joinG f a l)).length ≤ txSum l + l.length + (lastN a l - a)
  | [], _, _, _ => by simp [joinG, catG]
  | t :: r, f, a, h => by
    have h1 := sepJ_len f a t.n
    have h2 := joinG_len r false t.n h.2
    have h3 := lastN_ge r t.n h.2
    have h4 := h.1
    rw [joinG, catG, List.length_append, List.length_append, Nat.max_eq_right h.1]
    simp only [txSum, List.length_cons, lastN]
    omega
theorem joinL_len {l : List Tok} (h : Up 1 l) : (joinL l).length ≤ txSum l + l.length + lastN 1 l := by
  have := joinG_len l true 1 h
  unfold joinL; omega
theorem txSum_app : ∀ a b : List Tok, txSum (a ++ b) = txSum a + txSum b
  | [], b => by simp [txSum]
  | x :: r, b => by simp only [List.cons_append, txSum, txSum_app r b]; omega
theorem txSum_back (d : Nat) : ∀ l : List Tok, txSum (backT d l) = txSum l
  | [] => rfl
  | t :: r => by
    have h := txSum_back d r
    unfold backT at h ⊢
    rw [List.map_cons, txSum, txSum, h]; rfl
theorem lastN_mem : ∀ (l : List Tok) (a : Nat), lastN a l = a ∨ ∃ t ∈ l, lastN a l = t.n
  | [], _ => .inl rfl
  | t :: r, a => by
    rcases lastN_mem r t.n with h | ⟨x, hx, h⟩
    · exact .inr ⟨t, by simp, h⟩
    · exact .inr ⟨x, List.mem_cons_of_mem _ hx, h⟩
theorem lastN_take {l : List Tok} {k : Nat} (hk : 0 < k) (hkl : k ≤ l.length) (a : Nat) : lastN a (l.take k) = (l[k - 1]'(by omega)).n := by
  induction k generalizing l a with
  | zero => omega
  | succ k ih =>
    cases l with
    | nil => simp at hkl
    | cons t r =>
      rw [List.take_succ_cons, lastN]
      rcases Nat.eq_zero_or_pos k with h0 | h0
      · subst h0; simp [lastN]
      · rw [ih h0 (by simpa using hkl)]
        have e : k + 1 - 1 = (k - 1) + 1 := by omega
        simp only [e, List.getElem_cons_succ]
end Go.Proofs.YtlinclbodbbemaaDoor
