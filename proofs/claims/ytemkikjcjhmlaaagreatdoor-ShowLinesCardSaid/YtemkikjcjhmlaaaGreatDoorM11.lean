/- How a value is written: the pieces of lit.Text. The document's Before: does a text stand ahead of another one, byte by byte? Rows of texts in memory. A row of texts of one's own, that grows. The document's Rising: texts that rise, each once; and Holds. Rows of nodes that are put together by append. The document's Holds. The document's names. The document's Holds, Keys, named. -/
import Derived.Test.YtemkikjcjhmlaaaGreatDoorM10
import Derived.Test.YtemkikjcjhmlaaaGreatDoorM00
import Derived.Lib.AppendStr
import Derived.Deep.DeepCutAuto
import Derived.Test.YtemkikjcjhmlaaaGreatDoorM09
import Derived.Deep.QuietTactic
import Derived.Deep.RegionHeld3
import Derived.BigQuiet
import Derived.Handy
import Derived.Below
import Derived.Test.YtemkikjcjhmlaaaGreatDoorChecked
import Derived.WalkKit
import Derived.ProofKit
import Derived.Deep.AppendLies
import Derived.Lib.SlFresh
import Derived.Deep.Upon
import Derived.Deep.RegionLaw
import Derived.Lib.Hide
import Derived.LoopTactic
import Derived.WalkSpells
import Derived.Test.YtemkikjcjhmlaaaGreatDoorM03
import Derived.Test.YtemkikjcjhmlaaaGreatDoorM07
namespace Go.Proofs.YtemkikjcjhmlaaaGreatDoor
open Go.RowKit
set_option maxRecDepth 100000

/-- A slice of bytes of the call's own: what was written so far; all that stood below block B stands. -/
structure Buf (B : Nat) (acc : Bs) (v : Value) (W0 w : World) : Prop where
  own : w.ownsRow B 5 1 v acc.length (Lib.byteCells acc)
  bel : Below B W0 w
  le : B ≤ w.heap.size
theorem Buf.alloc {B : Nat} {acc : Bs} {v : Value} {W0 w : World} (h : Buf B acc v W0 w) (o : Obj) : Buf B acc v W0 (w.alloc o) :=
  ⟨h.own.alloc o, h.bel.alloc h.le o, by have := h.le; simp; omega⟩
theorem below_grown {B : Nat} {W0 w w' : World} {v : Value} (h : Below B W0 w) (hg : w.grownBy w' v.ownBlock) (hv : ∀ k, v.ownBlock = some k → B ≤ k) (hB : B ≤ w.heap.size) : Below B W0 w' :=
  h.trans ⟨hg.os, hg.tape, hg.output, hg.size, fun k hk => hg.block k (by omega) (fun e => by have := hv k e.symm; omega)⟩
theorem Buf.grown {B : Nat} {acc acc' : Bs} {v v' : Value} {W0 w w' : World} (h : Buf B acc v W0 w) (ho : w'.ownsRow B 5 1 v' acc'.length (Lib.byteCells acc')) (hg : w.grownBy w' v.ownBlock) : Buf B acc' v' W0 w' :=
  ⟨ho, below_grown h.bel hg (fun k hk => (h.own.lt k hk).1) h.le, Nat.le_trans h.le hg.size⟩
theorem Buf.start (w : World) : Buf w.heap.size [] (.slice none 0 0) w w := ⟨World.ownsRow_nil _ _ _ _, Below.refl _ _, Nat.le_refl _⟩
theorem byteCells_app (a b : Bs) : Lib.byteCells a ++ Lib.byteCells b = Lib.byteCells (a ++ b) := by simp [Lib.byteCells]
theorem byteCells_str (s : ByteArray) : Lib.strCells s = Lib.byteCells s.data.toList := by
  unfold Lib.strCells Lib.byteCells; first | rfl | simp
theorem byteCells_len (a : Bs) : (Lib.byteCells a).length = a.length := by simp [Lib.byteCells]

theorem buf_byte {ops : Array Oper} {rest : List Oper} {o : Oper} {a : Act} {Q : Exit → Act → World → Prop} (hgd : o.guard = none) (s x : Operand)
    (ho : o.op = .call { callee := .builtin .append, args := #[s, x], argTypes := #[41, 41] })
    (B : Nat) (acc : Bs) (v : Value) (W0 w0 : World) (hs : a.eval s = v) (hb : Buf B acc v W0 w0) (c : UInt8) (d : Int) (hcd : (c.toNat : Int) = d) (H : Nat) (hH : w0.heap.size = H) (hx : a.eval x = .slice (some ⟨H, 0, none⟩) 1 1) (hlen : acc.length + 1 ≤ 140737488355328)
    (h : ∀ v' w', Buf B (acc ++ [c]) v' W0 w' → wpList Tryz.prog ops Q rest (a.put o.dst v') w') : wpList Tryz.prog ops Q (o :: rest) a (w0.alloc (.cells #[.int .u8 d] 5)) := by
  obtain ⟨i0, hi, hz0, hz1, hz2⟩ := info_parts Tryz.info_u8
  subst hH
  have hle := hb.le
  refine wpList_append_own _ hgd s x 41 ho B 5 i0 (.int .u8 0) 1 1 Tryz.underlying41 hi hz0 hz1 hz2 rfl (by decide) v acc.length (Lib.byteCells acc) hs (hb.own.alloc _) ⟨w0.heap.size, 0, none⟩ 1 1 [.int .u8 d] hx rfl (one_byte w0 _ _) (by intro u hu; simp at hu; subst hu; rfl) (by unfold maxLen; omega) (by omega) (by simp; omega) ?_
  intro v' w' hown hgr _
  refine h v' w' ((hb.alloc _).grown ?_ hgr)
  rw [← byteCells_snoc acc c hcd, List.length_append]
  exact hown
theorem buf_str {ops : Array Oper} {rest : List Oper} {o : Oper} {a : Act} {Q : Exit → Act → World → Prop} (hgd : o.guard = none) (sl x : Operand)
    (ho : o.op = .call { callee := .builtin .append, args := #[sl, x], argTypes := #[41, 9] })
    (B : Nat) (acc : Bs) (v : Value) (W0 w : World) (hs : a.eval sl = v) (hb : Buf B acc v W0 w) (s : ByteArray) (hx : a.eval x = .string s) (hlen : acc.length + s.size ≤ 140737488355328)
    (h : ∀ v' w', Buf B (acc ++ s.data.toList) v' W0 w' → wpList Tryz.prog ops Q rest (a.put o.dst v') w') : wpList Tryz.prog ops Q (o :: rest) a w := by
  obtain ⟨i0, hi, hz0, hz1, hz2⟩ := info_parts Tryz.info_u8
  refine Lib.wpList_append_own_string w hgd sl x 41 9 ho B 5 i0 Tryz.underlying41 Tryz.underlying9 hi hz0 hz1 hz2 v acc.length (Lib.byteCells acc) hs hb.own s hx (by unfold maxLen; omega) hlen hb.le ?_
  intro v' w' hown hgr _
  refine h v' w' (hb.grown ?_ hgr)
  rw [byteCells_str, byteCells_app] at hown
  rw [List.length_append, show s.data.toList.length = s.size by simp]
  exact hown

theorem esc_snoc (l : Bs) (c : UInt8) : esc (l ++ [c]) = esc l ++ (if c.toNat = 34 ∨ c.toNat = 92 then [92, c] else [c]) := by
  induction l with
  | nil => simp [esc]
  | cons x r ih => simp only [List.cons_append, esc, ih]; split <;> simp
theorem esc_len (l : Bs) : (esc l).length ≤ 2 * l.length := by
  induction l with
  | nil => simp [esc]
  | cons c q ih => rw [esc]; split <;> simp <;> omega

theorem esc_app (a b : Bs) : esc (a ++ b) = esc a ++ esc b := by
  induction a with
  | nil => simp [esc]
  | cons c q ih => simp only [List.cons_append, esc, ih]; split <;> simp
theorem esc_take_le (l : Bs) (j : Nat) : (esc (l.take j)).length ≤ (esc l).length := by
  have e := esc_app (l.take j) (l.drop j)
  rw [List.take_append_drop] at e
  rw [e]; simp

/-- What is written further. -/
def BufPost (B : Nat) (acc : Bs) (W0 : World) (e : Ending) (w' : World) : Prop := ∃ v', e = .returned v' ∧ Buf B acc v' W0 w'

set_option maxHeartbeats 2000000 in
theorem appendQuoted_any (B : Nat) (acc : Bs) (v : Value) (W0 w : World) (s : ByteArray) (hb : Buf B acc v W0 w) (hss : s.size ≤ 140737488355328) (hlen : acc.length + (esc s.data.toList).length + 2 ≤ 140737488355328) :
    Calls Tryz.prog 99 #[v, .string s] w (BufPost B (acc ++ (34 :: (esc s.data.toList ++ [34]))) W0) := by
  have HB := Lib.hid hb; clear hb
  go_enter Tryz.func99, Tryz.ntmps99
  go_wp2_with (at_builtin; refine buf_byte rfl (.tmp 6) (.tmp 7) rfl B acc v W0 w rfl HB.out 34 34 rfl _ rfl rfl (by omega) ?_; intro v1 w1 hb1; have HB1 := Lib.hid hb1; clear hb1)
  go_loopw [0, 11] (fun vb i wr => ∃ j : Nat, j ≤ s.size ∧ i = .int .i64 j ∧ Hid (Buf B ((acc ++ [34]) ++ esc (s.data.toList.take j)) vb W0 wr)) (fun _ i _ => s.size - (intOf i).toNat)
  case atStart => exact ⟨0, Nat.zero_le _, rfl, by simpa [esc] using HB1⟩
  case round =>
    obtain ⟨j, hj, rfl, hbj⟩ := hrel
    have hel := esc_take_le s.data.toList j
    have hel2 := esc_take_le s.data.toList (j + 1)
    have hlen0 : ((acc ++ [34]) ++ esc (s.data.toList.take j)).length + 1 ≤ 140737488355328 := by simp; omega
    clear hel
    by_cases hjs : j < s.size
    · have htk : s.data.toList.take (j + 1) = s.data.toList.take j ++ [s[j]] := by
        rw [List.take_succ_eq_append_getElem (by simpa using hjs)]; rfl
      have hes := esc_snoc (s.data.toList.take j) s[j]
      rw [← htk] at hes
      obtain ⟨c, hc⟩ : ∃ c, s[j] = c := ⟨_, rfl⟩
      rw [hc] at hes
      have HES := Lib.hid hes
      rw [hes] at hel2
      have hidx : ((s[j]).toNat : Int) = (c.toNat : Int) := by rw [hc]
      clear htk hes hc
      by_cases h1 : c.toNat = 34 ∨ c.toNat = 92
      · have hlen1 : ((acc ++ [34]) ++ esc (s.data.toList.take j)).length + 2 ≤ 140737488355328 := by rw [if_pos h1] at hel2; simp at hel2 ⊢; omega
        clear hel2
        have HE := Lib.hid (show (acc ++ [34]) ++ esc (s.data.toList.take (j + 1)) = ((acc ++ [34]) ++ esc (s.data.toList.take j) ++ [92]) ++ [c] from by rw [HES.out, if_pos h1]; simp)
        have h2 : ((c.toNat : Int) = 34) ∨ (c.toNat : Int) = 92 := by omega
        obtain ⟨d, hd⟩ : ∃ d : Int, (c.toNat : Int) = d := ⟨_, rfl⟩
        have HD := Lib.hid hd
        rw [hd] at hidx h2
        clear h1 hd
        rcases h2 with rfl | rfl
        all_goals
          go_wp2_with (first
            | (at_builtin; refine buf_byte rfl (.tmp 20) (.tmp 21) rfl B _ _ W0 _ rfl hbj.out 92 92 rfl _ rfl rfl (by omega) ?_; intro v2 w2 hb2; have HB2 := Lib.hid hb2; clear hb2)
            | (at_builtin; refine buf_byte rfl (.tmp 23) (.tmp 27) rfl B _ v2 W0 w2 rfl HB2.out c _ HD.out _ rfl rfl (by simp at hlen1 ⊢; omega) ?_; intro v3 w3 hb3; have HB3 := Lib.hid hb3; clear hb3))
          go_roundw
          case measure => simp [intOf]; omega
          case rel => exact ⟨j + 1, by omega, by go_num, by rw [HE.out]; exact HB3⟩
      · clear hel2
        have HE := Lib.hid (show (acc ++ [34]) ++ esc (s.data.toList.take (j + 1)) = ((acc ++ [34]) ++ esc (s.data.toList.take j)) ++ [c] from by rw [HES.out, if_neg h1]; simp)
        have h34 : ((c.toNat : Int) == 34) = false := by simp; omega
        have h92 : ((c.toNat : Int) == 92) = false := by simp; omega
        go_wp2_with (first
          | (at_builtin; refine buf_byte rfl (.tmp 23) (.tmp 27) rfl B _ _ W0 _ rfl hbj.out c _ rfl _ rfl rfl (by omega) ?_; intro v3 w3 hb3; have HB3 := Lib.hid hb3; clear hb3))
        go_roundw
        case measure => simp [intOf]; omega
        case rel => exact ⟨j + 1, by omega, by go_num, by rw [HE.out]; exact HB3⟩
    · have hje : j = s.size := by omega
      subst hje
      clear hel2
      go_wp2_with (at_builtin; refine buf_byte rfl (.tmp 30) (.tmp 31) rfl B _ _ W0 _ rfl hbj.out 34 34 rfl _ rfl rfl (by omega) ?_; intro v2 w2 hb2; have HB2 := Lib.hid hb2; clear hb2)
      go_ret
      have e : acc ++ (34 :: (esc s.data.toList ++ [34])) = ((acc ++ [34]) ++ esc (s.data.toList.take s.size)) ++ [34] := by rw [List.take_of_length_le (by simp)]; simp
      exact ⟨v2, rfl, by rw [e]; exact HB2.out⟩

theorem nameOf_in {n : Int} (h0 : 0 ≤ n) (h1 : n ≤ 14) : (nameS n.toNat) = ⟨(nameOf n).toArray⟩ := by
  unfold nameS nameOf; rw [if_neg (by omega)]; rfl
set_option maxHeartbeats 1000000 in
theorem name_any (n : Int) (w : World) (hn : Names w) (hb : I64 n) :
    Calls Tryz.prog 100 #[.int .i64 n] w fun e w' => e = .returned (.string ⟨(nameOf n).toArray⟩) ∧ w = w' := by
  have hlt := hn.lt
  unfold I64 at hb
  by_cases h0 : n < 0
  · have e : nameOf n = [] := by unfold nameOf; rw [if_pos h0]
    rw [e]
    clear e hn
    go_enter Tryz.func100, Tryz.ntmps100
    go_wp2
    go_ret
    exact ⟨rfl, rfl⟩
  · by_cases h1 : n ≤ 14
    · have hc := hn.at_ n.toNat (by omega)
      rw [nameOf_in (by omega) h1] at hc
      clear hn
      go_enter Tryz.func100, Tryz.ntmps100
      go_wp2
      go_ret
      exact ⟨rfl, rfl⟩
    · have e : nameOf n = [] := by
        unfold nameOf; rw [if_neg h0, List.getElem?_eq_none (by show 15 ≤ n.toNat; omega)]; rfl
      rw [e]
      clear e hn
      go_enter Tryz.func100, Tryz.ntmps100
      go_wp2
      go_ret
      exact ⟨rfl, rfl⟩

end Go.Proofs.YtemkikjcjhmlaaaGreatDoor

namespace Go.Proofs.YtemkikjcjhmlaaaGreatDoor
open Go.RowKit
set_option maxRecDepth 100000

/-- Does a text stand ahead of another one? -/
def befB (a b : ByteArray) : Bool := decide (Lib.compareBytes a.data.toList b.data.toList < 0)
def befL (a b : List UInt8) : Bool := decide (Lib.compareBytes a b < 0)
theorem befL_at (a b : ByteArray) (j : Nat) (h : j < a.size) (h' : j < b.size) : befL (a.data.toList.drop j) (b.data.toList.drop j) = if a[j].toNat = b[j].toNat then befL (a.data.toList.drop (j + 1)) (b.data.toList.drop (j + 1)) else decide (a[j].toNat < b[j].toNat) := by
  have e1 : j < a.data.toList.length := by simpa using h
  have e2 : j < b.data.toList.length := by simpa using h'
  unfold befL
  rw [List.drop_eq_getElem_cons e1, List.drop_eq_getElem_cons e2, compareBytes_cons]
  have h1 : a.data.toList[j] = a[j] := rfl
  have h2 : b.data.toList[j] = b[j] := rfl
  rw [h1, h2]
  unfold cmpB cmpI
  by_cases c : a[j].toNat = b[j].toNat
  · rw [if_pos c, if_neg (c := (a[j].toNat : Int) < b[j].toNat) (by omega), if_neg (c := (b[j].toNat : Int) < a[j].toNat) (by omega)]; simp
  · rw [if_neg c]
    by_cases c2 : (a[j].toNat : Int) < b[j].toNat
    · have c3 : a[j].toNat < b[j].toNat := by omega
      rw [if_pos c2]; simp [c3]
    · have c3 : ¬ a[j].toNat < b[j].toNat := by omega
      rw [if_neg c2, if_pos (c := (b[j].toNat : Int) < a[j].toNat) (by omega)]; simp [c3]
theorem befL_end (a b : ByteArray) (j : Nat) (hj : j ≤ a.size) (hj' : j ≤ b.size) (h : j = a.size ∨ j = b.size) : befL (a.data.toList.drop j) (b.data.toList.drop j) = decide (a.size < b.size) := by
  unfold befL
  have l1 : (a.data.toList.drop j).length = a.size - j := by simp
  have l2 : (b.data.toList.drop j).length = b.size - j := by simp
  generalize a.data.toList.drop j = x at *
  generalize b.data.toList.drop j = y at *
  cases x <;> cases y <;> simp_all [Lib.compareBytes] <;> omega

set_option maxHeartbeats 1000000 in
theorem before_any (a b : ByteArray) (w : World) (ha : a.size ≤ 140737488355328) (_hb : b.size ≤ 140737488355328) :
    Calls Tryz.prog 91 #[.string a, .string b] w fun e w' => e = .returned (.bool (befB a b)) ∧ ∃ m, w' = w.drewN m := by
  go_enter Tryz.func91, Tryz.ntmps91
  go_wp2
  go_loopw [5] (fun i wr => ∃ j : Nat, j ≤ a.size ∧ j ≤ b.size ∧ i = .int .i64 j ∧ Hid (befB a b = befL (a.data.toList.drop j) (b.data.toList.drop j)) ∧ ∃ m, wr = w.drewN m) (fun i _ => a.size - (intOf i).toNat)
  case atStart => exact ⟨0, Nat.zero_le _, Nat.zero_le _, rfl, by show _ = _; rfl, 0, rfl⟩
  case round =>
    obtain ⟨j, hj, hj', rfl, HO, m, rfl⟩ := hrel
    by_cases hlt : j < a.size
    · by_cases hlt' : j < b.size
      · have hA := Lib.hid (HO.out.trans (befL_at a b j hlt hlt'))
        by_cases hc : a[j].toNat = b[j].toNat
        · have hd : ((a[j].toNat : Int) != (b[j].toNat : Int)) = false := by simp; omega
          go_wp2
          go_quiet (fail)
          go_wp2
          go_roundw
          case measure => simp [intOf]; omega
          case rel => exact ⟨j + 1, by omega, by omega, by go_num, by show _ = _; rw [hA.out, if_pos hc], _, rfl⟩
        · have hd : ((a[j].toNat : Int) != (b[j].toNat : Int)) = true := by simp; omega
          go_wp2
          go_quiet (fail)
          go_wp2
          go_quiet (fail)
          go_wp2
          go_ret
          exact ⟨ret_bool (by rw [hA.out, if_neg hc]), _, by rw [World.drewN_drewN, World.drewN_drewN]⟩
      · have hE := Lib.hid (HO.out.trans (befL_end a b j hj hj' (.inr (by omega))))
        go_wp2
        go_ret
        exact ⟨ret_bool hE.out.symm, _, rfl⟩
    · have hE := Lib.hid (HO.out.trans (befL_end a b j hj hj' (.inl (by omega))))
      go_wp2
      go_ret
      exact ⟨ret_bool hE.out.symm, _, rfl⟩
end Go.Proofs.YtemkikjcjhmlaaaGreatDoor

namespace Go.Proofs.YtemkikjcjhmlaaaGreatDoor
open Go.RowKit

/-- The slice p (of as many as ss) holds the texts ss, in a block below B. -/
def TRow (w : World) (B : Nat) (p : Option Addr) (ss : List ByteArray) : Prop :=
  ss = [] ∨ ∃ b off, p = some ⟨b, off, none⟩ ∧ b < B ∧ ∀ i (h : i < ss.length), w.cell? ⟨b, off + i, none⟩ = some (.string ss[i])
theorem TRow.below {w w' : World} {B : Nat} {p : Option Addr} {ss : List ByteArray} (h : TRow w B p ss) (hb : Below B w w') : TRow w' B p ss := by
  rcases h with h | ⟨b, off, hp, ha, hc⟩
  · exact .inl h
  · exact .inr ⟨b, off, hp, ha, fun i hi => (hb.cell (p := ⟨b, off + i, none⟩) ha).trans (hc i hi)⟩
theorem TRow.grow {w : World} {B C : Nat} {p : Option Addr} {ss : List ByteArray} (h : TRow w B p ss) (hb : B ≤ C) : TRow w C p ss := by
  rcases h with h | ⟨b, off, hp, ha, hc⟩
  · exact .inl h
  · exact .inr ⟨b, off, hp, Nat.lt_of_lt_of_le ha hb, hc⟩
theorem TRow.at_ {w : World} {B : Nat} {p : Option Addr} {ss : List ByteArray} (h : TRow w B p ss) (i : Nat) (hi : i < ss.length) : ∃ b off, p = some ⟨b, off, none⟩ ∧ b < B ∧ w.cell? ⟨b, off + i, none⟩ = some (.string ss[i]) := by
  rcases h with h | ⟨b, off, hp, ha, hc⟩
  · subst h; simp at hi
  · exact ⟨b, off, hp, ha, hc i hi⟩
theorem TRow.take {w : World} {B : Nat} {p : Option Addr} {ss : List ByteArray} (h : TRow w B p ss) (k : Nat) : TRow w B p (ss.take k) := by
  rcases h with h | ⟨b, off, hp, ha, hc⟩
  · exact .inl (by rw [h]; simp)
  · exact .inr ⟨b, off, hp, ha, fun i hi => by rw [List.getElem_take]; exact hc i (by rw [List.length_take] at hi; omega)⟩

end Go.Proofs.YtemkikjcjhmlaaaGreatDoor

namespace Go.Proofs.YtemkikjcjhmlaaaGreatDoor
open Go.RowKit
set_option maxRecDepth 100000

theorem sowns_form {w : World} {B : Nat} {e : TypeId} {size n : Nat} {v : Value} {xs : List Value} (h : w.ownsRow B e size v n xs) : ∃ p cap, v = .slice p n cap ∧ n ≤ cap := by
  rcases h.2 with ⟨rfl, rfl⟩ | ⟨g, cap, cur, rfl, _, _, hnc, _⟩
  · exact ⟨none, 0, rfl, Nat.le_refl _⟩
  · exact ⟨_, cap, rfl, hnc⟩
theorem sbelow_grown {B : Nat} {W0 w w' : World} {v : Value} (h : Below B W0 w) (hg : w.grownBy w' v.ownBlock) (hv : ∀ k, v.ownBlock = some k → B ≤ k) (hB : B ≤ w.heap.size) : Below B W0 w' :=
  h.trans ⟨hg.os, hg.tape, hg.output, hg.size, fun k hk => hg.block k (by omega) (fun e => by have := hv k e.symm; omega)⟩

/-- A row of one's own that holds these texts; what lay below B is as it was. -/
structure Gs (B : Nat) (w0 : World) (L : List ByteArray) (v : Value) (w : World) : Prop where
  row : w.ownsRow B 9 1 v L.length (L.map Value.string)
  bel : Below B w0 w
theorem Tryz.info_Str : (Tryz.prog.info? 9).map (fun i => (i.zero, i.size, i.bytes)) = some (some (.string ⟨#[]⟩), 1, 16) := by kernel_rfl
theorem Gs.start {B n : Nat} {w0 W : World} (hb : Below B w0 W) (hB : B ≤ W.heap.size) (hn : n ≤ 1000000) : Gs B w0 [] (.slice (some ⟨W.heap.size, 0, none⟩) 0 n) (W.alloc (.cells (madeCells #[.string ⟨#[]⟩] n) 9)) :=
  ⟨World.ownsRow_made (base := B) (e := 9) (size := 1) W _ n hB (by unfold maxLen; omega) (by rw [size_madeCells, Nat.mul_one]), hb.alloc hB _⟩
theorem Gs.drew_ {B : Nat} {w0 w : World} {L : List ByteArray} {v : Value} (h : Gs B w0 L v w) : Gs B w0 L v w.drew := ⟨h.row, h.bel.drew⟩
theorem smkrow (n : Nat) (h : n ≤ 1000000) (z : Int) (hz : z = (n : Int)) (W : World) : (Instr.makeSlice 78 (.int .i64 0) (.int .i64 z)).run Tryz.prog W = .ok (.slice (some ⟨W.heap.size, 0, none⟩) 0 n) (W.alloc (.cells (madeCells #[.string ⟨#[]⟩] n) 9)) := by
  obtain ⟨i0, hi0, hz0, hz1, hz2⟩ := info_parts Tryz.info_Str
  subst hz
  have h := run_make (P := Tryz.prog) W 78 9 i0 _ Tryz.underlying78 hi0 hz0 .i64 .i64 0 n (by omega) (by omega) (by rw [hz2]; omega) (by omega)
  rw [hz1] at h
  simpa [Value.cells] using h
/-- Texts of memory, behind it. -/
theorem Gs.run {B : Nat} {w0 w : World} {L : List ByteArray} {v : Value} (h : Gs B w0 L v w) (hB : B ≤ w.heap.size) {C : Nat} {l : List ByteArray} {p : Option Addr} (hr : TRow w C p l)
    (hn : L.length + l.length ≤ 1000000) (M : List ByteArray) (hM : M = L ++ l) {m c : Nat} (hm : m = l.length) (ty : TypeId) :
    ∃ q cap w', (Builtin.append_ #[78, 78] ty #[v, .slice p m c]).run Tryz.prog w = .ok (.slice q M.length cap) w' ∧ Gs B w0 M (.slice q M.length cap) w' := by
  obtain ⟨i0, hi0, hz0, hz1, hz2⟩ := info_parts Tryz.info_Str
  obtain ⟨hown, hbel⟩ := h
  subst hm
  rcases Nat.eq_zero_or_pos l.length with h0 | hpos
  · have hl0 : l = [] := List.eq_nil_of_length_eq_zero h0
    subst hl0
    rw [List.append_nil] at hM
    subst hM
    obtain ⟨sp, scap, rfl, hsc⟩ := sowns_form hown
    refine ⟨sp, scap, w, ?_, hown, hbel⟩
    refine run_append_nothing w _ _ ty 9 i0 Tryz.underlying78 hi0 sp _ scap hsc _ ?_
    cases p with
    | none => exact Src.ofNil _ Tryz.underlying78 c
    | some a => exact Src.ofSlice _ Tryz.underlying78 a 0 c [] (by simp) (fun j u h => by simp at h) (by simp)
  · rcases hr with h | ⟨b, off, hp, ha, hc⟩
    · rw [h] at hpos; simp at hpos
    subst hp
    have hadd : ∀ n, Addr.add ⟨b, off, none⟩ n = ⟨b, off + n, none⟩ := by
      intro n; unfold Addr.add; split
      · rename_i h; subst h; rfl
      · rfl
    obtain ⟨g, cap, w', hr, ho', hgr, hat, hlt⟩ := run_append_lies (P := Tryz.prog) w 78 ty B 9 i0 _ 1 16 Tryz.underlying78 hi0 hz0 hz1 hz2 rfl (by decide) v L.length _ hown ⟨b, off, none⟩ l.length c (l.map Value.string) (by simp)
      (fun j u hj => by
        rw [List.getElem?_map] at hj
        have hjl : j < l.length := by
          rcases Nat.lt_or_ge j l.length with h | h
          · exact h
          · rw [List.getElem?_eq_none h] at hj; cases hj
        rw [List.getElem?_eq_getElem hjl] at hj
        rw [hadd, hc j hjl]; exact hj)
      (fun u hu => by rw [List.mem_map] at hu; obtain ⟨x, _, rfl⟩ := hu; rfl) hpos (by unfold maxLen; omega) (by omega) hB w.heap.size rfl
    have hMl : M.length = L.length + l.length := by rw [hM, List.length_append]
    rw [hMl]
    exact ⟨_, cap, w', hr, by rw [hMl, hM, List.map_append]; exact ho', sbelow_grown hbel hgr (fun k hk => (hown.lt k hk).1) hB⟩
theorem Gs.fin {B : Nat} {w0 w : World} {L : List ByteArray} {v : Value} (h : Gs B w0 L v w) : ∃ p cap, v = .slice p L.length cap ∧ L.length ≤ cap ∧ TRow w w.heap.size p L := by
  obtain ⟨hown, hbel⟩ := h
  obtain ⟨sp, scap, rfl, hsc⟩ := sowns_form hown
  refine ⟨sp, scap, rfl, hsc, ?_⟩
  rcases Nat.eq_zero_or_pos L.length with h0 | hpos
  · exact .inl (List.eq_nil_of_length_eq_zero h0)
  · obtain ⟨g, cap, he, hcap, hlt⟩ := hown.form hpos
    injection he with e1 _ _
    subst e1
    refine .inr ⟨g, 0, rfl, hlt, fun i hi => ?_⟩
    have := hown.cells (g := g) rfl i (.string L[i]) (by rw [List.getElem?_map, List.getElem?_eq_getElem hi]; rfl)
    have hadd : (⟨g, 0, none⟩ : Addr).add i = ⟨g, 0 + i, none⟩ := by unfold Addr.add; split <;> simp_all
    rw [hadd] at this; exact this

theorem Gs.nil_ (B : Nat) (w0 w : World) (h : Below B w0 w) : Gs B w0 [] (.slice none 0 0) w := ⟨World.ownsRow_nil _ _ _ _, h⟩
end Go.Proofs.YtemkikjcjhmlaaaGreatDoor

namespace Go.Proofs.YtemkikjcjhmlaaaGreatDoor
open Go.RowKit
set_option maxRecDepth 100000

theorem sstep_append_run {P : Program} {ops : Array Oper} {o : Oper} {a : Act} {w : World} {K : Act → World → Prop} {Q : Exit → Act → World → Prop} {E : Prop} (hgd : o.guard = none) (s x : Operand) (t : TypeId)
    (ho : o.op = .call { callee := .builtin .append, args := #[s, x], argTypes := #[t, t] }) (v u : Value) (hs : a.eval s = v) (hx : a.eval x = u) {v' : Value} {w' : World}
    (hr : (Builtin.append_ #[t, t] o.type #[v, u]).run P w = .ok v' w') (h : K (a.put o.dst v') w') : if Region.wanted o (yielded ops a.tmps) = true then Oper.wp P o a w K Q else E := by
  have hw : Region.wanted o (yielded ops a.tmps) = true := by simp [Region.wanted, hgd]
  rw [if_pos hw]
  exact Lib.wp_append_run_sl w s x t ho v u hs hx hr h
/-- Where a text goes among texts: behind all that stand ahead of it. -/
def posR (x : ByteArray) : List ByteArray → Nat
  | [] => 0
  | a :: r => if befB a x = true then posR x r + 1 else 0
/-- x among texts that rise, once. -/
def insR (l : List ByteArray) (x : ByteArray) : List ByteArray := if l[posR x l]? = some x then l else (l.take (posR x l) ++ [x]) ++ l.drop (posR x l)
def riseR (l : List ByteArray) : List ByteArray := l.foldl insR []
theorem mem_insR (l : List ByteArray) (x y : ByteArray) : y ∈ insR l x ↔ y ∈ l ∨ y = x := by
  unfold insR
  split
  · rename_i h
    have := List.mem_of_getElem? h
    constructor
    · exact .inl
    · rintro (h | rfl) <;> assumption
  · have := List.take_append_drop (posR x l) l
    constructor
    · intro h
      simp only [List.mem_append, List.mem_singleton] at h
      rcases h with (h | h) | h
      · exact .inl (List.mem_of_mem_take h)
      · exact .inr h
      · exact .inl (List.mem_of_mem_drop h)
    · rintro (h | rfl)
      · rw [← this, List.mem_append] at h
        simp only [List.mem_append, List.mem_singleton]
        rcases h with h | h
        · exact .inl (.inl h)
        · exact .inr h
      · simp
theorem mem_foldR : ∀ (l : List ByteArray) (s : List ByteArray) (y : ByteArray), y ∈ l.foldl insR s ↔ y ∈ s ∨ y ∈ l
  | [], s, y => by simp
  | x :: r, s, y => by
    rw [List.foldl_cons, mem_foldR r, mem_insR, List.mem_cons]
    constructor
    · rintro ((h | h) | h)
      · exact .inl h
      · exact .inr (.inl h)
      · exact .inr (.inr h)
    · rintro (h | h | h)
      · exact .inl (.inl h)
      · exact .inl (.inr h)
      · exact .inr h
theorem mem_riseR (l : List ByteArray) (y : ByteArray) : y ∈ riseR l ↔ y ∈ l := by unfold riseR; rw [mem_foldR]; simp
theorem posR_le (x : ByteArray) : ∀ l, posR x l ≤ l.length
  | [] => Nat.le_refl _
  | a :: r => by rw [posR]; split; have := posR_le x r; simp; omega; simp
theorem posR_lt (x : ByteArray) : ∀ (l : List ByteArray) (k : Nat) (h : k < l.length), k < posR x l → befB l[k] x = true
  | a :: r, 0, _, hk => by rw [posR] at hk; split at hk <;> simp_all
  | a :: r, k + 1, h, hk => by
    rw [posR] at hk
    split at hk
    · exact posR_lt x r k (by simpa using h) (by omega)
    · omega
theorem posR_at (x : ByteArray) : ∀ (l : List ByteArray) (h : posR x l < l.length), befB l[posR x l] x = false
  | a :: r, h => by
    by_cases hb : befB a x = true
    · have e : posR x (a :: r) = posR x r + 1 := by rw [posR, if_pos hb]
      have h' : posR x r < r.length := by rw [e] at h; simpa using h
      have := posR_at x r h'
      simp only [e, List.getElem_cons_succ]; exact this
    · have e : posR x (a :: r) = 0 := by rw [posR, if_neg hb]
      simp only [e, List.getElem_cons_zero]; simpa using hb
theorem insR_len (l : List ByteArray) (x : ByteArray) : (insR l x).length ≤ l.length + 1 := by
  unfold insR
  split
  · omega
  · simp only [List.length_append, List.length_take, List.length_drop, List.length_singleton]; omega
theorem riseR_take_len (l : List ByteArray) : ∀ j, j ≤ l.length → (riseR (l.take j)).length ≤ j
  | 0, _ => by simp [riseR]
  | j + 1, h => by
    have e : riseR (l.take (j + 1)) = insR (riseR (l.take j)) (l[j]'(by omega)) := by
      unfold riseR; rw [List.take_succ_eq_append_getElem (by omega), List.foldl_append]; rfl
    rw [e]
    have h1 := insR_len (riseR (l.take j)) (l[j]'(by omega))
    have h2 := riseR_take_len l j (by omega)
    omega
theorem riseR_step (l : List ByteArray) (j : Nat) (h : j < l.length) : riseR (l.take (j + 1)) = insR (riseR (l.take j)) l[j] := by
  unfold riseR; rw [List.take_succ_eq_append_getElem h, List.foldl_append]; rfl

theorem sslice_head (p : Option Addr) (n cap k : Nat) (h : k ≤ cap) (W : World) : (Instr.sliceAt 78 (.slice p n cap) none (some (.int .i64 (k : Int))) none).run Tryz.prog W = .ok (.slice p k cap) W := by
  have h2 : (k : Int) ≤ (cap : Int) := by omega
  have ht := Tryz.underlying78
  simp only [Instr.sliceAt, Instr.slice, run_underlying ht, Instr.sliceBounds, Instr.sliceBound, asIntOf, Sem.run_bind, Sem.run_pure, Result.andThen]
  simp [go_sem, h2]
theorem sslice_tail (p : Option Addr) (n cap k : Nat) (h : k ≤ n) (hc : n ≤ cap) (w : World) (B : Nat) (l : List ByteArray) (hr : TRow w B p l) (hn : n = l.length) : ∃ q, (∀ W : World, (Instr.sliceAt 78 (.slice p n cap) (some (.int .i64 (k : Int))) none none).run Tryz.prog W = .ok (.slice q (n - k) (cap - k)) W) ∧ TRow w B q (l.drop k) := by
  have h2 : (k : Int) ≤ (n : Int) := by omega
  have ht := Tryz.underlying78
  refine ⟨if cap = k then p else p.map (·.add (k * 1)), fun W => ?_, ?_⟩
  · simp only [Instr.sliceAt, Instr.slice, run_underlying ht, Instr.sliceBounds, Instr.sliceBound, asIntOf, Sem.run_bind, Sem.run_pure, Result.andThen]
    simp [go_sem, h2]
  · by_cases hk : k = n
    · exact .inl (List.drop_of_length_le (by omega))
    · rw [if_neg (by omega)]
      rcases hr with h | ⟨b, off, rfl, hb, hcell⟩
      · exact .inl (by rw [h]; simp)
      · refine .inr ⟨b, off + k, ?_, hb, fun i hi => ?_⟩
        · show some (Addr.add ⟨b, off, none⟩ (k * 1)) = _
          unfold Addr.add; split
          · rename_i h; simp at h; subst h; rfl
          · simp
        · rw [List.getElem_drop, Nat.add_assoc]; exact hcell (k + i) (by rw [List.length_drop] at hi; omega)

/-- Drawn on from w, no more. -/
def Dr (w w' : World) : Prop := ∃ m, w' = w.drewN m
theorem drew_cells {w w' : World} (h : Dr w w') : (∀ p, w'.cell? p = w.cell? p) ∧ w'.heap.size = w.heap.size := by obtain ⟨m, rfl⟩ := h; exact ⟨fun _ => rfl, rfl⟩
theorem drew_more {w w' : World} (h : Dr w w') (n : Nat) : Dr w (w'.drewN n) := by obtain ⟨m, rfl⟩ := h; exact ⟨m + n, by rw [World.drewN_drewN]⟩
theorem drew_below {w w' : World} (h : Dr w w') : Below w.heap.size w w' := by obtain ⟨m, rfl⟩ := h; exact ⟨rfl, rfl, rfl, Nat.le_refl _, fun _ _ => rfl⟩
theorem drew_row {w w' : World} (h : Dr w w') {q : Option Addr} {L : List ByteArray} (hr : TRow w w.heap.size q L) : TRow w' w'.heap.size q L := by obtain ⟨m, rfl⟩ := h; exact hr

set_option maxHeartbeats 2000000 in
theorem rising_any (ss : List ByteArray) (p : Option Addr) (cap : Nat) (w : World) (hr : TRow w w.heap.size p ss) (hlen : ss.length ≤ 900000) (hsz : ∀ s ∈ ss, s.size ≤ 140737488355328) :
    Calls Tryz.prog 72 #[.slice p ss.length cap] w fun e w' => ∃ q c, e = .returned (.slice q (riseR ss).length c) ∧ (riseR ss).length ≤ c ∧ TRow w' w'.heap.size q (riseR ss) ∧ Below w.heap.size w w' := by
  have HR := Lib.hid hr; clear hr
  have HSZ := Lib.hid hsz; clear hsz
  go_enter Tryz.func72, Tryz.ntmps72
  go_wp2
  go_loopw [3, 4] (fun o i wr => ∃ (j : Nat) (q : Option Addr) (c : Nat) (L : List ByteArray), j ≤ ss.length ∧ i = .int .i64 j ∧ o = .slice q L.length c ∧ L.length ≤ c ∧ Hid (L = riseR (ss.take j)) ∧ Hid (TRow wr wr.heap.size q L) ∧ Hid (Below w.heap.size w wr)) (fun _ i _ => ss.length - (intOf i).toNat)
  case atStart => exact ⟨0, none, 0, [], Nat.zero_le _, rfl, rfl, Nat.le_refl _, Lib.hid rfl, Lib.hid (.inl rfl), Lib.hid (Below.refl _ _)⟩
  case round =>
    obtain ⟨j, q, c, L, hj, rfl, rfl, hLc, HL, HT, HBR⟩ := hrel
    rename World => wo
    have hz := HBR.out.size
    have hLl : L.length ≤ j := by rw [HL.out]; exact riseR_take_len ss j hj
    by_cases hlt : j < ss.length
    · have hxs := HSZ.out _ (List.getElem_mem hlt)
      have hLs : ∀ s ∈ L, s.size ≤ 140737488355328 := fun s hs => by
        rw [HL.out, mem_riseR] at hs; exact HSZ.out s (List.mem_of_mem_take hs)
      have HLS := Lib.hid hLs
      have HSTEP := Lib.hid (show riseR (ss.take (j + 1)) = insR L ss[j] from by rw [riseR_step ss j hlt, ← HL.out])
      obtain ⟨b, off, hp, hb, h0⟩ := HR.out.at_ j hlt
      subst hp
      have h0w := (HBR.out.cell (p := ⟨b, off + j, none⟩) hb).trans h0
      have HBL := Lib.hid (show b < wo.heap.size from by omega)
      have H0 := Lib.hid h0w
      clear hLs h0 h0w
      obtain ⟨x, hx⟩ : ∃ x, x = ss[j] := ⟨_, rfl⟩
      rw [← hx] at HSTEP H0 hxs
      clear hx HL
      go_wp2
      go_loopw [5] (fun k wx => ∃ (i : Nat), i ≤ posR x L ∧ k = .int .i64 i ∧ Hid (Dr wo wx)) (fun k _ => posR x L - (intOf k).toNat)
      case atStart => exact ⟨0, Nat.zero_le _, rfl, 0, rfl⟩
      case round =>
        obtain ⟨i, hi, rfl, HM⟩ := hrel
        obtain ⟨e0, e1⟩ := drew_cells HM.out
        have HCM := Lib.hid e0
        have HSM := Lib.hid e1
        clear e0 e1
        have h0w := (HCM.out ⟨b, off + j, none⟩).trans H0.out
        by_cases hil : i < L.length
        · obtain ⟨b1, off1, hp1, hb1, h1⟩ := HT.out.at_ i hil
          have h1 := (HCM.out ⟨b1, off1 + i, none⟩).trans h1
          have hL1 := HLS.out _ (List.getElem_mem hil)
          have HBF := Lib.hid (fun w => before_any L[i] x w hL1 hxs)
          obtain ⟨y, hy⟩ : ∃ y, y = L[i] := ⟨_, rfl⟩
          rw [← hy] at h1 HBF
          by_cases hip : i < posR x L
          · have HB1 := Lib.hid (fun w => by have := HBF.out w; rw [hy, posR_lt x L i hil hip, ← hy] at this; exact this)
            subst hp1
            clear HBF hy
            go_wp2
            go_quiet ((go_at_call 91; refine Calls.quiet_of (HB1.out _)))
            go_wp2
            go_roundw
            case rel => exact ⟨i + 1, by omega, by go_num, drew_more HM.out _⟩
            case measure => simp [intOf]; omega
          · have hie : i = posR x L := by omega
            have HB1 := Lib.hid (fun w => by have := HBF.out w; rw [hy, show befB L[i] x = false from (by have := posR_at x L (by omega); simpa [hie] using this), ← hy] at this; exact this)
            have HG := Lib.hid (show L[posR x L]? = some y from (by rw [← hie, hy]; exact List.getElem?_eq_getElem hil))
            by_cases hyx : y = x
            · have HINS := Lib.hid (show insR L x = L from (by unfold insR; rw [HG.out, if_pos (by rw [hyx])]))
              subst hyx
              subst hp1
              clear HBF hy hi hip hie
              go_wp2
              go_quiet ((go_at_call 91; refine Calls.quiet_of (HB1.out _)))
              go_wp2
              rename Nat => n1
              go_quiet (fail)
              go_wp2
              go_roundw
              case rel => exact ⟨j + 1, _, _, L, by omega, by go_num, rfl, hLc, Lib.hid (by rw [HSTEP.out, HINS.out]), Lib.hid (drew_row (drew_more HM.out (n1 + nq)) HT.out), Lib.hid (HBR.out.trans ((drew_below (drew_more HM.out (n1 + nq))).mono hz))⟩
              case measure => simp [intOf]; omega
            · have hyxb : (y.toList == x.toList) = false := by
                rw [beq_eq_false_iff_ne]
                intro h; apply hyx
                have h2 : y.data.toList = x.data.toList := by rw [← Go.ByteArray.toList_eq, ← Go.ByteArray.toList_eq, h]
                cases y; cases x; simp only at h2; congr 1; exact Array.toList_inj.1 h2
              have HI2 := Lib.hid (show insR L x = (L.take i ++ [x]) ++ L.drop i from (by unfold insR; rw [HG.out, if_neg (by intro h; injection h with h; exact hyx h), ← hie]))
              have hkl : i ≤ L.length := by omega
              clear HBF hy hi hip hie HG hyx
              obtain ⟨k, hk⟩ : ∃ k, k = i := ⟨_, rfl⟩
              subst hk
              subst hp1
              go_wp2
              go_quiet ((go_at_call 91; refine Calls.quiet_of (HB1.out _)))
              go_wp2
              rename Nat => n1
              go_quiet (fail)
              go_wp2
              have HDX := Lib.hid (drew_more (drew_more HM.out n1) nq)
              generalize World.drewN (World.drewN _ n1) nq = WX at HDX ⊢
              have hsx := (drew_cells HDX.out).2
              clear h1 h0w HB1 HSM HCM
              have hk0 : (0 : Int) ≤ (k : Int) := by omega
              have hkc : (k : Int) ≤ (c : Int) := by omega
              have hkL : (k : Int) ≤ (L.length : Int) := by omega
              have hLb : (L.length : Int) ≤ 900000 := by omega
              have hs1 := sslice_head (some ⟨b1, off1, none⟩) L.length c k (by omega)
              obtain ⟨q2, hs2, hq2⟩ := sslice_tail (some ⟨b1, off1, none⟩) L.length c k hkl hLc wo wo.heap.size L HT.out rfl
              have HQ2 := Lib.hid hq2
              have hmk := smkrow (L.length + 1) (by omega) (IntKind.i64.wrap ((L.length : Int) + 1)) (by rw [IntKind.wrap_i64]; omega)
              have HG0 := Lib.hid (Gs.drew_ (Gs.start (W := WX) (drew_below HDX.out) (by omega) (n := L.length + 1) (by omega)))
              obtain ⟨q3, c3, w3, hr3, hg3⟩ := HG0.out.run (by simp; omega) (C := wo.heap.size) (l := L.take k) (p := (some ⟨b1, off1, none⟩)) ((HT.out.take k).below ((drew_below HDX.out).alloc (by omega) _).drew) (by simp; omega) (L.take k) rfl (m := k) (c := c) (by rw [List.length_take]; omega) 78
              rw [show (L.take k).length = k from (by rw [List.length_take]; omega)] at hr3 hg3
              rw [hsx] at hr3
              have HR3 := Lib.hid hr3
              have HG3 := Lib.hid hg3
              have HKT := Lib.hid (show (L.take k).length = k from (by rw [List.length_take]; omega))
              clear hr3 hg3 hq2 HG0
              go_upto_region 9 with fail
              go_cut [6] from 45 to 52 (fun cc wx => ∃ q cap, cc = .slice q k cap ∧ Hid (Gs wo.heap.size wo (L.take k) (.slice q k cap) wx))
              case first =>
                go_region_law (refine sstep_append_run rfl (.tmp 48) (.tmp 51) _ rfl _ _ rfl rfl HR3.out ?_)
                go_wp2
                go_meet
                exact ⟨_, _, rfl, HG3⟩
              obtain ⟨q4, c4, rfl, HG4⟩ := hcut
              have h0x := (HG4.out.bel.cell (p := ⟨b, off + j, none⟩) HBL.out).trans H0.out
              have hwx := HG4.out.bel.size
              obtain ⟨L1, hL1e⟩ : ∃ L1, L1 = L.take k ++ [x] := ⟨_, rfl⟩
              obtain ⟨L2, hL2e⟩ : ∃ L2, L2 = L1 ++ L.drop k := ⟨_, rfl⟩
              have HL1 := Lib.hid hL1e
              have HL2 := Lib.hid hL2e
              have HI3 := Lib.hid (show insR L x = L2 from (by rw [HI2.out, hL2e, hL1e]))
              have hone : ∀ W : World, TRow (W.alloc (.cells #[.string x] 9)) (W.heap.size + 1) (some ⟨W.heap.size, 0, none⟩) [x] := fun W => .inr ⟨W.heap.size, 0, rfl, Nat.lt_succ_self _, fun i hi => by
                have hi0 : i = 0 := by simpa using hi
                subst hi0
                rw [cell_of_row _ _ _ _ _ _ (heap_alloc_new W (.cells #[.string x] 9))]; rfl⟩
              have HONE := Lib.hid hone
              clear hone hL1e hL2e HR3 HG3
              go_wp2_with (first
                | (at_builtin; obtain ⟨q5, c5, w5, hr5, hg5⟩ := (show Gs wo.heap.size wo (L.take k) (.slice q4 k c4) _ from ⟨HG4.out.row.alloc (.cells #[.string x] 9), HG4.out.bel.alloc HG4.out.bel.size _⟩).run (by simp; omega) (HONE.out _) (by have := HKT.out; simp; omega) L1 HL1.out (m := 1) (c := 1) rfl 78; refine Lib.wpList_append_run_sl _ rfl (.tmp 53) (.tmp 58) _ rfl _ _ rfl rfl hr5 ?_; have HG5 := Lib.hid hg5; clear hr5 hg5)
                | (at_builtin; obtain ⟨q6, c6, w6, hr6, hg6⟩ := HG5.out.run HG5.out.bel.size (HQ2.out.below HG5.out.bel) (by have h1 := HKT.out; rw [HL1.out]; simp only [List.length_append, List.length_singleton, List.length_drop]; omega) L2 HL2.out (m := L.length - k) (c := c - k) (by rw [List.length_drop]) 78; refine Lib.wpList_append_run_sl _ rfl (.tmp 60) (.tmp 63) _ rfl _ _ rfl rfl hr6 ?_; have HG6 := Lib.hid hg6; clear hr6 hg6))
              obtain ⟨q7, c7, he7, h71, h72⟩ := HG6.out.fin
              injection he7 with e1 _ e2
              subst e1 e2
              go_roundw
              case rel => exact ⟨j + 1, _, _, L2, by omega, by go_num, rfl, h71, Lib.hid (by rw [HSTEP.out, HI3.out]), Lib.hid h72, Lib.hid (HBR.out.trans (HG6.out.bel.mono hz))⟩
              case measure => simp [intOf]; omega
        · have hkl : i ≤ L.length := by have := posR_le x L; omega
          have hie : i = posR x L := by have := posR_le x L; omega
          have HI2 := Lib.hid (show insR L x = (L.take i ++ [x]) ++ L.drop i from (by unfold insR; rw [List.getElem?_eq_none (by omega), if_neg (by simp), ← hie]))
          clear hi hie
          obtain ⟨k, hk⟩ : ∃ k, k = i := ⟨_, rfl⟩
          subst hk
          go_wp2
          go_quiet (fail)
          go_wp2
          rename Nat => n1
          go_quiet (fail)
          go_wp2
          have HDX := Lib.hid (drew_more (drew_more HM.out n1) nq)
          generalize World.drewN (World.drewN _ n1) nq = WX at HDX ⊢
          have hsx := (drew_cells HDX.out).2
          clear h0w HSM HCM
          have hk0 : (0 : Int) ≤ (k : Int) := by omega
          have hkc : (k : Int) ≤ (c : Int) := by omega
          have hkL : (k : Int) ≤ (L.length : Int) := by omega
          have hLb : (L.length : Int) ≤ 900000 := by omega
          have hs1 := sslice_head q L.length c k (by omega)
          obtain ⟨q2, hs2, hq2⟩ := sslice_tail q L.length c k hkl hLc wo wo.heap.size L HT.out rfl
          have HQ2 := Lib.hid hq2
          have hmk := smkrow (L.length + 1) (by omega) (IntKind.i64.wrap ((L.length : Int) + 1)) (by rw [IntKind.wrap_i64]; omega)
          have HG0 := Lib.hid (Gs.drew_ (Gs.start (W := WX) (drew_below HDX.out) (by omega) (n := L.length + 1) (by omega)))
          obtain ⟨q3, c3, w3, hr3, hg3⟩ := HG0.out.run (by simp; omega) (C := wo.heap.size) (l := L.take k) (p := q) ((HT.out.take k).below ((drew_below HDX.out).alloc (by omega) _).drew) (by simp; omega) (L.take k) rfl (m := k) (c := c) (by rw [List.length_take]; omega) 78
          rw [show (L.take k).length = k from (by rw [List.length_take]; omega)] at hr3 hg3
          rw [hsx] at hr3
          have HR3 := Lib.hid hr3
          have HG3 := Lib.hid hg3
          have HKT := Lib.hid (show (L.take k).length = k from (by rw [List.length_take]; omega))
          clear hr3 hg3 hq2 HG0
          go_upto_region 9 with fail
          go_cut [6] from 45 to 52 (fun cc wx => ∃ q cap, cc = .slice q k cap ∧ Hid (Gs wo.heap.size wo (L.take k) (.slice q k cap) wx))
          case first =>
            go_region_law (refine sstep_append_run rfl (.tmp 48) (.tmp 51) _ rfl _ _ rfl rfl HR3.out ?_)
            go_wp2
            go_meet
            exact ⟨_, _, rfl, HG3⟩
          obtain ⟨q4, c4, rfl, HG4⟩ := hcut
          have h0x := (HG4.out.bel.cell (p := ⟨b, off + j, none⟩) HBL.out).trans H0.out
          have hwx := HG4.out.bel.size
          obtain ⟨L1, hL1e⟩ : ∃ L1, L1 = L.take k ++ [x] := ⟨_, rfl⟩
          obtain ⟨L2, hL2e⟩ : ∃ L2, L2 = L1 ++ L.drop k := ⟨_, rfl⟩
          have HL1 := Lib.hid hL1e
          have HL2 := Lib.hid hL2e
          have HI3 := Lib.hid (show insR L x = L2 from (by rw [HI2.out, hL2e, hL1e]))
          have hone : ∀ W : World, TRow (W.alloc (.cells #[.string x] 9)) (W.heap.size + 1) (some ⟨W.heap.size, 0, none⟩) [x] := fun W => .inr ⟨W.heap.size, 0, rfl, Nat.lt_succ_self _, fun i hi => by
            have hi0 : i = 0 := by simpa using hi
            subst hi0
            rw [cell_of_row _ _ _ _ _ _ (heap_alloc_new W (.cells #[.string x] 9))]; rfl⟩
          have HONE := Lib.hid hone
          clear hone hL1e hL2e HR3 HG3
          go_wp2_with (first
            | (at_builtin; obtain ⟨q5, c5, w5, hr5, hg5⟩ := (show Gs wo.heap.size wo (L.take k) (.slice q4 k c4) _ from ⟨HG4.out.row.alloc (.cells #[.string x] 9), HG4.out.bel.alloc HG4.out.bel.size _⟩).run (by simp; omega) (HONE.out _) (by have := HKT.out; simp; omega) L1 HL1.out (m := 1) (c := 1) rfl 78; refine Lib.wpList_append_run_sl _ rfl (.tmp 53) (.tmp 58) _ rfl _ _ rfl rfl hr5 ?_; have HG5 := Lib.hid hg5; clear hr5 hg5)
            | (at_builtin; obtain ⟨q6, c6, w6, hr6, hg6⟩ := HG5.out.run HG5.out.bel.size (HQ2.out.below HG5.out.bel) (by have h1 := HKT.out; rw [HL1.out]; simp only [List.length_append, List.length_singleton, List.length_drop]; omega) L2 HL2.out (m := L.length - k) (c := c - k) (by rw [List.length_drop]) 78; refine Lib.wpList_append_run_sl _ rfl (.tmp 60) (.tmp 63) _ rfl _ _ rfl rfl hr6 ?_; have HG6 := Lib.hid hg6; clear hr6 hg6))
          obtain ⟨q7, c7, he7, h71, h72⟩ := HG6.out.fin
          injection he7 with e1 _ e2
          subst e1 e2
          go_roundw
          case rel => exact ⟨j + 1, _, _, L2, by omega, by go_num, rfl, h71, Lib.hid (by rw [HSTEP.out, HI3.out]), Lib.hid h72, Lib.hid (HBR.out.trans (HG6.out.bel.mono hz))⟩
          case measure => simp [intOf]; omega
    · have hje : j = ss.length := by omega
      have HF := Lib.hid (show L = riseR ss from by rw [HL.out, hje, List.take_length])
      go_wp2
      go_ret
      exact ⟨q, c, (by rw [← HF.out]; rfl), by rw [← HF.out]; exact hLc, by rw [← HF.out]; exact HT.out, HBR.out⟩
end Go.Proofs.YtemkikjcjhmlaaaGreatDoor

namespace Go.Proofs.YtemkikjcjhmlaaaGreatDoor
open Go.RowKit
set_option maxRecDepth 100000

/-- The cells of a row of nodes. -/
def CsN (w : World) (lo hi : Nat) : List Nd → List Value → Prop
  | [], cs => cs = []
  | t :: r, cs => ∃ (c0 c1 c2 c3 c4 c5 c6 c7 : Value) (rest : List Value), cs = c0 :: c1 :: c2 :: c3 :: c4 :: c5 :: c6 :: c7 :: rest ∧ NRep w lo hi t (.agg #[c0, c1, c2, c3, c4, c5, c6, c7]) ∧ CsN w lo hi r rest
theorem CsN.len {w : World} {lo hi : Nat} : ∀ {l : List Nd} {cs : List Value}, CsN w lo hi l cs → cs.length = l.length * 8
  | [], _, h => by cases h; rfl
  | _ :: _, _, ⟨_, _, _, _, _, _, _, _, _, e, _, h⟩ => by have := CsN.len h; rw [e]; simp; omega
theorem CsN.one {w : World} {lo hi : Nat} : ∀ {l : List Nd} {cs : List Value}, CsN w lo hi l cs → ∀ u ∈ cs, u.oneCell' = true
  | [], _, h, u, hu => by cases h; cases hu
  | .mk o n s v ll :: _, _, ⟨c0, c1, c2, c3, c4, c5, c6, c7, rest, e, hr, h⟩, u, hu => by
    obtain ⟨k, m, z, q, ql, qc, p, cap, hx, _⟩ := hr.open
    simp only [Value.agg.injEq, Array.mk.injEq, List.cons.injEq, and_true] at hx
    obtain ⟨rfl, rfl, rfl, rfl, rfl, rfl, rfl, rfl⟩ := hx
    rw [e] at hu
    simp only [List.mem_cons] at hu
    rcases hu with rfl | rfl | rfl | rfl | rfl | rfl | rfl | rfl | hu
    all_goals first | rfl | exact CsN.one h u hu
theorem CsN.keep {w w' : World} {lo hi lo' hi' : Nat} (hlo : lo' ≤ lo) (hhi : hi ≤ hi') (hk : ∀ p : Addr, lo ≤ p.block → p.block < hi → w'.cell? p = w.cell? p) : ∀ {l : List Nd} {cs : List Value}, CsN w lo hi l cs → CsN w' lo' hi' l cs
  | [], _, h => h
  | _ :: _, _, ⟨c0, c1, c2, c3, c4, c5, c6, c7, rest, e, hr, h⟩ => ⟨c0, c1, c2, c3, c4, c5, c6, c7, rest, e, hr.keep hlo hhi hk, CsN.keep hlo hhi hk h⟩
theorem CsN.app {w : World} {lo hi : Nat} : ∀ {l l' : List Nd} {cs cs' : List Value}, CsN w lo hi l cs → CsN w lo hi l' cs' → CsN w lo hi (l ++ l') (cs ++ cs')
  | [], _, _, _, h, h' => by cases h; exact h'
  | _ :: _, _, _, _, ⟨c0, c1, c2, c3, c4, c5, c6, c7, rest, e, hr, h⟩, h' => ⟨c0, c1, c2, c3, c4, c5, c6, c7, rest ++ _, by rw [e]; rfl, hr, CsN.app h h'⟩
theorem CsN.all {w : World} {lo hi lo' hi' b : Nat} (hlo : lo' ≤ lo) (hhi : hi ≤ hi') (h1 : lo' ≤ b) (h2 : b < hi') : ∀ {l : List Nd} {cs : List Value} (off : Nat), CsN w lo hi l cs → (∀ j u, cs[j]? = some u → w.cell? ⟨b, off + j, none⟩ = some u) → NAll w lo' hi' l (some ⟨b, off, none⟩)
  | [], _, _, _, _ => NAll.nil _ _ _ _
  | t :: r, _, off, ⟨c0, c1, c2, c3, c4, c5, c6, c7, rest, e, hr, h⟩, hc => by
    subst e
    have hadd : ∀ n, Addr.add ⟨b, off, none⟩ n = ⟨b, off + n, none⟩ := by
      intro n; unfold Addr.add; split
      · rename_i h; subst h; rfl
      · rfl
    unfold NAll
    refine ⟨⟨b, off, none⟩, c0, c1, c2, c3, c4, c5, c6, c7, rfl, h1, h2, hc 0 c0 rfl, by rw [hadd]; exact hc 1 c1 rfl, by rw [hadd]; exact hc 2 c2 rfl, by rw [hadd]; exact hc 3 c3 rfl, by rw [hadd]; exact hc 4 c4 rfl, by rw [hadd]; exact hc 5 c5 rfl, by rw [hadd]; exact hc 6 c6 rfl, by rw [hadd]; exact hc 7 c7 rfl, hr.wide hlo hhi, ?_⟩
    rw [hadd]
    refine CsN.all hlo hhi h1 h2 (off + 8) h (fun j u hj => ?_)
    have := hc (j + 8) u (by simpa using hj)
    rw [show off + (j + 8) = off + 8 + j from by omega] at this
    exact this
theorem NRep.form8 {w : World} {lo hi : Nat} {t : Nd} {x : Value} (h : NRep w lo hi t x) : ∃ c0 c1 c2 c3 c4 c5 c6 c7, x = .agg #[c0, c1, c2, c3, c4, c5, c6, c7] := by
  obtain ⟨o, n, s, v, l⟩ := t
  obtain ⟨k, m, z, q, ql, qc, p, cap, hx, _⟩ := h.open
  exact ⟨_, _, _, _, _, _, _, _, hx⟩

/-- A row of one's own that holds these nodes, what they have from lo on, below hi; what lay below B is as it was. -/
structure Gn (B lo hi : Nat) (w0 : World) (L : List Nd) (v : Value) (w : World) : Prop where
  row : ∃ cs, w.ownsRow B 33 8 v L.length cs ∧ CsN w lo hi L cs
  bel : Below B w0 w
theorem Gn.nil {B lo hi : Nat} {w0 w : World} (hb : Below B w0 w) : Gn B lo hi w0 [] (.slice none 0 0) w := ⟨⟨[], World.ownsRow_nil _ _ _ _, rfl⟩, hb⟩
theorem Gn.run {B lo hi : Nat} {w0 w : World} {L : List Nd} {v : Value} (h : Gn B lo hi w0 L v w) (hhi : hi ≤ B) (hB : B ≤ w.heap.size) {l : List Nd} {cs : List Value} {p : Option Addr} {c m : Nat} (hc : CsN w lo hi l cs) (hcell : ∀ a, p = some a → ∀ j u, cs[j]? = some u → w.cell? (a.add j) = some u) (hp : p = none → l = [])
    (hn : L.length + l.length ≤ 1000000) (M : List Nd) (hM : M = L ++ l) (hm : m = l.length) (ty : TypeId) :
    ∃ q cap w', (Builtin.append_ #[22, 22] ty #[v, .slice p m c]).run Tryz.prog w = .ok (.slice q M.length cap) w' ∧ Gn B lo hi w0 M (.slice q M.length cap) w' := by
  obtain ⟨i0, hi0, hz0, hz1, hz2⟩ := info_parts Tryz.info_N
  obtain ⟨⟨xs, hown, hcs⟩, hbel⟩ := h
  subst hm
  rcases Nat.eq_zero_or_pos l.length with h0 | hpos
  · have hl0 : l = [] := List.eq_nil_of_length_eq_zero h0
    subst hl0
    rw [List.append_nil] at hM
    subst hM
    obtain ⟨sp, scap, rfl, hsc⟩ := sowns_form hown
    refine ⟨sp, scap, w, ?_, ⟨xs, hown, hcs⟩, hbel⟩
    refine run_append_nothing w _ _ ty 33 i0 Tryz.underlying22 hi0 sp _ scap hsc _ ?_
    cases p with
    | none => exact Src.ofNil _ Tryz.underlying22 c
    | some a => exact Src.ofSlice _ Tryz.underlying22 a 0 c [] (by simp) (fun j u h => by simp at h) (by simp)
  · cases p with
    | none => rw [hp rfl] at hpos; simp at hpos
    | some a =>
      obtain ⟨g, cap, w', hr, ho', hgr, hat, hlt⟩ := run_append_lies (P := Tryz.prog) w 22 ty B 33 i0 _ 8 112 Tryz.underlying22 hi0 hz0 hz1 hz2 rfl (by decide) v L.length xs hown a l.length c cs hc.len (hcell a rfl) hc.one hpos (by unfold maxLen; omega) (by omega) hB w.heap.size rfl
      have hMl : M.length = L.length + l.length := by rw [hM, List.length_append]
      have hb2 := sbelow_grown hbel hgr (fun k hk => (hown.lt k hk).1) hB
      have hkeep : ∀ p : Addr, lo ≤ p.block → p.block < hi → w'.cell? p = w.cell? p := fun p _ hp => (hb2.cell (by omega)).trans (hbel.cell (by omega)).symm
      rw [hMl]
      exact ⟨_, cap, w', hr, ⟨_, by rw [hMl]; exact ho', by rw [hM]; exact (hcs.keep (Nat.le_refl _) (Nat.le_refl _) hkeep).app (hc.keep (Nat.le_refl _) (Nat.le_refl _) hkeep)⟩, hb2⟩
theorem Gn.below {B lo hi : Nat} {w0 w w' : World} {L : List Nd} {v : Value} (h : Gn B lo hi w0 L v w) (hhi : hi ≤ w.heap.size) (hB : B ≤ w.heap.size) (hb : Below w.heap.size w w') : Gn B lo hi w0 L v w' := by
  obtain ⟨⟨cs, h1, h2⟩, h3⟩ := h
  refine ⟨⟨cs, ?_, h2.keep (Nat.le_refl _) (Nat.le_refl _) (fun p _ hp => hb.cell (by omega))⟩, h3.trans (hb.mono hB)⟩
  obtain ⟨hl, h1⟩ := h1
  refine ⟨hl, ?_⟩
  rcases h1 with h1 | ⟨g, cap, cur, hv, hg, hh, r⟩
  · exact .inl h1
  · exact .inr ⟨g, cap, cur, hv, hg, heap_old hh hb, r⟩
/-- One node more, from a box of its own. -/
theorem Gn.one {B lo hi : Nat} {w0 w : World} {L : List Nd} {v : Value} (h : Gn B lo hi w0 L v w) (hhi : hi ≤ B) (hB : B ≤ w.heap.size) {t : Nd} {c0 c1 c2 c3 c4 c5 c6 c7 : Value} (hr : NRep w lo hi t (.agg #[c0, c1, c2, c3, c4, c5, c6, c7])) (hn : L.length + 1 ≤ 1000000) (M : List Nd) (hM : M = L ++ [t]) (ty : TypeId) :
    ∃ q cap w', (Builtin.append_ #[22, 22] ty #[v, .slice (some ⟨w.heap.size, 0, none⟩) 1 1]).run Tryz.prog (w.alloc (.cells #[c0, c1, c2, c3, c4, c5, c6, c7] 33)) = .ok (.slice q M.length cap) w' ∧ Gn B lo hi w0 M (.slice q M.length cap) w' := by
  have hb : Below w.heap.size w (w.alloc (.cells #[c0, c1, c2, c3, c4, c5, c6, c7] 33)) := (Below.refl _ w).alloc (Nat.le_refl _) _
  refine (h.below (by omega) hB hb).run hhi (by simp; omega) (l := [t]) (cs := [c0, c1, c2, c3, c4, c5, c6, c7]) ⟨c0, c1, c2, c3, c4, c5, c6, c7, [], rfl, hr.below hb (by omega), rfl⟩ (fun a ha j u hj => ?_) (fun h => by cases h) (by simpa using hn) M hM rfl ty
  injection ha with ha
  subst ha
  have hadd : (⟨w.heap.size, 0, none⟩ : Addr).add j = ⟨w.heap.size, j, none⟩ := by unfold Addr.add; split <;> simp_all
  rw [hadd, cell_of_row _ _ _ _ _ _ (heap_alloc_new w (.cells #[c0, c1, c2, c3, c4, c5, c6, c7] 33)), ← hj]; simp
/-- Another such row behind it. -/
theorem Gn.more {B B' lo hi : Nat} {w0 w1 w : World} {L l : List Nd} {v u : Value} (h : Gn B lo hi w0 L v w) (hhi : hi ≤ B) (hB : B ≤ w.heap.size) (hu : Gn B' lo hi w1 l u w) (hn : L.length + l.length ≤ 1000000) (M : List Nd) (hM : M = L ++ l) (ty : TypeId) :
    ∃ q cap w', (Builtin.append_ #[22, 22] ty #[v, u]).run Tryz.prog w = .ok (.slice q M.length cap) w' ∧ Gn B lo hi w0 M (.slice q M.length cap) w' := by
  obtain ⟨⟨cs, h1, h2⟩, _⟩ := hu
  obtain ⟨p, c, rfl, hc⟩ := sowns_form h1
  refine h.run hhi hB h2 (fun a ha j u hj => ?_) (fun hp => ?_) hn M hM rfl ty
  · obtain ⟨g, off, sp⟩ := a
    rcases Nat.eq_zero_or_pos l.length with h0 | hpos
    · have := h2.len; rw [h0] at this; have : cs = [] := List.eq_nil_of_length_eq_zero (by omega); subst this; simp at hj
    · obtain ⟨g2, cap, he, _, _⟩ := h1.form hpos
      rw [ha] at he
      injection he with e1 _ _
      injection e1 with e1
      rw [e1]
      exact h1.cells (g := g2) (by rw [ha, e1]; rfl) j u hj
  · rcases Nat.eq_zero_or_pos l.length with h0 | hpos
    · exact List.eq_nil_of_length_eq_zero h0
    · obtain ⟨g2, cap, he, _, _⟩ := h1.form hpos
      rw [hp] at he
      injection he with e1 _ _
      cases e1
theorem Gn.fin {B lo hi : Nat} {w0 w : World} {L : List Nd} {v : Value} (h : Gn B lo hi w0 L v w) (hlo : lo ≤ B) (hhi : hi ≤ w.heap.size) : ∃ p cap, v = .slice p L.length cap ∧ L.length ≤ cap ∧ NAll w lo w.heap.size L p := by
  obtain ⟨⟨cs, h1, h2⟩, _⟩ := h
  obtain ⟨sp, scap, rfl, hsc⟩ := sowns_form h1
  refine ⟨sp, scap, rfl, hsc, ?_⟩
  rcases Nat.eq_zero_or_pos L.length with h0 | hpos
  · have : L = [] := List.eq_nil_of_length_eq_zero h0
    subst this
    exact NAll.nil _ _ _ _
  · obtain ⟨g, cap, he, hcap, hlt⟩ := h1.form hpos
    injection he with e1 _ _
    subst e1
    refine h2.all (Nat.le_refl _) hhi (Nat.le_trans hlo (h1.lt g rfl).1) hlt 0 (fun j u hj => ?_)
    have := h1.cells (g := g) rfl j u hj
    have hadd : (⟨g, 0, none⟩ : Addr).add j = ⟨g, 0 + j, none⟩ := by unfold Addr.add; split <;> simp_all
    rw [hadd] at this; exact this
end Go.Proofs.YtemkikjcjhmlaaaGreatDoor

namespace Go.Proofs.YtemkikjcjhmlaaaGreatDoor
open Go.RowKit
set_option maxRecDepth 100000

def holdsB (ss : List ByteArray) (s : ByteArray) : Bool := ss.any (fun y => y.toList == s.toList)
theorem bytes_eq {y s : ByteArray} : (y.toList == s.toList) = true ↔ y = s := by
  rw [beq_iff_eq]
  constructor
  · intro h
    have h2 : y.data.toList = s.data.toList := by rw [← Go.ByteArray.toList_eq, ← Go.ByteArray.toList_eq, h]
    cases y; cases s; simp only at h2; congr 1; exact Array.toList_inj.1 h2
  · rintro rfl; rfl
theorem holdsB_iff (ss : List ByteArray) (s : ByteArray) : holdsB ss s = true ↔ s ∈ ss := by
  unfold holdsB
  rw [List.any_eq_true]
  constructor
  · rintro ⟨y, hy, h⟩; rw [bytes_eq] at h; exact h ▸ hy
  · intro h; exact ⟨s, h, bytes_eq.2 rfl⟩
set_option maxHeartbeats 1000000 in
theorem holds_any (ss : List ByteArray) (p : Option Addr) (cap B : Nat) (s : ByteArray) (w : World) (h : TRow w B p ss) (hl : ss.length ≤ 9000000000000000000) :
    Calls Tryz.prog 46 #[.slice p ss.length cap, .string s] w fun e w' => e = .returned (.bool (holdsB ss s)) ∧ w' = w := by
  have HS := Lib.hid h; clear h
  go_enter Tryz.func46, Tryz.ntmps46
  go_wp2
  go_loop [5] (fun i => ∃ j : Nat, j ≤ ss.length ∧ i = .int .i64 j ∧ Hid (holdsB ss s = holdsB (ss.drop j) s)) (fun i => ss.length - (intOf i).toNat)
  case atStart => exact ⟨0, Nat.zero_le _, rfl, rfl⟩
  case round =>
    obtain ⟨j, hj, rfl, HO⟩ := hrel
    by_cases hlt : j < ss.length
    · obtain ⟨b, off, rfl, _, h0⟩ := HS.out.at_ j hlt
      obtain ⟨y, hy⟩ : ∃ y, y = ss[j] := ⟨_, rfl⟩
      have HN := Lib.hid (show holdsB ss s = ((y.toList == s.toList) || holdsB (ss.drop (j + 1)) s) from by rw [HO.out, List.drop_eq_getElem_cons hlt, hy]; rfl)
      rw [← hy] at h0
      clear hy
      cases hb : (y.toList == s.toList) with
      | true =>
        have HF := Lib.hid (show holdsB ss s = true from by rw [HN.out, hb]; rfl)
        go_wp2
        go_ret
        exact ⟨ret_bool HF.out.symm, rfl⟩
      | false =>
        have HF := Lib.hid (show holdsB ss s = holdsB (ss.drop (j + 1)) s from by rw [HN.out, hb]; rfl)
        go_wp2
        go_round
        case rel => exact ⟨j + 1, by omega, by go_num, HF⟩
        case measure => simp [intOf]; omega
    · have hje : j = ss.length := by omega
      have HF := Lib.hid (show holdsB ss s = false from by rw [HO.out, hje, List.drop_length]; rfl)
      go_wp2
      go_ret
      exact ⟨ret_bool HF.out.symm, rfl⟩

end Go.Proofs.YtemkikjcjhmlaaaGreatDoor

namespace Go.Proofs.YtemkikjcjhmlaaaGreatDoor
open Go.RowKit
set_option maxRecDepth 100000

def smallB (c : UInt8) : Bool := (decide (97 ≤ c.toNat) && decide (c.toNat ≤ 122)) || c.toNat == 95
/-- A name by its bytes, a key too. -/
def nameOnlyB (s : ByteArray) : Bool :=
  match s.data.toList with
  | [] => false
  | c :: r => decide (s.size ≤ 32) && smallB c && (c :: r).all nameByteB
theorem byte_ways (c : UInt8) : nameByteB c = (smallB c || digB c) ∧ (smallB c = true → digB c = false) := by
  unfold nameByteB smallB digB
  by_cases h1 : 97 ≤ c.toNat <;> by_cases h2 : c.toNat ≤ 122 <;> by_cases h3 : c.toNat = 95 <;> by_cases h4 : 48 ≤ c.toNat <;> by_cases h5 : c.toNat ≤ 57 <;> simp [h1, h2, h3, h4, h5] <;> omega
theorem name_is (s : ByteArray) : isNameB s = (nameOnlyB s && !isKeyB s) := by
  unfold isNameB nameOnlyB
  cases h : s.data.toList with
  | nil => simp
  | cons c r =>
    simp only [List.all_cons]
    obtain ⟨h1, h2⟩ := byte_ways c
    rw [h1]
    cases hs : smallB c with
    | true => rw [h2 hs]; cases isKeyB s <;> simp
    | false => cases hd : digB c <;> simp

set_option maxHeartbeats 400000 in
theorem rsmall_any (c : UInt8) (w : World) : Calls Tryz.prog 70 #[.int .u8 (c.toNat : Int)] w fun e w' => e = .returned (.bool (smallB c)) ∧ w' = w := by
  obtain ⟨n, hn⟩ : ∃ n, n = c.toNat := ⟨_, rfl⟩
  have hs : smallB c = ((decide ((97 : Int) ≤ (n : Int)) && decide ((n : Int) ≤ 122)) || ((n : Int) == 95)) := by
    unfold smallB; rw [← hn]
    rw [Bool.eq_iff_iff]
    simp only [Bool.or_eq_true, Bool.and_eq_true, decide_eq_true_eq, beq_iff_eq]
    omega
  rw [← hn]
  have HS := Lib.hid hs
  clear hs hn
  go_enter Tryz.func70, Tryz.ntmps70
  by_cases h1 : (97 : Int) ≤ (n : Int)
  · by_cases h2 : (n : Int) ≤ 122
    · go_wp2; go_ret; exact ⟨by rw [HS.out, decide_eq_true h1, decide_eq_true h2]; rfl, rfl⟩
    · go_wp2; go_ret; exact ⟨by rw [HS.out, decide_eq_true h1, decide_eq_false (show ¬ (n : Int) ≤ 122 by omega)]; rfl, rfl⟩
  · go_wp2; go_ret; exact ⟨by rw [HS.out, decide_eq_false (show ¬ (97 : Int) ≤ (n : Int) by omega)]; rfl, rfl⟩
set_option maxHeartbeats 400000 in
theorem rdigit_any (c : UInt8) (w : World) : Calls Tryz.prog 71 #[.int .u8 (c.toNat : Int)] w fun e w' => e = .returned (.bool (digB c)) ∧ w' = w := by
  obtain ⟨n, hn⟩ : ∃ n, n = c.toNat := ⟨_, rfl⟩
  have hs : digB c = (decide ((48 : Int) ≤ (n : Int)) && decide ((n : Int) ≤ 57)) := by
    unfold digB; rw [← hn]
    by_cases h1 : 48 ≤ n <;> by_cases h2 : n ≤ 57 <;> simp [h1, h2] <;> omega
  rw [← hn]
  have HS := Lib.hid hs
  clear hs hn
  go_enter Tryz.func71, Tryz.ntmps71
  by_cases h1 : (48 : Int) ≤ (n : Int)
  · go_wp2; go_ret; exact ⟨by rw [HS.out, decide_eq_true h1]; rfl, rfl⟩
  · go_wp2; go_ret; exact ⟨by rw [HS.out, decide_eq_false (show ¬ (48 : Int) ≤ (n : Int) by omega)]; rfl, rfl⟩

set_option maxHeartbeats 2000000 in
theorem risName_any (s : ByteArray) (hs : s.size ≤ 140737488355328) (w : World) : Calls Tryz.prog 45 #[.string s] w fun e w' => e = .returned (.bool (nameOnlyB s)) ∧ w' = w := by
  have hdl : s.data.toList.length = s.size := by simp
  have HSM := Lib.hid (fun (c : UInt8) (w : World) => rsmall_any c w)
  have HDG := Lib.hid (fun (c : UInt8) (w : World) => rdigit_any c w)
  go_enter Tryz.func45, Tryz.ntmps45
  by_cases h0 : s.size = 0
  · have HM := Lib.hid (show nameOnlyB s = false from (by
      have : s.data.toList = [] := List.eq_nil_of_length_eq_zero (by omega)
      unfold nameOnlyB; rw [this]))
    have h0i : (s.size : Int) < 1 := by omega
    clear h0
    go_wp2
    go_ret; exact ⟨by rw [HM.out]; rfl, rfl⟩
  have hd0 : 0 < s.data.size := by
    have : s.data.size = s.size := rfl
    omega
  have hh : s.data.toList = s[0] :: s.data.toList.tail := by
    cases hl : s.data.toList with
    | nil => rw [hl] at hdl; simp at hdl; omega
    | cons c r =>
      have : s[0] = c := by
        have h1 : s[0] = s.data[0] := rfl
        rw [h1, ← Array.getElem_toList]; simp [hl]
      rw [this]; rfl
  have HN := Lib.hid (show nameOnlyB s = (decide (s.size ≤ 32) && smallB s[0] && s.data.toList.all nameByteB) from (by
    unfold nameOnlyB; rw [hh]))
  have h0i : ¬ (s.size : Int) < 1 := by omega
  have hs0 : (0 : Int) < s.size := by omega
  clear hh
  by_cases h32 : (32 : Int) < s.size
  · have HM := Lib.hid (show nameOnlyB s = false from (by
      have : ¬ s.size ≤ 32 := by omega
      rw [HN.out, decide_eq_false this]; simp))
    go_wp2
    go_ret; exact ⟨by rw [HM.out]; rfl, rfl⟩
  cases hsm : smallB s[0]
  · have HM := Lib.hid (show nameOnlyB s = false from (by rw [HN.out, hsm]; simp))
    have HS0 := Lib.hid (fun (w : World) => by have := HSM.out s[0] w; rw [hsm] at this; exact this)
    clear hsm HN
    go_wp2_with (go_at_call 70; refine (HS0.out _).mono ?_; rintro e w2 ⟨rfl, rfl⟩)
    go_ret; exact ⟨by rw [HM.out]; rfl, rfl⟩
  · have HM := Lib.hid (show nameOnlyB s = s.data.toList.all nameByteB from (by
      have : s.size ≤ 32 := by omega
      rw [HN.out, hsm, decide_eq_true this]; simp))
    have HS0 := Lib.hid (fun (w : World) => by have := HSM.out s[0] w; rw [hsm] at this; exact this)
    clear hsm HN
    go_wp2_with (go_at_call 70; refine (HS0.out _).mono ?_; rintro e w2 ⟨rfl, rfl⟩)
    go_loop [3] (fun i => ∃ j : Nat, j ≤ s.size ∧ i = .int .i64 j ∧ Hid ((s.data.toList.take j).all nameByteB = true)) (fun i => s.size - (intOf i).toNat)
    case atStart => exact ⟨0, Nat.zero_le _, rfl, Lib.hid rfl⟩
    case round =>
      obtain ⟨j, hj, rfl, hA⟩ := hrel
      by_cases hjs : j < s.size
      · have hj' : j < s.data.toList.length := by simpa using hjs
        have hget : s.data.toList[j] = s[j] := by
          rw [Array.getElem_toList]; rfl
        obtain ⟨hb1, _⟩ := byte_ways s[j]
        cases hs1 : smallB s[j]
        · have HS1 := Lib.hid (fun (w : World) => by have := HSM.out s[j] w; rw [hs1] at this; exact this)
          cases hd1 : digB s[j]
          · have HD1 := Lib.hid (fun (w : World) => by have := HDG.out s[j] w; rw [hd1] at this; exact this)
            have HF := Lib.hid (show nameOnlyB s = false from (by
              rw [HM.out, List.all_eq_false]
              exact ⟨s[j], by rw [← hget]; exact List.getElem_mem hj', by rw [hb1, hs1, hd1]; simp⟩))
            clear hget hb1 hs1 hd1
            go_wp2_with (first
              | (go_at_call 70; refine (HS1.out _).mono ?_; rintro e w2 ⟨rfl, rfl⟩)
              | (go_at_call 71; refine (HD1.out _).mono ?_; rintro e w2 ⟨rfl, rfl⟩))
            go_ret; exact ⟨by rw [HF.out]; rfl, rfl⟩
          · have HD1 := Lib.hid (fun (w : World) => by have := HDG.out s[j] w; rw [hd1] at this; exact this)
            have HNX := Lib.hid (show (s.data.toList.take (j + 1)).all nameByteB = true from (by
              rw [List.take_succ_eq_append_getElem hj', List.all_append, hA.out, hget]
              simp [hb1, hd1]))
            clear hget hb1 hs1 hd1
            go_wp2_with (first
              | (go_at_call 70; refine (HS1.out _).mono ?_; rintro e w2 ⟨rfl, rfl⟩)
              | (go_at_call 71; refine (HD1.out _).mono ?_; rintro e w2 ⟨rfl, rfl⟩))
            go_round
            case rel => exact ⟨j + 1, by omega, by go_num, HNX⟩
            case measure => simp [intOf]; omega
        · have HS1 := Lib.hid (fun (w : World) => by have := HSM.out s[j] w; rw [hs1] at this; exact this)
          have HNX := Lib.hid (show (s.data.toList.take (j + 1)).all nameByteB = true from (by
            rw [List.take_succ_eq_append_getElem hj', List.all_append, hA.out, hget]
            simp [hb1, hs1]))
          clear hget hb1 hs1
          go_wp2_with (go_at_call 70; refine (HS1.out _).mono ?_; rintro e w2 ⟨rfl, rfl⟩)
          go_round
          case rel => exact ⟨j + 1, by omega, by go_num, HNX⟩
          case measure => simp [intOf]; omega
      · have hje : j = s.size := by omega
        have HF := Lib.hid (show nameOnlyB s = true from (by
          have := hA.out
          rw [hje, List.take_of_length_le (by omega)] at this
          rw [HM.out, this]))
        go_wp2
        go_ret; exact ⟨by rw [HF.out]; rfl, rfl⟩
end Go.Proofs.YtemkikjcjhmlaaaGreatDoor

namespace Go.Proofs.YtemkikjcjhmlaaaGreatDoor
open Go.RowKit
set_option maxRecDepth 100000

/-- The keys. -/
def keysL : List ByteArray := keyWords.map (fun k => ⟨k.toArray⟩)
theorem mem_keysL (s : ByteArray) : s ∈ keysL ↔ isKeyB s = true := by
  unfold keysL isKeyB
  rw [List.mem_map, List.any_eq_true]
  constructor
  · rintro ⟨k, hk, rfl⟩
    exact ⟨k, hk, by rw [beq_iff_eq, Go.ByteArray.toList_eq]⟩
  · rintro ⟨k, hk, h⟩
    rw [beq_iff_eq, Go.ByteArray.toList_eq] at h
    exact ⟨k, hk, by rw [← h]⟩
set_option maxHeartbeats 1000000 in
theorem keys_any (w : World) : Calls Tryz.prog 47 #[] w fun e w' => ∃ L q c, e = .returned (.slice q L.length c) ∧ TRow w' w'.heap.size q L ∧ L.length ≤ 19 ∧ (∀ s, holdsB L s = isKeyB s) ∧ Below w.heap.size w w' := by
  have hrow : ∀ (W : World) (ty : TypeId), W.heap[w.heap.size]? = some (.cells (keysL.map Value.string).toArray ty (0, 0)) → TRow W W.heap.size (some ⟨w.heap.size, 0, none⟩) keysL := fun W ty h =>
    .inr ⟨w.heap.size, 0, rfl, heap_lt h, fun i hi => by
      rw [cell_of_row _ _ _ _ _ _ h, Nat.zero_add]
      simp [hi]⟩
  have HR := Lib.hid (rising_any keysL (some ⟨w.heap.size, 0, none⟩) 19 (w.alloc (.cells (keysL.map Value.string).toArray 9)) (hrow _ _ (heap_alloc_new w _)) (by decide) (by decide))
  have HB := Lib.hid ((Below.refl w.heap.size w).alloc (Nat.le_refl _) (.cells (keysL.map Value.string).toArray 9))
  have HL := Lib.hid (show (riseR keysL).length ≤ 19 from by have := riseR_take_len keysL keysL.length (Nat.le_refl _); rw [List.take_length] at this; exact this)
  have HM := Lib.hid (show ∀ s, holdsB (riseR keysL) s = isKeyB s from fun s => by
    rw [Bool.eq_iff_iff, holdsB_iff, mem_riseR, mem_keysL])
  generalize riseR keysL = L at *
  clear hrow
  go_enter Tryz.func47, Tryz.ntmps47
  go_wp2_with (go_at_call 72; refine HR.out.mono ?_; rintro e w2 ⟨q, c, rfl, h1, h2, h3⟩; have H2 := Lib.hid h2; have H3 := Lib.hid (HB.out.trans (h3.mono HB.out.size)); clear h2 h3)
  go_ret
  exact ⟨L, q, c, rfl, H2.out, HL.out, HM.out, H3.out⟩

theorem below_dr {B : Nat} {a w : World} (h : Below B a w) (n : Nat) : Below B a (w.drewN n) := h.trans ⟨rfl, rfl, rfl, Nat.le_refl _, fun _ _ => rfl⟩
/-- Is S where it stands what it has to be? 1: a name that is none; 2: one that is not to be there. -/
def namedR (o : Int) (s : ByteArray) : Int := if o = 2 ∨ o = 24 ∨ o = 42 ∨ o = 43 then (if isNameB s then 0 else 1) else if o = 50 then (if s.size = 0 ∨ isNameB s = true then 0 else 1) else if s.size = 0 then 0 else 2
theorem ret_quiet {P : Program} {f : FuncId} {args : Array Value} {w : World} {v : Value} (h : Calls P f args w fun e w' => e = .returned v ∧ w' = w) : Calls P f args w fun e w' => e = .returned v ∧ ∃ m, w' = w.drewN m := h.mono (by rintro e w2 ⟨rfl, rfl⟩; exact ⟨rfl, 0, rfl⟩)
set_option maxHeartbeats 4000000 in
theorem rnamed_any (o n : Int) (s : ByteArray) (k m : Int) (z : ByteArray) (q : Option Addr) (ql qc : Nat) (p : Option Addr) (len cap : Nat) (w : World) (hs : s.size ≤ 140737488355328) :
    Calls Tryz.prog 25 #[.agg #[.int .i64 o, .int .i64 n, .string s, .int .i64 k, .int .i64 m, .string z, .slice q ql qc, .slice p len cap]] w fun e w' => e = .returned (.int .i64 (namedR o s)) ∧ Below w.heap.size w w' := by
  obtain ⟨W1, hW1⟩ : ∃ W1, w.alloc (.cells #[.int .i64 o, .int .i64 n, .string s, .int .i64 k, .int .i64 m, .string z, .slice q ql qc, .slice p len cap] 33) = W1 := ⟨_, rfl⟩
  have HB : Hid (Below w.heap.size w W1) := hW1 ▸ (Below.refl w.heap.size w).alloc (Nat.le_refl _) (.cells #[.int .i64 o, .int .i64 n, .string s, .int .i64 k, .int .i64 m, .string z, .slice q ql qc, .slice p len cap] 33)
  have hx := heap_alloc_new w (.cells #[.int .i64 o, .int .i64 n, .string s, .int .i64 k, .int .i64 m, .string z, .slice q ql qc, .slice p len cap] 33)
  rw [hW1] at hx
  have HX := Lib.hid hx
  have hgW := heap_lt hx
  obtain ⟨x0, _, x2, _⟩ := box8_in _ _ _ _ _ _ _ _ _ _ _ hx
  have HI := Lib.hid (fun w => risName_any s hs w)
  have HN := Lib.hid (name_is s)
  have hsl := CkOk_name s
  clear hx
  by_cases ho : o = 2 ∨ o = 24 ∨ o = 42 ∨ o = 43
  · cases hno : nameOnlyB s with
    | false =>
      have HR := Lib.hid (show namedR o s = 1 from by unfold namedR; rw [if_pos ho, HN.out, hno]; rfl)
      have HI1 := Lib.hid (fun w => by have := HI.out w; rw [hno] at this; exact this)
      clear HI hno
      rcases ho with rfl | rfl | rfl | rfl
      all_goals go_enter Tryz.func25, Tryz.ntmps25
      all_goals go_wp2
      all_goals go_quiet ((go_at_call 45; refine Calls.quiet_of (ret_quiet (HI1.out _))))
      all_goals go_wp2
      all_goals go_ret
      all_goals exact ⟨ret_int HR.out.symm, below_dr HB.out _⟩
    | true =>
      have HI1 := Lib.hid (fun w => by have := HI.out w; rw [hno] at this; exact this)
      have HK := Lib.hid (fun (w : World) => keys_any w)
      have HR := Lib.hid (show (if isKeyB s = true then (1 : Int) else 0) = namedR o s from by
        unfold namedR; rw [if_pos ho, HN.out, hno]; cases isKeyB s <;> rfl)
      have HH := Lib.hid (fun (W : World) (L : List ByteArray) (q : Option Addr) (c : Nat) (h1 : TRow W W.heap.size q L) (h2 : L.length ≤ 19) (h3 : ∀ s, holdsB L s = isKeyB s) => by
        have := holds_any L q c _ s W h1 (by omega)
        rw [h3 s] at this; exact this)
      clear HI hno
      rcases ho with rfl | rfl | rfl | rfl
      all_goals go_enter Tryz.func25, Tryz.ntmps25
      all_goals go_wp2
      all_goals go_region_held3 (fun w' => w'.cell? ⟨w.heap.size, 2, none⟩ = some (.string s)) (first | exact x2 | exact hx2) (first
        | (go_at_call 45; refine (HI1.out _).mono ?_; rintro e w2 ⟨rfl, rfl⟩)
        | (go_at_call 47; refine (HK.out _).mono ?_; rintro e w2 ⟨L, q2, c2, rfl, h1, h2, h3, h4⟩; have HHS := Lib.hid (HH.out w2 L q2 c2 h1 h2 h3); have HB2 := Lib.hid (HB.out.drew.trans (h4.mono (by simp; exact HB.out.size))); have hx2 := (h4.cell (p := ⟨w.heap.size, 2, none⟩) (by simpa using hgW)).trans x2; clear h1 h3 h4)
        | (go_at_call 46; refine HHS.out.mono ?_; rintro e w3 ⟨rfl, rfl⟩))
      all_goals cases hk : isKeyB s
      all_goals rw [hk] at HR
      all_goals go_wp2
      all_goals go_ret
      all_goals exact ⟨ret_int HR.out, HB2.out⟩
  · have hob : (o == 2) = false ∧ (o == 24) = false ∧ (o == 42) = false ∧ (o == 43) = false := by
      refine ⟨?_, ?_, ?_, ?_⟩ <;> rw [beq_eq_false_iff_ne] <;> omega
    obtain ⟨b1, b2, b3, b4⟩ := hob
    by_cases h50 : o = 50
    · subst h50
      by_cases hs0 : s.size = 0
      · have hse : s.toList.isEmpty = true := by rw [hsl]; simp [hs0]
        have HR := Lib.hid (show namedR 50 s = 0 from by unfold namedR; rw [if_neg ho, if_pos rfl, if_pos (.inl hs0)])
        clear hsl HI HN hs0
        go_enter Tryz.func25, Tryz.ntmps25
        go_wp2
        go_quiet (fail)
        go_wp2
        go_ret
        exact ⟨ret_int HR.out.symm, below_dr HB.out _⟩
      · have hse : s.toList.isEmpty = false := by rw [hsl]; simpa using hs0
        cases hno : nameOnlyB s with
        | false =>
          have HR := Lib.hid (show namedR 50 s = 1 from by unfold namedR; rw [if_neg ho, if_pos rfl, if_neg (by rw [HN.out, hno]; simpa using hs0)])
          have HI1 := Lib.hid (fun w => by have := HI.out w; rw [hno] at this; exact this)
          clear HI hno hsl hs0
          go_enter Tryz.func25, Tryz.ntmps25
          go_wp2
          go_quiet ((go_at_call 45; refine Calls.quiet_of (ret_quiet (HI1.out _))))
          go_wp2
          go_ret
          exact ⟨ret_int HR.out.symm, below_dr HB.out _⟩
        | true =>
          have HI1 := Lib.hid (fun w => by have := HI.out w; rw [hno] at this; exact this)
          have HK := Lib.hid (fun (w : World) => keys_any w)
          have HR := Lib.hid (show (if isKeyB s = true then (1 : Int) else 0) = namedR 50 s from by
            unfold namedR; rw [if_neg ho, if_pos rfl, HN.out, hno]; cases isKeyB s <;> simp [hs0])
          have HH := Lib.hid (fun (W : World) (L : List ByteArray) (q : Option Addr) (c : Nat) (h1 : TRow W W.heap.size q L) (h2 : L.length ≤ 19) (h3 : ∀ s, holdsB L s = isKeyB s) => by
            have := holds_any L q c _ s W h1 (by omega)
            rw [h3 s] at this; exact this)
          clear HI hno hsl hs0
          go_enter Tryz.func25, Tryz.ntmps25
          go_wp2
          go_region_held3 (fun w' => w'.cell? ⟨w.heap.size, 2, none⟩ = some (.string s)) (first | exact x2 | exact hx2) (first
            | (go_at_call 45; refine (HI1.out _).mono ?_; rintro e w2 ⟨rfl, rfl⟩)
            | (go_at_call 47; refine (HK.out _).mono ?_; rintro e w2 ⟨L, q2, c2, rfl, h1, h2, h3, h4⟩; have HHS := Lib.hid (HH.out w2 L q2 c2 h1 h2 h3); have HB2 := Lib.hid (HB.out.drew.trans (h4.mono (by simp; exact HB.out.size))); have hx2 := (h4.cell (p := ⟨w.heap.size, 2, none⟩) (by simpa using hgW)).trans x2; clear h1 h3 h4)
            | (go_at_call 46; refine HHS.out.mono ?_; rintro e w3 ⟨rfl, rfl⟩))
          all_goals cases hk : isKeyB s
          all_goals rw [hk] at HR
          all_goals go_wp2
          all_goals go_ret
          all_goals exact ⟨ret_int HR.out, HB2.out⟩
    · have b5 : (o == 50) = false := by simpa using h50
      clear HI HN
      by_cases hs0 : s.size = 0
      · have hse : s.toList.isEmpty = true := by rw [hsl]; simp [hs0]
        have HR := Lib.hid (show namedR o s = 0 from by unfold namedR; rw [if_neg ho, if_neg h50, if_pos hs0])
        clear hsl hs0
        go_enter Tryz.func25, Tryz.ntmps25
        go_wp2
        go_ret
        exact ⟨ret_int HR.out.symm, HB.out⟩
      · have hse : s.toList.isEmpty = false := by rw [hsl]; simpa using hs0
        have HR := Lib.hid (show namedR o s = 2 from by unfold namedR; rw [if_neg ho, if_neg h50, if_neg hs0])
        clear hsl hs0
        go_enter Tryz.func25, Tryz.ntmps25
        go_wp2
        go_ret
        exact ⟨ret_int HR.out.symm, HB.out⟩
end Go.Proofs.YtemkikjcjhmlaaaGreatDoor
