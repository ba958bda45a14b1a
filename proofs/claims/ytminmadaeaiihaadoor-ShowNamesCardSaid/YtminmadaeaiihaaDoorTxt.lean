/- How a value is written: the pieces of lit.Text. -/
import Derived.Test.YtminmadaeaiihaaDoorCod
import Derived.Test.YtminmadaeaiihaaDoorShelf
import Derived.Lib.AppendStr
import Derived.Deep.DeepCutAuto
namespace Go.Proofs.YtminmadaeaiihaaDoor
open Go.RowKit
set_option maxRecDepth 100000

/-- A slice of bytes of the call's own: what was written so far; all that stood below block B stands. -/
structure Buf (B : Nat) (acc : Bs) (v : Value) (W0 w : World) : Prop where
  own : w.ownsRow B 5 1 v acc.length (Lib.byteCells acc)
  bel : Below B W0 w
  le : B ≤ w.heap.size
theorem Buf.alloc {B : Nat} {acc : Bs} {v : Value} {W0 w : World} (h : Buf B acc v W0 w) (o : Obj) : Buf B acc v W0 (w.alloc o) :=
  ⟨h.own.alloc o, h.bel.alloc h.le o, by have := h.le; simp; omega⟩
theorem below_grown {B : Nat} {W0 w w' : World} {v : Value} (h : Below B W0 w) (hg : w.grownBy w' v.ownBlock) (hv : ∀ k, v.ownBlock = some k → B ≤ k) (hB : B ≤ w.heap.size) : Below B W0 w' :=
  h.trans ⟨hg.os, hg.tape, hg.output, hg.size, fun k hk => hg.block k (by omega) (fun e => by have := hv k e.symm; omega)⟩
theorem Buf.grown {B : Nat} {acc acc' : Bs} {v v' : Value} {W0 w w' : World} (h : Buf B acc v W0 w) (ho : w'.ownsRow B 5 1 v' acc'.length (Lib.byteCells acc')) (hg : w.grownBy w' v.ownBlock) : Buf B acc' v' W0 w' :=
  ⟨ho, below_grown h.bel hg (fun k hk => (h.own.lt k hk).1) h.le, Nat.le_trans h.le hg.size⟩
theorem Buf.start (w : World) : Buf w.heap.size [] (.slice none 0 0) w w := ⟨World.ownsRow_nil _ _ _ _, Below.refl _ _, Nat.le_refl _⟩
theorem byteCells_app (a b : Bs) : Lib.byteCells a ++ Lib.byteCells b = Lib.byteCells (a ++ b) := by simp [Lib.byteCells]
theorem byteCells_str (s : ByteArray) : Lib.strCells s = Lib.byteCells s.data.toList := by
  unfold Lib.strCells Lib.byteCells; first | rfl | simp
theorem byteCells_len (a : Bs) : (Lib.byteCells a).length = a.length := by simp [Lib.byteCells]

theorem buf_byte {ops : Array Oper} {rest : List Oper} {o : Oper} {a : Act} {Q : Exit → Act → World → Prop} (hgd : o.guard = none) (s x : Operand)
    (ho : o.op = .call { callee := .builtin .append, args := #[s, x], argTypes := #[66, 66] })
    (B : Nat) (acc : Bs) (v : Value) (W0 w0 : World) (hs : a.eval s = v) (hb : Buf B acc v W0 w0) (c : UInt8) (d : Int) (hcd : (c.toNat : Int) = d) (H : Nat) (hH : w0.heap.size = H) (hx : a.eval x = .slice (some ⟨H, 0, none⟩) 1 1) (hlen : acc.length + 1 ≤ 140737488355328)
    (h : ∀ v' w', Buf B (acc ++ [c]) v' W0 w' → wpList Tryd.prog ops Q rest (a.put o.dst v') w') : wpList Tryd.prog ops Q (o :: rest) a (w0.alloc (.cells #[.int .u8 d] 5)) := by
  obtain ⟨i0, hi, hz0, hz1, hz2⟩ := info_parts Tryd.info_u8
  subst hH
  have hle := hb.le
  refine wpList_append_own _ hgd s x 66 ho B 5 i0 (.int .u8 0) 1 1 Tryd.underlying66 hi hz0 hz1 hz2 rfl (by decide) v acc.length (Lib.byteCells acc) hs (hb.own.alloc _) ⟨w0.heap.size, 0, none⟩ 1 1 [.int .u8 d] hx rfl (one_byte w0 _ _) (by intro u hu; simp at hu; subst hu; rfl) (by unfold maxLen; omega) (by omega) (by simp; omega) ?_
  intro v' w' hown hgr _
  refine h v' w' ((hb.alloc _).grown ?_ hgr)
  rw [← byteCells_snoc acc c hcd, List.length_append]
  exact hown
theorem buf_str {ops : Array Oper} {rest : List Oper} {o : Oper} {a : Act} {Q : Exit → Act → World → Prop} (hgd : o.guard = none) (sl x : Operand)
    (ho : o.op = .call { callee := .builtin .append, args := #[sl, x], argTypes := #[66, 9] })
    (B : Nat) (acc : Bs) (v : Value) (W0 w : World) (hs : a.eval sl = v) (hb : Buf B acc v W0 w) (s : ByteArray) (hx : a.eval x = .string s) (hlen : acc.length + s.size ≤ 140737488355328)
    (h : ∀ v' w', Buf B (acc ++ s.data.toList) v' W0 w' → wpList Tryd.prog ops Q rest (a.put o.dst v') w') : wpList Tryd.prog ops Q (o :: rest) a w := by
  obtain ⟨i0, hi, hz0, hz1, hz2⟩ := info_parts Tryd.info_u8
  refine Lib.wpList_append_own_string w hgd sl x 66 9 ho B 5 i0 Tryd.underlying66 Tryd.underlying9 hi hz0 hz1 hz2 v acc.length (Lib.byteCells acc) hs hb.own s hx (by unfold maxLen; omega) hlen hb.le ?_
  intro v' w' hown hgr _
  refine h v' w' (hb.grown ?_ hgr)
  rw [byteCells_str, byteCells_app] at hown
  rw [List.length_append, show s.data.toList.length = s.size by simp]
  exact hown

theorem esc_snoc (l : Bs) (c : UInt8) : esc (l ++ [c]) = esc l ++ (if c.toNat = 34 ∨ c.toNat = 92 then [92, c] else [c]) := by
  induction l with
  | nil => simp [esc]
  | cons x r ih => simp only [List.cons_append, esc, ih]; split <;> simp
theorem esc_len (l : Bs) : (esc l).length ≤ 2 * l.length := by
  induction l with
  | nil => simp [esc]
  | cons c q ih => rw [esc]; split <;> simp <;> omega

theorem esc_app (a b : Bs) : esc (a ++ b) = esc a ++ esc b := by
  induction a with
  | nil => simp [esc]
  | cons c q ih => simp only [List.cons_append, esc, ih]; split <;> simp
theorem esc_take_le (l : Bs) (j : Nat) : (esc (l.take j)).length ≤ (esc l).length := by
  have e := esc_app (l.take j) (l.drop j)
  rw [List.take_append_drop] at e
  rw [e]; simp

/-- What is written further. -/
def BufPost (B : Nat) (acc : Bs) (W0 : World) (e : Ending) (w' : World) : Prop := ∃ v', e = .returned v' ∧ Buf B acc v' W0 w'

set_option maxHeartbeats 2000000 in
theorem appendQuoted_any (B : Nat) (acc : Bs) (v : Value) (W0 w : World) (s : ByteArray) (hb : Buf B acc v W0 w) (hss : s.size ≤ 140737488355328) (hlen : acc.length + (esc s.data.toList).length + 2 ≤ 140737488355328) :
    Calls Tryd.prog 132 #[v, .string s] w (BufPost B (acc ++ (34 :: (esc s.data.toList ++ [34]))) W0) := by
  have HB := Lib.hid hb; clear hb
  go_enter Tryd.func132, Tryd.ntmps132
  go_wp2_with (at_builtin; refine buf_byte rfl (.tmp 6) (.tmp 7) rfl B acc v W0 w rfl HB.out 34 34 rfl _ rfl rfl (by omega) ?_; intro v1 w1 hb1; have HB1 := Lib.hid hb1; clear hb1)
  go_loopw [0, 11] (fun vb i wr => ∃ j : Nat, j ≤ s.size ∧ i = .int .i64 j ∧ Hid (Buf B ((acc ++ [34]) ++ esc (s.data.toList.take j)) vb W0 wr)) (fun _ i _ => s.size - (intOf i).toNat)
  case atStart => exact ⟨0, Nat.zero_le _, rfl, by simpa [esc] using HB1⟩
  case round =>
    obtain ⟨j, hj, rfl, hbj⟩ := hrel
    have hel := esc_take_le s.data.toList j
    have hel2 := esc_take_le s.data.toList (j + 1)
    have hlen0 : ((acc ++ [34]) ++ esc (s.data.toList.take j)).length + 1 ≤ 140737488355328 := by simp; omega
    clear hel
    by_cases hjs : j < s.size
    · have htk : s.data.toList.take (j + 1) = s.data.toList.take j ++ [s[j]] := by
        rw [List.take_succ_eq_append_getElem (by simpa using hjs)]; rfl
      have hes := esc_snoc (s.data.toList.take j) s[j]
      rw [← htk] at hes
      obtain ⟨c, hc⟩ : ∃ c, s[j] = c := ⟨_, rfl⟩
      rw [hc] at hes
      have HES := Lib.hid hes
      rw [hes] at hel2
      have hidx : ((s[j]).toNat : Int) = (c.toNat : Int) := by rw [hc]
      clear htk hes hc
      by_cases h1 : c.toNat = 34 ∨ c.toNat = 92
      · have hlen1 : ((acc ++ [34]) ++ esc (s.data.toList.take j)).length + 2 ≤ 140737488355328 := by rw [if_pos h1] at hel2; simp at hel2 ⊢; omega
        clear hel2
        have HE := Lib.hid (show (acc ++ [34]) ++ esc (s.data.toList.take (j + 1)) = ((acc ++ [34]) ++ esc (s.data.toList.take j) ++ [92]) ++ [c] from by rw [HES.out, if_pos h1]; simp)
        have h2 : ((c.toNat : Int) = 34) ∨ (c.toNat : Int) = 92 := by omega
        obtain ⟨d, hd⟩ : ∃ d : Int, (c.toNat : Int) = d := ⟨_, rfl⟩
        have HD := Lib.hid hd
        rw [hd] at hidx h2
        clear h1 hd
        rcases h2 with rfl | rfl
        all_goals
          go_wp2_with (first
            | (at_builtin; refine buf_byte rfl (.tmp 20) (.tmp 21) rfl B _ _ W0 _ rfl hbj.out 92 92 rfl _ rfl rfl (by omega) ?_; intro v2 w2 hb2; have HB2 := Lib.hid hb2; clear hb2)
            | (at_builtin; refine buf_byte rfl (.tmp 23) (.tmp 27) rfl B _ v2 W0 w2 rfl HB2.out c _ HD.out _ rfl rfl (by simp at hlen1 ⊢; omega) ?_; intro v3 w3 hb3; have HB3 := Lib.hid hb3; clear hb3))
          go_roundw
          case measure => simp [intOf]; omega
          case rel => exact ⟨j + 1, by omega, by go_num, by rw [HE.out]; exact HB3⟩
      · clear hel2
        have HE := Lib.hid (show (acc ++ [34]) ++ esc (s.data.toList.take (j + 1)) = ((acc ++ [34]) ++ esc (s.data.toList.take j)) ++ [c] from by rw [HES.out, if_neg h1]; simp)
        have h34 : ((c.toNat : Int) == 34) = false := by simp; omega
        have h92 : ((c.toNat : Int) == 92) = false := by simp; omega
        go_wp2_with (first
          | (at_builtin; refine buf_byte rfl (.tmp 23) (.tmp 27) rfl B _ _ W0 _ rfl hbj.out c _ rfl _ rfl rfl (by omega) ?_; intro v3 w3 hb3; have HB3 := Lib.hid hb3; clear hb3))
        go_roundw
        case measure => simp [intOf]; omega
        case rel => exact ⟨j + 1, by omega, by go_num, by rw [HE.out]; exact HB3⟩
    · have hje : j = s.size := by omega
      subst hje
      clear hel2
      go_wp2_with (at_builtin; refine buf_byte rfl (.tmp 30) (.tmp 31) rfl B _ _ W0 _ rfl hbj.out 34 34 rfl _ rfl rfl (by omega) ?_; intro v2 w2 hb2; have HB2 := Lib.hid hb2; clear hb2)
      go_ret
      have e : acc ++ (34 :: (esc s.data.toList ++ [34])) = ((acc ++ [34]) ++ esc (s.data.toList.take s.size)) ++ [34] := by rw [List.take_of_length_le (by simp)]; simp
      exact ⟨v2, rfl, by rw [e]; exact HB2.out⟩

theorem nameOf_in {n : Int} (h0 : 0 ≤ n) (h1 : n ≤ 14) : (nameS n.toNat) = ⟨(nameOf n).toArray⟩ := by
  unfold nameS nameOf; rw [if_neg (by omega)]; rfl
set_option maxHeartbeats 1000000 in
theorem name_any (n : Int) (w : World) (hn : Names w) (hb : I64 n) :
    Calls Tryd.prog 133 #[.int .i64 n] w fun e w' => e = .returned (.string ⟨(nameOf n).toArray⟩) ∧ w = w' := by
  have hlt := hn.lt
  unfold I64 at hb
  by_cases h0 : n < 0
  · have e : nameOf n = [] := by unfold nameOf; rw [if_pos h0]
    rw [e]
    clear e hn
    go_enter Tryd.func133, Tryd.ntmps133
    go_wp2
    go_ret
    exact ⟨rfl, rfl⟩
  · by_cases h1 : n ≤ 14
    · have hc := hn.at_ n.toNat (by omega)
      rw [nameOf_in (by omega) h1] at hc
      clear hn
      go_enter Tryd.func133, Tryd.ntmps133
      go_wp2
      go_ret
      exact ⟨rfl, rfl⟩
    · have e : nameOf n = [] := by
        unfold nameOf; rw [if_neg h0, List.getElem?_eq_none (by show 15 ≤ n.toNat; omega)]; rfl
      rw [e]
      clear e hn
      go_enter Tryd.func133, Tryd.ntmps133
      go_wp2
      go_ret
      exact ⟨rfl, rfl⟩

end Go.Proofs.YtminmadaeaiihaaDoor
