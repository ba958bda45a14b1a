/- The document's Words: the same answer. -/
import Derived.Test.YtnlbibfjhobmjaaDoorRefStr
import Derived.Test.YtnlbibfjhobmjaaDoorBuf
namespace Go.Proofs.YtnlbibfjhobmjaaDoor
open Go.RowKit
set_option maxRecDepth 100000

theorem Tryd.info_str : (Tryd.prog.info? 9).map (fun i => (i.zero, i.size, i.bytes)) = some (some (.string ⟨#[]⟩), 1, 16) := by kernel_rfl
/-- A slice of texts that a call makes itself. -/
structure Txts (B : Nat) (acc : List ByteArray) (v : Value) (W0 w : World) : Prop where
  own : w.ownsRow B 9 1 v acc.length (acc.map Value.string)
  bel : Below B W0 w
  le : B ≤ w.heap.size
theorem Txts.start (w : World) : Txts w.heap.size [] (.slice none 0 0) w w := ⟨World.ownsRow_nil _ _ _ _, Below.refl _ _, Nat.le_refl _⟩
theorem Txts.form {B : Nat} {acc : List ByteArray} {v : Value} {W0 w : World} (h : Txts B acc v W0 w) : ∃ ao cap, v = .slice ao acc.length cap := by
  rcases h.own.2 with ⟨hv, h0⟩ | ⟨g, cap, cur, hv, _⟩
  · exact ⟨none, 0, by rw [hv, h0]⟩
  · exact ⟨_, _, hv⟩
theorem Txts.row {B : Nat} {acc : List ByteArray} {ao : Option Addr} {cap : Nat} {W0 w : World} (h : Txts B acc (.slice ao acc.length cap) W0 w) : SRow w w.heap.size ao acc := by
  rcases h.own.2 with ⟨hv, h0⟩ | ⟨g, cap', cur, hv, _⟩
  · exact .inl (List.eq_nil_of_length_eq_zero h0)
  · injection hv with hv _ _
    subst hv
    right
    refine ⟨⟨g, 0, none⟩, rfl, (h.own.lt g rfl).2, fun i hi => ?_⟩
    exact h.own.cells (g := g) rfl i (.string acc[i]) (by simp [hi])
theorem txt_add {ops : Array Oper} {rest : List Oper} {o : Oper} {a : Act} {Q : Exit → Act → World → Prop} (hgd : o.guard = none) (s x : Operand)
    (ho : o.op = .call { callee := .builtin .append, args := #[s, x], argTypes := #[28, 28] })
    (B : Nat) (acc : List ByteArray) (v : Value) (W0 w0 : World) (hs : a.eval s = v) (hb : Txts B acc v W0 w0) (t : ByteArray) (H : Nat) (hH : w0.heap.size = H) (hx : a.eval x = .slice (some ⟨H, 0, none⟩) 1 1) (hlen : acc.length + 1 ≤ 1000000)
    (h : ∀ v' w', Txts B (acc ++ [t]) v' W0 w' → wpList Tryd.prog ops Q rest (a.put o.dst v') w') : wpList Tryd.prog ops Q (o :: rest) a (w0.alloc (.cells #[.string t] 9)) := by
  obtain ⟨i0, hi, hz0, hz1, hz2⟩ := info_parts Tryd.info_str
  subst hH
  have hle := hb.le
  refine wpList_append_own _ hgd s x 28 ho B 9 i0 (.string ⟨#[]⟩) 1 16 Tryd.underlying28 hi hz0 hz1 hz2 rfl (by decide) v acc.length (acc.map Value.string) hs (hb.own.alloc _) ⟨w0.heap.size, 0, none⟩ 1 1 [.string t] hx rfl (one_byte w0 _ _) (by intro u hu; simp at hu; subst hu; rfl) (by unfold maxLen; omega) (by omega) (by simp; omega) ?_
  intro v' w' hown hgr _
  refine h v' w' ⟨?_, ?_, ?_⟩
  · rw [List.length_append, List.map_append]
    exact hown
  · exact below_grown (hb.bel.alloc hb.le _) hgr (fun k hk => (hb.own.lt k hk).1) (by simp; omega)
  · have := hgr.size; simp at this; omega

/-- What is still to come, behind place j. -/
def rest_ (l : Bs) (st : Option Nat) (j : Nat) : List Bs := if j ≤ l.length then wl (openW l st j) (l.drop j) else []
theorem piece_one (l : Bs) (j : Nat) (h : j < l.length) : piece l j (j + 1) = [l[j]] := by
  unfold piece
  rw [Nat.add_sub_cancel_left, List.drop_eq_getElem_cons h]; rfl
theorem piece_snoc (l : Bs) (a j : Nat) (ha : a ≤ j) (h : j < l.length) : piece l a (j + 1) = piece l a j ++ [l[j]] := by
  rw [piece_grow l a j 1 ha, List.drop_eq_getElem_cons h]; rfl
theorem rest_on (l : Bs) (st : Option Nat) (j : Nat) (h : j < l.length) (hst : ∀ a, st = some a → a < j) (hc : l[j] ≠ 32) : rest_ l st j = rest_ l (some (st.getD j)) (j + 1) := by
  unfold rest_
  rw [if_pos (by omega), if_pos (by omega), List.drop_eq_getElem_cons h, wl, if_neg hc]
  cases st with
  | none => simp [openW, piece_one l j h]
  | some a => simp [openW, piece_snoc l a j (by have := hst a rfl; omega) h]
theorem rest_off_none (l : Bs) (j : Nat) (h : j < l.length) (hc : l[j] = 32) : rest_ l none j = rest_ l none (j + 1) := by
  unfold rest_
  rw [if_pos (by omega), if_pos (by omega), List.drop_eq_getElem_cons h, wl, if_pos hc]
  simp [openW]
theorem rest_off_some (l : Bs) (a j : Nat) (h : j < l.length) (ha : a < j) (hc : l[j] = 32) : rest_ l (some a) j = piece l a j :: rest_ l none (j + 1) := by
  unfold rest_
  rw [if_pos (by omega), if_pos (by omega), List.drop_eq_getElem_cons h, wl, if_pos hc]
  have := piece_ne l a j ha (by omega)
  simp [openW, this]
theorem rest_end_none (l : Bs) : rest_ l none l.length = rest_ l none (l.length + 1) := by
  unfold rest_
  rw [if_pos (Nat.le_refl _), if_neg (by omega), List.drop_of_length_le (Nat.le_refl _)]
  simp [openW, wl]
theorem rest_end_some (l : Bs) (a : Nat) (ha : a < l.length) : rest_ l (some a) l.length = piece l a l.length :: rest_ l none (l.length + 1) := by
  unfold rest_
  rw [if_pos (Nat.le_refl _), if_neg (by omega), List.drop_of_length_le (Nat.le_refl _)]
  have := piece_ne l a l.length ha (Nat.le_refl _)
  simp [openW, wl, this]
def fromI (st : Option Nat) : Int := match st with | none => -1 | some a => a
theorem ext_piece (s : ByteArray) (a j : Nat) : (s.extract a j).data.toList = piece s.data.toList a j := by simp [piece]
theorem map_inj : ∀ a b : List ByteArray, a.map (fun x => x.data.toList) = b.map (fun x => x.data.toList) → a = b
  | [], [], _ => rfl
  | [], _ :: _, h => by simp at h
  | _ :: _, [], h => by simp at h
  | x :: r, y :: q, h => by
    simp only [List.map_cons, List.cons.injEq] at h
    rw [map_inj r q h.2, show x = y from by apply ByteArray.ext; apply Array.ext'; exact h.1]

set_option maxHeartbeats 4000000 in
theorem refWords_any (s : ByteArray) (w : World) (hs : s.size ≤ 300) :
    Calls Tryd.prog 20 #[.string s] w (WordsPost s w) := by
  have HB0 := Lib.hid (Txts.start w)
  have HW := Lib.hid (wordsS_list s)
  go_enter Tryd.func20, Tryd.ntmps20
  go_wp2
  go_loopw [3, 4, 5] (fun v f i wr => ∃ (j : Nat) (acc : List ByteArray) (st : Option Nat), i = .int .i64 j ∧ j ≤ s.size + 1 ∧ acc.length ≤ j ∧ f = .int .i64 (fromI st) ∧ (∀ a, st = some a → a < j ∧ j ≤ s.size) ∧ Hid (acc.map (fun x => x.data.toList) ++ rest_ s.data.toList st j = words s.data.toList) ∧ Hid (Txts w.heap.size acc v w wr)) (fun _ _ i _ => s.size + 1 - (intOf i).toNat)
  case atStart => exact ⟨0, [], none, rfl, by omega, by simp, rfl, by simp, by show _ = _; simp [rest_, openW, words], HB0⟩
  case round =>
    obtain ⟨j, acc, st, rfl, hj, hac, rfl, hst, hrel, htx⟩ := hrel
    obtain ⟨ao, cap, rfl⟩ := htx.out.form
    by_cases hle : j ≤ s.size
    · by_cases hlt : j < s.size
      · have hll : j < s.data.toList.length := by rw [len_list]; exact hlt
        have hd : decide ((j : Int) < (s.size : Int)) = true := by simp; omega
        by_cases hc : s[j] = 32
        · have hcc : ((s[j]).toNat : Int) = 32 := by rw [hc]; rfl
          have hc2 : s.data.toList[j] = 32 := hc
          clear hc
          cases st with
          | none =>
            have HR := Lib.hid (rest_off_none s.data.toList j hll hc2)
            have hf : fromI none = -1 := rfl
            clear hc2
            go_wp2
            go_roundw
            case measure => simp [intOf]; omega
            case rel => exact ⟨j + 1, acc, none, by go_num, by omega, by omega, rfl, by simp, by rw [← HR.out]; exact hrel, htx⟩
          | some a =>
            obtain ⟨ha, _⟩ := hst a rfl
            have HR := Lib.hid (rest_off_some s.data.toList a j hll ha hc2)
            have hf : fromI (some a) = (a : Int) := rfl
            clear hc2
            have hi1 : (a : Int) ≤ (j : Int) := by omega
            have hi2 : (j : Int) ≤ (s.size : Int) := by omega
            go_wp2_with (at_builtin; refine txt_add rfl (.tmp 35) (.tmp 40) rfl w.heap.size acc _ w _ rfl ?hb (s.extract a j) _ rfl rfl (by omega) ?_; (case hb => exact htx.out); intro v1 w1 hb1; have HB1 := Lib.hid hb1; clear hb1)
            go_roundw
            case measure => simp [intOf]; omega
            case rel => exact ⟨j + 1, acc ++ [s.extract a j], none, by go_num, by omega, by rw [List.length_append]; simp; omega, rfl, by simp, by show _ = _; rw [← hrel.out, HR.out, List.map_append, List.append_assoc, List.map_cons, List.map_nil, ext_piece]; rfl, HB1⟩
        · have hcc : (((s[j]).toNat : Int) == 32) = false := by
            rw [beq_eq_false_iff_ne]; intro h; apply hc; apply UInt8.toNat_inj.1; exact Int.ofNat.inj h
          have hcn : (((s[j]).toNat : Int) != 32) = true := by rw [bne, hcc]; rfl
          have hc2 : s.data.toList[j] ≠ 32 := hc
          clear hc
          have HR := Lib.hid (rest_on s.data.toList st j hll (fun a ha => (hst a ha).1) hc2)
          clear hc2
          cases st with
          | none =>
            have hf : fromI none = -1 := rfl
            go_wp2
            go_roundw
            case measure => simp [intOf]; omega
            case rel => exact ⟨j + 1, acc, some j, by go_num, by omega, by omega, rfl, by intro a ha; injection ha with ha; omega, by have := HR.out; simp at this; rw [← this]; exact hrel, htx⟩
          | some a =>
            obtain ⟨ha, _⟩ := hst a rfl
            have hf : fromI (some a) = (a : Int) := rfl
            go_wp2
            go_roundw
            case measure => simp [intOf]; omega
            case rel => exact ⟨j + 1, acc, some a, by go_num, by omega, by omega, rfl, by intro b hb; injection hb with hb; omega, by have := HR.out; simp at this; rw [← this]; exact hrel, htx⟩
      · have hje : j = s.size := by omega
        have hd : decide ((j : Int) < (s.size : Int)) = false := by simp; omega
        have hjl : j = s.data.toList.length := by rw [len_list]; exact hje
        cases st with
        | none =>
          have HR := Lib.hid (rest_end_none s.data.toList)
          rw [← hjl] at HR
          have hf : fromI none = -1 := rfl
          clear hjl
          go_wp2
          go_roundw
          case measure => simp [intOf]; omega
          case rel => exact ⟨j + 1, acc, none, by go_num, by omega, by omega, rfl, by simp, by rw [← HR.out]; exact hrel, htx⟩
        | some a =>
          obtain ⟨ha, _⟩ := hst a rfl
          have HR := Lib.hid (rest_end_some s.data.toList a (by omega))
          rw [← hjl] at HR
          rw [hje] at HR
          have hf : fromI (some a) = (a : Int) := rfl
          have hi1 : (a : Int) ≤ (j : Int) := by omega
          have hi2 : (j : Int) ≤ (s.size : Int) := by omega
          clear hjl
          go_wp2_with (at_builtin; refine txt_add rfl (.tmp 35) (.tmp 40) rfl w.heap.size acc _ w _ rfl ?hb (s.extract a s.size) _ rfl rfl (by omega) ?_; (case hb => exact htx.out); intro v1 w1 hb1; have HB1 := Lib.hid hb1; clear hb1)
          go_roundw
          case measure => simp [intOf]; omega
          case rel => exact ⟨j + 1, acc ++ [s.extract a s.size], none, by go_num, by omega, by rw [List.length_append]; simp; omega, rfl, by simp, by show _ = _; rw [hje] at hrel ⊢; rw [← hrel.out, HR.out, List.map_append, List.append_assoc, List.map_cons, List.map_nil, ext_piece]; rfl, HB1⟩
    · have hje : j = s.size + 1 := by omega
      have hstn : st = none := by
        cases st with
        | none => rfl
        | some a => have := (hst a rfl).2; omega
      subst hstn
      have HE : Hid (acc = wordsS s) := by
        apply map_inj
        rw [HW.out, ← hrel.out]
        unfold rest_
        rw [if_neg (by rw [len_list]; omega), List.append_nil]
      have HRW := Lib.hid htx.out.row
      have HBL := Lib.hid htx.out.bel
      have hd : decide ((j : Int) ≤ (s.size : Int)) = false := by simp; omega
      clear hst
      go_wp2
      go_ret
      exact ⟨ao, cap, by rw [← HE.out]; rfl, by rw [← HE.out]; exact HRW.out, HBL.out⟩
end Go.Proofs.YtnlbibfjhobmjaaDoor
