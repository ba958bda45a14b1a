/- The document's names of verbs: their parts; which may be; which words fit. -/
import Derived.Test.YtcecgfijfnnpeaaDoorMb
import Derived.Test.YtcecgfijfnnpeaaDoorGs
namespace Go.Proofs.YtcecgfijfnnpeaaDoor.Mt
open Go.RowKit
set_option maxRecDepth 100000

theorem drop_parts (l : Ls) {f j : Nat} (h : f ≤ j) : l.drop f = (l.drop f).take (j - f) ++ l.drop j := by
  conv => lhs; rw [← List.take_append_drop (j - f) (l.drop f)]
  rw [List.drop_drop, show f + (j - f) = j by omega]
/-- How far the parts are found: those ahead of place f lie in P, and place j is looked at. -/
def PartsAt (l : Ls) (P : List Ls) (f j : Nat) : Prop :=
  [] ∉ P ∧ ((j ≤ l.length ∧ f ≤ j ∧ Lib.split l [32] = P ++ Lib.split (l.drop f) [32] ∧ 32 ∉ (l.drop f).take (j - f)) ∨ (j = l.length + 1 ∧ Lib.split l [32] = P))
theorem PartsAt.start (l : Ls) : PartsAt l [] 0 0 := ⟨by simp, .inl ⟨Nat.zero_le _, Nat.le_refl _, rfl, by simp⟩⟩
theorem PartsAt.le {l : Ls} {P : List Ls} {f j : Nat} (h : PartsAt l P f j) (hj : j ≤ l.length) : f ≤ j := by
  rcases h.2 with ⟨_, h, _⟩ | ⟨h, _⟩
  · exact h
  · omega
theorem PartsAt.same {l : Ls} {P : List Ls} {f j : Nat} (h : PartsAt l P f j) (hj : j < l.length) (hc : l[j] ≠ 32) : PartsAt l P f (j + 1) := by
  obtain ⟨h0, ⟨h1, h2, h3, h4⟩ | ⟨h1, _⟩⟩ := h
  · refine ⟨h0, .inl ⟨hj, by omega, h3, ?_⟩⟩
    have hk : j - f < (l.drop f).length := by rw [List.length_drop]; omega
    rw [show j + 1 - f = (j - f) + 1 by omega, List.take_succ_eq_append_getElem hk, List.mem_append]
    rintro (h | h)
    · exact h4 h
    · rw [List.mem_singleton, List.getElem_drop] at h
      exact hc (by rw [h]; congr 1; omega)
  · omega
theorem PartsAt.next {l : Ls} {P : List Ls} {f j : Nat} (h : PartsAt l P f j) (hj : j < l.length) (hc : l[j] = 32) (hf : f ≠ j) : PartsAt l (P ++ [(l.drop f).take (j - f)]) (j + 1) (j + 1) := by
  obtain ⟨h0, ⟨h1, h2, h3, h4⟩ | ⟨h1, _⟩⟩ := h
  · refine ⟨?_, .inl ⟨hj, Nat.le_refl _, ?_, by simp⟩⟩
    · rw [List.mem_append, List.mem_singleton]
      rintro (h | h)
      · exact h0 h
      · have := congrArg List.length h
        rw [List.length_take, List.length_drop, List.length_nil] at this; omega
    · rw [h3, List.append_assoc]
      congr 1
      conv => lhs; rw [drop_parts l h2, List.drop_eq_getElem_cons hj, hc, split_at_ _ _ _ h4]
      rfl
  · omega
theorem PartsAt.last {l : Ls} {P : List Ls} {f j : Nat} (h : PartsAt l P f j) (hj : j = l.length) (hf : f ≠ j) : PartsAt l (P ++ [(l.drop f).take (j - f)]) (j + 1) (j + 1) := by
  obtain ⟨h0, ⟨h1, h2, h3, h4⟩ | ⟨h1, _⟩⟩ := h
  · refine ⟨?_, .inr ⟨by omega, ?_⟩⟩
    · rw [List.mem_append, List.mem_singleton]
      rintro (h | h)
      · exact h0 h
      · have := congrArg List.length h
        rw [List.length_take, List.length_drop, List.length_nil] at this; omega
    · have e : (l.drop f).take (j - f) = l.drop f := List.take_of_length_le (by rw [List.length_drop]; omega)
      rw [e] at h4 ⊢
      rw [h3, split_no _ _ h4]
  · omega
theorem PartsAt.empty {l : Ls} {P : List Ls} {j : Nat} (h : PartsAt l P j j) (hc : (∃ hj : j < l.length, l[j] = 32) ∨ j = l.length) : [] ∈ Lib.split l [32] := by
  obtain ⟨h0, ⟨h1, h2, h3, h4⟩ | ⟨h1, h2⟩⟩ := h
  · rw [h3, List.mem_append]
    right
    rcases hc with ⟨hj, hc⟩ | hc
    · rw [List.drop_eq_getElem_cons hj, hc]
      have := split_at_ [] (l.drop (j + 1)) 32 (by simp)
      rw [List.nil_append] at this
      rw [this]; simp
    · rw [hc, List.drop_length, split_no _ _ (by simp)]; simp
  · rcases hc with ⟨hj, _⟩ | hc <;> omega
theorem PartsAt.done {l : Ls} {P : List Ls} {f j : Nat} (h : PartsAt l P f j) (hj : l.length < j) : Lib.split l [32] = P ∧ [] ∉ P := by
  obtain ⟨h0, ⟨h1, _⟩ | ⟨_, h2⟩⟩ := h
  · omega
  · exact ⟨h2, h0⟩
theorem one_text1 (W : World) (x : ByteArray) : TRow (W.alloc (.cells #[.string x] 9)) (W.heap.size + 1) (some ⟨W.heap.size, 0, none⟩) [x] := .inr ⟨W.heap.size, 0, rfl, Nat.lt_succ_self _, fun i hi => by
  have hi0 : i = 0 := by simpa using hi
  subst hi0
  rw [cell_of_row _ _ _ _ _ _ (heap_alloc_new W (.cells #[.string x] 9))]; rfl⟩

set_option maxHeartbeats 1000000 in
theorem parts_any (s : ByteArray) (hs : s.size ≤ 100000) (w : World) : Calls Tryd.prog 33 #[.string s] w fun e w' =>
    ((∃ (q : Option Addr) (c : Nat) (L : List ByteArray), e = .returned (.tuple #[.slice q L.length c, .bool true]) ∧ L.map (·.data.toList) = Lib.split s.data.toList [32] ∧ TRow w' w'.heap.size q L ∧ L.length ≤ 100001 ∧ (∀ x ∈ L, x.size ≤ 1000000) ∧ [] ∉ Lib.split s.data.toList [32]) ∨ (e = .returned (.tuple #[.slice none 0 0, .bool false]) ∧ [] ∈ Lib.split s.data.toList [32])) ∧ Below w.heap.size w w' := by
  have HLD := Lib.hid (len_data s)
  go_enter Tryd.func33, Tryd.ntmps33
  go_wp2
  go_loopw [4, 5, 6] (fun v f i wr => ∃ (j k : Nat) (L : List ByteArray), j ≤ s.size + 1 ∧ i = .int .i64 j ∧ f = .int .i64 k ∧ L.length ≤ j ∧ Hid (PartsAt s.data.toList (L.map (·.data.toList)) k j) ∧ Hid (Gs w.heap.size w L v wr)) (fun _ _ i _ => s.size + 1 - (intOf i).toNat)
  case atStart => exact ⟨0, 0, [], Nat.zero_le _, rfl, rfl, Nat.le_refl _, Lib.hid (PartsAt.start _), Lib.hid (Gs.nil_ _ _ _ (Below.refl _ _))⟩
  case round =>
    obtain ⟨j, k, L, hj, rfl, rfl, hLj, HP, HG⟩ := hrel
    have hg := HG.out
    obtain ⟨pv, cv, hv, _⟩ := sowns_form hg.row
    subst hv
    clear HG
    have HG := Lib.hid hg
    clear hg
    by_cases hle : j ≤ s.size
    · have hd1 : decide ((j : Int) ≤ (s.size : Int)) = true := by simp; omega
      have hd2 : decide (j ≤ s.size) = true := by simp; omega
      have hkj := HP.out.le (by rw [HLD.out]; exact hle)
      have hx1 : (0 : Int) ≤ (k : Int) := by omega
      have hx2 : (k : Int) ≤ (j : Int) := by omega
      have hx3 : (j : Int) ≤ (s.size : Int) := by omega
      obtain ⟨X, hX⟩ : ∃ X, s.extract k j = X := ⟨_, rfl⟩
      have hXd : X.data.toList = (s.data.toList.drop k).take (j - k) := by rw [← hX, Lib.extract_data]
      have HXD := Lib.hid hXd
      clear hXd
      by_cases hend : j = s.size
      · have he1 : ((j : Int) == (s.size : Int)) = true := by rw [beq_iff_eq]; omega
        by_cases hkk : k = j
        · have hk1 : ((j : Int) == (k : Int)) = true := by rw [beq_iff_eq]; omega
          have HF := Lib.hid (show [] ∈ Lib.split s.data.toList [32] from by
            have := HP.out; rw [hkk] at this
            exact this.empty (.inr (by rw [HLD.out]; exact hend)))
          clear HP hend
          go_wp2
          go_ret2
          exact ⟨.inr ⟨rfl, HF.out⟩, HG.out.bel⟩
        · have hk1 : ((j : Int) == (k : Int)) = false := by rw [beq_eq_false_iff_ne]; omega
          have HN := Lib.hid (HP.out.last (by rw [HLD.out]; exact hend) hkk)
          obtain ⟨M, hM⟩ : ∃ M, M = L ++ [X] := ⟨_, rfl⟩
          have HM := Lib.hid hM
          have HMl := Lib.hid (show M.length = L.length + 1 from by rw [hM]; simp)
          clear HP hM hend
          go_wp2_with (at_builtin; obtain ⟨q5, c5, w5, hr5, hg5⟩ := (show Gs w.heap.size w L _ (wr.alloc (.cells #[.string X] 9)) from ⟨HG.out.row.alloc (.cells #[.string X] 9), HG.out.bel.alloc HG.out.bel.size _⟩).run (by have := HG.out.bel.size; simp; omega) (one_text1 wr X) (by simp only [List.length_cons, List.length_nil]; omega) M HM.out (m := 1) (c := 1) rfl 23; refine Lib.wpList_append_run_sl _ rfl (.tmp 26) (.tmp 31) _ rfl _ _ rfl rfl hr5 ?_; have HG5 := Lib.hid hg5; clear hr5 hg5)
          go_roundw
          case rel => exact ⟨j + 1, j + 1, M, by omega, by go_num, by go_num, by have := HMl.out; omega, by rw [HM.out, List.map_append, List.map_singleton, HXD.out]; exact HN, HG5⟩
          case measure => simp [intOf]; omega
      · have he1 : ((j : Int) == (s.size : Int)) = false := by rw [beq_eq_false_iff_ne]; omega
        have hlt : j < s.size := by omega
        have hget := get_data s j hlt
        by_cases h32 : (s[j]).toNat = 32
        · have h32b : (((s[j]).toNat : Int) == 32) = true := by rw [beq_iff_eq]; omega
          have hc : s.data.toList[j]'(by rw [HLD.out]; exact hlt) = 32 := by rw [hget]; exact UInt8.toNat_inj.1 h32
          by_cases hkk : k = j
          · have hk1 : ((j : Int) == (k : Int)) = true := by rw [beq_iff_eq]; omega
            have HF := Lib.hid (show [] ∈ Lib.split s.data.toList [32] from by
              have := HP.out; rw [hkk] at this
              exact this.empty (.inl ⟨by rw [HLD.out]; exact hlt, hc⟩))
            clear HP hend hget h32 hc
            go_wp2
            go_ret2
            exact ⟨.inr ⟨rfl, HF.out⟩, HG.out.bel⟩
          · have hk1 : ((j : Int) == (k : Int)) = false := by rw [beq_eq_false_iff_ne]; omega
            have HN := Lib.hid (HP.out.next (by rw [HLD.out]; exact hlt) hc hkk)
            obtain ⟨M, hM⟩ : ∃ M, M = L ++ [X] := ⟨_, rfl⟩
            have HM := Lib.hid hM
            have HMl := Lib.hid (show M.length = L.length + 1 from by rw [hM]; simp)
            clear HP hM hend hget h32 hc
            go_wp2_with (at_builtin; obtain ⟨q5, c5, w5, hr5, hg5⟩ := (show Gs w.heap.size w L _ (wr.alloc (.cells #[.string X] 9)) from ⟨HG.out.row.alloc (.cells #[.string X] 9), HG.out.bel.alloc HG.out.bel.size _⟩).run (by have := HG.out.bel.size; simp; omega) (one_text1 wr X) (by simp only [List.length_cons, List.length_nil]; omega) M HM.out (m := 1) (c := 1) rfl 23; refine Lib.wpList_append_run_sl _ rfl (.tmp 26) (.tmp 31) _ rfl _ _ rfl rfl hr5 ?_; have HG5 := Lib.hid hg5; clear hr5 hg5)
            go_roundw
            case rel => exact ⟨j + 1, j + 1, M, by omega, by go_num, by go_num, by have := HMl.out; omega, by rw [HM.out, List.map_append, List.map_singleton, HXD.out]; exact HN, HG5⟩
            case measure => simp [intOf]; omega
        · have h32b : (((s[j]).toNat : Int) == 32) = false := by rw [beq_eq_false_iff_ne]; omega
          have HN := Lib.hid (HP.out.same (by rw [HLD.out]; exact hlt) (by rw [hget]; intro h; exact h32 (by rw [h]; rfl)))
          clear HP hend hget h32
          go_wp2
          go_roundw
          case rel => exact ⟨j + 1, k, L, by omega, by go_num, rfl, by omega, HN, HG⟩
          case measure => simp [intOf]; omega
    · have hd1 : decide ((j : Int) ≤ (s.size : Int)) = false := by simp; omega
      have hd2 : decide (j ≤ s.size) = false := by simp; omega
      have HF := Lib.hid (HP.out.done (by rw [HLD.out]; omega))
      obtain ⟨pv2, cv2, hv2, _, htr⟩ := HG.out.fin
      injection hv2 with e1 _ e2
      subst e1 e2
      have HTR := Lib.hid htr
      clear HP htr
      go_wp2
      go_ret2
      exact ⟨.inl ⟨pv, cv, L, rfl, HF.out.1.symm, HTR.out, by omega, fun x hx => by
        have := split_small _ s.data.toList (Nat.le_refl _) x.data.toList (by rw [HF.out.1]; exact List.mem_map_of_mem hx)
        rw [len_data, len_data] at this; omega, by rw [HF.out.1]; exact HF.out.2⟩, HG.out.bel⟩
end Go.Proofs.YtcecgfijfnnpeaaDoor.Mt
