/- The document's Holds, Keys, named. -/
import Derived.Test.YtminmadaeaiihaaDoorRise
import Derived.Test.YtminmadaeaiihaaDoorRn
import Derived.Test.YtminmadaeaiihaaDoorTck2
namespace Go.Proofs.YtminmadaeaiihaaDoor
open Go.RowKit
set_option maxRecDepth 100000

def holdsB (ss : List ByteArray) (s : ByteArray) : Bool := ss.any (fun y => y.toList == s.toList)
theorem bytes_eq {y s : ByteArray} : (y.toList == s.toList) = true ↔ y = s := by
  rw [beq_iff_eq]
  constructor
  · intro h
    have h2 : y.data.toList = s.data.toList := by rw [← Go.ByteArray.toList_eq, ← Go.ByteArray.toList_eq, h]
    cases y; cases s; simp only at h2; congr 1; exact Array.toList_inj.1 h2
  · rintro rfl; rfl
theorem holdsB_iff (ss : List ByteArray) (s : ByteArray) : holdsB ss s = true ↔ s ∈ ss := by
  unfold holdsB
  rw [List.any_eq_true]
  constructor
  · rintro ⟨y, hy, h⟩; rw [bytes_eq] at h; exact h ▸ hy
  · intro h; exact ⟨s, h, bytes_eq.2 rfl⟩
set_option maxHeartbeats 1000000 in
theorem holds_any (ss : List ByteArray) (p : Option Addr) (cap B : Nat) (s : ByteArray) (w : World) (h : TRow w B p ss) (hl : ss.length ≤ 9000000000000000000) :
    Calls Tryd.prog 112 #[.slice p ss.length cap, .string s] w fun e w' => e = .returned (.bool (holdsB ss s)) ∧ w' = w := by
  have HS := Lib.hid h; clear h
  go_enter Tryd.func112, Tryd.ntmps112
  go_wp2
  go_loop [5] (fun i => ∃ j : Nat, j ≤ ss.length ∧ i = .int .i64 j ∧ Hid (holdsB ss s = holdsB (ss.drop j) s)) (fun i => ss.length - (intOf i).toNat)
  case atStart => exact ⟨0, Nat.zero_le _, rfl, rfl⟩
  case round =>
    obtain ⟨j, hj, rfl, HO⟩ := hrel
    by_cases hlt : j < ss.length
    · obtain ⟨b, off, rfl, _, h0⟩ := HS.out.at_ j hlt
      obtain ⟨y, hy⟩ : ∃ y, y = ss[j] := ⟨_, rfl⟩
      have HN := Lib.hid (show holdsB ss s = ((y.toList == s.toList) || holdsB (ss.drop (j + 1)) s) from by rw [HO.out, List.drop_eq_getElem_cons hlt, hy]; rfl)
      rw [← hy] at h0
      clear hy
      cases hb : (y.toList == s.toList) with
      | true =>
        have HF := Lib.hid (show holdsB ss s = true from by rw [HN.out, hb]; rfl)
        go_wp2
        go_ret
        exact ⟨ret_bool HF.out.symm, rfl⟩
      | false =>
        have HF := Lib.hid (show holdsB ss s = holdsB (ss.drop (j + 1)) s from by rw [HN.out, hb]; rfl)
        go_wp2
        go_round
        case rel => exact ⟨j + 1, by omega, by go_num, HF⟩
        case measure => simp [intOf]; omega
    · have hje : j = ss.length := by omega
      have HF := Lib.hid (show holdsB ss s = false from by rw [HO.out, hje, List.drop_length]; rfl)
      go_wp2
      go_ret
      exact ⟨ret_bool HF.out.symm, rfl⟩

/-- The keys. -/
def keysL : List ByteArray := keyWords.map (fun k => ⟨k.toArray⟩)
theorem mem_keysL (s : ByteArray) : s ∈ keysL ↔ isKeyB s = true := by
  unfold keysL isKeyB
  rw [List.mem_map, List.any_eq_true]
  constructor
  · rintro ⟨k, hk, rfl⟩
    exact ⟨k, hk, by rw [beq_iff_eq, Go.ByteArray.toList_eq]⟩
  · rintro ⟨k, hk, h⟩
    rw [beq_iff_eq, Go.ByteArray.toList_eq] at h
    exact ⟨k, hk, by rw [← h]⟩
set_option maxHeartbeats 1000000 in
theorem keys_any (w : World) : Calls Tryd.prog 113 #[] w fun e w' => ∃ L q c, e = .returned (.slice q L.length c) ∧ TRow w' w'.heap.size q L ∧ L.length ≤ 19 ∧ (∀ s, holdsB L s = isKeyB s) ∧ Below w.heap.size w w' := by
  have hrow : ∀ (W : World) (ty : TypeId), W.heap[w.heap.size]? = some (.cells (keysL.map Value.string).toArray ty (0, 0)) → TRow W W.heap.size (some ⟨w.heap.size, 0, none⟩) keysL := fun W ty h =>
    .inr ⟨w.heap.size, 0, rfl, heap_lt h, fun i hi => by
      rw [cell_of_row _ _ _ _ _ _ h, Nat.zero_add]
      simp [hi]⟩
  have HR := Lib.hid (rising_any keysL (some ⟨w.heap.size, 0, none⟩) 19 (w.alloc (.cells (keysL.map Value.string).toArray 9)) (hrow _ _ (heap_alloc_new w _)) (by decide) (by decide))
  have HB := Lib.hid ((Below.refl w.heap.size w).alloc (Nat.le_refl _) (.cells (keysL.map Value.string).toArray 9))
  have HL := Lib.hid (show (riseR keysL).length ≤ 19 from by have := riseR_take_len keysL keysL.length (Nat.le_refl _); rw [List.take_length] at this; exact this)
  have HM := Lib.hid (show ∀ s, holdsB (riseR keysL) s = isKeyB s from fun s => by
    rw [Bool.eq_iff_iff, holdsB_iff, mem_riseR, mem_keysL])
  generalize riseR keysL = L at *
  clear hrow
  go_enter Tryd.func113, Tryd.ntmps113
  go_wp2_with (go_at_call 35; refine HR.out.mono ?_; rintro e w2 ⟨q, c, rfl, h1, h2, h3⟩; have H2 := Lib.hid h2; have H3 := Lib.hid (HB.out.trans (h3.mono HB.out.size)); clear h2 h3)
  go_ret
  exact ⟨L, q, c, rfl, H2.out, HL.out, HM.out, H3.out⟩

theorem below_dr {B : Nat} {a w : World} (h : Below B a w) (n : Nat) : Below B a (w.drewN n) := h.trans ⟨rfl, rfl, rfl, Nat.le_refl _, fun _ _ => rfl⟩
/-- Is S where it stands what it has to be? 1: a name that is none; 2: one that is not to be there. -/
def namedR (o : Int) (s : ByteArray) : Int := if o = 2 ∨ o = 24 ∨ o = 42 ∨ o = 43 then (if isNameB s then 0 else 1) else if o = 50 then (if s.size = 0 ∨ isNameB s = true then 0 else 1) else if s.size = 0 then 0 else 2
theorem ret_quiet {P : Program} {f : FuncId} {args : Array Value} {w : World} {v : Value} (h : Calls P f args w fun e w' => e = .returned v ∧ w' = w) : Calls P f args w fun e w' => e = .returned v ∧ ∃ m, w' = w.drewN m := h.mono (by rintro e w2 ⟨rfl, rfl⟩; exact ⟨rfl, 0, rfl⟩)
set_option maxHeartbeats 4000000 in
theorem rnamed_any (o n : Int) (s : ByteArray) (k m : Int) (z : ByteArray) (q : Option Addr) (ql qc : Nat) (p : Option Addr) (len cap : Nat) (w : World) (hs : s.size ≤ 140737488355328) :
    Calls Tryd.prog 79 #[.agg #[.int .i64 o, .int .i64 n, .string s, .int .i64 k, .int .i64 m, .string z, .slice q ql qc, .slice p len cap]] w fun e w' => e = .returned (.int .i64 (namedR o s)) ∧ Below w.heap.size w w' := by
  obtain ⟨W1, hW1⟩ : ∃ W1, w.alloc (.cells #[.int .i64 o, .int .i64 n, .string s, .int .i64 k, .int .i64 m, .string z, .slice q ql qc, .slice p len cap] 40) = W1 := ⟨_, rfl⟩
  have HB : Hid (Below w.heap.size w W1) := hW1 ▸ (Below.refl w.heap.size w).alloc (Nat.le_refl _) (.cells #[.int .i64 o, .int .i64 n, .string s, .int .i64 k, .int .i64 m, .string z, .slice q ql qc, .slice p len cap] 40)
  have hx := heap_alloc_new w (.cells #[.int .i64 o, .int .i64 n, .string s, .int .i64 k, .int .i64 m, .string z, .slice q ql qc, .slice p len cap] 40)
  rw [hW1] at hx
  have HX := Lib.hid hx
  have hgW := heap_lt hx
  obtain ⟨x0, _, x2, _⟩ := box8_in _ _ _ _ _ _ _ _ _ _ _ hx
  have HI := Lib.hid (fun w => risName_any s hs w)
  have HN := Lib.hid (name_is s)
  have hsl := CkOk_name s
  clear hx
  by_cases ho : o = 2 ∨ o = 24 ∨ o = 42 ∨ o = 43
  · cases hno : nameOnlyB s with
    | false =>
      have HR := Lib.hid (show namedR o s = 1 from by unfold namedR; rw [if_pos ho, HN.out, hno]; rfl)
      have HI1 := Lib.hid (fun w => by have := HI.out w; rw [hno] at this; exact this)
      clear HI hno
      rcases ho with rfl | rfl | rfl | rfl
      all_goals go_enter Tryd.func79, Tryd.ntmps79
      all_goals go_wp2
      all_goals go_quiet ((go_at_call 111; refine Calls.quiet_of (ret_quiet (HI1.out _))))
      all_goals go_wp2
      all_goals go_ret
      all_goals exact ⟨ret_int HR.out.symm, below_dr HB.out _⟩
    | true =>
      have HI1 := Lib.hid (fun w => by have := HI.out w; rw [hno] at this; exact this)
      have HK := Lib.hid (fun (w : World) => keys_any w)
      have HR := Lib.hid (show (if isKeyB s = true then (1 : Int) else 0) = namedR o s from by
        unfold namedR; rw [if_pos ho, HN.out, hno]; cases isKeyB s <;> rfl)
      have HH := Lib.hid (fun (W : World) (L : List ByteArray) (q : Option Addr) (c : Nat) (h1 : TRow W W.heap.size q L) (h2 : L.length ≤ 19) (h3 : ∀ s, holdsB L s = isKeyB s) => by
        have := holds_any L q c _ s W h1 (by omega)
        rw [h3 s] at this; exact this)
      clear HI hno
      rcases ho with rfl | rfl | rfl | rfl
      all_goals go_enter Tryd.func79, Tryd.ntmps79
      all_goals go_wp2
      all_goals go_region_held3 (fun w' => w'.cell? ⟨w.heap.size, 2, none⟩ = some (.string s)) (first | exact x2 | exact hx2) (first
        | (go_at_call 111; refine (HI1.out _).mono ?_; rintro e w2 ⟨rfl, rfl⟩)
        | (go_at_call 113; refine (HK.out _).mono ?_; rintro e w2 ⟨L, q2, c2, rfl, h1, h2, h3, h4⟩; have HHS := Lib.hid (HH.out w2 L q2 c2 h1 h2 h3); have HB2 := Lib.hid (HB.out.drew.trans (h4.mono (by simp; exact HB.out.size))); have hx2 := (h4.cell (p := ⟨w.heap.size, 2, none⟩) (by simpa using hgW)).trans x2; clear h1 h3 h4)
        | (go_at_call 112; refine HHS.out.mono ?_; rintro e w3 ⟨rfl, rfl⟩))
      all_goals cases hk : isKeyB s
      all_goals rw [hk] at HR
      all_goals go_wp2
      all_goals go_ret
      all_goals exact ⟨ret_int HR.out, HB2.out⟩
  · have hob : (o == 2) = false ∧ (o == 24) = false ∧ (o == 42) = false ∧ (o == 43) = false := by
      refine ⟨?_, ?_, ?_, ?_⟩ <;> rw [beq_eq_false_iff_ne] <;> omega
    obtain ⟨b1, b2, b3, b4⟩ := hob
    by_cases h50 : o = 50
    · subst h50
      by_cases hs0 : s.size = 0
      · have hse : s.toList.isEmpty = true := by rw [hsl]; simp [hs0]
        have HR := Lib.hid (show namedR 50 s = 0 from by unfold namedR; rw [if_neg ho, if_pos rfl, if_pos (.inl hs0)])
        clear hsl HI HN hs0
        go_enter Tryd.func79, Tryd.ntmps79
        go_wp2
        go_quiet (fail)
        go_wp2
        go_ret
        exact ⟨ret_int HR.out.symm, below_dr HB.out _⟩
      · have hse : s.toList.isEmpty = false := by rw [hsl]; simpa using hs0
        cases hno : nameOnlyB s with
        | false =>
          have HR := Lib.hid (show namedR 50 s = 1 from by unfold namedR; rw [if_neg ho, if_pos rfl, if_neg (by rw [HN.out, hno]; simpa using hs0)])
          have HI1 := Lib.hid (fun w => by have := HI.out w; rw [hno] at this; exact this)
          clear HI hno hsl hs0
          go_enter Tryd.func79, Tryd.ntmps79
          go_wp2
          go_quiet ((go_at_call 111; refine Calls.quiet_of (ret_quiet (HI1.out _))))
          go_wp2
          go_ret
          exact ⟨ret_int HR.out.symm, below_dr HB.out _⟩
        | true =>
          have HI1 := Lib.hid (fun w => by have := HI.out w; rw [hno] at this; exact this)
          have HK := Lib.hid (fun (w : World) => keys_any w)
          have HR := Lib.hid (show (if isKeyB s = true then (1 : Int) else 0) = namedR 50 s from by
            unfold namedR; rw [if_neg ho, if_pos rfl, HN.out, hno]; cases isKeyB s <;> simp [hs0])
          have HH := Lib.hid (fun (W : World) (L : List ByteArray) (q : Option Addr) (c : Nat) (h1 : TRow W W.heap.size q L) (h2 : L.length ≤ 19) (h3 : ∀ s, holdsB L s = isKeyB s) => by
            have := holds_any L q c _ s W h1 (by omega)
            rw [h3 s] at this; exact this)
          clear HI hno hsl hs0
          go_enter Tryd.func79, Tryd.ntmps79
          go_wp2
          go_region_held3 (fun w' => w'.cell? ⟨w.heap.size, 2, none⟩ = some (.string s)) (first | exact x2 | exact hx2) (first
            | (go_at_call 111; refine (HI1.out _).mono ?_; rintro e w2 ⟨rfl, rfl⟩)
            | (go_at_call 113; refine (HK.out _).mono ?_; rintro e w2 ⟨L, q2, c2, rfl, h1, h2, h3, h4⟩; have HHS := Lib.hid (HH.out w2 L q2 c2 h1 h2 h3); have HB2 := Lib.hid (HB.out.drew.trans (h4.mono (by simp; exact HB.out.size))); have hx2 := (h4.cell (p := ⟨w.heap.size, 2, none⟩) (by simpa using hgW)).trans x2; clear h1 h3 h4)
            | (go_at_call 112; refine HHS.out.mono ?_; rintro e w3 ⟨rfl, rfl⟩))
          all_goals cases hk : isKeyB s
          all_goals rw [hk] at HR
          all_goals go_wp2
          all_goals go_ret
          all_goals exact ⟨ret_int HR.out, HB2.out⟩
    · have b5 : (o == 50) = false := by simpa using h50
      clear HI HN
      by_cases hs0 : s.size = 0
      · have hse : s.toList.isEmpty = true := by rw [hsl]; simp [hs0]
        have HR := Lib.hid (show namedR o s = 0 from by unfold namedR; rw [if_neg ho, if_neg h50, if_pos hs0])
        clear hsl hs0
        go_enter Tryd.func79, Tryd.ntmps79
        go_wp2
        go_ret
        exact ⟨ret_int HR.out.symm, HB.out⟩
      · have hse : s.toList.isEmpty = false := by rw [hsl]; simpa using hs0
        have HR := Lib.hid (show namedR o s = 2 from by unfold namedR; rw [if_neg ho, if_neg h50, if_neg hs0])
        clear hsl hs0
        go_enter Tryd.func79, Tryd.ntmps79
        go_wp2
        go_ret
        exact ⟨ret_int HR.out.symm, HB.out⟩
end Go.Proofs.YtminmadaeaiihaaDoor
