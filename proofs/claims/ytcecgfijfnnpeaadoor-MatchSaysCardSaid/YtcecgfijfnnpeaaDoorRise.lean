/- The document's Rising: texts that rise, each once; and Holds. -/
import Derived.Test.YtcecgfijfnnpeaaDoorBef
import Derived.Test.YtcecgfijfnnpeaaDoorGs
import Derived.Deep.AppendLies
import Derived.Lib.SlFresh
import Derived.Deep.Upon
import Derived.Deep.RegionLaw
import Derived.Deep.RegionHeld3
import Derived.Deep.DeepCutAuto
namespace Go.Proofs.YtcecgfijfnnpeaaDoor
open Go.RowKit
set_option maxRecDepth 100000

theorem sstep_append_run {P : Program} {ops : Array Oper} {o : Oper} {a : Act} {w : World} {K : Act → World → Prop} {Q : Exit → Act → World → Prop} {E : Prop} (hgd : o.guard = none) (s x : Operand) (t : TypeId)
    (ho : o.op = .call { callee := .builtin .append, args := #[s, x], argTypes := #[t, t] }) (v u : Value) (hs : a.eval s = v) (hx : a.eval x = u) {v' : Value} {w' : World}
    (hr : (Builtin.append_ #[t, t] o.type #[v, u]).run P w = .ok v' w') (h : K (a.put o.dst v') w') : if Region.wanted o (yielded ops a.tmps) = true then Oper.wp P o a w K Q else E := by
  have hw : Region.wanted o (yielded ops a.tmps) = true := by simp [Region.wanted, hgd]
  rw [if_pos hw]
  exact Lib.wp_append_run_sl w s x t ho v u hs hx hr h
/-- Where a text goes among texts: behind all that stand ahead of it. -/
def posR (x : ByteArray) : List ByteArray → Nat
  | [] => 0
  | a :: r => if befB a x = true then posR x r + 1 else 0
/-- x among texts that rise, once. -/
def insR (l : List ByteArray) (x : ByteArray) : List ByteArray := if l[posR x l]? = some x then l else (l.take (posR x l) ++ [x]) ++ l.drop (posR x l)
def riseR (l : List ByteArray) : List ByteArray := l.foldl insR []
theorem mem_insR (l : List ByteArray) (x y : ByteArray) : y ∈ insR l x ↔ y ∈ l ∨ y = x := by
  unfold insR
  split
  · rename_i h
    have := List.mem_of_getElem? h
    constructor
    · exact .inl
    · rintro (h | rfl) <;> assumption
  · have := List.take_append_drop (posR x l) l
    constructor
    · intro h
      simp only [List.mem_append, List.mem_singleton] at h
      rcases h with (h | h) | h
      · exact .inl (List.mem_of_mem_take h)
      · exact .inr h
      · exact .inl (List.mem_of_mem_drop h)
    · rintro (h | rfl)
      · rw [← this, List.mem_append] at h
        simp only [List.mem_append, List.mem_singleton]
        rcases h with h | h
        · exact .inl (.inl h)
        · exact .inr h
      · simp
theorem mem_foldR : ∀ (l : List ByteArray) (s : List ByteArray) (y : ByteArray), y ∈ l.foldl insR s ↔ y ∈ s ∨ y ∈ l
  | [], s, y => by simp
  | x :: r, s, y => by
    rw [List.foldl_cons, mem_foldR r, mem_insR, List.mem_cons]
    constructor
    · rintro ((h | h) | h)
      · exact .inl h
      · exact .inr (.inl h)
      · exact .inr (.inr h)
    · rintro (h | h | h)
      · exact .inl (.inl h)
      · exact .inl (.inr h)
      · exact .inr h
theorem mem_riseR (l : List ByteArray) (y : ByteArray) : y ∈ riseR l ↔ y ∈ l := by unfold riseR; rw [mem_foldR]; simp
theorem posR_le (x : ByteArray) : ∀ l, posR x l ≤ l.length
  | [] => Nat.le_refl _
  | a :: r => by rw [posR]; split; have := posR_le x r; simp; omega; simp
theorem posR_lt (x : ByteArray) : ∀ (l : List ByteArray) (k : Nat) (h : k < l.length), k < posR x l → befB l[k] x = true
  | a :: r, 0, _, hk => by rw [posR] at hk; split at hk <;> simp_all
  | a :: r, k + 1, h, hk => by
    rw [posR] at hk
    split at hk
    · exact posR_lt x r k (by simpa using h) (by omega)
    · omega
theorem posR_at (x : ByteArray) : ∀ (l : List ByteArray) (h : posR x l < l.length), befB l[posR x l] x = false
  | a :: r, h => by
    by_cases hb : befB a x = true
    · have e : posR x (a :: r) = posR x r + 1 := by rw [posR, if_pos hb]
      have h' : posR x r < r.length := by rw [e] at h; simpa using h
      have := posR_at x r h'
      simp only [e, List.getElem_cons_succ]; exact this
    · have e : posR x (a :: r) = 0 := by rw [posR, if_neg hb]
      simp only [e, List.getElem_cons_zero]; simpa using hb
theorem insR_len (l : List ByteArray) (x : ByteArray) : (insR l x).length ≤ l.length + 1 := by
  unfold insR
  split
  · omega
  · simp only [List.length_append, List.length_take, List.length_drop, List.length_singleton]; omega
theorem riseR_take_len (l : List ByteArray) : ∀ j, j ≤ l.length → (riseR (l.take j)).length ≤ j
  | 0, _ => by simp [riseR]
  | j + 1, h => by
    have e : riseR (l.take (j + 1)) = insR (riseR (l.take j)) (l[j]'(by omega)) := by
      unfold riseR; rw [List.take_succ_eq_append_getElem (by omega), List.foldl_append]; rfl
    rw [e]
    have h1 := insR_len (riseR (l.take j)) (l[j]'(by omega))
    have h2 := riseR_take_len l j (by omega)
    omega
theorem riseR_step (l : List ByteArray) (j : Nat) (h : j < l.length) : riseR (l.take (j + 1)) = insR (riseR (l.take j)) l[j] := by
  unfold riseR; rw [List.take_succ_eq_append_getElem h, List.foldl_append]; rfl

theorem sslice_head (p : Option Addr) (n cap k : Nat) (h : k ≤ cap) (W : World) : (Instr.sliceAt 23 (.slice p n cap) none (some (.int .i64 (k : Int))) none).run Tryd.prog W = .ok (.slice p k cap) W := by
  have h2 : (k : Int) ≤ (cap : Int) := by omega
  have ht := Tryd.underlying23
  simp only [Instr.sliceAt, Instr.slice, run_underlying ht, Instr.sliceBounds, Instr.sliceBound, asIntOf, Sem.run_bind, Sem.run_pure, Result.andThen]
  simp [go_sem, h2]
theorem sslice_tail (p : Option Addr) (n cap k : Nat) (h : k ≤ n) (hc : n ≤ cap) (w : World) (B : Nat) (l : List ByteArray) (hr : TRow w B p l) (hn : n = l.length) : ∃ q, (∀ W : World, (Instr.sliceAt 23 (.slice p n cap) (some (.int .i64 (k : Int))) none none).run Tryd.prog W = .ok (.slice q (n - k) (cap - k)) W) ∧ TRow w B q (l.drop k) := by
  have h2 : (k : Int) ≤ (n : Int) := by omega
  have ht := Tryd.underlying23
  refine ⟨if cap = k then p else p.map (·.add (k * 1)), fun W => ?_, ?_⟩
  · simp only [Instr.sliceAt, Instr.slice, run_underlying ht, Instr.sliceBounds, Instr.sliceBound, asIntOf, Sem.run_bind, Sem.run_pure, Result.andThen]
    simp [go_sem, h2]
  · by_cases hk : k = n
    · exact .inl (List.drop_of_length_le (by omega))
    · rw [if_neg (by omega)]
      rcases hr with h | ⟨b, off, rfl, hb, hcell⟩
      · exact .inl (by rw [h]; simp)
      · refine .inr ⟨b, off + k, ?_, hb, fun i hi => ?_⟩
        · show some (Addr.add ⟨b, off, none⟩ (k * 1)) = _
          unfold Addr.add; split
          · rename_i h; simp at h; subst h; rfl
          · simp
        · rw [List.getElem_drop, Nat.add_assoc]; exact hcell (k + i) (by rw [List.length_drop] at hi; omega)

/-- Drawn on from w, no more. -/
def Dr (w w' : World) : Prop := ∃ m, w' = w.drewN m
theorem drew_cells {w w' : World} (h : Dr w w') : (∀ p, w'.cell? p = w.cell? p) ∧ w'.heap.size = w.heap.size := by obtain ⟨m, rfl⟩ := h; exact ⟨fun _ => rfl, rfl⟩
theorem drew_more {w w' : World} (h : Dr w w') (n : Nat) : Dr w (w'.drewN n) := by obtain ⟨m, rfl⟩ := h; exact ⟨m + n, by rw [World.drewN_drewN]⟩
theorem drew_below {w w' : World} (h : Dr w w') : Below w.heap.size w w' := by obtain ⟨m, rfl⟩ := h; exact ⟨rfl, rfl, rfl, Nat.le_refl _, fun _ _ => rfl⟩
theorem drew_row {w w' : World} (h : Dr w w') {q : Option Addr} {L : List ByteArray} (hr : TRow w w.heap.size q L) : TRow w' w'.heap.size q L := by obtain ⟨m, rfl⟩ := h; exact hr

set_option maxHeartbeats 2000000 in
theorem rising_any (ss : List ByteArray) (p : Option Addr) (cap : Nat) (w : World) (hr : TRow w w.heap.size p ss) (hlen : ss.length ≤ 900000) (hsz : ∀ s ∈ ss, s.size ≤ 140737488355328) :
    Calls Tryd.prog 44 #[.slice p ss.length cap] w fun e w' => ∃ q c, e = .returned (.slice q (riseR ss).length c) ∧ (riseR ss).length ≤ c ∧ TRow w' w'.heap.size q (riseR ss) ∧ Below w.heap.size w w' := by
  have HR := Lib.hid hr; clear hr
  have HSZ := Lib.hid hsz; clear hsz
  go_enter Tryd.func44, Tryd.ntmps44
  go_wp2
  go_loopw [3, 4] (fun o i wr => ∃ (j : Nat) (q : Option Addr) (c : Nat) (L : List ByteArray), j ≤ ss.length ∧ i = .int .i64 j ∧ o = .slice q L.length c ∧ L.length ≤ c ∧ Hid (L = riseR (ss.take j)) ∧ Hid (TRow wr wr.heap.size q L) ∧ Hid (Below w.heap.size w wr)) (fun _ i _ => ss.length - (intOf i).toNat)
  case atStart => exact ⟨0, none, 0, [], Nat.zero_le _, rfl, rfl, Nat.le_refl _, Lib.hid rfl, Lib.hid (.inl rfl), Lib.hid (Below.refl _ _)⟩
  case round =>
    obtain ⟨j, q, c, L, hj, rfl, rfl, hLc, HL, HT, HBR⟩ := hrel
    rename World => wo
    have hz := HBR.out.size
    have hLl : L.length ≤ j := by rw [HL.out]; exact riseR_take_len ss j hj
    by_cases hlt : j < ss.length
    · have hxs := HSZ.out _ (List.getElem_mem hlt)
      have hLs : ∀ s ∈ L, s.size ≤ 140737488355328 := fun s hs => by
        rw [HL.out, mem_riseR] at hs; exact HSZ.out s (List.mem_of_mem_take hs)
      have HLS := Lib.hid hLs
      have HSTEP := Lib.hid (show riseR (ss.take (j + 1)) = insR L ss[j] from by rw [riseR_step ss j hlt, ← HL.out])
      obtain ⟨b, off, hp, hb, h0⟩ := HR.out.at_ j hlt
      subst hp
      have h0w := (HBR.out.cell (p := ⟨b, off + j, none⟩) hb).trans h0
      have HBL := Lib.hid (show b < wo.heap.size from by omega)
      have H0 := Lib.hid h0w
      clear hLs h0 h0w
      obtain ⟨x, hx⟩ : ∃ x, x = ss[j] := ⟨_, rfl⟩
      rw [← hx] at HSTEP H0 hxs
      clear hx HL
      go_wp2
      go_loopw [5] (fun k wx => ∃ (i : Nat), i ≤ posR x L ∧ k = .int .i64 i ∧ Hid (Dr wo wx)) (fun k _ => posR x L - (intOf k).toNat)
      case atStart => exact ⟨0, Nat.zero_le _, rfl, 0, rfl⟩
      case round =>
        obtain ⟨i, hi, rfl, HM⟩ := hrel
        obtain ⟨e0, e1⟩ := drew_cells HM.out
        have HCM := Lib.hid e0
        have HSM := Lib.hid e1
        clear e0 e1
        have h0w := (HCM.out ⟨b, off + j, none⟩).trans H0.out
        by_cases hil : i < L.length
        · obtain ⟨b1, off1, hp1, hb1, h1⟩ := HT.out.at_ i hil
          have h1 := (HCM.out ⟨b1, off1 + i, none⟩).trans h1
          have hL1 := HLS.out _ (List.getElem_mem hil)
          have HBF := Lib.hid (fun w => before_any L[i] x w hL1 hxs)
          obtain ⟨y, hy⟩ : ∃ y, y = L[i] := ⟨_, rfl⟩
          rw [← hy] at h1 HBF
          by_cases hip : i < posR x L
          · have HB1 := Lib.hid (fun w => by have := HBF.out w; rw [hy, posR_lt x L i hil hip, ← hy] at this; exact this)
            subst hp1
            clear HBF hy
            go_wp2
            go_quiet ((go_at_call 61; refine Calls.quiet_of (HB1.out _)))
            go_wp2
            go_roundw
            case rel => exact ⟨i + 1, by omega, by go_num, drew_more HM.out _⟩
            case measure => simp [intOf]; omega
          · have hie : i = posR x L := by omega
            have HB1 := Lib.hid (fun w => by have := HBF.out w; rw [hy, show befB L[i] x = false from (by have := posR_at x L (by omega); simpa [hie] using this), ← hy] at this; exact this)
            have HG := Lib.hid (show L[posR x L]? = some y from (by rw [← hie, hy]; exact List.getElem?_eq_getElem hil))
            by_cases hyx : y = x
            · have HINS := Lib.hid (show insR L x = L from (by unfold insR; rw [HG.out, if_pos (by rw [hyx])]))
              subst hyx
              subst hp1
              clear HBF hy hi hip hie
              go_wp2
              go_quiet ((go_at_call 61; refine Calls.quiet_of (HB1.out _)))
              go_wp2
              rename Nat => n1
              go_quiet (fail)
              go_wp2
              go_roundw
              case rel => exact ⟨j + 1, _, _, L, by omega, by go_num, rfl, hLc, Lib.hid (by rw [HSTEP.out, HINS.out]), Lib.hid (drew_row (drew_more HM.out (n1 + nq)) HT.out), Lib.hid (HBR.out.trans ((drew_below (drew_more HM.out (n1 + nq))).mono hz))⟩
              case measure => simp [intOf]; omega
            · have hyxb : (y.toList == x.toList) = false := by
                rw [beq_eq_false_iff_ne]
                intro h; apply hyx
                have h2 : y.data.toList = x.data.toList := by rw [← Go.ByteArray.toList_eq, ← Go.ByteArray.toList_eq, h]
                cases y; cases x; simp only at h2; congr 1; exact Array.toList_inj.1 h2
              have HI2 := Lib.hid (show insR L x = (L.take i ++ [x]) ++ L.drop i from (by unfold insR; rw [HG.out, if_neg (by intro h; injection h with h; exact hyx h), ← hie]))
              have hkl : i ≤ L.length := by omega
              clear HBF hy hi hip hie HG hyx
              obtain ⟨k, hk⟩ : ∃ k, k = i := ⟨_, rfl⟩
              subst hk
              subst hp1
              go_wp2
              go_quiet ((go_at_call 61; refine Calls.quiet_of (HB1.out _)))
              go_wp2
              rename Nat => n1
              go_quiet (fail)
              go_wp2
              have HDX := Lib.hid (drew_more (drew_more HM.out n1) nq)
              generalize World.drewN (World.drewN _ n1) nq = WX at HDX ⊢
              have hsx := (drew_cells HDX.out).2
              clear h1 h0w HB1 HSM HCM
              have hk0 : (0 : Int) ≤ (k : Int) := by omega
              have hkc : (k : Int) ≤ (c : Int) := by omega
              have hkL : (k : Int) ≤ (L.length : Int) := by omega
              have hLb : (L.length : Int) ≤ 900000 := by omega
              have hs1 := sslice_head (some ⟨b1, off1, none⟩) L.length c k (by omega)
              obtain ⟨q2, hs2, hq2⟩ := sslice_tail (some ⟨b1, off1, none⟩) L.length c k hkl hLc wo wo.heap.size L HT.out rfl
              have HQ2 := Lib.hid hq2
              have hmk := smkrow (L.length + 1) (by omega) (IntKind.i64.wrap ((L.length : Int) + 1)) (by rw [IntKind.wrap_i64]; omega)
              have HG0 := Lib.hid (Gs.drew_ (Gs.start (W := WX) (drew_below HDX.out) (by omega) (n := L.length + 1) (by omega)))
              obtain ⟨q3, c3, w3, hr3, hg3⟩ := HG0.out.run (by simp; omega) (C := wo.heap.size) (l := L.take k) (p := (some ⟨b1, off1, none⟩)) ((HT.out.take k).below ((drew_below HDX.out).alloc (by omega) _).drew) (by simp; omega) (L.take k) rfl (m := k) (c := c) (by rw [List.length_take]; omega) 23
              rw [show (L.take k).length = k from (by rw [List.length_take]; omega)] at hr3 hg3
              rw [hsx] at hr3
              have HR3 := Lib.hid hr3
              have HG3 := Lib.hid hg3
              have HKT := Lib.hid (show (L.take k).length = k from (by rw [List.length_take]; omega))
              clear hr3 hg3 hq2 HG0
              go_upto_region 9 with fail
              go_cut [6] from 45 to 52 (fun cc wx => ∃ q cap, cc = .slice q k cap ∧ Hid (Gs wo.heap.size wo (L.take k) (.slice q k cap) wx))
              case first =>
                go_region_law (refine sstep_append_run rfl (.tmp 48) (.tmp 51) _ rfl _ _ rfl rfl HR3.out ?_)
                go_wp2
                go_meet
                exact ⟨_, _, rfl, HG3⟩
              obtain ⟨q4, c4, rfl, HG4⟩ := hcut
              have h0x := (HG4.out.bel.cell (p := ⟨b, off + j, none⟩) HBL.out).trans H0.out
              have hwx := HG4.out.bel.size
              obtain ⟨L1, hL1e⟩ : ∃ L1, L1 = L.take k ++ [x] := ⟨_, rfl⟩
              obtain ⟨L2, hL2e⟩ : ∃ L2, L2 = L1 ++ L.drop k := ⟨_, rfl⟩
              have HL1 := Lib.hid hL1e
              have HL2 := Lib.hid hL2e
              have HI3 := Lib.hid (show insR L x = L2 from (by rw [HI2.out, hL2e, hL1e]))
              have hone : ∀ W : World, TRow (W.alloc (.cells #[.string x] 9)) (W.heap.size + 1) (some ⟨W.heap.size, 0, none⟩) [x] := fun W => .inr ⟨W.heap.size, 0, rfl, Nat.lt_succ_self _, fun i hi => by
                have hi0 : i = 0 := by simpa using hi
                subst hi0
                rw [cell_of_row _ _ _ _ _ _ (heap_alloc_new W (.cells #[.string x] 9))]; rfl⟩
              have HONE := Lib.hid hone
              clear hone hL1e hL2e HR3 HG3
              go_wp2_with (first
                | (at_builtin; obtain ⟨q5, c5, w5, hr5, hg5⟩ := (show Gs wo.heap.size wo (L.take k) (.slice q4 k c4) _ from ⟨HG4.out.row.alloc (.cells #[.string x] 9), HG4.out.bel.alloc HG4.out.bel.size _⟩).run (by simp; omega) (HONE.out _) (by have := HKT.out; simp; omega) L1 HL1.out (m := 1) (c := 1) rfl 23; refine Lib.wpList_append_run_sl _ rfl (.tmp 53) (.tmp 58) _ rfl _ _ rfl rfl hr5 ?_; have HG5 := Lib.hid hg5; clear hr5 hg5)
                | (at_builtin; obtain ⟨q6, c6, w6, hr6, hg6⟩ := HG5.out.run HG5.out.bel.size (HQ2.out.below HG5.out.bel) (by have h1 := HKT.out; rw [HL1.out]; simp only [List.length_append, List.length_singleton, List.length_drop]; omega) L2 HL2.out (m := L.length - k) (c := c - k) (by rw [List.length_drop]) 23; refine Lib.wpList_append_run_sl _ rfl (.tmp 60) (.tmp 63) _ rfl _ _ rfl rfl hr6 ?_; have HG6 := Lib.hid hg6; clear hr6 hg6))
              obtain ⟨q7, c7, he7, h71, h72⟩ := HG6.out.fin
              injection he7 with e1 _ e2
              subst e1 e2
              go_roundw
              case rel => exact ⟨j + 1, _, _, L2, by omega, by go_num, rfl, h71, Lib.hid (by rw [HSTEP.out, HI3.out]), Lib.hid h72, Lib.hid (HBR.out.trans (HG6.out.bel.mono hz))⟩
              case measure => simp [intOf]; omega
        · have hkl : i ≤ L.length := by have := posR_le x L; omega
          have hie : i = posR x L := by have := posR_le x L; omega
          have HI2 := Lib.hid (show insR L x = (L.take i ++ [x]) ++ L.drop i from (by unfold insR; rw [List.getElem?_eq_none (by omega), if_neg (by simp), ← hie]))
          clear hi hie
          obtain ⟨k, hk⟩ : ∃ k, k = i := ⟨_, rfl⟩
          subst hk
          go_wp2
          go_quiet (fail)
          go_wp2
          rename Nat => n1
          go_quiet (fail)
          go_wp2
          have HDX := Lib.hid (drew_more (drew_more HM.out n1) nq)
          generalize World.drewN (World.drewN _ n1) nq = WX at HDX ⊢
          have hsx := (drew_cells HDX.out).2
          clear h0w HSM HCM
          have hk0 : (0 : Int) ≤ (k : Int) := by omega
          have hkc : (k : Int) ≤ (c : Int) := by omega
          have hkL : (k : Int) ≤ (L.length : Int) := by omega
          have hLb : (L.length : Int) ≤ 900000 := by omega
          have hs1 := sslice_head q L.length c k (by omega)
          obtain ⟨q2, hs2, hq2⟩ := sslice_tail q L.length c k hkl hLc wo wo.heap.size L HT.out rfl
          have HQ2 := Lib.hid hq2
          have hmk := smkrow (L.length + 1) (by omega) (IntKind.i64.wrap ((L.length : Int) + 1)) (by rw [IntKind.wrap_i64]; omega)
          have HG0 := Lib.hid (Gs.drew_ (Gs.start (W := WX) (drew_below HDX.out) (by omega) (n := L.length + 1) (by omega)))
          obtain ⟨q3, c3, w3, hr3, hg3⟩ := HG0.out.run (by simp; omega) (C := wo.heap.size) (l := L.take k) (p := q) ((HT.out.take k).below ((drew_below HDX.out).alloc (by omega) _).drew) (by simp; omega) (L.take k) rfl (m := k) (c := c) (by rw [List.length_take]; omega) 23
          rw [show (L.take k).length = k from (by rw [List.length_take]; omega)] at hr3 hg3
          rw [hsx] at hr3
          have HR3 := Lib.hid hr3
          have HG3 := Lib.hid hg3
          have HKT := Lib.hid (show (L.take k).length = k from (by rw [List.length_take]; omega))
          clear hr3 hg3 hq2 HG0
          go_upto_region 9 with fail
          go_cut [6] from 45 to 52 (fun cc wx => ∃ q cap, cc = .slice q k cap ∧ Hid (Gs wo.heap.size wo (L.take k) (.slice q k cap) wx))
          case first =>
            go_region_law (refine sstep_append_run rfl (.tmp 48) (.tmp 51) _ rfl _ _ rfl rfl HR3.out ?_)
            go_wp2
            go_meet
            exact ⟨_, _, rfl, HG3⟩
          obtain ⟨q4, c4, rfl, HG4⟩ := hcut
          have h0x := (HG4.out.bel.cell (p := ⟨b, off + j, none⟩) HBL.out).trans H0.out
          have hwx := HG4.out.bel.size
          obtain ⟨L1, hL1e⟩ : ∃ L1, L1 = L.take k ++ [x] := ⟨_, rfl⟩
          obtain ⟨L2, hL2e⟩ : ∃ L2, L2 = L1 ++ L.drop k := ⟨_, rfl⟩
          have HL1 := Lib.hid hL1e
          have HL2 := Lib.hid hL2e
          have HI3 := Lib.hid (show insR L x = L2 from (by rw [HI2.out, hL2e, hL1e]))
          have hone : ∀ W : World, TRow (W.alloc (.cells #[.string x] 9)) (W.heap.size + 1) (some ⟨W.heap.size, 0, none⟩) [x] := fun W => .inr ⟨W.heap.size, 0, rfl, Nat.lt_succ_self _, fun i hi => by
            have hi0 : i = 0 := by simpa using hi
            subst hi0
            rw [cell_of_row _ _ _ _ _ _ (heap_alloc_new W (.cells #[.string x] 9))]; rfl⟩
          have HONE := Lib.hid hone
          clear hone hL1e hL2e HR3 HG3
          go_wp2_with (first
            | (at_builtin; obtain ⟨q5, c5, w5, hr5, hg5⟩ := (show Gs wo.heap.size wo (L.take k) (.slice q4 k c4) _ from ⟨HG4.out.row.alloc (.cells #[.string x] 9), HG4.out.bel.alloc HG4.out.bel.size _⟩).run (by simp; omega) (HONE.out _) (by have := HKT.out; simp; omega) L1 HL1.out (m := 1) (c := 1) rfl 23; refine Lib.wpList_append_run_sl _ rfl (.tmp 53) (.tmp 58) _ rfl _ _ rfl rfl hr5 ?_; have HG5 := Lib.hid hg5; clear hr5 hg5)
            | (at_builtin; obtain ⟨q6, c6, w6, hr6, hg6⟩ := HG5.out.run HG5.out.bel.size (HQ2.out.below HG5.out.bel) (by have h1 := HKT.out; rw [HL1.out]; simp only [List.length_append, List.length_singleton, List.length_drop]; omega) L2 HL2.out (m := L.length - k) (c := c - k) (by rw [List.length_drop]) 23; refine Lib.wpList_append_run_sl _ rfl (.tmp 60) (.tmp 63) _ rfl _ _ rfl rfl hr6 ?_; have HG6 := Lib.hid hg6; clear hr6 hg6))
          obtain ⟨q7, c7, he7, h71, h72⟩ := HG6.out.fin
          injection he7 with e1 _ e2
          subst e1 e2
          go_roundw
          case rel => exact ⟨j + 1, _, _, L2, by omega, by go_num, rfl, h71, Lib.hid (by rw [HSTEP.out, HI3.out]), Lib.hid h72, Lib.hid (HBR.out.trans (HG6.out.bel.mono hz))⟩
          case measure => simp [intOf]; omega
    · have hje : j = ss.length := by omega
      have HF := Lib.hid (show L = riseR ss from by rw [HL.out, hje, List.take_length])
      go_wp2
      go_ret
      exact ⟨q, c, (by rw [← HF.out]; rfl), by rw [← HF.out]; exact hLc, by rw [← HF.out]; exact HT.out, HBR.out⟩
end Go.Proofs.YtcecgfijfnnpeaaDoor
