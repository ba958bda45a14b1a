/- lit.Text and lit.Plain: what they answer of any value. -/
import Derived.Test.YtemkikjcjhmlaaaGreatDoorM11
import Derived.Test.YtemkikjcjhmlaaaGreatDoorM03
import Derived.Test.YtemkikjcjhmlaaaGreatDoorM07
namespace Go.Proofs.YtemkikjcjhmlaaaGreatDoor
open Go.RowKit
set_option maxRecDepth 100000

theorem buf_str' {ops : Array Oper} {rest : List Oper} {o : Oper} {a : Act} {Q : Exit → Act → World → Prop} (hgd : o.guard = none) (sl x : Operand)
    (ho : o.op = .call { callee := .builtin .append, args := #[sl, x], argTypes := #[41, 9] })
    (B : Nat) (acc : Bs) (v : Value) (W0 w : World) (hs : a.eval sl = v) (hb : Buf B acc v W0 w) (s : ByteArray) (hx : a.eval x = .string s) (hlen : acc.length + s.size ≤ 140737488355328)
    (h : ∀ v' w', Buf B (acc ++ s.data.toList) v' W0 w' → w.grownBy w' v.ownBlock → wpList Tryz.prog ops Q rest (a.put o.dst v') w') : wpList Tryz.prog ops Q (o :: rest) a w := by
  obtain ⟨i0, hi, hz0, hz1, hz2⟩ := info_parts Tryz.info_u8
  refine Lib.wpList_append_own_string w hgd sl x 41 9 ho B 5 i0 Tryz.underlying41 Tryz.underlying9 hi hz0 hz1 hz2 v acc.length (Lib.byteCells acc) hs hb.own s hx (by unfold maxLen; omega) hlen hb.le ?_
  intro v' w' hown hgr _
  refine h v' w' (hb.grown ?_ hgr) hgr
  rw [byteCells_str, byteCells_app] at hown
  rw [List.length_append, show s.data.toList.length = s.size by simp]
  exact hown

theorem buf_byte' {ops : Array Oper} {rest : List Oper} {o : Oper} {a : Act} {Q : Exit → Act → World → Prop} (hgd : o.guard = none) (s x : Operand)
    (ho : o.op = .call { callee := .builtin .append, args := #[s, x], argTypes := #[41, 41] })
    (B : Nat) (acc : Bs) (v : Value) (W0 w0 : World) (hs : a.eval s = v) (hb : Buf B acc v W0 w0) (c : UInt8) (d : Int) (hcd : (c.toNat : Int) = d) (H : Nat) (hH : w0.heap.size = H) (hx : a.eval x = .slice (some ⟨H, 0, none⟩) 1 1) (hlen : acc.length + 1 ≤ 140737488355328)
    (h : ∀ v' w', Buf B (acc ++ [c]) v' W0 w' → (w0.alloc (.cells #[.int .u8 d] 5)).grownBy w' v.ownBlock → wpList Tryz.prog ops Q rest (a.put o.dst v') w') : wpList Tryz.prog ops Q (o :: rest) a (w0.alloc (.cells #[.int .u8 d] 5)) := by
  obtain ⟨i0, hi, hz0, hz1, hz2⟩ := info_parts Tryz.info_u8
  subst hH
  have hle := hb.le
  refine wpList_append_own _ hgd s x 41 ho B 5 i0 (.int .u8 0) 1 1 Tryz.underlying41 hi hz0 hz1 hz2 rfl (by decide) v acc.length (Lib.byteCells acc) hs (hb.own.alloc _) ⟨w0.heap.size, 0, none⟩ 1 1 [.int .u8 d] hx rfl (one_byte w0 _ _) (by intro u hu; simp at hu; subst hu; rfl) (by unfold maxLen; omega) (by omega) (by simp; omega) ?_
  intro v' w' hown hgr _
  refine h v' w' ((hb.alloc _).grown ?_ hgr) hgr
  rw [← byteCells_snoc acc c hcd, List.length_append]
  exact hown
theorem txs_app (l r : List T) : l.length ≠ 0 → txs (l ++ r) = txs l ++ txr r := by
  intro h
  cases l with
  | nil => exact absurd rfl h
  | cons x q => simp [txs, txr_append]
theorem txs_take_le (l : List T) (j : Nat) (h : j < l.length) : (txs (l.take (j + 1))).length ≤ (txs l).length := by
  have e := txs_app (l.take (j + 1)) (l.drop (j + 1)) (by rw [List.length_take]; omega)
  rw [List.take_append_drop] at e
  rw [e]; simp

abbrev TabU (B : Nat) (w : World) : Prop := Lib.TabBelow Tryz.prog B w "internal/strconv.uint64pow10" .u64 Lib.pow10Tab

/-- What writing a value comes to. -/
def TxtC (B : Nat) (W0 : World) (t : T) : Prop := ∀ (acc : Bs) (v : Value) (w : World) (lo hi : Nat) (vv : Value), Rep W0 lo hi t vv → hi ≤ B → Buf B acc v W0 w → acc.length + (tx t).length + 64 ≤ 140737488355328 →
  Calls Tryz.prog 87 #[v, vv] w (BufPost B (acc ++ tx t) W0)

set_option maxHeartbeats 2000000 in
theorem appendList_any (B : Nat) (W0 : World) (acc : Bs) (v : Value) (w : World) (lo hi : Nat) (l : List T) (p : Option Addr) (cap : Nat) (hall : ∀ t ∈ l, TxtC B W0 t) (hr : RepAll W0 lo hi l p) (hhi : hi ≤ B) (hll : l.length * 56 ≤ 140737488355328) (hb : Buf B acc v W0 w)
    (hlen : acc.length + (txs l).length + 66 ≤ 140737488355328) :
    Calls Tryz.prog 101 #[v, .slice p l.length cap] w (BufPost B (acc ++ (123 :: (txs l ++ [125]))) W0) := by
  have HB := Lib.hid hb; clear hb
  have HALL := Lib.hid hall; clear hall
  have HR := Lib.hid hr; clear hr
  go_enter Tryz.func101, Tryz.ntmps101
  go_wp2_with (at_builtin; refine buf_byte rfl (.tmp 7) (.tmp 8) rfl B acc v W0 w rfl HB.out 123 123 rfl _ rfl rfl (by omega) ?_; intro v1 w1 hb1; have HB1 := Lib.hid hb1; clear hb1)
  go_loopw [0, 12] (fun vb i wr => ∃ j : Nat, j ≤ l.length ∧ i = .int .i64 j ∧ Hid (Buf B ((acc ++ [123]) ++ txs (l.take j)) vb W0 wr)) (fun _ i _ => l.length - (intOf i).toNat)
  case atStart => exact ⟨0, Nat.zero_le _, rfl, by simpa [txs] using HB1⟩
  case round =>
    obtain ⟨j, hj, rfl, hbj⟩ := hrel
    by_cases hjl : j < l.length
    · obtain ⟨b, off, k, n, s, ll, q, c, rfl, hlo, hhi2, hli, c0, c1, c2, c3, hrep⟩ := HR.out.item j hjl
      have hbl := hbj.out.bel
      have hBw := hbj.out.le
      have a0 := (hbl.cell (p := ⟨b, off + j * 4, none⟩) (by show b < B; omega)).trans c0
      have a1 := (hbl.cell (p := ⟨b, off + j * 4 + 1, none⟩) (by show b < B; omega)).trans c1
      have a2 := (hbl.cell (p := ⟨b, off + j * 4 + 2, none⟩) (by show b < B; omega)).trans c2
      have a3 := (hbl.cell (p := ⟨b, off + j * 4 + 3, none⟩) (by show b < B; omega)).trans c3
      have HREP := Lib.hid hrep
      have HMEM := Lib.hid (HALL.out l[j] (List.getElem_mem hjl))
      have htk : l.take (j + 1) = l.take j ++ [l[j]] := List.take_succ_eq_append_getElem hjl
      have hsn := txs_snoc (l.take j) l[j]
      rw [← htk] at hsn
      have htl : (l.take j).length = j := by rw [List.length_take]; omega
      rw [htl] at hsn
      have hle := txs_take_le l j hjl
      generalize l[j] = t at *
      clear c0 c1 c2 c3 hrep hbl htk htl hli
      by_cases hj0 : j = 0
      · subst hj0
        simp only [Nat.zero_mul, Nat.add_zero] at a0 a1 a2 a3
        have HE := Lib.hid (show txs (l.take (0 + 1)) = tx t from by rw [hsn, if_pos rfl])
        have hln : (acc ++ [123] ++ txs (l.take 0)).length + (tx t).length + 64 ≤ 140737488355328 := by
          have := HE.out; rw [this] at hle; simp [txs]; omega
        have HE2 := Lib.hid (show (acc ++ [123] ++ txs (l.take 0)) ++ tx t = acc ++ [123] ++ txs (l.take (0 + 1)) from by rw [HE.out]; simp [txs])
        clear hsn hle
        go_wp2_with (go_at_call 87; refine (HMEM.out _ _ _ lo hi _ HREP.out hhi (hbj.out.alloc _) hln).mono ?_; rintro e w3 ⟨v3, rfl, hb3⟩; rw [HE2.out] at hb3; have HB3 := Lib.hid hb3; clear hb3)
        go_roundw
        case measure => simp [intOf]; omega
        case rel => exact ⟨0 + 1, by omega, by go_num, HB3⟩
      · have hj0' : 0 < j := by omega
        have HE := Lib.hid (show txs (l.take (j + 1)) = txs (l.take j) ++ (44 :: 32 :: tx t) from by rw [hsn, if_neg hj0])
        have hle2 : (txs (l.take j)).length + 2 + (tx t).length ≤ (txs l).length := by
          have := HE.out; rw [this] at hle; simp at hle; omega
        have hln1 : (acc ++ [123] ++ txs (l.take j)).length + 2 ≤ 140737488355328 := by simp; omega
        have hln : ((acc ++ [123] ++ txs (l.take j)) ++ [44, 32]).length + (tx t).length + 64 ≤ 140737488355328 := by simp; omega
        have HE2 := Lib.hid (show ((acc ++ [123] ++ txs (l.take j)) ++ [44, 32]) ++ tx t = acc ++ [123] ++ txs (l.take (j + 1)) from by rw [HE.out]; simp)
        clear hsn hle
        go_wp2_with (first
          | (at_builtin; refine buf_str' rfl (.tmp 19) (.const (.string ⟨#[44, 32]⟩)) rfl B _ _ W0 _ rfl (hbj.out.alloc _) ⟨#[44, 32]⟩ rfl hln1 ?_; intro v2 w2 hb2 hg2; have HB2 := Lib.hid hb2; have HV2 := Lib.hid ((hg2.block _ (by simp) (fun e => by have := (hbj.out.own.lt _ e.symm).2; omega)).trans (heap_alloc_new _ _)); obtain ⟨x0, x1, x2, x3, _⟩ := box4_in _ _ _ _ _ _ _ HV2.out; clear hb2 hg2)
          | (go_at_call 87; refine (HMEM.out _ _ _ lo hi _ HREP.out hhi HB2.out hln).mono ?_; rintro e w3 ⟨v3, rfl, hb3⟩; rw [HE2.out] at hb3; have HB3 := Lib.hid hb3; clear hb3))
        go_roundw
        case measure => simp [intOf]; omega
        case rel => exact ⟨j + 1, by omega, by go_num, HB3⟩
    · have hje : j = l.length := by omega
      subst hje
      have hln : (acc ++ [123] ++ txs (l.take l.length)).length + 1 ≤ 140737488355328 := by simp; omega
      go_wp2_with (at_builtin; refine buf_byte rfl (.tmp 25) (.tmp 26) rfl B _ _ W0 _ rfl hbj.out 125 125 rfl _ rfl rfl hln ?_; intro v2 w2 hb2; have HB2 := Lib.hid hb2; clear hb2)
      go_ret
      have e : acc ++ (123 :: (txs l ++ [125])) = ((acc ++ [123]) ++ txs (l.take l.length)) ++ [125] := by simp
      exact ⟨v2, rfl, by rw [e]; exact HB2.out⟩

set_option maxHeartbeats 4000000 in
theorem appendText_one (B : Nat) (W0 : World) (hN : Names W0) (hnB : 6 < B) (hT : TabU B W0) (k n : Int) (s : ByteArray) (l : List T) (ih : ∀ t ∈ l, TxtC B W0 t) : TxtC B W0 (.mk k n s l) := by
  intro acc v w lo hi vv hr hhi hb hlen
  have hr' := hr
  unfold Rep at hr'
  obtain ⟨p, cap, rfl, hk, hn, hs, hlc, hll, hra⟩ := hr'
  have hBw := hb.le
  have HNW := Lib.hid (hN.below hb.bel hnB)
  have HTW : ∀ W, Below B W0 W → Hid (TabU B W) := fun W h => hT.on h
  have HB := Lib.hid hb
  have HRA := Lib.hid hra
  have HIH := Lib.hid ih
  clear hb hra hN hT hr ih
  by_cases h0 : k = 0
  · subst h0
    rw [tx0] at hlen ⊢
    go_enter Tryz.func87, Tryz.ntmps87
    go_wp2_with (go_at_call 98; refine (Tryz.strconv_AppendInt_10 B acc.length n hn.1 hn.2 v (Lib.byteCells acc) _ (HB.out.alloc _).own (HB.out.alloc _).le (by omega) (HTW _ (HB.out.alloc _).bel).out).mono ?_; rintro e w3 ⟨v3, rfl, hown, hbel, _⟩)
    go_ret
    have hsz := hbel.size
    refine ⟨v3, rfl, ?_, ((HB.out.alloc _).bel).trans hbel, by simp at hsz; omega⟩
    rw [List.length_append, ← byteCells_app]; exact hown
  · by_cases h1 : k = 1
    · subst h1
      rw [tx1] at hlen ⊢
      simp at hlen
      go_enter Tryz.func87, Tryz.ntmps87
      go_wp2_with (first
        | (at_builtin; refine buf_byte' rfl (.tmp 15) (.tmp 16) rfl B _ _ W0 _ rfl (HB.out.alloc _) 35 35 rfl (w.heap.size + 1) (by simp) rfl (by omega) ?_; intro v2 w2 hb2 hg2; have HB2 := Lib.hid hb2; have HV2 := Lib.hid ((hg2.block w.heap.size (by simp; omega) (fun e => by have := (HB.out.own.lt _ e.symm).2; omega)).trans (heap_alloc_ _ _ _ _ (heap_alloc_new w _))); obtain ⟨x0, x1, x2, x3, _⟩ := box4_in _ _ _ _ _ _ _ HV2.out; clear hb2 hg2)
        | (go_at_call 98; refine (Tryz.strconv_AppendInt_10 B (acc ++ [35]).length n hn.1 hn.2 _ (Lib.byteCells (acc ++ [35])) _ HB2.out.own HB2.out.le (by simp; omega) (HTW _ HB2.out.bel).out).mono ?_; rintro e w3 ⟨v3, rfl, hown, hbel, _⟩))
      go_ret
      have hsz := hbel.size
      refine ⟨v3, rfl, ?_, HB2.out.bel.trans hbel, Nat.le_trans HB2.out.le hsz⟩
      have e : acc ++ 35 :: Lib.itoa n = (acc ++ [35]) ++ Lib.itoa n := by simp
      rw [e, List.length_append, ← byteCells_app]; exact hown
    · by_cases h2 : k = 2
      · subst h2
        rw [tx2] at hlen ⊢
        simp at hlen
        have hqb : acc.length + (esc s.data.toList).length + 2 ≤ 140737488355328 := by omega
        go_enter Tryz.func87, Tryz.ntmps87
        go_wp2_with (go_at_call 99; refine (appendQuoted_any B acc _ W0 _ s (HB.out.alloc _) hs hqb).mono ?_; rintro e w3 ⟨v3, rfl, hb3⟩)
        go_ret
        exact ⟨v3, rfl, hb3⟩
      · by_cases h3 : k = 3
        · subst h3
          rw [tx3] at hlen ⊢
          have hnb : acc.length + (⟨(nameOf n).toArray⟩ : ByteArray).size ≤ 140737488355328 := by show acc.length + (nameOf n).toArray.size ≤ _; simp; omega
          go_enter Tryz.func87, Tryz.ntmps87
          go_wp2_with (first
            | (go_at_call 100; refine (name_any n _ (HNW.out.below ((Below.refl _ _).alloc (Nat.le_refl _) _) HNW.out.lt) hn).mono ?_; rintro e w3 ⟨rfl, rfl⟩)
            | (at_builtin; refine buf_str rfl (.tmp 26) (.tmp 29) rfl B acc _ W0 _ rfl (HB.out.alloc _) ⟨(nameOf n).toArray⟩ rfl hnb ?_; intro v2 w2 hb2; have HB2 := Lib.hid hb2; clear hb2))
          go_ret
          exact ⟨_, rfl, by simpa using HB2.out⟩
        · have e : tx (.mk k n s l) = 123 :: (txs l ++ [125]) := by rw [tx, if_neg h0, if_neg h1, if_neg h2, if_neg h3]
          rw [e] at hlen ⊢
          simp at hlen
          have hll2 : acc.length + (txs l).length + 66 ≤ 140737488355328 := by omega
          clear e
          go_enter Tryz.func87, Tryz.ntmps87
          go_wp2_with (go_at_call 101; refine (appendList_any B W0 acc _ _ lo hi l p cap HIH.out HRA.out hhi hll (HB.out.alloc _) hll2).mono ?_; rintro e w3 ⟨v3, rfl, hb3⟩)
          go_ret
          exact ⟨v3, rfl, hb3⟩

/-- A value is written. -/
theorem appendText_any (B : Nat) (W0 : World) (hN : Names W0) (hnB : 6 < B) (hT : TabU B W0) (t : T) : TxtC B W0 t :=
  T.ind_ (P := fun t => TxtC B W0 t) (fun k n s l ih => appendText_one B W0 hN hnB hT k n s l ih) t

end Go.Proofs.YtemkikjcjhmlaaaGreatDoor
