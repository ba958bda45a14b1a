/- lex.Join: the walk. -/
import Derived.Test.YtlinclbodbbemaaDoorY35
import Derived.Deep.DeepCutAuto
namespace Go.Proofs.YtlinclbodbbemaaDoor
open Go.RowKit
set_option maxRecDepth 100000

/-- Each word is told as its text. -/
def Texts (E : World → Prop) (l : List Tok) : Prop := ∀ t ∈ l, t.n ≤ 1000 ∧ ∀ (W : World) (q : Option Addr) (c : Nat), E W → Calls Tryd.prog 44 #[.agg #[.int .i64 t.k, .int .i64 t.n, .string ⟨t.s.toArray⟩, .int .i64 t.v.k, .int .i64 t.v.n, .string t.v.s, .slice q 0 c]] W fun e w' => e = .returned (.string ⟨(txTok t).toArray⟩) ∧ Below W.heap.size W w'
theorem catG_cons (g : Bs) (t : Tok) (r : GRow) : catG ((g, t) :: r) = g ++ (txTok t ++ catG r) := rfl

set_option maxHeartbeats 1000000 in
theorem join_any (E : World → Prop) (l : List Tok) (g cap : Nat) (w : World) (hr : Row w 0 l g cap) (hEb : ∀ W, Below w.heap.size w W → E W) (hT : Texts E l) (hlen : (joinL l).length ≤ 100000) (hll : l.length ≤ 1000) :
    Calls Tryd.prog 13 #[.slice (some ⟨g, 0, none⟩) l.length cap] w fun e w' => e = .returned (.string ⟨(joinL l).toArray⟩) ∧ Below w.heap.size w w' := by
  have HR := Lib.hid hr
  have hgw := hr.hi
  have hlc := hr.cap
  have HEB := Lib.hid hEb
  have HT := Lib.hid hT
  clear hr hEb hT
  have HJ0 : Hid (JL w (w.alloc (.cells #[.pointer none, .slice none 0 0] 77)) w.heap.size []) :=
    ⟨.inl ⟨Nat.le_refl _, .slice none 0 0, heap_alloc_new w _, World.ownsRow_nil _ _ _ _, by simp [Value.ownBlock]⟩, (Below.refl _ _).alloc (Nat.le_refl _) _⟩
  have HL0 := Lib.hid (show joinL l = [] ++ catG (joinG (decide (0 = 0)) 1 (l.drop 0)) from rfl)
  go_enter Tryd.func13, Tryd.ntmps13
  go_wp2_with fail
  go_loopw [4, 9] (fun ln i wr => ∃ (j m : Nat) (acc : Bs), ln = .int .i64 m ∧ i = .int .i64 j ∧ j ≤ l.length ∧ m ≤ 1001 ∧ Hid (joinL l = acc ++ catG (joinG (decide (j = 0)) m (l.drop j))) ∧ Hid (JL w wr w.heap.size acc)) (fun _ i _ => l.length - (intOf i).toNat)
  case atStart => exact ⟨0, 1, [], rfl, rfl, Nat.zero_le _, by omega, HL0, HJ0⟩
  case round =>
    obtain ⟨j, m, acc, rfl, rfl, hj, hm, hjo, hJ⟩ := hrel
    by_cases hjl : j < l.length
    · have hd := List.drop_eq_getElem_cons hjl
      obtain ⟨hn, hTx⟩ := HT.out l[j] (List.getElem_mem hjl)
      obtain ⟨q, cc, c0, c1, c2, c3, c4, c5, c6⟩ := (HR.out.at_ j hjl)
      have HJO := hjo.out
      rw [hd, joinG, catG_cons] at HJO
      clear hjo hd
      generalize hx : l[j] = x at *
      obtain ⟨k, n, u, ⟨a, c, d, vl⟩⟩ := x
      simp only [T.k, T.n, T.s] at c0 c1 c2 c3 c4 c5 c6 hn hTx HJO
      have HTX := Lib.hid hTx
      have HJOH := Lib.hid HJO
      have hbel := hJ.out.bel
      have e0 := (hbel.cell (p := ⟨g, j * 7, none⟩) hgw).trans c0
      have e1 := (hbel.cell (p := ⟨g, j * 7 + 1, none⟩) hgw).trans c1
      have e2 := (hbel.cell (p := ⟨g, j * 7 + 2, none⟩) hgw).trans c2
      have e3 := (hbel.cell (p := ⟨g, j * 7 + 3, none⟩) hgw).trans c3
      have e4 := (hbel.cell (p := ⟨g, j * 7 + 4, none⟩) hgw).trans c4
      have e5 := (hbel.cell (p := ⟨g, j * 7 + 5, none⟩) hgw).trans c5
      have e6 := (hbel.cell (p := ⟨g, j * 7 + 6, none⟩) hgw).trans c6
      clear c0 c1 c2 c3 c4 c5 c6 hbel hTx hx HJO
      have hjc : (j : Int) < (l.length : Int) := by omega
      go_upto_region 6 with fail
      have hjl0 := hJ.out.lt
      have HJ1 := Lib.hid (hJ.out.alloc hjl0 (.cells #[.int .i64 k, .int .i64 n, .string ⟨u.toArray⟩, .int .i64 a, .int .i64 c, .string d, .slice q 0 cc] 34))
      have HX1 := Lib.hid (heap_alloc_new wr (.cells #[.int .i64 k, .int .i64 n, .string ⟨u.toArray⟩, .int .i64 a, .int .i64 c, .string d, .slice q 0 cc] 34))
      have hgtb : wr.heap.size ≠ w.heap.size := by omega
      have HLN := Lib.hid (show acc.length + (n - m) + 1 + (txTok ⟨k, n, u, ⟨a, c, d, vl⟩⟩).length ≤ 102000 from by
        have h1 := congrArg List.length HJOH.out
        simp only [List.length_append] at h1
        omega)
      clear e0 e1 e2 e3 e4 e5 e6 hJ
      generalize wr.alloc (.cells #[.int .i64 k, .int .i64 n, .string ⟨u.toArray⟩, .int .i64 a, .int .i64 c, .string d, .slice q 0 cc] 34) = w1 at *
      generalize wr.heap.size = gt at *
      clear wr
      obtain ⟨y0, y1, y2, y3, y4, y5, y6, _⟩ := box7_in w1 gt _ _ _ _ _ _ _ _ HX1.out
      have hnI : ((n : Nat) : Int) ≤ 1000 := by omega
      by_cases hj0 : 0 < j
      · have hjI : (0 : Int) < (j : Int) := by omega
        by_cases hnm : n ≤ m
        · have hnmI : (n : Int) ≤ (m : Int) := by omega
          have sB := Lib.hid (HJ1.out.byte (by have := HLN.out; omega) 32 32 rfl)
          go_wp2_with (go_at_call 42; refine sB.out.mono ?_; rintro e w2 ⟨rfl, hj2, hk2⟩; have HJ2 := Lib.hid hj2; have HX2 := Lib.hid (hk2 _ _ _ (by decide) hgtb HX1.out); clear hj2 hk2)
          go_loopw [4] (fun ln wq => ∃ m' : Nat, ln = .int .i64 m' ∧ m ≤ m' ∧ m' ≤ max m n ∧ Hid (JL w wq w.heap.size ((acc ++ [32]) ++ List.replicate (m' - m) 10)) ∧ Hid (wq.heap[gt]? = some (.cells #[.int .i64 k, .int .i64 n, .string ⟨u.toArray⟩, .int .i64 a, .int .i64 c, .string d, .slice q 0 cc] 34 (0, 0)))) (fun ln _ => max m n - (intOf ln).toNat)
          case atStart => exact ⟨m, rfl, Nat.le_refl _, by omega, Lib.hid (by rw [Nat.sub_self]; simpa using HJ2.out), HX2⟩
          case round =>
            clear y0 y1 y2 y3 y4 y5 y6
            obtain ⟨m', rfl, hm1, hm2, hJq, hXq⟩ := hrel
            obtain ⟨y0, y1, y2, y3, y4, y5, y6, _⟩ := box7_in wr gt _ _ _ _ _ _ _ _ hXq.out
            have hlq : ((acc ++ [32]) ++ List.replicate (m' - m) 10).length + 1 + (txTok ⟨k, n, u, ⟨a, c, d, vl⟩⟩).length ≤ 200000 := by have := HLN.out; simp; omega
            by_cases hmn : m' < n
            · exfalso; omega
            · have hme : Hid (m' = max m n) := by show m' = max m n; omega
              have hEq := HEB.out _ hJq.out.bel
              have sT := Lib.hid (HTX.out _ q cc hEq)
              go_wp2_with (first
                | (go_at_call 44; refine sT.out.mono ?_; rintro e w6 ⟨rfl, hb6⟩; have HJ6 := Lib.hid (hJq.out.below hb6); clear hb6)
                | (go_at_call 43; refine (HJ6.out.text _ (by show _ + (List.toArray _).size ≤ _; rw [List.size_toArray]; omega)).mono ?_; rintro e w7 ⟨rfl, hj7, hk7⟩))
              go_roundw
              case measure => simp [intOf]; omega
              case rel =>
                refine ⟨j + 1, m', _, rfl, by go_num, by omega, by omega, Lib.hid ?_, Lib.hid hj7⟩
                rw [HJOH.out, hme.out]
                unfold sepJ
                rw [show decide (j + 1 = 0) = false from by simp, show (!decide (j = 0) && decide (n ≤ m)) = true from by simp; omega]
                have e1 : max m n - m = n - m := by omega
                rw [e1]
                simp
        · have hnmI : ¬ (n : Int) ≤ (m : Int) := by omega
          go_wp2
          go_loopw [4] (fun ln wq => ∃ m' : Nat, ln = .int .i64 m' ∧ m ≤ m' ∧ m' ≤ max m n ∧ Hid (JL w wq w.heap.size (acc ++ List.replicate (m' - m) 10)) ∧ Hid (wq.heap[gt]? = some (.cells #[.int .i64 k, .int .i64 n, .string ⟨u.toArray⟩, .int .i64 a, .int .i64 c, .string d, .slice q 0 cc] 34 (0, 0)))) (fun ln _ => max m n - (intOf ln).toNat)
          case atStart => exact ⟨m, rfl, Nat.le_refl _, by omega, Lib.hid (by rw [Nat.sub_self]; simpa using HJ1.out), HX1⟩
          case round =>
            clear y0 y1 y2 y3 y4 y5 y6
            obtain ⟨m', rfl, hm1, hm2, hJq, hXq⟩ := hrel
            obtain ⟨y0, y1, y2, y3, y4, y5, y6, _⟩ := box7_in wr gt _ _ _ _ _ _ _ _ hXq.out
            have hlq : (acc ++ List.replicate (m' - m) 10).length + 1 + (txTok ⟨k, n, u, ⟨a, c, d, vl⟩⟩).length ≤ 200000 := by have := HLN.out; simp; omega
            by_cases hmn : m' < n
            · have sB := Lib.hid (hJq.out.byte (by omega) 10 10 rfl)
              go_wp2_with (go_at_call 42; refine sB.out.mono ?_; rintro e w5 ⟨rfl, hj5, hk5⟩)
              go_roundw
              case measure => simp [intOf]; omega
              case rel => exact ⟨m' + 1, by go_num, by omega, by omega, Lib.hid (by rw [show m' + 1 - m = (m' - m) + 1 by omega, List.replicate_succ', ← List.append_assoc]; exact hj5), Lib.hid (hk5 _ _ _ (by decide) hgtb hXq.out)⟩
            · have hme : Hid (m' = max m n) := by show m' = max m n; omega
              have hEq := HEB.out _ hJq.out.bel
              have sT := Lib.hid (HTX.out _ q cc hEq)
              go_wp2_with (first
                | (go_at_call 44; refine sT.out.mono ?_; rintro e w6 ⟨rfl, hb6⟩; have HJ6 := Lib.hid (hJq.out.below hb6); clear hb6)
                | (go_at_call 43; refine (HJ6.out.text _ (by show _ + (List.toArray _).size ≤ _; rw [List.size_toArray]; omega)).mono ?_; rintro e w7 ⟨rfl, hj7, hk7⟩))
              go_roundw
              case measure => simp [intOf]; omega
              case rel =>
                refine ⟨j + 1, m', _, rfl, by go_num, by omega, by omega, Lib.hid ?_, Lib.hid hj7⟩
                rw [HJOH.out, hme.out]
                unfold sepJ
                rw [show decide (j + 1 = 0) = false from by simp, show (!decide (j = 0) && decide (n ≤ m)) = false from by simp; omega]
                have e1 : max m n - m = n - m := by omega
                rw [e1]
                simp
      · have hjI : ¬ (0 : Int) < (j : Int) := by omega
        go_wp2
        go_loopw [4] (fun ln wq => ∃ m' : Nat, ln = .int .i64 m' ∧ m ≤ m' ∧ m' ≤ max m n ∧ Hid (JL w wq w.heap.size (acc ++ List.replicate (m' - m) 10)) ∧ Hid (wq.heap[gt]? = some (.cells #[.int .i64 k, .int .i64 n, .string ⟨u.toArray⟩, .int .i64 a, .int .i64 c, .string d, .slice q 0 cc] 34 (0, 0)))) (fun ln _ => max m n - (intOf ln).toNat)
        case atStart => exact ⟨m, rfl, Nat.le_refl _, by omega, Lib.hid (by rw [Nat.sub_self]; simpa using HJ1.out), HX1⟩
        case round =>
          clear y0 y1 y2 y3 y4 y5 y6
          obtain ⟨m', rfl, hm1, hm2, hJq, hXq⟩ := hrel
          obtain ⟨y0, y1, y2, y3, y4, y5, y6, _⟩ := box7_in wr gt _ _ _ _ _ _ _ _ hXq.out
          have hlq : (acc ++ List.replicate (m' - m) 10).length + 1 + (txTok ⟨k, n, u, ⟨a, c, d, vl⟩⟩).length ≤ 200000 := by have := HLN.out; simp; omega
          by_cases hmn : m' < n
          · have sB := Lib.hid (hJq.out.byte (by omega) 10 10 rfl)
            go_wp2_with (go_at_call 42; refine sB.out.mono ?_; rintro e w5 ⟨rfl, hj5, hk5⟩)
            go_roundw
            case measure => simp [intOf]; omega
            case rel => exact ⟨m' + 1, by go_num, by omega, by omega, Lib.hid (by rw [show m' + 1 - m = (m' - m) + 1 by omega, List.replicate_succ', ← List.append_assoc]; exact hj5), Lib.hid (hk5 _ _ _ (by decide) hgtb hXq.out)⟩
          · have hme : Hid (m' = max m n) := by show m' = max m n; omega
            have hEq := HEB.out _ hJq.out.bel
            have sT := Lib.hid (HTX.out _ q cc hEq)
            go_wp2_with (first
              | (go_at_call 44; refine sT.out.mono ?_; rintro e w6 ⟨rfl, hb6⟩; have HJ6 := Lib.hid (hJq.out.below hb6); clear hb6)
              | (go_at_call 43; refine (HJ6.out.text _ (by show _ + (List.toArray _).size ≤ _; rw [List.size_toArray]; omega)).mono ?_; rintro e w7 ⟨rfl, hj7, hk7⟩))
            go_roundw
            case measure => simp [intOf]; omega
            case rel =>
              refine ⟨j + 1, m', _, rfl, by go_num, by omega, by omega, Lib.hid ?_, Lib.hid hj7⟩
              rw [HJOH.out, hme.out]
              unfold sepJ
              rw [show decide (j + 1 = 0) = false from by simp, show (!decide (j = 0) && decide (n ≤ m)) = false from by simp; omega]
              have e1 : max m n - m = n - m := by omega
              rw [e1]
              simp
    · have hje : j = l.length := by omega
      have HJE := Lib.hid (show joinL l = acc from by rw [hjo.out, hje, List.drop_length]; simp [joinG, catG])
      have sS := Lib.hid (Bd.string_any w.heap.size w.heap.size acc wr hJ.out.mak (by have := hJ.out.lt; omega))
      have hjI : ¬ (j : Int) < (l.length : Int) := by omega
      go_wp2_with (go_at_call 45; refine sS.out.mono ?_; rintro e w8 ⟨rfl, hb8⟩)
      go_ret
      exact ⟨by rw [HJE.out]; rfl, hJ.out.bel.trans hb8⟩

end Go.Proofs.YtlinclbodbbemaaDoor
