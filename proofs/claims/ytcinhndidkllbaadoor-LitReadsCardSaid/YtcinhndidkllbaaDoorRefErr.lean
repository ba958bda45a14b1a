/- The document's reader of texts: its Strs; names of codes. -/
import Derived.Test.YtcinhndidkllbaaDoorRefDig
import Derived.Test.YtcinhndidkllbaaDoorCodeM
import Derived.Test.YtcinhndidkllbaaDoorNames
namespace Go.Proofs.YtcinhndidkllbaaDoor
open Go.RowKit
set_option maxRecDepth 100000

/-- What is read well, or not: the result's box is filled, and handed back. -/
theorem rone_bad {s : ByteArray} {g q : Nat} {w W : World} {R : Res} (hq : q ≤ s.size) (hr : RrIs W g s q) (hb : But g w W) (hne : w.heap.size ≠ g) (hR : R = .bad (s.data.toList.drop q)) (k n : Int) (u : ByteArray) (a0 a1 a2 a3 : Value) :
    ROne s g w R (.returned (.tuple #[.agg #[.int .i64 k, .int .i64 n, .string u, .slice none 0 0], .bool false])) (set4 W w.heap.size a0 a1 a2 a3) :=
  ⟨q, hq, hr.set4 hne _ _ _ _, hb.set4 (Nat.le_refl _) _ _ _ _, .inr ⟨hR, k, n, u, rfl⟩⟩
theorem rone_ok {s u : ByteArray} {g q : Nat} {w W : World} {R : Res} {k n : Int} (hq : q ≤ s.size) (hr : RrIs W g s q) (hb : But g w W) (hne : w.heap.size ≠ g) (hR : R = .ok (.mk k n u []) (s.data.toList.drop q)) (hk : I64 k) (hn : I64 n) (hu : u.size ≤ 140737488355328) (a0 a1 a2 a3 : Value) :
    ROne s g w R (.returned (.tuple #[.agg #[.int .i64 k, .int .i64 n, .string u, .slice none 0 0], .bool true])) (set4 W w.heap.size a0 a1 a2 a3) :=
  ⟨q, hq, hr.set4 hne _ _ _ _, hb.set4 (Nat.le_refl _) _ _ _ _, .inl ⟨k, n, u, hR, hk, hn, hu, rfl⟩⟩

/-- Where the reading of a Str stands. -/
structure QAt (s : ByteArray) (g : Nat) (w : World) (acc : Bs) (q : Nat) (v : Value) (wr : World) : Prop where
  own : wr.ownsRow (w.heap.size + 1) 5 1 v acc.length (Lib.byteCells acc)
  rd : RrIs wr g s q
  but : But g w wr
  box : wr.heap[w.heap.size]? = some zbox
theorem QAt.drewN {s : ByteArray} {g : Nat} {w : World} {acc : Bs} {q : Nat} {v : Value} {wr : World} (h : QAt s g w acc q v wr) (n : Nat) : QAt s g w acc q v (wr.drewN n) :=
  ⟨owns_drewN h.own, h.rd, h.but.drewN n, h.box⟩
theorem QAt.lt {s : ByteArray} {g : Nat} {w : World} {acc : Bs} {q : Nat} {v : Value} {wr : World} (h : QAt s g w acc q v wr) : w.heap.size < wr.heap.size := by
  rcases Nat.lt_or_ge w.heap.size wr.heap.size with h1 | h1
  · exact h1
  · have := h.box; rw [Array.getElem?_eq_none h1] at this; cases this
theorem QAt.setPos {s : ByteArray} {g : Nat} {w : World} {acc : Bs} {q : Nat} {v : Value} {wr : World} (h : QAt s g w acc q v wr) (hg : g < w.heap.size) (q' : Nat) {z : Int} (hz : z = (q' : Int)) : QAt s g w acc q' v (wr.setCell ⟨g, 1, none⟩ (.int .i64 z)) :=
  ⟨owns_but h.own ((But.refl g wr).setCell 1 _) (by omega), h.rd.setPos q' hz, h.but.setCell 1 _, (Below.heap_setCell _ _ _ _ (by show w.heap.size ≠ g; omega)).trans h.box⟩
theorem QAt.grown {s : ByteArray} {g : Nat} {w : World} {acc : Bs} {q : Nat} {v v' : Value} {wr w5 : World} (h : QAt s g w acc q v wr) (hg : g < w.heap.size) {o : Obj} (hgr : (wr.alloc o).grownBy w5 v.ownBlock) {c : UInt8} {d : Int} (hc : (c.toNat : Int) = d)
    (ho : w5.ownsRow (w.heap.size + 1) 5 1 v' (acc.length + 1) (Lib.byteCells acc ++ [.int .u8 d])) : QAt s g w (acc ++ [c]) q v' w5 := by
  have hv : ∀ k, v.ownBlock = some k → w.heap.size < k := fun k hk => (h.own.lt k hk).1
  have hbl := h.lt
  refine ⟨?_, (hgr.block g (by simp; omega) (fun e => by have := hv g e.symm; omega)).trans (h.rd.alloc o), but_grown (h.but.alloc o) hgr (fun k hk => by have := hv k hk; omega), (hgr.block w.heap.size (by simp; omega) (fun e => by have := hv _ e.symm; omega)).trans ((Below.heap_alloc wr o _ hbl).trans h.box)⟩
  rw [byteCells_snoc acc c hc] at ho
  rw [List.length_append]; exact ho

theorem nat_int {a b : Nat} (h : a = b) : (a : Int) = (b : Int) := by rw [h]
theorem one_byte_at (w : World) (c : Value) (t : TypeId) (b : Nat) (hb : w.heap.size = b) : ∀ (j : Nat) (u : Value), [c][j]? = some u → (w.alloc (.cells #[c] t)).cell? ((⟨b, 0, none⟩ : Addr).add j) = some u := by
  subst hb; exact one_byte w c t
theorem resS_bad {q : Bs} {r : Option Bs × Bs} (h : r = (none, q)) : resS r = .bad q := by subst h; rfl
theorem resS_ok {q l : Bs} {r : Option Bs × Bs} (h : r = (some l, q)) : resS r = .ok (.mk 2 0 ⟨l.toArray⟩ []) q := by subst h; rfl

set_option maxHeartbeats 4000000 in
theorem refQuoted_any (s : ByteArray) (p g : Nat) (w : World) (hx : RrIs w g s p) (hps : p < s.size) (hs : s.size ≤ 140737488355328) :
    Calls Tryd.prog 76 #[.pointer (some ⟨g, 0, none⟩)] w (ROne s g w (resS (strOf (s.data.toList.drop (p + 1))))) := by
  obtain ⟨i0, hi, hz0, hz1, hz2⟩ := info_parts Tryd.info_u8
  obtain ⟨x0, x1, xf, hlt⟩ := hx.open
  have hne : w.heap.size ≠ g := by omega
  have HX := Lib.hid hx; clear hx
  go_enter Tryd.func76, Tryd.ntmps76
  go_wp2
  go_loopw [4] (fun v wr => ∃ (acc : Bs) (q : Nat), q ≤ s.size ∧ acc.length ≤ q ∧ Hid (strOf (s.data.toList.drop (p + 1)) = pre_ acc (strOf (s.data.toList.drop q))) ∧ Hid (QAt s g w acc q v wr)) (fun _ wr => s.size - rrPos wr g)
  case atStart =>
    have hb0 : ((w.setCell ⟨g, 1, none⟩ (.int .i64 ((p : Int) + 1))).alloc zbox).heap[w.heap.size]? = some zbox := by
      have h := heap_alloc_new (w.setCell ⟨g, 1, none⟩ (.int .i64 ((p : Int) + 1))) zbox
      rw [World.size_setCell] at h; exact h
    exact ⟨[], p + 1, by omega, Nat.zero_le _, Lib.hid (by unfold pre_; cases strOf (s.data.toList.drop (p + 1)) with | mk a b => cases a <;> rfl), Lib.hid ⟨World.ownsRow_nil _ _ _ _, (HX.out.setPos (p + 1) (by simp)).alloc _, ((But.refl g w).setCell 1 _).alloc _, hb0⟩⟩
  case round =>
    obtain ⟨acc, q, hqs, hal, HS, HA⟩ := hrel
    clear x0 x1 xf HX
    obtain ⟨x0, x1, xf, hlt1⟩ := HA.out.rd.open
    obtain ⟨b0, b1, b2, b3, bf⟩ := box4_in _ _ _ _ _ _ _ HA.out.box
    have f0 := bf 0; have f1 := bf 1; have f2 := bf 2; have f3 := bf 3
    clear bf
    have HA0 := HA
    have hbz := HA.out.lt
    by_cases hlq : q < s.size
    · have HC := Lib.hid (nx_at s q hlq)
      by_cases h34 : (s[q]).toNat = 34
      · have e1 : ((s[q]).toNat : Int) = 34 := by omega
        have HE := Lib.hid (show resS (strOf (s.data.toList.drop (p + 1))) = .ok (.mk 2 0 ⟨acc.toArray⟩ []) (s.data.toList.drop (q + 1)) from by
          have h := resS_ok (HS.out.trans (congrArg (pre_ acc) (strOf_q hlq (by rw [HC.out]; exact e1))))
          simpa using h)
        have hcv : ∀ n, (convert 59 9 _).run Tryd.prog ((wr.drewN n).setCell ⟨g, 1, none⟩ (.int .i64 ((q : Int) + 1))) = .ok (.string ⟨acc.toArray⟩) ((wr.drewN n).setCell ⟨g, 1, none⟩ (.int .i64 ((q : Int) + 1))) := fun n => conv_own ((HA.out.drewN n).setPos hlt (q + 1) (z := (q : Int) + 1) (by simp)).own
        clear HS h34
        go_wp2_with (first
          | go_quiet (fail)
          | (go_at_call 93; refine (refS_any _ _).mono ?_; rintro e w6 ⟨rfl, hb6⟩; have HBX := heap_old (o := zbox) (g := w.heap.size) (by exact ((HA.out.drewN _).setPos hlt (q + 1) (by simp)).box) hb6; obtain ⟨y0, y1, y2, y3, yf⟩ := box4_in _ _ _ _ _ _ _ HBX; have g0 := yf 0; have g1 := yf 1; have g2 := yf 2; have g3 := yf 3; have HB6 := Lib.hid hb6; clear yf hb6 HBX))
        refine bodyPost_ret (v := .tuple #[.agg #[.int .i64 2, .int .i64 0, .string ⟨acc.toArray⟩, .slice none 0 0], .bool true]) (by simp [results, Tryd.results76, go_sem, y0, y1, y2, y3]) rfl ?_
        have HQ := Lib.hid (fun n => (HA.out.drewN n).setPos hlt (q + 1) (z := (q : Int) + 1) (by simp))
        refine rone_ok (q := q + 1) (by omega) ?_ ?_ hne HE.out (by unfold I64; omega) (by unfold I64; omega) (by show acc.length ≤ _; omega) _ _ _ _
        · exact (HB6.out.block g (HQ.out _).rd.lt).trans (HQ.out _).rd
        · exact (HQ.out _).but.trans (But.of_below HB6.out)
      · have e1 : (((s[q]).toNat : Int) != 34) = true := by simp; omega
        by_cases h92 : (s[q]).toNat = 92
        · have e2 : ((s[q]).toNat : Int) = 92 := by omega
          by_cases hlq1 : q + 1 < s.size
          · obtain ⟨q1, hq1⟩ : ∃ q1, q1 = q + 1 := ⟨_, rfl⟩
            rw [← hq1] at hlq1
            have hqq : (q : Int) + 1 = (q1 : Int) := by omega
            have k0 : decide (s.size ≤ q1) = false := by simp; omega
            have HC1 := Lib.hid (nx_at s q1 hlq1)
            by_cases hdg : (s[q1]).toNat = 34 ∨ (s[q1]).toNat = 92
            · have HE := Lib.hid (HS.out.trans (strOf_bb hlq (by rw [HC.out]; exact e2) (by omega) (d := ((s[q1]).toNat : Int)) (by rw [← hq1, HC1.out]) (by omega) acc))
              rw [← hq1, HC1.out] at HE
              have k3 : decide (((s[q1]).toNat : Int) < 32) = false := by simp; omega
              have k4 : decide ((126 : Int) < ((s[q1]).toNat : Int)) = false := by simp; omega
              have HQ1 := Lib.hid hq1; clear hq1
              clear HS h34 h92
              rcases hdg with hdg | hdg
              all_goals have k1 := nat_int hdg
              all_goals clear hdg
              · go_wp2_with (first
                  | go_quiet (fail)
                  | (at_builtin; go_must (refine wpList_append_own _ rfl (.tmp 117) (.tmp 119) 59 rfl (w.heap.size + 1) 5 i0 (.int .u8 0) 1 1 Tryd.underlying59 hi hz0 hz1 hz2 rfl (by decide) _ acc.length (Lib.byteCells acc) rfl ((((HA.out.drewN _).setPos hlt q1 (z := (q1 : Int)) rfl).drewN _).own.alloc _) ⟨wr.heap.size, 0, none⟩ 1 1 [.int .u8 34] rfl rfl (one_byte_at _ (.int .u8 34) _ wr.heap.size (by simp)) (by intro u hu; simp at hu; subst hu; rfl) (by unfold maxLen; omega) (by omega) (by simp; omega) ?_); intro v' w5 hown5 hgr5 _; have HA5 := Lib.hid ((((HA.out.drewN _).setPos hlt q1 (z := (q1 : Int)) rfl).drewN _).grown hlt hgr5 (c := s[q1]) k1 hown5); obtain ⟨y0, y1, yf, ylt⟩ := HA5.out.rd.open; clear hown5 hgr5))
                go_roundw
                case measure => rw [HA0.out.rd.pos, (HA5.out.setPos hlt (q + 2) (z := (q1 : Int) + 1) (by have := HQ1.out; omega)).rd.pos]; omega
                case rel => exact ⟨acc ++ [s[q1]], q + 2, by have := HQ1.out; omega, by simp; omega, HE, Lib.hid (HA5.out.setPos hlt (q + 2) (z := (q1 : Int) + 1) (by have := HQ1.out; omega))⟩
              · go_wp2_with (first
                  | go_quiet (fail)
                  | (at_builtin; go_must (refine wpList_append_own _ rfl (.tmp 117) (.tmp 119) 59 rfl (w.heap.size + 1) 5 i0 (.int .u8 0) 1 1 Tryd.underlying59 hi hz0 hz1 hz2 rfl (by decide) _ acc.length (Lib.byteCells acc) rfl ((((HA.out.drewN _).setPos hlt q1 (z := (q1 : Int)) rfl).drewN _).own.alloc _) ⟨wr.heap.size, 0, none⟩ 1 1 [.int .u8 92] rfl rfl (one_byte_at _ (.int .u8 92) _ wr.heap.size (by simp)) (by intro u hu; simp at hu; subst hu; rfl) (by unfold maxLen; omega) (by omega) (by simp; omega) ?_); intro v' w5 hown5 hgr5 _; have HA5 := Lib.hid ((((HA.out.drewN _).setPos hlt q1 (z := (q1 : Int)) rfl).drewN _).grown hlt hgr5 (c := s[q1]) k1 hown5); obtain ⟨y0, y1, yf, ylt⟩ := HA5.out.rd.open; clear hown5 hgr5))
                go_roundw
                case measure => rw [HA0.out.rd.pos, (HA5.out.setPos hlt (q + 2) (z := (q1 : Int) + 1) (by have := HQ1.out; omega)).rd.pos]; omega
                case rel => exact ⟨acc ++ [s[q1]], q + 2, by have := HQ1.out; omega, by simp; omega, HE, Lib.hid (HA5.out.setPos hlt (q + 2) (z := (q1 : Int) + 1) (by have := HQ1.out; omega))⟩
            · have k1 : (((s[q1]).toNat : Int) != 34) = true := by simp; omega
              have k2 : (((s[q1]).toNat : Int) != 92) = true := by simp; omega
              have HE := Lib.hid (resS_bad (HS.out.trans (congrArg (pre_ acc) (strOf_b hlq (d := ((s[q1]).toNat : Int)) (by rw [HC.out]; exact e2) (by rw [← hq1, HC1.out]) (by omega)))))
              have HQ1 := Lib.hid hq1; clear hq1
              clear HS h34 h92 hdg
              go_wp2_with (go_quiet (fail))
              refine bodyPost_ret (v := .tuple #[zv, .bool false]) (by simp [results, Tryd.results76, go_sem, b0, b1, b2, b3]) rfl ?_
              have HQ := Lib.hid (fun n => (HA.out.drewN n).setPos hlt q1 (z := (q1 : Int)) rfl)
              exact rone_bad (q := q1) (by omega) (HQ.out _).rd (HQ.out _).but hne (by rw [HQ1.out]; exact HE.out) _ _ _ _ _ _ _
          · have k4 : (s.size : Int) ≤ (q : Int) + 1 := by omega
            have HE := Lib.hid (resS_bad (HS.out.trans (congrArg (pre_ acc) (strOf_b hlq (d := 0) (by rw [HC.out]; exact e2) (by rw [drop_end hlq1]; rfl) (by omega)))))
            clear HS h34 h92
            go_wp2_with (go_quiet (fail))
            refine bodyPost_ret (v := .tuple #[zv, .bool false]) (by simp [results, Tryd.results76, go_sem, b0, b1, b2, b3]) rfl ?_
            have HQ := Lib.hid (fun n => (HA.out.drewN n).setPos hlt (q + 1) (z := (q : Int) + 1) (by simp))
            exact rone_bad (q := q + 1) (by omega) (HQ.out _).rd (HQ.out _).but hne HE.out _ _ _ _ _ _ _
        · have e2 : (((s[q]).toNat : Int) == 92) = false := by simp; omega
          by_cases hbad : (s[q]).toNat < 32 ∨ 126 < (s[q]).toNat
          · have HE := Lib.hid (resS_bad (HS.out.trans (congrArg (pre_ acc) (strOf_bad (c := ((s[q]).toNat : Int)) (by rw [HC.out]) (by omega)))))
            clear HS
            rcases hbad with hbad | hbad
            · have k1 : ((s[q]).toNat : Int) < 32 := by omega
              go_wp2_with (go_quiet (fail))
              refine bodyPost_ret (v := .tuple #[zv, .bool false]) (by simp [results, Tryd.results76, go_sem, b0, b1, b2, b3]) rfl ?_
              exact rone_bad (q := q) hqs (HA.out.drewN _).rd (HA.out.drewN _).but hne HE.out _ _ _ _ _ _ _
            · have k1 : decide (((s[q]).toNat : Int) < 32) = false := by simp; omega
              have k2 : (126 : Int) < ((s[q]).toNat : Int) := by omega
              go_wp2_with (go_quiet (fail))
              refine bodyPost_ret (v := .tuple #[zv, .bool false]) (by simp [results, Tryd.results76, go_sem, b0, b1, b2, b3]) rfl ?_
              exact rone_bad (q := q) hqs (HA.out.drewN _).rd (HA.out.drewN _).but hne HE.out _ _ _ _ _ _ _
          · have k1 : decide (((s[q]).toNat : Int) < 32) = false := by simp; omega
            have k2 : decide ((126 : Int) < ((s[q]).toNat : Int)) = false := by simp; omega
            have HE := Lib.hid (HS.out.trans (strOf_p hlq (c := ((s[q]).toNat : Int)) (by rw [HC.out]) (by omega) acc))
            rw [HC.out] at HE
            clear HS h34 h92 hbad
            go_wp2_with (first
              | go_quiet (fail)
              | (at_builtin; go_must (refine wpList_append_own _ rfl (.tmp 117) (.tmp 119) 59 rfl (w.heap.size + 1) 5 i0 (.int .u8 0) 1 1 Tryd.underlying59 hi hz0 hz1 hz2 rfl (by decide) _ acc.length (Lib.byteCells acc) rfl ((HA.out.drewN _).own.alloc _) ⟨wr.heap.size, 0, none⟩ 1 1 [_] rfl rfl (one_byte _ _ _) (by intro u hu; simp at hu; subst hu; rfl) (by unfold maxLen; omega) (by omega) (by simp; omega) ?_); intro v' w5 hown5 hgr5 _; have HA5 := Lib.hid ((HA.out.drewN _).grown hlt hgr5 (c := s[q]) rfl hown5); obtain ⟨y0, y1, yf, ylt⟩ := HA5.out.rd.open; clear hown5 hgr5))
            go_roundw
            case measure => rw [HA0.out.rd.pos, (HA5.out.setPos hlt (q + 1) (by simp)).rd.pos]; omega
            case rel => exact ⟨acc ++ [s[q]], q + 1, by omega, by simp; omega, HE, Lib.hid (HA5.out.setPos hlt (q + 1) (by simp))⟩
    · have k4 : decide ((q : Int) < (s.size : Int)) = false := by simp; omega
      have HE := Lib.hid (resS_bad (HS.out.trans (congrArg (pre_ acc) (show strOf (s.data.toList.drop q) = (none, s.data.toList.drop q) from by rw [drop_end hlq, strOf_nil]))))
      clear HS
      go_wp2_with (go_quiet (fail))
      refine bodyPost_ret (v := .tuple #[zv, .bool false]) (by simp [results, Tryd.results76, go_sem, b0, b1, b2, b3]) rfl ?_
      exact rone_bad (q := q) hqs (HA.out.drewN _).rd (HA.out.drewN _).but hne HE.out _ _ _ _ _ _ _

/-- With how many bytes any of these is met. -/
def mx (inp : Bs) : List Bs → Nat
  | [] => 0
  | x :: xs => max (lcp inp x) (mx inp xs)
def anyG (inp : Bs) (k : Nat) (xs : List Bs) : Bool := xs.any fun x => decide (k ≤ lcp inp x)
theorem anyG_iff (inp : Bs) (k : Nat) (hk : 0 < k) : ∀ xs, anyG inp k xs = true ↔ k ≤ mx inp xs
  | [] => by simp [anyG, mx]; omega
  | x :: xs => by
    have ih := anyG_iff inp k hk xs
    simp only [anyG, mx, List.any_cons, Bool.or_eq_true, decide_eq_true_eq] at ih ⊢
    rw [ih]; omega
theorem anyG_nil (inp : Bs) (k : Nat) : anyG inp k [] = false := rfl
theorem anyG_step (inp : Bs) (k j : Nat) (hj : j < 15) : anyG inp k (names.take (j + 1)) = (anyG inp k (names.take j) || decide (k ≤ lcp inp (names.getD j []))) := by
  have h' : j < names.length := hj
  rw [List.take_succ_eq_append_getElem h', anyG, List.any_append]
  have e : names.getD j [] = names[j] := by simp [List.getD, h']
  rw [e]
  simp [anyG]
theorem anyG_full (inp : Bs) (k : Nat) : anyG inp k (names.take 15) = anyG inp k names := rfl

theorem lcp_le2 : ∀ a b : Bs, lcp a b ≤ a.length ∧ lcp a b ≤ b.length
  | a :: r, b :: q => by
    rw [lcp]; have := lcp_le2 r q; split <;> simp <;> omega
  | [], b => by simp [lcp]
  | a :: r, [] => by simp [lcp]
theorem mx_le (inp : Bs) : ∀ xs, mx inp xs ≤ inp.length
  | [] => by simp [mx]
  | x :: xs => by have := mx_le inp xs; have := (lcp_le2 inp x).1; simp only [mx]; omega
theorem lcp_ge : ∀ (k : Nat) (a b : Bs), k ≤ a.length → k ≤ b.length → (k ≤ lcp a b ↔ b.take k = a.take k)
  | 0, a, b, _, _ => by simp
  | k + 1, a :: r, b :: q, h1, h2 => by
    have ih := lcp_ge k r q (by simpa using h1) (by simpa using h2)
    rw [lcp, List.take_succ_cons, List.take_succ_cons]
    by_cases e : a = b
    · subst e; simp [ih]
    · simp [e]; intro h; exact absurd h.symm e
  | k + 1, [], _, h1, _ => by simp at h1
  | k + 1, _ :: _, [], _, h2 => by simp at h2

theorem lcp_app {r : Bs} : ∀ {a b : Bs}, lcp a b < a.length → lcp (a ++ r) b = lcp a b
  | x :: a, y :: b, h => by
    rw [lcp] at h
    rw [List.cons_append, lcp, lcp]
    by_cases e : x = y
    · rw [if_pos e] at h ⊢; rw [if_pos e, lcp_app (by simpa using h)]
    · rw [if_neg e, if_neg e]
  | [], _, h => by simp at h
  | _ :: _, [], _ => by simp [lcp]
theorem lcp_self_app (r : Bs) : ∀ a : Bs, lcp (a ++ r) a = a.length
  | [] => by cases r <;> simp [lcp]
  | x :: a => by rw [List.cons_append, lcp, if_pos rfl, lcp_self_app r a]; rfl
theorem lcp_take {inp x : Bs} {k : Nat} (h : inp.take k = x) : lcp inp x = x.length := by
  have := List.take_append_drop k inp
  rw [h] at this
  rw [← this]; exact lcp_self_app _ _

theorem mx_ge {inp x : Bs} : ∀ {xs : List Bs}, x ∈ xs → lcp inp x ≤ mx inp xs
  | y :: xs, h => by
    rcases List.mem_cons.1 h with e | e
    · subst e; simp only [mx]; omega
    · have := mx_ge (inp := inp) e; simp only [mx]; omega
theorem mx_bound {inp : Bs} {k : Nat} : ∀ {xs : List Bs}, (∀ x ∈ xs, lcp inp x ≤ k) → mx inp xs ≤ k
  | [], _ => by simp [mx]
  | y :: xs, h => by
    have h1 := h y (by simp); have h2 := mx_bound (xs := xs) (fun x hx => h x (by simp [hx])); simp only [mx]; omega

theorem codeGo_none {inp : Bs} : ∀ {xs : List Bs} {i far m : Nat}, codeGo inp i far xs = (none, m) → m = max far (mx inp xs) ∧ ∀ x ∈ xs, lcp inp x ≠ x.length
  | [], i, far, m, h => by simp [codeGo] at h; simp [mx]; omega
  | x :: xs, i, far, m, h => by
    rw [codeGo] at h
    by_cases e : lcp inp x = x.length
    · rw [if_pos e] at h; simp at h
    · rw [if_neg e] at h
      obtain ⟨h1, h2⟩ := codeGo_none h
      refine ⟨by simp only [mx]; omega, fun y hy => ?_⟩
      rcases List.mem_cons.1 hy with e2 | e2
      · subst e2; exact e
      · exact h2 y e2
theorem codeAt_mem {l : Bs} : ∀ {xs : List Bs} {i j : Nat}, codeAt l i xs = some j → l ∈ xs
  | [], _, _, h => by simp [codeAt] at h
  | x :: xs, i, j, h => by
    rw [codeAt] at h
    by_cases e : x = l
    · subst e; simp
    · rw [if_neg e] at h; simp [codeAt_mem h]

theorem names_apart : ∀ i : Fin 15, ∀ y ∈ names, lcp (nameOf ((i : Nat) : Int)) y ≤ (nameOf ((i : Nat) : Int)).length ∧ (lcp (nameOf ((i : Nat) : Int)) y = (nameOf ((i : Nat) : Int)).length → y = nameOf ((i : Nat) : Int)) := by decide +kernel
theorem name_mem {n : Int} (h0 : 0 ≤ n) (h1 : n ≤ 14) : nameOf n ∈ names := by
  refine fifteen (P := fun n => nameOf n ∈ names) ?_ h0 h1
  decide +kernel
theorem mx_name {n : Int} (h0 : 0 ≤ n) (h1 : n ≤ 14) (r : Bs) : mx (nameOf n ++ r) names = (nameOf n).length := by
  have ha := fifteen (P := fun n => ∀ y ∈ names, lcp (nameOf n) y ≤ (nameOf n).length ∧ (lcp (nameOf n) y = (nameOf n).length → y = nameOf n)) names_apart h0 h1
  apply Nat.le_antisymm
  · refine mx_bound (fun y hy => ?_)
    obtain ⟨h2, h3⟩ := ha y hy
    by_cases e : lcp (nameOf n) y = (nameOf n).length
    · rw [h3 e, lcp_self_app]; exact Nat.le_refl _
    · rw [lcp_app (by omega)]; exact h2
  · have := mx_ge (inp := nameOf n ++ r) (name_mem h0 h1)
    rw [lcp_self_app] at this; exact this

/-- The longest that begins any, looked up, is what the other reading finds. -/
theorem codeOf_mx (inp : Bs) : codeOf inp = (if (codeL (inp.take (mx inp names))).2 = true then some (codeL (inp.take (mx inp names))).1 else none, inp.drop (mx inp names)) := by
  rcases hc : codeOf inp with ⟨o, r⟩
  cases o with
  | some n =>
    obtain ⟨e, h0, h1⟩ := codeOf_sound hc
    subst e
    rw [mx_name h0 h1, List.take_left' rfl, List.drop_left' rfl, codeL_name h0 h1]
    rfl
  | none =>
    have hg : codeGo inp 0 0 names = (none, (codeGo inp 0 0 names).2) := by
      unfold codeOf at hc
      injection hc with h1 h2
      exact Prod.ext h1 rfl
    obtain ⟨h1, h2⟩ := codeGo_none hg
    have hr : r = inp.drop (mx inp names) := by
      unfold codeOf at hc
      injection hc with _ h3
      rw [← h3, h1]; simp
    have hl : codeL (inp.take (mx inp names)) = (0, false) := by
      unfold codeL
      split
      · rename_i i hi
        exact absurd (lcp_take rfl) (h2 _ (codeAt_mem hi))
      · rfl
    rw [hl, hr]; rfl

/-- Where a call that reads without items stands. -/
structure BAt (s : ByteArray) (g : Nat) (w : World) (q : Nat) (wr : World) : Prop where
  rd : RrIs wr g s q
  but : But g w wr
  box : wr.heap[w.heap.size]? = some zbox
theorem BAt.drewN {s : ByteArray} {g : Nat} {w : World} {q : Nat} {wr : World} (h : BAt s g w q wr) (n : Nat) : BAt s g w q (wr.drewN n) := ⟨h.rd, h.but.drewN n, h.box⟩
theorem BAt.setPos {s : ByteArray} {g : Nat} {w : World} {q : Nat} {wr : World} (h : BAt s g w q wr) (hg : g < w.heap.size) (q' : Nat) {z : Int} (hz : z = (q' : Int)) : BAt s g w q' (wr.setCell ⟨g, 1, none⟩ (.int .i64 z)) :=
  ⟨h.rd.setPos q' hz, h.but.setCell 1 _, (Below.heap_setCell _ _ _ _ (by show w.heap.size ≠ g; omega)).trans h.box⟩

theorem ext_size (s : ByteArray) (i j : Nat) (hj : j ≤ s.size) : (s.extract i j).size = j - i := by
  simp; omega
theorem ext_toList (s : ByteArray) (i j : Nat) : (s.extract i j).data.toList = (s.data.toList.drop i).take (j - i) := by
  have h : (s.extract i j).data = s.data.extract i j := by simp
  rw [h]
  simp [List.extract_eq_take_drop]
theorem eq_toList (a b : ByteArray) : (a.toList == b.toList) = decide (a.data.toList = b.data.toList) := by
  rw [ByteArray.toList_eq, ByteArray.toList_eq]
  by_cases h : a.data.toList = b.data.toList
  · rw [decide_eq_true h]; simp [h]
  · rw [decide_eq_false h]; simpa using h
/-- Does the name go on as the text does? -/
theorem goes_on {s : ByteArray} {p q j : Nat} (hpq : p ≤ q) (hq : q < s.size) (_hj : j < 15) (hn : q - p < (nameS j).size) :
    ((((nameS j).extract 0 (q + 1 - p)).toList == (s.extract p (q + 1)).toList)) = decide (q + 1 - p ≤ lcp (s.data.toList.drop p) (names.getD j [])) := by
  rw [eq_toList, ext_toList, ext_toList]
  have hl := lcp_ge (q + 1 - p) (s.data.toList.drop p) (names.getD j []) (by simp; omega) (by have : (names.getD j []).length = (nameS j).size := rfl; omega)
  rw [Nat.sub_zero, List.drop_zero, nameS_list]
  exact decide_eq_decide.2 hl.symm

theorem codeAt_lt {l : Bs} : ∀ {xs : List Bs} {i j : Nat}, codeAt l i xs = some j → j < i + xs.length
  | [], _, _, h => by simp [codeAt] at h
  | x :: xs, i, j, h => by
    rw [codeAt] at h
    by_cases e : x = l
    · rw [if_pos e] at h; injection h with h; simp; omega
    · rw [if_neg e] at h; have := codeAt_lt h; simp; omega
theorem codeL_bound {l : Bs} {c : Int} {is : Bool} (h : codeL l = (c, is)) : I64 c := by
  unfold codeL at h
  split at h
  · rename_i i hi
    have := codeAt_lt hi
    have h15 : names.length = 15 := rfl
    injection h with h _
    unfold I64; omega
  · injection h with h _
    unfold I64; omega

set_option maxHeartbeats 4000000 in
theorem refErr_any (s : ByteArray) (p g : Nat) (w : World) (hx : RrIs w g s p) (hp : p ≤ s.size) (hs : s.size ≤ 140737488355328) :
    Calls Tryd.prog 77 #[.pointer (some ⟨g, 0, none⟩)] w (ROne s g w (res 3 (codeOf (s.data.toList.drop p)))) := by
  obtain ⟨x0, x1, xf, hlt⟩ := hx.open
  have hne : w.heap.size ≠ g := by omega
  have HX := Lib.hid hx; clear hx
  go_enter Tryd.func77, Tryd.ntmps77
  go_wp2
  clear x0 x1 xf
  go_loopw [] (fun wr => ∃ (q : Nat), p ≤ q ∧ q ≤ s.size ∧ Hid (q - p ≤ mx (s.data.toList.drop p) names) ∧ Hid (BAt s g w q wr)) (fun wr => s.size - rrPos wr g)
  case atStart =>
    exact ⟨p, Nat.le_refl _, hp, Lib.hid (by omega), Lib.hid ⟨HX.out.alloc _, (But.refl g w).alloc _, heap_alloc_new w _⟩⟩
  case round =>
    obtain ⟨q, hpq, hqs, HM, HA⟩ := hrel
    obtain ⟨x0, x1, xf, hlt1⟩ := HA.out.rd.open
    obtain ⟨W, hW⟩ : ∃ W, s.extract p q = W := ⟨_, rfl⟩
    have hWs : W.size = q - p := by rw [← hW]; exact ext_size s p q hqs
    have hWl : W.data.toList = (s.data.toList.drop p).take (q - p) := by rw [← hW]; exact ext_toList s p q
    have HWL := Lib.hid hWl; clear hWl
    obtain ⟨q1, hq1⟩ : ∃ q1, q1 = q + 1 := ⟨_, rfl⟩
    have hqq : (q : Int) + 1 = (q1 : Int) := by omega
    obtain ⟨k1, hk1⟩ : ∃ k1, k1 = q + 1 - p := ⟨_, rfl⟩
    have hkk : (W.size : Int) + 1 = (k1 : Int) := by omega
    have HQ1 := Lib.hid hq1; clear hq1
    have HK1 := Lib.hid hk1; clear hk1
    clear HX
    go_wp2_with (go_quiet (fail))
    go_loopw [6, 7] (fun gr i w2 => ∃ (j m : Nat) (gB : Bool), gr = .bool gB ∧ i = .int .i64 j ∧ j ≤ 15 ∧ w2 = wr.drewN m ∧ Hid (gB = anyG (s.data.toList.drop p) k1 (names.take j))) (fun _ i _ => 15 - (intOf i).toNat)
    case atStart => exact ⟨0, _, false, rfl, rfl, by omega, rfl, Lib.hid rfl⟩
    case round =>
      obtain ⟨j, m, gB, rfl, rfl, hj15, rfl, HG⟩ := hrel
      by_cases hin : j < 15 ∧ q < s.size
      · obtain ⟨hj, hlq⟩ := hin
        have hj14 : (j : Int) ≤ 14 := by omega
        have hqI : (q : Int) < (s.size : Int) := by omega
        obtain ⟨N, hN⟩ : ∃ N, nameS j = N := ⟨_, rfl⟩
        have HN : Hid (∀ W', Calls Tryd.prog 33 #[.int .i64 (j : Int)] W' fun e w' => e = .returned (.string N) ∧ W' = w') := fun W' => by
          have h := refName_any (j : Int) W'
          rw [nameOf_nat j hj] at h
          rw [← hN]; exact h
        have hNl : (names.getD j []).length = N.size := by rw [← hN]; rfl
        have HS := Lib.hid (HG.out ▸ anyG_step (s.data.toList.drop p) k1 j hj)
        clear HM hWs
        cases gB with
        | true =>
          have HS' := Lib.hid (show true = anyG (s.data.toList.drop p) k1 (names.take (j + 1)) from by rw [HS.out]; rfl)
          clear HS hNl hN
          go_wp2_with (first
            | go_quiet (fail)
            | (go_at_call 33; refine (HN.out _).mono ?_; rintro e w2 ⟨rfl, rfl⟩))
          go_roundw
          case measure => simp [intOf]; omega
          case rel => exact ⟨j + 1, _, true, rfl, by go_num, by omega, rfl, HS'⟩
        | false =>
          by_cases hl : W.size < N.size
          · have hkN : (k1 : Int) ≤ (N.size : Int) := by omega
            have hk1b : (k1 : Int) ≤ 140737488355328 := by have := HK1.out; omega
            have hlI : (W.size : Int) < (N.size : Int) := by omega
            have hpq1 : (p : Int) ≤ (q1 : Int) := by omega
            have hq1s : (q1 : Int) ≤ (s.size : Int) := by omega
            obtain ⟨A, hA⟩ : ∃ A, N.extract 0 k1 = A := ⟨_, rfl⟩
            obtain ⟨B, hB⟩ : ∃ B, s.extract p q1 = B := ⟨_, rfl⟩
            obtain ⟨eB, heB⟩ : ∃ eB, (A.toList == B.toList) = eB := ⟨_, rfl⟩
            have HS' := Lib.hid (show eB = anyG (s.data.toList.drop p) k1 (names.take (j + 1)) from by
              rw [HS.out, Bool.false_or, ← heB, ← hA, ← hB, ← hN, HK1.out, HQ1.out]
              exact goes_on hpq hlq hj (by rw [hN]; have := HK1.out; omega))
            clear HS hNl hN
            go_wp2_with (first
              | go_quiet (fail)
              | (go_at_call 33; refine (HN.out _).mono ?_; rintro e w2 ⟨rfl, rfl⟩))
            go_roundw
            case measure => simp [intOf]; omega
            case rel => exact ⟨j + 1, _, eB, rfl, by go_num, by omega, rfl, HS'⟩
          · have hlI : decide ((W.size : Int) < (N.size : Int)) = false := by simp; omega
            have hlN : decide (W.size < N.size) = false := by simp; omega
            have HS' := Lib.hid (show false = anyG (s.data.toList.drop p) k1 (names.take (j + 1)) from by
              rw [HS.out, Bool.false_or, decide_eq_false]
              have := (lcp_le2 (s.data.toList.drop p) (names.getD j [])).2
              omega)
            clear HS hNl hN
            go_wp2_with (first
              | go_quiet (fail)
              | (go_at_call 33; refine (HN.out _).mono ?_; rintro e w2 ⟨rfl, rfl⟩))
            go_roundw
            case measure => simp [intOf]; omega
            case rel => exact ⟨j + 1, _, false, rfl, by go_num, by omega, rfl, HS'⟩
      · have hex : (j = 15) ∨ ((j : Int) ≤ 14 ∧ decide ((q : Int) < (s.size : Int)) = false ∧ decide (q < s.size) = false) := by
          by_cases h : j = 15
          · exact .inl h
          · exact .inr ⟨by omega, by simp; omega, by simp; omega⟩
        have hk0 : 0 < k1 := by have := HK1.out; omega
        have HF : Hid (gB = anyG (s.data.toList.drop p) k1 names) := by
          rcases hex with h | ⟨h1, _, h2⟩
          · have := HG.out; rw [h, anyG_full] at this; exact this
          · have hqs2 : q = s.size := by simp at h2; omega
            have e1 : ∀ xs, anyG (s.data.toList.drop p) k1 xs = false := fun xs => by
              cases hb : anyG (s.data.toList.drop p) k1 xs with
              | false => rfl
              | true =>
                have h3 := (anyG_iff _ _ hk0 xs).1 hb
                have h4 := mx_le (s.data.toList.drop p) xs
                rw [List.length_drop, show s.data.toList.length = s.size from by simp] at h4
                have := HK1.out
                omega
            show gB = _
            rw [HG.out, e1, e1]
        clear HG hin hj15
        cases gB with
        | true =>
          have HM' := Lib.hid (show q1 - p ≤ mx (s.data.toList.drop p) names from by
            have := (anyG_iff _ _ hk0 names).1 HF.out.symm
            have := HK1.out; have := HQ1.out; omega)
          have hq1s : q1 ≤ s.size := by
            have h3 := (anyG_iff _ _ hk0 names).1 HF.out.symm
            have h4 := mx_le (s.data.toList.drop p) names
            rw [List.length_drop, show s.data.toList.length = s.size from by simp] at h4
            have := HK1.out; have := HQ1.out; omega
          clear HM hWs
          rcases hex with rfl | ⟨h1, h2, h3⟩
          all_goals
            go_wp2_with (go_quiet (fail))
            go_roundw
            case measure => rw [HA.out.rd.pos, ((HA.out.drewN _).setPos hlt q1 (z := (q1 : Int)) rfl).rd.pos]; have := HQ1.out; omega
            case rel => exact ⟨q1, by have := HQ1.out; omega, hq1s, HM', Lib.hid ((HA.out.drewN _).setPos hlt q1 (z := (q1 : Int)) rfl)⟩
        | false =>
          have hKq : q - p = mx (s.data.toList.drop p) names := by
            have h1 := HM.out
            have h2 : ¬ k1 ≤ mx (s.data.toList.drop p) names := fun h => by
              rw [(anyG_iff _ _ hk0 names).2 h] at HF; cases HF.out
            have := HK1.out
            omega
          obtain ⟨⟨c, is⟩, hc⟩ : ∃ x, codeL W.data.toList = x := ⟨_, rfl⟩
          have hcb := codeL_bound hc
          have HR := Lib.hid (show res 3 (codeOf (s.data.toList.drop p)) = res 3 (if is = true then some c else none, s.data.toList.drop q) from by
            rw [codeOf_mx, ← hKq, ← HWL.out, hc, List.drop_drop, show p + (q - p) = q by omega])
          have C2 := Lib.hid (fun (W' : World) => refCode_any W W' _ hc)
          clear HM hWs hc HF hKq
          obtain ⟨b0, b1, b2, b3, bf⟩ := box4_in _ _ _ _ _ _ _ HA.out.box
          clear bf
          rcases hex with rfl | ⟨h1, h2, h3⟩
          all_goals
            go_wp2_with (first
              | go_quiet (fail)
              | (go_at_call 29; refine (C2.out _).mono ?_; rintro e w2 ⟨rfl, rfl⟩)
              | (go_at_call 94; refine (refE_any _ _).mono ?_; rintro e w6 ⟨rfl, hb6⟩; have HBX := heap_old (o := zbox) (g := w.heap.size) (by exact (HA.out.drewN _).box) hb6; obtain ⟨y0, y1, y2, y3, yf⟩ := box4_in _ _ _ _ _ _ _ HBX; have g0 := yf 0; have g1 := yf 1; have g2 := yf 2; have g3 := yf 3; have HB6 := Lib.hid hb6; clear yf hb6 HBX))
            refine bodyPost_ret (v := .tuple #[.agg #[.int .i64 3, .int .i64 c, .string ⟨#[]⟩, .slice none 0 0], .bool is]) (by simp [results, Tryd.results77, go_sem, y0, y1, y2, y3]) rfl ?_
            have HQ := Lib.hid (fun n => HA.out.drewN n)
            have R1 := (HB6.out.block g (HQ.out _).rd.lt).trans (HQ.out _).rd
            have R2 := (HQ.out _).but.trans (But.of_below HB6.out)
            cases is with
            | true => exact rone_ok (q := q) hqs R1 R2 hne HR.out (by unfold I64; omega) hcb (by simp) _ _ _ _
            | false => exact rone_bad (q := q) hqs R1 R2 hne HR.out _ _ _ _ _ _ _

end Go.Proofs.YtcinhndidkllbaaDoor
