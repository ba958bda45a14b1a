/- The writer of package show: a Do outside all blocks; Program, Expr; the chapter's first example. What the listed variables give the statements on programs as text. The writer of package show: a condition and its Block, an Except, what an If has. Printed by gen_stmt.py. The writer of package show: statement, a case each. Printed by gen_stmt.py. The writer of package show: what an If has. Printed by gen_stmt.py. -/
import Derived.Test.YtemkikjcjhmlaaaGreatDoorM17
import Derived.Test.YtemkikjcjhmlaaaGreatDoorM18
import Derived.Test.YtemkikjcjhmlaaaGreatDoorM19
import Derived.KernelRfl
import Derived.Test.YtemkikjcjhmlaaaGreatDoorM20
import Derived.Test.YtemkikjcjhmlaaaGreatDoorM21
import Derived.Lib.AppendIntMem
import Derived.WalkSpells
import Derived.Laws.Concat
import Derived.Test.YtemkikjcjhmlaaaGreatDoorM12
import Derived.Test.YtemkikjcjhmlaaaGreatDoorM14
import Derived.Test.YtemkikjcjhmlaaaGreatDoorM00
import Derived.LaidLaws
import Derived.LaidMore
import Derived.Lib.LaidTab
import Derived.Test.YtemkikjcjhmlaaaGreatDoorM07
import Derived.Test.YtemkikjcjhmlaaaGreatDoorRows
import Derived.Test.YtemkikjcjhmlaaaGreatDoorM16
import Derived.Test.YtemkikjcjhmlaaaGreatDoorM22
namespace Go.Proofs.YtemkikjcjhmlaaaGreatDoor.Sh
open Go.RowKit
set_option maxRecDepth 100000

theorem repeat0_any (s : ByteArray) (w : World) : Calls Tryz.prog 57 #[.string s, .int .i64 0] w fun e w' => e = .returned (.string ⟨#[]⟩) ∧ w' = w := by
  go_enter Tryz.func57, Tryz.ntmps57
  go_wp2
  go_ret
  exact ⟨rfl, rfl⟩
theorem put0_any (b : Nat) (w : World) : Calls Tryz.prog 37 #[.pointer (some ⟨b, 0, none⟩), .slice none 0 0] w fun e w' => e = .returned (.tuple #[]) ∧ w' = w := by
  go_enter Tryz.func37, Tryz.ntmps37
  go_wp2
  go_loopw [8] (fun i wr => i = .int .i64 0 ∧ wr = w) (fun _ _ => 0)
  case atStart => exact ⟨rfl, rfl⟩
  case round =>
    obtain ⟨rfl, rfl⟩ := hrel
    go_wp2
    go_end0
    exact ⟨rfl, rfl⟩
set_option maxHeartbeats 1000000 in
theorem begin0_any (B b : Nat) (X : List UInt8) (w : World) (hBw : B ≤ w.heap.size) (h : Wr B b 0 X w) (hlen : X.length ≤ 70368744177664) :
    Calls Tryz.prog 35 #[.pointer (some ⟨b, 0, none⟩), .slice none 0 0] w (WPost B b 0 X w) := by
  have HP := Lib.hid (put1_any B b 0 X ⟨#[]⟩ w h hlen hBw)
  obtain ⟨hB, a, v, ha, hh, ho⟩ := h
  obtain ⟨c0, c1, c2, _⟩ := row3 hh
  clear ha hh ho
  go_enter Tryz.func35, Tryz.ntmps35
  go_wp2_with (first
    | (go_at_call 57; refine (repeat0_any _ _).mono ?_; rintro e w2 ⟨rfl, rfl⟩)
    | (go_at_call 37; (with_reducible refine HP.out.mono ?_); rintro e w3 ⟨rfl, h3, hb3, hk3⟩; have H3 := Lib.hid h3; have HB3 := Lib.hid hb3; have HK3 := Lib.hid hk3; clear h3 hb3 hk3 HP)
    | (go_at_call 37; refine (put0_any b _).mono ?_; rintro e w4 ⟨rfl, rfl⟩))
  go_end0
  have h := H3.out
  rw [show X ++ (⟨#[]⟩ : ByteArray).data.toList = X from List.append_nil X] at h
  exact ⟨rfl, h, HB3.out, HK3.out⟩

/-- show.writer.statement writes this text of t, outside all blocks. -/
def SOk (ad : Nat → Addr) (eD eM eR eS : Value) (t : Nd) (tt : List UInt8) : Prop := ∀ (B b : Nat) (X : List UInt8) (w : World) (lo hi : Nat) (x : Value), NRep w lo hi t x → lo ≤ B → hi ≤ B → B ≤ w.heap.size → Wr B b 0 X w → Ctx ad eD eM eR eS B w → X.length + tt.length ≤ 70368744177664 →
  Calls Tryz.prog 20 #[.pointer (some ⟨b, 0, none⟩), x] w (WPost B b 0 (X ++ tt) w)
def doT (l : List Nd) : List UInt8 := joinS (⟨#[]⟩ : ByteArray).data.toList (wAll l) ++ [59, 10]
set_option maxHeartbeats 2000000 in
theorem simple_do (ad : Nat → Addr) (eD eM eR eS : Value) (n : Int) (s : ByteArray) (v : T) (l : List Nd) (hw : ∀ t ∈ l, WOk ad eD eM eR eS t) (hll : l.length ≤ 1000000) (B b : Nat) (X : List UInt8) (w : World) (lo hi : Nat) (x : Value) (hr : NRep w lo hi (.mk 40 n s v l) x) (hlo : lo ≤ B) (hhi : hi ≤ B) (hBw : B ≤ w.heap.size) (h : Wr B b 0 X w) (hc : Ctx ad eD eM eR eS B w) (hlen : X.length + (doT l).length ≤ 70368744177664) :
    Calls Tryz.prog 42 #[.pointer (some ⟨b, 0, none⟩), x] w (WPost B b 0 (X ++ doT l) w) := by
  obtain ⟨k, m, z, q, ql, qc, r, c, rfl, _, _, hsz, hv, hlc, hl112, hall⟩ := hr.open
  obtain ⟨W1, hW1⟩ : ∃ W1, W1 = w.alloc (.cells #[.int .i64 40, .int .i64 n, .string s, .int .i64 k, .int .i64 m, .string z, .slice q ql qc, .slice r l.length c] 33) := ⟨_, rfl⟩
  have hb0 : Below w.heap.size w W1 := hW1 ▸ (Below.refl w.heap.size w).alloc (Nat.le_refl _) _
  have HX : Hid (W1.heap[w.heap.size]? = some (.cells #[.int .i64 40, .int .i64 n, .string s, .int .i64 k, .int .i64 m, .string z, .slice q ql qc, .slice r l.length c] 33 (0, 0))) := hW1 ▸ heap_alloc_new w _
  have HW := Lib.hid (h.below hb0)
  have hB1 : B ≤ W1.heap.size := Nat.le_trans hBw hb0.size
  have HB := Lib.hid (hb0.mono hBw)
  have HK : Hid (Kp b w W1) := Kp.of_below hb0
  have HALL := Lib.hid (fun W (hb : Below B w W) => hall.below hb hhi)
  have HC := Lib.hid hc
  obtain ⟨g, hg⟩ : ∃ g, g = w.heap.size := ⟨_, rfl⟩
  have hgb : g ≠ b := by have := h.lt; omega
  rw [← hg] at HX
  have hd : (doT l).length = (joinS (⟨#[]⟩ : ByteArray).data.toList (wAll l)).length + 2 := by unfold doT; rw [List.length_append]; rfl
  rw [hd] at hlen
  have HP1 := Lib.hid (begin0_any B b X W1 hB1 HW.out (by omega))
  have HWW := Lib.hid hw
  clear hr hc h hb0 hv hall hw
  go_enter Tryz.func42, Tryz.ntmps42
  go_upto_region 1 with fail
  rw [← hW1, ← hg]
  clear hW1 hg
  go_wp2_with (first
    | (go_at_call 35; refine HP1.out.mono ?_; rintro e w2 ⟨rfl, h2, hb2, hk2⟩; have HB2 := Lib.hid (HB.out.trans hb2); have HK2 := Lib.hid (HK.out.trans hk2); have hx2 := hk2 g _ _ (by decide) hgb HX.out; obtain ⟨x0, x1, x2, x3, x4, x5, x6, x7, _⟩ := box8s _ g _ _ _ _ _ _ _ _ _ hx2; have hs2 := Nat.le_trans hB1 hb2.size; have HP2 := Lib.hid (shList_any ad eD eM eR eS l HWW.out ⟨#[]⟩ B b 0 X w2 lo hi r c (HALL.out _ HB2.out) hll hlo hhi hs2 h2 (HC.out.on HB2.out) (by omega)); clear h2 hb2 hk2 hx2)
    | (go_at_call 39; refine HP2.out.mono ?_; rintro e w3 ⟨rfl, h3, hb3, hk3⟩; have HB3 := Lib.hid (HB2.out.trans hb3); have HK3 := Lib.hid (HK2.out.trans hk3); have hs3 := Nat.le_trans hs2 hb3.size; have HP3 := Lib.hid (put1_any B b 0 _ ⟨#[59, 10]⟩ w3 h3 (by rw [List.length_append]; show X.length + _ + 2 ≤ _; omega) hs3); clear h3 hb3 hk3)
    | (go_at_call 37; refine HP3.out.mono ?_; rintro e w4 ⟨rfl, h4, hb4, hk4⟩; have H4 := Lib.hid h4; have HB4 := Lib.hid (HB3.out.trans hb4); have HK4 := Lib.hid (HK3.out.trans hk4); clear h4 hb4 hk4))
  go_end0
  have h := H4.out
  rw [List.append_assoc] at h
  exact ⟨rfl, h, HB4.out, HK4.out⟩
set_option maxHeartbeats 4000000 in
theorem statement_do (ad : Nat → Addr) (eD eM eR eS : Value) (n : Int) (s : ByteArray) (v : T) (l : List Nd) (hw : ∀ t ∈ l, WOk ad eD eM eR eS t) (hll : l.length ≤ 1000000) : SOk ad eD eM eR eS (.mk 40 n s v l) (doT l) := by
  intro B b X w lo hi x hr hlo hhi hBw h hc hlen
  have HR := Lib.hid (fun W (hb : Below B w W) => hr.below hb hhi)
  obtain ⟨k, m, z, q, ql, qc, r, c, rfl, _⟩ := hr.open
  obtain ⟨W1, hW1⟩ : ∃ W1, W1 = w.alloc (.cells #[.int .i64 40, .int .i64 n, .string s, .int .i64 k, .int .i64 m, .string z, .slice q ql qc, .slice r l.length c] 33) := ⟨_, rfl⟩
  have hb0 : Below w.heap.size w W1 := hW1 ▸ (Below.refl w.heap.size w).alloc (Nat.le_refl _) _
  have HX : Hid (W1.heap[w.heap.size]? = some (.cells #[.int .i64 40, .int .i64 n, .string s, .int .i64 k, .int .i64 m, .string z, .slice q ql qc, .slice r l.length c] 33 (0, 0))) := hW1 ▸ heap_alloc_new w _
  have hB1 : B ≤ W1.heap.size := Nat.le_trans hBw hb0.size
  have HB := Lib.hid (hb0.mono hBw)
  have HK : Hid (Kp b w W1) := Kp.of_below hb0
  have HP := Lib.hid (simple_do ad eD eM eR eS n s v l hw hll B b X W1 lo hi _ (HR.out _ HB.out) hlo hhi hB1 (h.below hb0) (hc.on HB.out) hlen)
  obtain ⟨g, hg⟩ : ∃ g, g = w.heap.size := ⟨_, rfl⟩
  rw [← hg] at HX
  clear hr hc h hb0 hw
  obtain ⟨x0, x1, x2, x3, x4, x5, x6, x7, _⟩ := box8s _ g _ _ _ _ _ _ _ _ _ HX.out
  go_enter Tryz.func20, Tryz.ntmps20
  go_upto_region 1 with fail
  rw [← hW1, ← hg]
  clear hW1 hg
  go_wp2_with (go_at_call 42; refine HP.out.mono ?_; rintro e w2 ⟨rfl, h2, hb2, hk2⟩; have H2 := Lib.hid h2; have HB2 := Lib.hid (HB.out.trans hb2); have HK2 := Lib.hid (HK.out.trans hk2); clear h2 hb2 hk2)
  go_end0
  exact ⟨rfl, H2.out, HB2.out, HK2.out⟩

set_option maxHeartbeats 2000000 in
theorem statements_any (ad : Nat → Addr) (eD eM eR eS : Value) (l : List Nd) (tx_ : Nd → List UInt8) (hs : ∀ t ∈ l, SOk ad eD eM eR eS t (tx_ t)) (B b : Nat) (X : List UInt8) (w : World) (lo hi : Nat) (p : Option Addr) (cap : Nat) (hall : NAll w lo hi l p) (hlc : l.length ≤ 1000000) (hlo : lo ≤ B) (hhi : hi ≤ B) (hBw : B ≤ w.heap.size) (h : Wr B b 0 X w) (hc : Ctx ad eD eM eR eS B w)
    (hlen : X.length + (l.flatMap tx_).length ≤ 70368744177664) :
    Calls Tryz.prog 11 #[.pointer (some ⟨b, 0, none⟩), .slice p l.length cap] w (WPost B b 0 (X ++ l.flatMap tx_) w) := by
  have HALL := Lib.hid (fun W (hb : Below B w W) => hall.below hb hhi)
  have HC := Lib.hid hc
  have HSO := Lib.hid hs
  have H := Lib.hid h
  clear hall hc hs h
  have hll : (l.length : Int) ≤ 1000000 := by omega
  have hmono : ∀ j, ((l.take j).flatMap tx_).length ≤ (l.flatMap tx_).length := fun j => by
    have := congrArg (fun l => (l.flatMap tx_).length) (List.take_append_drop j l)
    simp only [List.flatMap_append, List.length_append] at this
    omega
  have HM := Lib.hid hmono
  clear hmono
  go_enter Tryz.func11, Tryz.ntmps11
  go_wp2
  go_loopw [8] (fun i wr => ∃ j : Nat, j ≤ l.length ∧ i = .int .i64 j ∧ Hid (Wr B b 0 (X ++ (l.take j).flatMap tx_) wr) ∧ Hid (Below B w wr) ∧ Hid (Kp b w wr)) (fun i _ => l.length - (intOf i).toNat)
  case atStart => exact ⟨0, Nat.zero_le _, rfl, Lib.hid (by simpa using H.out), Lib.hid (Below.refl _ _), Lib.hid (Kp.refl _ _)⟩
  case round =>
    obtain ⟨j, hj, rfl, HW, HB, HK⟩ := hrel
    have hz := HB.out.size
    by_cases hlt : j < l.length
    · obtain ⟨bi, off, o, n, s, v, ll, k, m, z, q, ql, qc, r, c, hp, _, hbhi, hli, h0, h1, h2, h3, h4, h5, h6, h7, hrep⟩ := (HALL.out wr HB.out).item j hlt
      subst hp
      have hbw : bi < wr.heap.size := by omega
      have hBr : B ≤ wr.heap.size := by omega
      have HWT := Lib.hid (HSO.out _ (List.getElem_mem hlt))
      have e1 : (l.take (j + 1)).flatMap tx_ = (l.take j).flatMap tx_ ++ tx_ l[j] := by rw [List.take_succ_eq_append_getElem hlt, List.flatMap_append]; simp
      have hjl := HM.out (j + 1)
      rw [e1, List.length_append] at hjl
      have HST := Lib.hid (show X ++ (l.take (j + 1)).flatMap tx_ = (X ++ (l.take j).flatMap tx_) ++ tx_ l[j] from by rw [e1, List.append_assoc])
      obtain ⟨W1, hW1⟩ : ∃ W1, W1 = wr.alloc (.cells #[.int .i64 o, .int .i64 n, .string s, .int .i64 k, .int .i64 m, .string z, .slice q ql qc, .slice r ll.length c] 33) := ⟨_, rfl⟩
      have hb0 : Below wr.heap.size wr W1 := hW1 ▸ (Below.refl wr.heap.size wr).alloc (Nat.le_refl _) _
      have HX : Hid (W1.heap[wr.heap.size]? = some (.cells #[.int .i64 o, .int .i64 n, .string s, .int .i64 k, .int .i64 m, .string z, .slice q ql qc, .slice r ll.length c] 33 (0, 0))) := hW1 ▸ heap_alloc_new wr _
      have HB1 := Lib.hid (hb0.mono hBr)
      have HK1 : Hid (Kp b wr W1) := Kp.of_below hb0
      have HC1 := Lib.hid (HWT.out B b _ W1 lo hi _ (hrep.below HB1.out hhi) hlo hhi (Nat.le_trans hBr hb0.size) (HW.out.below hb0) ((HC.out.on HB.out).on HB1.out) (by rw [List.length_append]; omega))
      obtain ⟨g, hg⟩ : ∃ g, g = wr.heap.size := ⟨_, rfl⟩
      rw [← hg] at HX
      clear hrep hli hb0 e1
      go_upto_region 3 with fail
      rw [← hW1, ← hg]
      clear hW1 hg h0 h1 h2 h3 h4 h5 h6 h7
      obtain ⟨x0, x1, x2, x3, x4, x5, x6, x7, _⟩ := box8s _ g _ _ _ _ _ _ _ _ _ HX.out
      go_wp2_with (go_at_call 20; refine HC1.out.mono ?_; rintro e w2 ⟨rfl, h2, hb2, hk2⟩; have H2 := Lib.hid h2; have HB2 := Lib.hid (HB1.out.trans hb2); have HK2 := Lib.hid (HK1.out.trans hk2); clear h2 hb2 hk2)
      go_roundw
      case rel => exact ⟨j + 1, by omega, by go_num, by rw [HST.out]; exact H2, Lib.hid (HB.out.trans HB2.out), Lib.hid (HK.out.trans HK2.out)⟩
      case measure => simp [intOf]; omega
    · have hje : j = l.length := by omega
      have HF := Lib.hid (show X ++ l.flatMap tx_ = X ++ (l.take j).flatMap tx_ from by rw [hje, List.take_length])
      go_wp2
      go_end0
      exact ⟨rfl, by rw [HF.out]; exact HW.out, HB.out, HK.out⟩
end Go.Proofs.YtemkikjcjhmlaaaGreatDoor.Sh
namespace Go.Proofs.YtemkikjcjhmlaaaGreatDoor.Sh
open Go.RowKit
set_option maxRecDepth 100000

/-- The program's variables, as the walks need them. -/
structure Glob (ad : Nat → Addr) (eD eM eR eS : Value) (w : World) : Prop where
  e : EnvS w eD eM eR eS
  s : Sn w ad
  g : ∀ i : Nat, 5 ≤ i → i ≤ 18 → w.cell? ⟨4, i, none⟩ = some (.string ⟨(sgT i).toArray⟩)
theorem Glob.below {ad : Nat → Addr} {eD eM eR eS : Value} {w w' : World} (h : Glob ad eD eM eR eS w) (hb : Below w.heap.size w w') : Glob ad eD eM eR eS w' :=
  ⟨h.e.below hb, h.s.below hb, fun i h1 h2 => (hb.cell (World.block_lt_of_cell? w _ (h.g i h1 h2))).trans (h.g i h1 h2)⟩
theorem Glob.ctx {ad : Nat → Addr} {eD eM eR eS : Value} {w : World} (h : Glob ad eD eM eR eS w) : Ctx ad eD eM eR eS w.heap.size w :=
  ⟨fun _ hb => (h.below hb).e, fun _ hb => (h.below hb).s, fun _ hb => (h.below hb).g⟩

set_option maxHeartbeats 1000000 in
theorem program_any (ad : Nat → Addr) (eD eM eR eS : Value) (l : List Nd) (tx_ : Nd → List UInt8) (hs : ∀ t ∈ l, SOk ad eD eM eR eS t (tx_ t)) (w : World) (lo hi : Nat) (p : Option Addr) (cap : Nat) (hall : NAll w lo hi l p) (hlc : l.length ≤ cap) (hl : l.length ≤ 1000000) (hlo : lo ≤ w.heap.size) (hhi : hi ≤ w.heap.size) (hG : Glob ad eD eM eR eS w) (hv : vldF l 0 = .ok)
    (hlen : (l.flatMap tx_).length ≤ 70368744177664) :
    Calls Tryz.prog 6 #[.slice p l.length cap] w fun e w' => e = .returned (.tuple #[.string ⟨(l.flatMap tx_).toArray⟩, .nilIface]) ∧ Below w.heap.size w w' := by
  have HV := Lib.hid (tvalid_any ad l w lo hi p cap hall hhi hlc (by omega) hG.s)
  rw [hv] at HV
  have HALL := Lib.hid hall
  have HG := Lib.hid hG
  have HS := Lib.hid hs
  clear hall hG hs hv
  go_enter Tryz.func6, Tryz.ntmps6
  go_wp2_with (first
    | (go_at_call 10; refine HV.out.mono ?_; rintro e w2 ⟨hb2, rfl⟩; have HB2 := Lib.hid hb2; have hs2 := hb2.size; have HW2 := Lib.hid (Wr.fresh w2); have hb3 : Below w2.heap.size w2 (w2.alloc (.cells #[.pointer none, .slice none 0 0, .int .i64 0] 45)) := (Below.refl _ w2).alloc (Nat.le_refl _) _; have HB3 := Lib.hid hb3; have HP := Lib.hid (statements_any ad eD eM eR eS l tx_ HS.out w2.heap.size w2.heap.size [] _ lo hi p cap ((HALL.out.below hb2 hhi).below hb3 (by omega)) hl (by omega) (by omega) hb3.size HW2.out ((HG.out.below hb2).ctx.on hb3) (by simpa using hlen)); clear hb2 hb3)
    | (go_at_call 11; refine HP.out.mono ?_; rintro e w4 ⟨rfl, h4, hb4, _⟩; have HB4 := Lib.hid (HB3.out.trans hb4); have HST := Lib.hid (string_any w2.heap.size w2.heap.size 0 _ w4 h4 (HB3.out.trans hb4).size); clear h4 hb4)
    | (go_at_call 12; refine HST.out.mono ?_; rintro e w5 ⟨rfl, hb5⟩; have HB5 := Lib.hid (HB2.out.trans ((HB4.out.trans hb5).mono HB2.out.size)); clear hb5))
  go_ret2
  exact ⟨rfl, HB5.out⟩

def litN (k : Int) : Nd := .mk 1 0 ⟨#[]⟩ (.mk 0 k ⟨#[]⟩ []) []
def varX : Nd := .mk 2 0 ⟨#[120]⟩ zV []
def addN : Nd := .mk 5 0 ⟨#[]⟩ zV [litN 1, litN 2]
def mulN : Nd := .mk 7 0 ⟨#[]⟩ zV [addN, litN 3]
def setN : Nd := .mk 27 0 ⟨#[]⟩ zV [varX, mulN]
def doN : Nd := .mk 40 0 ⟨#[]⟩ zV [setN]
theorem two_ok {P : Nd → Prop} {a b : Nd} (ha : P a) (hb : P b) : ∀ t ∈ [a, b], P t := by
  intro t ht
  simp only [List.mem_cons, List.not_mem_nil, or_false] at ht
  rcases ht with rfl | rfl
  · exact ha
  · exact hb
theorem one_ok {P : Nd → Prop} {a : Nd} (ha : P a) : ∀ t ∈ [a], P t := by
  intro t ht
  simp only [List.mem_cons, List.not_mem_nil, or_false] at ht
  rcases ht with rfl
  exact ha
theorem valid8 : vldF [doN] 0 = .ok := by kernel_rfl
theorem text8 : ([doN] : List Nd).flatMap (fun _ => doT [setN]) = [120, 32, 61, 32, 40, 49, 32, 43, 32, 50, 41, 32, 42, 32, 51, 59, 10] := by kernel_rfl
theorem sok8 (ad : Nat → Addr) (eD eM eR eS : Value) (hP : Ptrs eD eM eR eS) : ∀ t ∈ [doN], SOk ad eD eM eR eS t (doT [setN]) := by
  have hl : ∀ k : Int, (odd (.mk 0 k ⟨#[]⟩ []) 1 0).1 = 0 → WOk ad eD eM eR eS (litN k) := fun k h => whole_lit ad eD eM eR eS hP 0 _ _ _ h
  have ha := whole_bin5 ad eD eM eR eS 0 ⟨#[]⟩ zV (litN 1) (litN 2) (hl 1 rfl) (hl 2 rfl)
  have hm := whole_bin7 ad eD eM eR eS 0 ⟨#[]⟩ zV addN (litN 3) ha (hl 3 rfl)
  have hs := whole_set ad eD eM eR eS 0 ⟨#[]⟩ zV [varX, mulN] (two_ok (whole_var ad eD eM eR eS 0 ⟨#[120]⟩ zV []) hm) (by simp)
  exact one_ok (statement_do ad eD eM eR eS 0 ⟨#[]⟩ zV [setN] (one_ok hs) (by simp))
theorem two_row {w : World} {lo hi g : Nat} {t1 t2 : Nd} {a0 a1 a2 a3 a4 a5 a6 a7 b0 b1 b2 b3 b4 b5 b6 b7 : Value} (h1 : NRep w lo hi t1 (.agg #[a0, a1, a2, a3, a4, a5, a6, a7])) (h2 : NRep w lo hi t2 (.agg #[b0, b1, b2, b3, b4, b5, b6, b7])) (hlo : lo ≤ g) (hhi : g < hi)
    (hg : w.heap[g]? = some (.cells #[a0, a1, a2, a3, a4, a5, a6, a7, b0, b1, b2, b3, b4, b5, b6, b7] 33 (0, 0))) : NAll w lo hi [t1, t2] (some ⟨g, 0, none⟩) := by
  refine NAll.of hlo hhi [t1, t2] 0 (fun i hi => ?_)
  have hc := fun k => cell_of_row _ _ k _ _ _ hg
  match i, hi with
  | 0, _ => exact ⟨_, _, _, _, _, _, _, _, (hc 0).trans rfl, (hc 1).trans rfl, (hc 2).trans rfl, (hc 3).trans rfl, (hc 4).trans rfl, (hc 5).trans rfl, (hc 6).trans rfl, (hc 7).trans rfl, h1⟩
  | 1, _ => exact ⟨_, _, _, _, _, _, _, _, (hc 8).trans rfl, (hc 9).trans rfl, (hc 10).trans rfl, (hc 11).trans rfl, (hc 12).trans rfl, (hc 13).trans rfl, (hc 14).trans rfl, (hc 15).trans rfl, h2⟩
theorem one_row1 {w : World} {lo hi g : Nat} {t1 : Nd} {a0 a1 a2 a3 a4 a5 a6 a7 : Value} (h1 : NRep w lo hi t1 (.agg #[a0, a1, a2, a3, a4, a5, a6, a7])) (hlo : lo ≤ g) (hhi : g < hi)
    (hg : w.heap[g]? = some (.cells #[a0, a1, a2, a3, a4, a5, a6, a7] 33 (0, 0))) : NAll w lo hi [t1] (some ⟨g, 0, none⟩) := by
  refine NAll.of hlo hhi [t1] 0 (fun i hi => ?_)
  have hc := fun k => cell_of_row _ _ k _ _ _ hg
  match i, hi with
  | 0, _ => exact ⟨_, _, _, _, _, _, _, _, (hc 0).trans rfl, (hc 1).trans rfl, (hc 2).trans rfl, (hc 3).trans rfl, (hc 4).trans rfl, (hc 5).trans rfl, (hc 6).trans rfl, (hc 7).trans rfl, h1⟩
theorem lit_rep (w : World) (lo hi : Nat) (k : Int) (hk : I64 k) : NRep w lo hi (litN k) (.agg #[.int .i64 1, .int .i64 0, .string ⟨#[]⟩, .int .i64 0, .int .i64 k, .string ⟨#[]⟩, .slice none 0 0, .slice none 0 0]) := by
  unfold litN NRep
  refine ⟨0, k, ⟨#[]⟩, none, 0, 0, none, 0, rfl, by unfold I64; omega, by unfold I64; omega, by show (0 : Nat) ≤ _; omega, ?_, Nat.le_refl _, by simp, NAll.nil _ _ _ _⟩
  unfold Rep
  exact ⟨none, 0, rfl, by unfold I64; omega, hk, by show (0 : Nat) ≤ _; omega, Nat.le_refl _, by simp, by unfold RepAll; trivial⟩
theorem var_rep (w : World) (lo hi : Nat) : NRep w lo hi varX (.agg #[.int .i64 2, .int .i64 0, .string ⟨#[120]⟩, .int .i64 0, .int .i64 0, .string ⟨#[]⟩, .slice none 0 0, .slice none 0 0]) := by
  unfold varX NRep
  exact ⟨0, 0, ⟨#[]⟩, none, 0, 0, none, 0, rfl, by unfold I64; omega, by unfold I64; omega, by show (1 : Nat) ≤ _; omega, zV_rep _ _ _, Nat.le_refl _, by simp, NAll.nil _ _ _ _⟩
theorem f1_any (k : Int) (w : World) : Calls Tryz.prog 7 #[.int .i64 k] w fun e w' => e = .returned (.agg #[.int .i64 1, .int .i64 0, .string ⟨#[]⟩, .int .i64 0, .int .i64 k, .string ⟨#[]⟩, .slice none 0 0, .slice none 0 0]) ∧ Below w.heap.size w w' := by
  have hb : ∀ o : Obj, Below w.heap.size w (w.alloc o) := fun o => (Below.refl _ _).alloc (Nat.le_refl _) _
  have HB := Lib.hid hb
  clear hb
  go_enter Tryz.func7, Tryz.ntmps7
  go_wp2
  have hx := heap_alloc_new w (.cells #[.int .i64 1, .int .i64 0, .string ⟨#[]⟩, .int .i64 0, .int .i64 k, .string ⟨#[]⟩, .slice none 0 0, .slice none 0 0] 33)
  obtain ⟨x0, x1, x2, x3, x4, x5, x6, x7, _⟩ := box8s _ _ _ _ _ _ _ _ _ _ _ hx
  refine bodyPost_ret (v := .agg #[.int .i64 1, .int .i64 0, .string ⟨#[]⟩, .int .i64 0, .int .i64 k, .string ⟨#[]⟩, .slice none 0 0, .slice none 0 0]) (by simp [results, Tryz.results7, go_sem, x0, x1, x2, x3, x4, x5, x6, x7]) rfl ?_
  exact ⟨rfl, HB.out _⟩

abbrev nV (k : Int) (a : Value) : List Value := [.int .i64 k, .int .i64 0, .string ⟨#[]⟩, .int .i64 0, .int .i64 0, .string ⟨#[]⟩, .slice none 0 0, a]
theorem n_rep {w : World} {lo hi : Nat} (k : Int) (hk : I64 k) (ts : List Nd) (n : Nat) (hn : ts.length = n) (hn1 : n < 100) (p : Option Addr) (h : NAll w lo hi ts p) : NRep w lo hi (.mk k 0 ⟨#[]⟩ zV ts) (.agg #[.int .i64 k, .int .i64 0, .string ⟨#[]⟩, .int .i64 0, .int .i64 0, .string ⟨#[]⟩, .slice none 0 0, .slice p n n]) := by
  subst hn
  unfold NRep
  exact ⟨0, 0, ⟨#[]⟩, none, 0, 0, p, ts.length, rfl, hk, by unfold I64; omega, by show (0 : Nat) ≤ _; omega, zV_rep _ _ _, Nat.le_refl _, by omega, h⟩

theorem rows8 (w4 : World) (r1 : Nat) (hx : w4.heap[r1]? = some (.cells #[.int .i64 1, .int .i64 0, .string ⟨#[]⟩, .int .i64 0, .int .i64 1, .string ⟨#[]⟩, .slice none 0 0, .slice none 0 0, .int .i64 1, .int .i64 0, .string ⟨#[]⟩, .int .i64 0, .int .i64 2, .string ⟨#[]⟩, .slice none 0 0, .slice none 0 0] 33 (0, 0)))
    (W : World) (hb : Below w4.heap.size w4 W) (g2 g3 g4 g5 : Nat) (l2 : g2 < W.heap.size) (l3 : g3 < W.heap.size) (l4 : g4 < W.heap.size) (l5 : g5 < W.heap.size)
    (h2 : W.heap[g2]? = some (.cells #[.int .i64 5, .int .i64 0, .string ⟨#[]⟩, .int .i64 0, .int .i64 0, .string ⟨#[]⟩, .slice none 0 0, .slice (some ⟨r1, 0, none⟩) 2 2, .int .i64 1, .int .i64 0, .string ⟨#[]⟩, .int .i64 0, .int .i64 3, .string ⟨#[]⟩, .slice none 0 0, .slice none 0 0] 33 (0, 0)))
    (h3 : W.heap[g3]? = some (.cells #[.int .i64 2, .int .i64 0, .string ⟨#[120]⟩, .int .i64 0, .int .i64 0, .string ⟨#[]⟩, .slice none 0 0, .slice none 0 0, .int .i64 7, .int .i64 0, .string ⟨#[]⟩, .int .i64 0, .int .i64 0, .string ⟨#[]⟩, .slice none 0 0, .slice (some ⟨g2, 0, none⟩) 2 2] 33 (0, 0)))
    (h4 : W.heap[g4]? = some (.cells #[.int .i64 27, .int .i64 0, .string ⟨#[]⟩, .int .i64 0, .int .i64 0, .string ⟨#[]⟩, .slice none 0 0, .slice (some ⟨g3, 0, none⟩) 2 2] 33 (0, 0)))
    (h5 : W.heap[g5]? = some (.cells #[.int .i64 40, .int .i64 0, .string ⟨#[]⟩, .int .i64 0, .int .i64 0, .string ⟨#[]⟩, .slice none 0 0, .slice (some ⟨g4, 0, none⟩) 1 1] 33 (0, 0))) :
    NAll W 0 W.heap.size [doN] (some ⟨g5, 0, none⟩) := by
  have i : ∀ k : Int, 0 ≤ k → k < 100 → I64 k := fun k h1 h2 => by unfold I64; omega
  have hx1 := heap_old hx hb
  have l1 : r1 < W.heap.size := ltW hx1
  have a1 : NAll W 0 W.heap.size [litN 1, litN 2] (some ⟨r1, 0, none⟩) := two_row (lit_rep _ _ _ 1 (i 1 (by omega) (by omega))) (lit_rep _ _ _ 2 (i 2 (by omega) (by omega))) (Nat.zero_le _) l1 hx1
  have a2 : NAll W 0 W.heap.size [addN, litN 3] (some ⟨g2, 0, none⟩) := two_row (n_rep 5 (i 5 (by omega) (by omega)) _ 2 rfl (by omega) _ a1) (lit_rep _ _ _ 3 (i 3 (by omega) (by omega))) (Nat.zero_le _) l2 h2
  have a3 : NAll W 0 W.heap.size [varX, mulN] (some ⟨g3, 0, none⟩) := two_row (var_rep _ _ _) (n_rep 7 (i 7 (by omega) (by omega)) _ 2 rfl (by omega) _ a2) (Nat.zero_le _) l3 h3
  have a4 : NAll W 0 W.heap.size [setN] (some ⟨g4, 0, none⟩) := one_row1 (n_rep 27 (i 27 (by omega) (by omega)) _ 2 rfl (by omega) _ a3) (Nat.zero_le _) l4 h4
  exact one_row1 (n_rep 40 (i 40 (by omega) (by omega)) _ 1 rfl (by omega) _ a4) (Nat.zero_le _) l5 h5

theorem prog8 (ad : Nat → Addr) (eD eM eR eS : Value) (hP : Ptrs eD eM eR eS) (w : World) (hG : Glob ad eD eM eR eS w) (g : Nat) (hall : NAll w 0 w.heap.size [doN] (some ⟨g, 0, none⟩)) :
    Calls Tryz.prog 6 #[.slice (some ⟨g, 0, none⟩) 1 1] w fun e w' => e = .returned (.tuple #[.string ⟨#[120, 32, 61, 32, 40, 49, 32, 43, 32, 50, 41, 32, 42, 32, 51, 59, 10]⟩, .nilIface]) ∧ Below w.heap.size w w' := by
  have h := program_any ad eD eM eR eS [doN] (fun _ => doT [setN]) (sok8 ad eD eM eR eS hP) w 0 w.heap.size _ 1 hall (by simp) (by simp) (Nat.zero_le _) (Nat.le_refl _) hG valid8 (by rw [text8]; decide)
  rw [text8] at h
  exact h

theorem world8 (ad : Nat → Addr) (eD eM eR eS : Value) (hP : Ptrs eD eM eR eS) (w : World) (hG : Glob ad eD eM eR eS w) (n3 : Nat) (w4 : World) (hbw : Below w.heap.size w w4)
    (hx : w4.heap[n3]? = some (.cells #[.int .i64 1, .int .i64 0, .string ⟨#[]⟩, .int .i64 0, .int .i64 1, .string ⟨#[]⟩, .slice none 0 0, .slice none 0 0, .int .i64 1, .int .i64 0, .string ⟨#[]⟩, .int .i64 0, .int .i64 2, .string ⟨#[]⟩, .slice none 0 0, .slice none 0 0] 33 (0, 0)))
    (ob : Obj) :
    Calls Tryz.prog 6 #[.slice (some ⟨w4.heap.size + 1 + 1 + 1 + 1, 0, none⟩) 1 1]
      (((((w4.alloc (.cells #[.int .i64 5, .int .i64 0, .string ⟨#[]⟩, .int .i64 0, .int .i64 0, .string ⟨#[]⟩, .slice none 0 0, .slice (some ⟨n3, 0, none⟩) 2 2, .int .i64 1, .int .i64 0, .string ⟨#[]⟩, .int .i64 0, .int .i64 3, .string ⟨#[]⟩, .slice none 0 0, .slice none 0 0] 33)).alloc ob).alloc
        (.cells #[.int .i64 2, .int .i64 0, .string ⟨#[120]⟩, .int .i64 0, .int .i64 0, .string ⟨#[]⟩, .slice none 0 0, .slice none 0 0, .int .i64 7, .int .i64 0, .string ⟨#[]⟩, .int .i64 0, .int .i64 0, .string ⟨#[]⟩, .slice none 0 0, .slice (some ⟨w4.heap.size, 0, none⟩) 2 2] 33)).alloc
        (.cells #[.int .i64 27, .int .i64 0, .string ⟨#[]⟩, .int .i64 0, .int .i64 0, .string ⟨#[]⟩, .slice none 0 0, .slice (some ⟨w4.heap.size + 1 + 1, 0, none⟩) 2 2] 33)).alloc
        (.cells #[.int .i64 40, .int .i64 0, .string ⟨#[]⟩, .int .i64 0, .int .i64 0, .string ⟨#[]⟩, .slice none 0 0, .slice (some ⟨w4.heap.size + 1 + 1 + 1, 0, none⟩) 1 1] 33))
      fun e w' => e = .returned (.tuple #[.string ⟨#[120, 32, 61, 32, 40, 49, 32, 43, 32, 50, 41, 32, 42, 32, 51, 59, 10]⟩, .nilIface]) ∧ Below w.heap.size w w' := by
  have hal : ∀ (w : World) (o : Obj), Below w.heap.size w (w.alloc o) := fun w o => (Below.refl _ _).alloc (Nat.le_refl _) _
  have hsz : ∀ (w : World) (o : Obj), (w.alloc o).heap.size = w.heap.size + 1 := fun w o => World.size_alloc _ _
  generalize hA : w4.alloc _ = A
  have a2 : A.heap[w4.heap.size]? = _ := hA ▸ heap_alloc_new w4 _
  have ab : Below w4.heap.size w4 A := hA ▸ hal w4 _
  have sa : A.heap.size = w4.heap.size + 1 := hA ▸ hsz w4 _
  clear hA
  generalize hB : A.alloc _ = B
  have b2 := heap_old a2 (hB ▸ hal A _ : Below A.heap.size A B)
  have bb := ab.trans ((hB ▸ hal A _ : Below A.heap.size A B).mono ab.size)
  have bs : B.heap.size = w4.heap.size + 1 + 1 := by rw [← sa]; exact hB ▸ hsz A _
  clear hB
  generalize hC : B.alloc _ = C
  have c3 : C.heap[B.heap.size]? = _ := hC ▸ heap_alloc_new B _
  have c2 := heap_old b2 (hC ▸ hal B _ : Below B.heap.size B C)
  have cb := bb.trans ((hC ▸ hal B _ : Below B.heap.size B C).mono bb.size)
  have cs : C.heap.size = w4.heap.size + 1 + 1 + 1 := by rw [← bs]; exact hC ▸ hsz B _
  clear hC
  rw [bs] at c3
  generalize hD : C.alloc _ = D
  have d4 : D.heap[C.heap.size]? = _ := hD ▸ heap_alloc_new C _
  have d3 := heap_old c3 (hD ▸ hal C _ : Below C.heap.size C D)
  have d2 := heap_old c2 (hD ▸ hal C _ : Below C.heap.size C D)
  have db := cb.trans ((hD ▸ hal C _ : Below C.heap.size C D).mono cb.size)
  have ds : D.heap.size = w4.heap.size + 1 + 1 + 1 + 1 := by rw [← cs]; exact hD ▸ hsz C _
  clear hD
  rw [cs] at d4
  generalize hE : D.alloc _ = E
  have e5 : E.heap[D.heap.size]? = _ := hE ▸ heap_alloc_new D _
  have e4 := heap_old d4 (hE ▸ hal D _ : Below D.heap.size D E)
  have e3 := heap_old d3 (hE ▸ hal D _ : Below D.heap.size D E)
  have e2 := heap_old d2 (hE ▸ hal D _ : Below D.heap.size D E)
  have eb := db.trans ((hE ▸ hal D _ : Below D.heap.size D E).mono db.size)
  have es : E.heap.size = w4.heap.size + 1 + 1 + 1 + 1 + 1 := by rw [← ds]; exact hE ▸ hsz D _
  clear hE
  rw [ds] at e5
  have hn := rows8 w4 n3 hx E eb _ _ _ _ (by omega) (by omega) (by omega) (by omega) e2 e3 e4 e5
  have hbE := hbw.trans (eb.mono hbw.size)
  exact (prog8 ad eD eM eR eS hP E (hG.below hbE) _ hn).mono fun e w' ⟨h1, h2⟩ => ⟨h1, hbE.trans (h2.mono hbE.size)⟩

set_option maxHeartbeats 2000000 in
theorem first8_any (ad : Nat → Addr) (eD eM eR eS : Value) (hP : Ptrs eD eM eR eS) (w : World) (hG : Glob ad eD eM eR eS w) :
    Calls Tryz.prog 4 #[] w fun e w' => e = .returned (.bool true) ∧ Below w.heap.size w w' := by
  have HF1 := Lib.hid (f1_any 1 w)
  have HS := Lib.hid (sok8 ad eD eM eR eS hP)
  have HG := Lib.hid hG
  clear hG
  go_enter Tryz.func4, Tryz.ntmps4
  go_wp2_with (first
    | (go_at_call 7; (with_reducible refine HF1.out.mono ?_); rintro e w2 ⟨rfl, hb2⟩; have HB2 := Lib.hid hb2; have HF2 := Lib.hid (f1_any 2 w2); clear hb2 HF1)
    | (go_at_call 7; (with_reducible refine HF2.out.mono ?_); rintro e w3 ⟨rfl, hb3⟩; have HB3 := Lib.hid (HB2.out.trans (hb3.mono HB2.out.size)); have HBR := Lib.hid ((Below.refl w3.heap.size w3).alloc (Nat.le_refl _) (.cells #[.int .i64 1, .int .i64 0, .string ⟨#[]⟩, .int .i64 0, .int .i64 1, .string ⟨#[]⟩, .slice none 0 0, .slice none 0 0, .int .i64 1, .int .i64 0, .string ⟨#[]⟩, .int .i64 0, .int .i64 2, .string ⟨#[]⟩, .slice none 0 0, .slice none 0 0] 33)); have HX1 := Lib.hid (heap_alloc_new w3 (.cells #[.int .i64 1, .int .i64 0, .string ⟨#[]⟩, .int .i64 0, .int .i64 1, .string ⟨#[]⟩, .slice none 0 0, .slice none 0 0, .int .i64 1, .int .i64 0, .string ⟨#[]⟩, .int .i64 0, .int .i64 2, .string ⟨#[]⟩, .slice none 0 0, .slice none 0 0] 33)); have HF3 := Lib.hid (f1_any 3 (w3.alloc (.cells #[.int .i64 1, .int .i64 0, .string ⟨#[]⟩, .int .i64 0, .int .i64 1, .string ⟨#[]⟩, .slice none 0 0, .slice none 0 0, .int .i64 1, .int .i64 0, .string ⟨#[]⟩, .int .i64 0, .int .i64 2, .string ⟨#[]⟩, .slice none 0 0, .slice none 0 0] 33))); clear hb3 HF2)
    | (go_at_call 7; (with_reducible refine HF3.out.mono ?_); rintro e w4 ⟨rfl, hb4⟩; have HX2 := Lib.hid (heap_old HX1.out hb4); have HB34 := Lib.hid (HBR.out.trans (hb4.mono HBR.out.size)); clear hb4 HF3 HX1)
    | (go_at_call 6; (with_reducible refine (world8 ad eD eM eR eS hP w HG.out w3.heap.size _ (HB3.out.trans (HB34.out.mono HB3.out.size)) HX2.out _).mono ?_); rintro e w5 ⟨rfl, hb5⟩; have HB5 := Lib.hid hb5; clear hb5))
  go_ret
  exact ⟨rfl, HB5.out⟩
end Go.Proofs.YtemkikjcjhmlaaaGreatDoor.Sh

namespace Go.Proofs.YtemkikjcjhmlaaaGreatDoor
open Go.RowKit
set_option maxRecDepth 100000

theorem starE : "*" ++ "errors.errorString" = "*errors.errorString" := by decide
theorem Tryz.rowE (u : TypeId) (h : Tryz.prog.typeName? 3 u = some "*errors.errorString") : u = 146 :=
  typeName_ptr_named (nm := "errors.errorString") (by rw [starE]; kernel_rfl) (by kernel_rfl) (by decide) u (by rw [starE]; exact h)
theorem Tryz.cellsEE : Tryz.prog.cellsOf 160 = 1 := by kernel_rfl
theorem Tryz.cellsSS : Tryz.prog.cellsOf 9 = 1 := by kernel_rfl

def datumOf (x : String × List UInt8 × Nat) : String × DataW Unit := (x.1, .iface "*errors.errorString" (.ptr (.agg [.lit (.string x.2.1)])))
def pl (a : Addr) : MemPlace := .cell a.block a.off
def flat : List (String × List UInt8 × Nat) → List Addr → List MemPlace
  | x :: L, a :: r => .cell x.2.2 0 :: pl a :: flat L r
  | _, _ => []

theorem laid_list (W : World) : ∀ (L : List (String × List UInt8 × Nat)) (ps : List MemPlace), (∀ x ∈ L, Tryz.prog.globalNamed x.1 = some x.2.2 ∧ (Tryz.prog.globals[x.2.2]?).map (·.type) = some 26) → DataW.LaidVars Tryz.prog W (L.map datumOf) ps →
    (∀ b off, MemPlace.cell b off ∈ ps → (∃ c t, W.heap[b]? = some (.cells c t (0, 0))) ∧ ∀ u v, W.cell? ⟨b, off, none⟩ = some (.iface u v) → Value.okWide Tryz.prog W .any 0 u v) →
    ∃ qs : List Addr, qs.length = L.length ∧ ps = flat L qs ∧ (∀ a ∈ qs, a.spot = none) ∧ ∀ (i : Nat) (x : String × List UInt8 × Nat) (a : Addr), L[i]? = some x → qs[i]? = some a → W.cell? ⟨x.2.2, 0, none⟩ = some (ev a)
  | [], ps, _, h, _ => by
    have h : ps = [] := h
    subst h
    exact ⟨[], rfl, rfl, by simp, by simp⟩
  | x :: L, ps, hg, h, hrows => by
    obtain ⟨g0, t0, cs0, f0, p0, q0, hg0, ht0, hv0, hd0, hq, e0⟩ := h
    obtain ⟨e1, e2⟩ := hg x (by simp)
    obtain rfl := Option.some.inj (e1.symm.trans hg0)
    obtain rfl := Option.some.inj (e2.symm.trans ht0)
    obtain ⟨l0⟩ := cs0
    have ok0 : ∀ u v, l0 = [.iface u v] → Value.okWide Tryz.prog W .any 0 u v := fun u v e => by
      subst e
      exact (hrows x.2.2 0 (by rw [e0]; simp [MemPlace.row])).2 u v (by simpa using World.var?_cell hg0 hv0 0)
    obtain ⟨a0, s0, rfl, hc0, _, _, rfl⟩ := errorString_of_trod Tryz.underlying26 Tryz.rowE Tryz.underlying146 Tryz.underlying160 rfl rfl Tryz.underlying9 Tryz.cellsEE Tryz.cellsSS hd0 ok0
    have hsp := spot_none hc0
    obtain ⟨qs, hl, hps, hspots, hcells⟩ := laid_list W L q0 (fun y hy => hg y (by simp [hy])) hq (fun b off hm => hrows b off (by rw [e0]; simp [hm]))
    refine ⟨a0 :: qs, by simp [hl], ?_, ?_, ?_⟩
    · rw [e0, hps]; simp [MemPlace.row, flat, pl]
    · intro a ha
      rcases List.mem_cons.1 ha with rfl | ha
      · exact hsp
      · exact hspots a ha
    · intro i y a hy ha
      cases i with
      | zero =>
        simp at hy ha
        subst hy ha
        simpa [ev] using World.var?_cell hg0 hv0 0
      | succ i => exact hcells i y a (by simpa using hy) (by simpa using ha)

theorem nodup_inj {α : Type} (l : List α) (h : l.Nodup) (i j : Nat) (hi : i < l.length) (hj : j < l.length) (e : l[i] = l[j]) : i = j := by
  have hp := List.pairwise_iff_getElem.1 h
  rcases Nat.lt_trichotomy i j with h1 | h1 | h1
  · exact absurd e (hp i j hi hj h1)
  · exact h1
  · exact absurd e.symm (hp j i hj hi h1)
theorem flat_sub : ∀ (L : List (String × List UInt8 × Nat)) (qs : List Addr), qs.length = L.length → (qs.map pl).Sublist (flat L qs)
  | [], [], _ => by simp [flat]
  | x :: L, a :: qs, h => by
    simp only [List.map_cons, flat]
    exact List.Sublist.cons _ (List.Sublist.cons_cons _ (flat_sub L qs (by simpa using h)))
  | [], _ :: _, h => by simp at h
  | _ :: _, [], h => by simp at h

/-- One of the listed variables. -/
theorem laid_get (W : World) : ∀ (L : List (String × DataW Unit)) (ps : List MemPlace), DataW.LaidVars Tryz.prog W L ps → ∀ x ∈ L,
    ∃ g t cs fuel p, Tryz.prog.globalNamed x.1 = some g ∧ (Tryz.prog.globals[g]?).map (·.type) = some t ∧ W.var? Tryz.prog x.1 = some cs ∧ DataW.trod (fun _ => ()) Tryz.prog W 0 (fun _ => true) false fuel t cs.toList = some (x.2, p) ∧ ∀ m ∈ MemPlace.row ⟨g, 0, none⟩ cs.size, m ∈ ps
  | [], _, _, x, hx => by cases hx
  | y :: L, ps, h, x, hx => by
    obtain ⟨g, t, cs, fuel, p, q, hg, ht, hv, hd, hq, e⟩ := h
    rcases List.mem_cons.1 hx with rfl | hx
    · exact ⟨g, t, cs, fuel, p, hg, ht, hv, hd, fun m hm => by rw [e]; simp [hm]⟩
    · obtain ⟨g', t', cs', fuel', p', h1, h2, h3, h4, h5⟩ := laid_get W L q hq x hx
      exact ⟨g', t', cs', fuel', p', h1, h2, h3, h4, fun m hm => by rw [e]; simp [h5 m hm]⟩

/-- An array of texts that reads as these holds them. -/
theorem cells_of_strs {H : Type} {enc : TypeId × Value → H} {P : Program} {w : World} {base : Nat} {sp : Nat → Bool} {held : Bool} {fuel : Nat} {t e : TypeId} {n : Nat} {cs : List Value} {zs : List (List UInt8)} {p : List MemPlace}
    (ht : P.underlying t = some (.array n e)) (he : P.underlying e = some .string) (hce : P.cellsOf e = 1) (hct : P.cellsOf t = n)
    (h : DataW.trod enc P w base sp held fuel t cs = some (.agg (zs.map fun z => .lit (.string z)), p)) : cs = zs.map fun z => Value.string ⟨z.toArray⟩ := by
  cases fuel with
  | zero => simp [DataW.trod] at h
  | succ fuel =>
    simp only [DataW.trod, ht, hce, hct, Nat.mul_one] at h
    split at h
    · rename_i hl
      obtain ⟨xs, hm, hx⟩ := Option.map_eq_some_iff.1 h
      have hxs : xs.map (·.1) = zs.map fun z => (DataW.lit (.string z) : DataW H) := by
        have := congrArg Prod.fst hx
        simpa using this
      have hxl : xs.length = n := by simpa using Lib.mapM_length hm
      have hzl : zs.length = n := by
        have := congrArg List.length hxs
        simp at this
        omega
      apply List.ext_getElem?
      intro i
      by_cases hi : i < n
      · obtain ⟨b, hb, hf⟩ := Lib.mapM_at hm i i (by simp [hi])
        obtain ⟨s, hc, rfl, _⟩ := DataW.trod_string he hf
        have h1 : cs[i]? = some (.string s) := by
          have := congrArg (·[0]?) hc
          simpa [List.getElem?_take, List.getElem?_drop] using this
        have h2 : (xs.map (·.1))[i]? = some (DataW.lit (.string s.data.toList) : DataW H) := by simp [hb]
        rw [hxs] at h2
        simp only [List.getElem?_map, Option.map_eq_some_iff, DataW.lit.injEq, Lit.string.injEq] at h2
        obtain ⟨z', hz', rfl⟩ := h2
        simp [h1, hz']
      · rw [List.getElem?_eq_none (by omega), List.getElem?_eq_none (by simp; omega)]
    · cases h

theorem err_of_laid {W : World} {L : List (String × DataW Unit)} (h : laidMet Tryz.prog L W) {nm : String} {text : List UInt8} {g : Nat} (hm : (nm, DataW.iface "*errors.errorString" (.ptr (.agg [.lit (.string text)]))) ∈ L)
    (hg : Tryz.prog.globalNamed nm = some g) (ht : (Tryz.prog.globals[g]?).map (·.type) = some 26) : ∃ a : Addr, W.cell? ⟨g, 0, none⟩ = some (.iface 146 (.pointer (some a))) := by
  obtain ⟨ps, hL, _, hrows⟩ := h
  obtain ⟨g', t, cs, fuel, p, h1, h2, h3, h4, h5⟩ := laid_get W L ps hL _ hm
  obtain rfl := Option.some.inj (hg.symm.trans h1)
  obtain rfl := Option.some.inj (ht.symm.trans h2)
  obtain ⟨l0⟩ := cs
  have ok0 : ∀ u v, l0 = [.iface u v] → Value.okWide Tryz.prog W .any 0 u v := fun u v e => by
    subst e
    exact (hrows g 0 (h5 _ (by simp [MemPlace.row]))).2 u v (by simpa using World.var?_cell hg h3 0)
  obtain ⟨a0, s0, rfl, hc0, _, _, rfl⟩ := errorString_of_trod Tryz.underlying26 Tryz.rowE Tryz.underlying146 Tryz.underlying160 rfl rfl Tryz.underlying9 Tryz.cellsEE Tryz.cellsSS h4 ok0
  exact ⟨a0, by simpa using World.var?_cell hg h3 0⟩

theorem tab_of_laid {W : World} {L : List (String × DataW Unit)} (h : laidMet Tryz.prog L W) {nm : String} {k : IntKind} {zs : List Int} {g t e n : Nat} (hm : (nm, Lib.tabData k zs) ∈ L)
    (hg : Tryz.prog.globalNamed nm = some g) (hty : (Tryz.prog.globals[g]?).map (·.type) = some t) (ht : Tryz.prog.underlying t = some (.array n e)) (he : Tryz.prog.underlying e = some (.int k)) (hce : Tryz.prog.cellsOf e = 1) (hct : Tryz.prog.cellsOf t = n) :
    Lib.TabIs Tryz.prog W nm k zs := by
  obtain ⟨ps, hL, _, hrows⟩ := h
  obtain ⟨g', t', cs, fuel, p, h1, h2, h3, h4, h5⟩ := laid_get W L ps hL _ hm
  obtain rfl := Option.some.inj (hg.symm.trans h1)
  obtain rfl := Option.some.inj (hty.symm.trans h2)
  unfold Lib.TabIs
  rw [h3, ← Lib.cells_of_tab ht he hce hct h4]

theorem names_of_laid {W : World} {L : List (String × DataW Unit)} (h : laidMet Tryz.prog L W) (hm : ("inglenook/lit.names", DataW.agg (names.map fun z => .lit (.string z))) ∈ L) : Names W := by
  obtain ⟨ps, hL, _, hrows⟩ := h
  obtain ⟨g', t', cs, fuel, p, h1, h2, h3, h4, h5⟩ := laid_get W L ps hL _ hm
  have hg : Tryz.prog.globalNamed "inglenook/lit.names" = some 6 := by kernel_rfl
  obtain rfl := Option.some.inj (hg.symm.trans h1)
  have hty : (Tryz.prog.globals[6]?).map (·.type) = some 131 := by kernel_rfl
  obtain rfl := Option.some.inj (hty.symm.trans h2)
  have hcs := cells_of_strs Tryz.underlying131 Tryz.underlying9 Tryz.cellsSS (by kernel_rfl) h4
  refine ⟨fun i hi => ?_⟩
  have hc := World.var?_cell hg h3 i
  rw [hc, ← Array.getElem?_toList, hcs, List.getElem?_map]
  have hi' : i < names.length := hi
  rw [List.getElem?_eq_getElem hi']
  have e : names.getD i [] = names[i] := by simp [List.getD, hi']
  simp only [Option.map_some, nameS, e]

end Go.Proofs.YtemkikjcjhmlaaaGreatDoor
namespace Go.Proofs.YtemkikjcjhmlaaaGreatDoor
open Go.RowKit
set_option maxRecDepth 100000

def sent5 : List (String × List UInt8 × Nat) := [
  ("inglenook/api.ErrShape", [110, 111, 116, 32, 97, 115, 32, 105, 116, 32, 104, 97, 115, 32, 116, 111, 32, 98, 101], 2),
  ("inglenook/api.ErrMany", [116, 111, 111, 32, 109, 97, 110, 121], 0),
  ("inglenook/api.ErrRange", [97, 32, 110, 117, 109, 98, 101, 114, 32, 111, 117, 116, 32, 111, 102, 32, 105, 116, 115, 32, 114, 97, 110, 103, 101], 5),
  ("inglenook/api.ErrName", [110, 111, 32, 110, 97, 109, 101, 32, 116, 104, 97, 116, 32, 109, 97, 121, 32, 98, 101], 3),
  ("inglenook/api.ErrDeep", [116, 111, 111, 32, 100, 101, 101, 112], 1)]
theorem sn_of_laid {W : World} (h : laidMet Tryz.prog (sent5.map datumOf) W) : ∃ ad, Sn W ad := by
  obtain ⟨ps, hL, _, hrows⟩ := h
  obtain ⟨qs, hl, _, _, hc⟩ := laid_list W sent5 ps (by
    intro x hx
    simp only [sent5, List.mem_cons, List.not_mem_nil, or_false] at hx
    rcases hx with rfl | rfl | rfl | rfl | rfl <;> exact ⟨by kernel_rfl, by kernel_rfl⟩) hL hrows
  match qs, hl with
  | [q0, q1, q2, q3, q4], _ =>
    exact ⟨fun i => match i with | 2 => q0 | 3 => q1 | 4 => q2 | 5 => q3 | _ => q4, hc 0 _ q0 rfl rfl, hc 1 _ q1 rfl rfl, hc 2 _ q2 rfl rfl, hc 3 _ q3 rfl rfl, hc 4 _ q4 rfl rfl⟩
end Go.Proofs.YtemkikjcjhmlaaaGreatDoor
namespace Go.Proofs.YtemkikjcjhmlaaaGreatDoor.Sh
open Go.RowKit
set_option maxRecDepth 100000

theorem row_of_var {W : World} {nm : String} {g : Nat} {cs : Array Value} (hg : Tryz.prog.globalNamed nm = some g) (hv : W.var? Tryz.prog nm = some cs) : ∃ t fr, W.heap[g]? = some (.cells cs t fr) := by
  unfold World.var? at hv
  rw [hg] at hv
  simp only [Option.bind_some] at hv
  split at hv
  · rename_i cs' t fr h
    injection hv with hv
    subst hv
    exact ⟨t, fr, h⟩
  · cases hv
theorem strs_of_laid {W : World} {L : List (String × DataW Unit)} (h : laidMet Tryz.prog L W) {nm : String} {zs : List (List UInt8)} {g t e n : Nat} (hm : (nm, DataW.agg (zs.map fun z => .lit (.string z))) ∈ L)
    (hg : Tryz.prog.globalNamed nm = some g) (hty : (Tryz.prog.globals[g]?).map (·.type) = some t) (ht : Tryz.prog.underlying t = some (.array n e)) (he : Tryz.prog.underlying e = some .string) (hce : Tryz.prog.cellsOf e = 1) (hct : Tryz.prog.cellsOf t = n) :
    ∃ t fr, W.heap[g]? = some (.cells ⟨zs.map fun z => Value.string ⟨z.toArray⟩⟩ t fr) := by
  obtain ⟨ps, hL, _, hrows⟩ := h
  obtain ⟨g', t', cs, fuel, p, h1, h2, h3, h4, h5⟩ := laid_get W L ps hL _ hm
  obtain rfl := Option.some.inj (hg.symm.trans h1)
  obtain rfl := Option.some.inj (hty.symm.trans h2)
  have hcs := cells_of_strs ht he hce hct h4
  obtain ⟨t2, fr, h6⟩ := row_of_var hg h3
  refine ⟨t2, fr, ?_⟩
  rw [h6, ← hcs]
theorem laidVars_tail (W : World) : ∀ (A M : List (String × DataW Unit)) (ps : List MemPlace), DataW.LaidVars Tryz.prog W (A ++ M) ps → ∃ pa pm, ps = pa ++ pm ∧ DataW.LaidVars Tryz.prog W M pm
  | [], M, ps, h => ⟨[], ps, rfl, h⟩
  | x :: A, M, ps, h => by
    obtain ⟨g, t, cs, fuel, p, q, _, _, _, _, hq, e⟩ := h
    obtain ⟨pa, pm, e2, hm⟩ := laidVars_tail W A M q hq
    exact ⟨MemPlace.row ⟨g, 0, none⟩ cs.size ++ p ++ pa, pm, by rw [e, e2]; simp, hm⟩
theorem laidVars_head (W : World) : ∀ (M B : List (String × DataW Unit)) (ps : List MemPlace), DataW.LaidVars Tryz.prog W (M ++ B) ps → ∃ pm pb, ps = pm ++ pb ∧ DataW.LaidVars Tryz.prog W M pm
  | [], B, ps, h => ⟨[], ps, rfl, rfl⟩
  | x :: M, B, ps, h => by
    obtain ⟨g, t, cs, fuel, p, q, h1, h2, h3, h4, hq, e⟩ := h
    obtain ⟨pm, pb, e2, hm⟩ := laidVars_head W M B q hq
    exact ⟨MemPlace.row ⟨g, 0, none⟩ cs.size ++ p ++ pm, pb, by rw [e, e2]; simp, ⟨g, t, cs, fuel, p, pm, h1, h2, h3, h4, hm, rfl⟩⟩
theorem laidMet_mid {W : World} (A M B : List (String × DataW Unit)) (h : laidMet Tryz.prog (A ++ (M ++ B)) W) : laidMet Tryz.prog M W := by
  obtain ⟨ps, hL, hnd, hrows⟩ := h
  obtain ⟨pa, pm, rfl, h1⟩ := laidVars_tail W A (M ++ B) ps hL
  obtain ⟨pm, pb, rfl, h2⟩ := laidVars_head W M B pm h1
  rw [List.nodup_append] at hnd
  have hn2 := hnd.2.1
  rw [List.nodup_append] at hn2
  exact ⟨pm, h2, hn2.1, fun b off hm => hrows b off (by simp [hm])⟩


def sgB : List (List UInt8) := [[], [], [], [], [], [43], [45], [42], [47], [37], [61, 61], [33, 61], [60], [60, 61], [62], [62, 61], [105, 110], [38, 38], [124, 124]]
theorem glob_of_laid {W : World} {L : List (String × DataW Unit)} (A B : List (String × DataW Unit)) (hL : L = A ++ (sent5.map datumOf ++ B)) (h : laidMet Tryz.prog L W) (h1 : ("inglenook/lit.names", Rows.laid_inglenook_lit_names) ∈ L) (h2 : ("internal/strconv.uint64pow10", Rows.laid_internal_strconv_uint64pow10) ∈ L) (h3 : ("inglenook/show.signs", Rows.laid_inglenook_show_signs) ∈ L) :
    ∃ ad : Nat → Addr, Ptrs (ev (ad 11)) (ev (ad 3)) (ev (ad 4)) (ev (ad 2)) ∧ Glob ad (ev (ad 11)) (ev (ad 3)) (ev (ad 4)) (ev (ad 2)) W := by
  obtain ⟨ad, hS⟩ := sn_of_laid (laidMet_mid A (sent5.map datumOf) B (hL ▸ h))
  have ht : Lib.TabIs Tryz.prog W "internal/strconv.uint64pow10" .u64 Lib.pow10Tab := tab_of_laid (g := 8) (t := 140) (e := 120) (n := 20) h h2 (by kernel_rfl) (by kernel_rfl) Tryz.underlying140 Tryz.underlying120 (by kernel_rfl) (by kernel_rfl)
  obtain ⟨ty, fr, hsg⟩ := strs_of_laid (zs := sgB) (g := 4) (t := 94) (e := 9) (n := 19) h h3 (by kernel_rfl) (by kernel_rfl) Tryz.underlying94 Tryz.underlying9 Tryz.cellsSS (by kernel_rfl)
  refine ⟨ad, ptrs_of ad, ⟨⟨⟨hS.deep, hS.many, hS.range, hS.shape⟩, names_of_laid h h1, ht⟩, hS, fun i hi1 hi2 => ?_⟩⟩
  have hc := cell_of_row W _ i _ _ _ hsg
  refine hc.trans ?_
  have : ∀ j : Nat, j ≤ 13 → (⟨sgB.map fun z => Value.string ⟨z.toArray⟩⟩ : Array Value)[j + 5]? = some (.string ⟨(sgT ((j + 5 : Nat) : Int)).toArray⟩) := by
    intro j hj
    match j, hj with
    | 0, _ | 1, _ | 2, _ | 3, _ | 4, _ | 5, _ | 6, _ | 7, _ | 8, _ | 9, _ | 10, _ | 11, _ | 12, _ | 13, _ => rfl
  have h9 := this (i - 5) (by omega)
  rwa [show i - 5 + 5 = i by omega] at h9
end Go.Proofs.YtemkikjcjhmlaaaGreatDoor.Sh

namespace Go.Proofs.YtemkikjcjhmlaaaGreatDoor.Sh
open Go.RowKit
set_option maxRecDepth 100000

set_option maxHeartbeats 4000000 in
theorem branch_any (ad : Nat → Addr) (eD eM eR eS : Value) (d : Nat) (hd : d ≤ 41) (word : ByteArray) (t1 t2 : Nd) (hw1 : WOk ad eD eM eR eS t1) (hb2 : BOd ad eD eM eR eS t2 d) (B b : Nat) (X : List UInt8) (w : World) (lo hi : Nat) (x y : Value) (hr1 : NRep w lo hi t1 x) (hr2 : NRep w lo hi t2 y) (hlo : lo ≤ B) (hhi : hi ≤ B) (hBw : B ≤ w.heap.size) (h : Wr B b d X w) (hc : Ctx ad eD eM eR eS B w) (hlen : X.length + (brcT d word.data.toList (wT t1) (fun d => bT t2 d)).length ≤ 70368744177664) :
    Calls Tryz.prog 40 #[.pointer (some ⟨b, 0, none⟩), .string word, x, y] w (WPost B b d (X ++ brcT d word.data.toList (wT t1) (fun d => bT t2 d)) w) := by
  obtain ⟨o1, n1, s1, k1, m1, z1, q1, ql1, qc1, r1, lc1, c1, rfl⟩ := nrep_form hr1
  obtain ⟨o2, n2, s2, k2, m2, z2, q2, ql2, qc2, r2, lc2, c2, rfl⟩ := nrep_form hr2
  obtain ⟨W1, hW1⟩ : ∃ W1, W1 = (w.alloc (.cells #[.int .i64 o1, .int .i64 n1, .string s1, .int .i64 k1, .int .i64 m1, .string z1, .slice q1 ql1 qc1, .slice r1 lc1 c1] 33)).alloc (.cells #[.int .i64 o2, .int .i64 n2, .string s2, .int .i64 k2, .int .i64 m2, .string z2, .slice q2 ql2 qc2, .slice r2 lc2 c2] 33) := ⟨_, rfl⟩
  have hb0 : Below w.heap.size w W1 := hW1 ▸ ((Below.refl w.heap.size w).alloc (Nat.le_refl _) _).alloc (by simp) _
  have HXg11 : Hid (W1.heap[w.heap.size]? = some (.cells #[.int .i64 o1, .int .i64 n1, .string s1, .int .i64 k1, .int .i64 m1, .string z1, .slice q1 ql1 qc1, .slice r1 lc1 c1] 33 (0, 0))) := hW1 ▸ (Below.heap_alloc _ _ _ (by simp)).trans (heap_alloc_new w _)
  have HXg21 : Hid (W1.heap[w.heap.size + 1]? = some (.cells #[.int .i64 o2, .int .i64 n2, .string s2, .int .i64 k2, .int .i64 m2, .string z2, .slice q2 ql2 qc2, .slice r2 lc2 c2] 33 (0, 0))) := hW1 ▸ by have := heap_alloc_new (w.alloc (.cells #[.int .i64 o1, .int .i64 n1, .string s1, .int .i64 k1, .int .i64 m1, .string z1, .slice q1 ql1 qc1, .slice r1 lc1 c1] 33)) (.cells #[.int .i64 o2, .int .i64 n2, .string s2, .int .i64 k2, .int .i64 m2, .string z2, .slice q2 ql2 qc2, .slice r2 lc2 c2] 33); rw [World.size_alloc] at this; exact this
  have HW := Lib.hid (h.below hb0)
  have hB1 : B ≤ W1.heap.size := Nat.le_trans hBw hb0.size
  have HB := Lib.hid (hb0.mono hBw)
  have HK : Hid (Kp b w W1) := Kp.of_below hb0
  have HR1 := Lib.hid (fun W (hb : Below B w W) => hr1.below hb hhi)
  have HR2 := Lib.hid (fun W (hb : Below B w W) => hr2.below hb hhi)
  have HC := Lib.hid hc
  have HW1 := Lib.hid hw1
  have HBL := Lib.hid hb2
  obtain ⟨g1, hg1⟩ : ∃ g, g = w.heap.size := ⟨_, rfl⟩
  obtain ⟨g2, hg2⟩ : ∃ g, g = w.heap.size + 1 := ⟨_, rfl⟩
  have hg1b : g1 ≠ b := by have := h.lt; omega
  have hg2b : g2 ≠ b := by have := h.lt; omega
  rw [← hg1] at HXg11
  rw [← hg2] at HXg21
  have hds : word.data.toList.length = word.size := Array.length_toList ..
  unfold brcT at hlen
  simp only [List.length_append, List.length_cons, List.length_nil, Nat.zero_add, Nat.reduceAdd, hds] at hlen
  have HEX := Lib.hid (show X ++ brcT d word.data.toList (wT t1) (fun d => bT t2 d) = (((X ++ (indT d ++ (word.data.toList ++ (⟨#[32, 40]⟩ : ByteArray).data.toList))) ++ wT t1) ++ (⟨#[41, 10]⟩ : ByteArray).data.toList) ++ bT t2 (d + 1) from by unfold brcT; simp)
  clear hr1 hr2 hc h hb0 hw1 hb2
  obtain ⟨g11a, g11b, g11c, g11d, g11e, g11f, g11g, g11h, _⟩ := box8s _ g1 _ _ _ _ _ _ _ _ _ HXg11.out
  obtain ⟨g21a, g21b, g21c, g21d, g21e, g21f, g21g, g21h, _⟩ := box8s _ g2 _ _ _ _ _ _ _ _ _ HXg21.out
  have HP1 := Lib.hid (begin2d_any B b d X word ⟨#[32, 40]⟩ W1 HW.out hd (by show X.length + ((indT d).length + (word.size + 2)) ≤ _; omega) hB1)
  go_enter Tryz.func40, Tryz.ntmps40
  go_upto_region 1 with fail
  try rw [World.size_alloc]
  rw [← hW1, ← hg2, ← hg1]
  clear hW1 hg1 hg2
  go_wp2_with (first
    | (go_at_call 35; (with_reducible refine HP1.out.mono ?_); rintro e w2 ⟨rfl, h2, hb2, hk2⟩; have HB2 := Lib.hid (HB.out.trans hb2); have HK2 := Lib.hid (HK.out.trans hk2); have HXg12 := Lib.hid (hk2 g1 _ _ (by decide) hg1b HXg11.out); obtain ⟨g12a, g12b, g12c, g12d, g12e, g12f, g12g, g12h, _⟩ := box8s _ g1 _ _ _ _ _ _ _ _ _ HXg12.out; have HXg22 := Lib.hid (hk2 g2 _ _ (by decide) hg2b HXg21.out); obtain ⟨g22a, g22b, g22c, g22d, g22e, g22f, g22g, g22h, _⟩ := box8s _ g2 _ _ _ _ _ _ _ _ _ HXg22.out; have hs2 := Nat.le_trans hB1 hb2.size; have HP2 := Lib.hid (HW1.out B b d _ w2 lo hi _ (HR1.out _ HB2.out) hlo hhi hs2 h2 (HC.out.on HB2.out) (by simp only [List.length_append]; show X.length + ((indT d).length + (word.size + 2)) + (wT t1).length ≤ _; omega)); clear h2 hb2 hk2)
    | (go_at_call 36; (with_reducible refine HP2.out.mono ?_); rintro e w3 ⟨rfl, h3, hb3, hk3⟩; have HB3 := Lib.hid (HB2.out.trans hb3); have HK3 := Lib.hid (HK2.out.trans hk3); have HXg13 := Lib.hid (hk3 g1 _ _ (by decide) hg1b HXg12.out); obtain ⟨g13a, g13b, g13c, g13d, g13e, g13f, g13g, g13h, _⟩ := box8s _ g1 _ _ _ _ _ _ _ _ _ HXg13.out; have HXg23 := Lib.hid (hk3 g2 _ _ (by decide) hg2b HXg22.out); obtain ⟨g23a, g23b, g23c, g23d, g23e, g23f, g23g, g23h, _⟩ := box8s _ g2 _ _ _ _ _ _ _ _ _ HXg23.out; have hs3 := Nat.le_trans hs2 hb3.size; have HP3 := Lib.hid (put1_any B b d _ ⟨#[41, 10]⟩ w3 h3 (by simp only [List.length_append]; show X.length + ((indT d).length + (word.size + 2)) + (wT t1).length + 2 ≤ _; omega) hs3); clear h3 hb3 hk3)
    | (go_at_call 37; (with_reducible refine HP3.out.mono ?_); rintro e w4 ⟨rfl, h4, hb4, hk4⟩; have HB4 := Lib.hid (HB3.out.trans hb4); have HK4 := Lib.hid (HK3.out.trans hk4); have HXg14 := Lib.hid (hk4 g1 _ _ (by decide) hg1b HXg13.out); obtain ⟨g14a, g14b, g14c, g14d, g14e, g14f, g14g, g14h, _⟩ := box8s _ g1 _ _ _ _ _ _ _ _ _ HXg14.out; have HXg24 := Lib.hid (hk4 g2 _ _ (by decide) hg2b HXg23.out); obtain ⟨g24a, g24b, g24c, g24d, g24e, g24f, g24g, g24h, _⟩ := box8s _ g2 _ _ _ _ _ _ _ _ _ HXg24.out; have hs4 := Nat.le_trans hs3 hb4.size; have HP4 := Lib.hid (HBL.out B b _ w4 lo hi _ (HR2.out _ HB4.out) hlo hhi hs4 h4 (HC.out.on HB4.out) (by simp only [List.length_append]; show X.length + ((indT d).length + (word.size + 2)) + (wT t1).length + 2 + (bT t2 (d + 1)).length ≤ _; omega)); clear h4 hb4 hk4)
    | (go_at_call 38; (with_reducible refine HP4.out.mono ?_); rintro e w5 ⟨rfl, h5, hb5, hk5⟩; have H5 := Lib.hid h5; have HB5 := Lib.hid (HB4.out.trans hb5); have HK5 := Lib.hid (HK4.out.trans hk5); clear h5 hb5 hk5))
  go_end0
  exact ⟨rfl, by rw [HEX.out]; exact H5.out, HB5.out, HK5.out⟩
set_option maxHeartbeats 4000000 in
theorem except_none (ad : Nat → Addr) (eD eM eR eS : Value) (d : Nat) (hd : d ≤ 41) (n : Int) (v : T) (t1 t2 : Nd) (hc1 : CodOk ad eD eM eR eS t1) (hb2 : BOd ad eD eM eR eS t2 d) : EOd ad eD eM eR eS (.mk 50 n (⟨#[]⟩ : ByteArray) v [t1, t2]) d := by
  intro B b X w lo hi x hr hlo hhi hBw h hc hlen
  obtain ⟨k, m, z, q, ql, qc, r, c, rfl, _, _, hsz, hv, hlc, hl112, hall⟩ := hr.open
  obtain ⟨W1, hW1⟩ : ∃ W1, W1 = w.alloc (.cells #[.int .i64 50, .int .i64 n, .string ⟨#[]⟩, .int .i64 k, .int .i64 m, .string z, .slice q ql qc, .slice r [t1, t2].length c] 33) := ⟨_, rfl⟩
  have hb0 : Below w.heap.size w W1 := hW1 ▸ (Below.refl w.heap.size w).alloc (Nat.le_refl _) _
  have HX : Hid (W1.heap[w.heap.size]? = some (.cells #[.int .i64 50, .int .i64 n, .string ⟨#[]⟩, .int .i64 k, .int .i64 m, .string z, .slice q ql qc, .slice r [t1, t2].length c] 33 (0, 0))) := hW1 ▸ heap_alloc_new w _
  have HW := Lib.hid (h.below hb0)
  have hB1 : B ≤ W1.heap.size := Nat.le_trans hBw hb0.size
  have HB := Lib.hid (hb0.mono hBw)
  have HK : Hid (Kp b w W1) := Kp.of_below hb0
  have HV := Lib.hid (fun W (hb : Below B w W) => hv.below hb hhi)
  have HALL := Lib.hid (fun W (hb : Below B w W) => hall.below hb hhi)
  have HC := Lib.hid hc
  obtain ⟨g, hg⟩ : ∃ g, g = w.heap.size := ⟨_, rfl⟩
  have hgb : g ≠ b := by have := h.lt; omega
  rw [← hg] at HX
  have hgl : g < W1.heap.size := ltW HX.out
  clear hr hc h hb0 hv
  obtain ⟨x0, x1, x2, x3, x4, x5, x6, x7, _⟩ := box8s _ g _ _ _ _ _ _ _ _ _ HX.out
  obtain ⟨bi, off, o0, n0, s0, v0, l0, k0, m0, z0, q0, ql0, qc0, r0, c0, hp0, _, hbh0, hli0, y00, y01, y02, y03, y04, y05, y06, y07, hr0⟩ := hall.item 0 (by simp)
  obtain ⟨bj1, of1, o1, n1, s1, v1, l1, k1, m1, z1, q1, ql1, qc1, r1, c1, hp1, _, hbh1, hli1, y10, y11, y12, y13, y14, y15, y16, y17, hr1⟩ := hall.item 1 (by simp)
  rw [hp0] at hp1
  injection hp1 with hp1
  injection hp1 with e1a e1b _
  subst e1a e1b
  subst hp0
  have hbB : bi < B := by omega
  have HR0 := Lib.hid (fun W (hb : Below B w W) => (show NRep w lo hi t1 _ from hr0).below hb hhi)
  have HR1 := Lib.hid (fun W (hb : Below B w W) => (show NRep w lo hi t2 _ from hr1).below hb hhi)
  simp only [Nat.zero_mul, Nat.add_zero, Nat.one_mul] at y00 y01 y02 y03 y04 y05 y06 y07 y10 y11 y12 y13 y14 y15 y16 y17
  clear hr0 hli0 hr1 hli1
  have hxt : xT (.mk 50 n (⟨#[]⟩ : ByteArray) v [t1, t2]) d = indT d ++ [101, 120, 99, 101, 112, 116, 32] ++ ([]) ++ [40] ++ cT t1 ++ [41, 10] ++ bT t2 (d + 1) := by
    rw [xT]; unfold exT; rw [if_pos (show (⟨#[]⟩ : ByteArray).size = 0 from rfl)]; rfl
  rw [hxt] at hlen
  simp only [List.length_append, List.length_cons, List.length_nil, Nat.zero_add, Nat.reduceAdd, Nat.add_zero] at hlen
  have HEX := Lib.hid (show X ++ xT (.mk 50 n (⟨#[]⟩ : ByteArray) v [t1, t2]) d = (((((X ++ (indT d ++ (⟨#[101, 120, 99, 101, 112, 116, 32]⟩ : ByteArray).data.toList)) ++ (⟨#[40]⟩ : ByteArray).data.toList) ++ cT t1) ++ (⟨#[41, 10]⟩ : ByteArray).data.toList) ++ bT t2 (d + 1)) from by rw [hxt]; simp)
  have HCO := Lib.hid hc1
  have HBL2 := Lib.hid hb2
  have HP1 := Lib.hid (begin1d_any B b d X (⟨#[101, 120, 99, 101, 112, 116, 32]⟩ : ByteArray) W1 HW.out hd (by show X.length + ((indT d).length + 7) ≤ _; omega) hB1)
  clear hc1 hb2 hall HALL HV hxt
  simp only [List.length_cons, List.length_nil, Nat.zero_add, Nat.reduceAdd] at x7 HX hW1
  go_enter Tryz.func41, Tryz.ntmps41
  go_upto_region 1 with fail
  try simp only [List.length_cons, List.length_nil, Nat.zero_add, Nat.reduceAdd]
  rw [← hW1, ← hg]
  clear hW1 hg
  go_wp2_with (first
    | (go_at_call 35; (with_reducible refine HP1.out.mono ?_); rintro e w2 ⟨rfl, h2, hb2, hk2⟩; have HB2 := Lib.hid (HB.out.trans hb2); have HK2 := Lib.hid (HK.out.trans hk2); have HX2 := Lib.hid (hk2 g _ _ (by decide) hgb HX.out); obtain ⟨a20, a21, a22, a23, a24, a25, a26, a27, _⟩ := box8s _ g _ _ _ _ _ _ _ _ _ HX2.out; have hs2 := Nat.le_trans hB1 hb2.size; have HP2 := Lib.hid (put1_any B b d _ (⟨#[40]⟩ : ByteArray) w2 h2 (by simp only [List.length_append]; show X.length + ((indT d).length + 7) + 1 ≤ _; omega) hs2); clear h2 hb2 hk2)
    | (go_at_call 37; (with_reducible refine HP2.out.mono ?_); rintro e w3 ⟨rfl, h3, hb3, hk3⟩; have HB3 := Lib.hid (HB2.out.trans hb3); have HK3 := Lib.hid (HK2.out.trans hk3); have HX3 := Lib.hid (hk3 g _ _ (by decide) hgb HX2.out); obtain ⟨a30, a31, a32, a33, a34, a35, a36, a37, _⟩ := box8s _ g _ _ _ _ _ _ _ _ _ HX3.out; have hs3 := Nat.le_trans hs2 hb3.size; have z300 := (HB3.out.cell (p := ⟨bi, off, none⟩) hbB).trans y00; have z301 := (HB3.out.cell (p := ⟨bi, off + 1, none⟩) hbB).trans y01; have z302 := (HB3.out.cell (p := ⟨bi, off + 2, none⟩) hbB).trans y02; have z303 := (HB3.out.cell (p := ⟨bi, off + 3, none⟩) hbB).trans y03; have z304 := (HB3.out.cell (p := ⟨bi, off + 4, none⟩) hbB).trans y04; have z305 := (HB3.out.cell (p := ⟨bi, off + 5, none⟩) hbB).trans y05; have z306 := (HB3.out.cell (p := ⟨bi, off + 6, none⟩) hbB).trans y06; have z307 := (HB3.out.cell (p := ⟨bi, off + 7, none⟩) hbB).trans y07; have HP3 := Lib.hid (HCO.out B b d _ w3 lo hi _ (HR0.out _ HB3.out) hlo hhi hs3 h3 (HC.out.on HB3.out) (by simp only [List.length_append]; show X.length + ((indT d).length + 7) + 1 + (cT t1).length ≤ _; omega)); clear h3 hb3 hk3)
    | (go_at_call 68; (with_reducible refine HP3.out.mono ?_); rintro e w4 ⟨rfl, h4, hb4, hk4⟩; have HB4 := Lib.hid (HB3.out.trans hb4); have HK4 := Lib.hid (HK3.out.trans hk4); have HX4 := Lib.hid (hk4 g _ _ (by decide) hgb HX3.out); obtain ⟨a40, a41, a42, a43, a44, a45, a46, a47, _⟩ := box8s _ g _ _ _ _ _ _ _ _ _ HX4.out; have hs4 := Nat.le_trans hs3 hb4.size; have HP4 := Lib.hid (put1_any B b d _ (⟨#[41, 10]⟩ : ByteArray) w4 h4 (by simp only [List.length_append]; show X.length + ((indT d).length + 7) + 1 + (cT t1).length + 2 ≤ _; omega) hs4); clear h4 hb4 hk4)
    | (go_at_call 37; (with_reducible refine HP4.out.mono ?_); rintro e w5 ⟨rfl, h5, hb5, hk5⟩; have HB5 := Lib.hid (HB4.out.trans hb5); have HK5 := Lib.hid (HK4.out.trans hk5); have HX5 := Lib.hid (hk5 g _ _ (by decide) hgb HX4.out); obtain ⟨a50, a51, a52, a53, a54, a55, a56, a57, _⟩ := box8s _ g _ _ _ _ _ _ _ _ _ HX5.out; have hs5 := Nat.le_trans hs4 hb5.size; have z510 := (HB5.out.cell (p := ⟨bi, off + 8, none⟩) hbB).trans y10; have z511 := (HB5.out.cell (p := ⟨bi, off + 8 + 1, none⟩) hbB).trans y11; have z512 := (HB5.out.cell (p := ⟨bi, off + 8 + 2, none⟩) hbB).trans y12; have z513 := (HB5.out.cell (p := ⟨bi, off + 8 + 3, none⟩) hbB).trans y13; have z514 := (HB5.out.cell (p := ⟨bi, off + 8 + 4, none⟩) hbB).trans y14; have z515 := (HB5.out.cell (p := ⟨bi, off + 8 + 5, none⟩) hbB).trans y15; have z516 := (HB5.out.cell (p := ⟨bi, off + 8 + 6, none⟩) hbB).trans y16; have z517 := (HB5.out.cell (p := ⟨bi, off + 8 + 7, none⟩) hbB).trans y17; have HP5 := Lib.hid (HBL2.out B b _ w5 lo hi _ (HR1.out _ HB5.out) hlo hhi hs5 h5 (HC.out.on HB5.out) (by simp only [List.length_append]; show X.length + ((indT d).length + 7) + 1 + (cT t1).length + 2 + (bT t2 (d + 1)).length ≤ _; omega)); clear h5 hb5 hk5)
    | (go_at_call 38; (with_reducible refine HP5.out.mono ?_); rintro e w6 ⟨rfl, h6, hb6, hk6⟩; have HB6 := Lib.hid (HB5.out.trans hb6); have HK6 := Lib.hid (HK5.out.trans hk6); have H6 := Lib.hid h6; clear h6 hb6 hk6))
  go_end0
  exact ⟨rfl, by rw [HEX.out]; exact H6.out, HB6.out, HK6.out⟩
set_option maxHeartbeats 4000000 in
theorem except_some (ad : Nat → Addr) (eD eM eR eS : Value) (d : Nat) (hd : d ≤ 41) (n : Int) (s : ByteArray) (hs0 : s.size ≠ 0) (v : T) (t1 t2 : Nd) (hc1 : CodOk ad eD eM eR eS t1) (hb2 : BOd ad eD eM eR eS t2 d) : EOd ad eD eM eR eS (.mk 50 n s v [t1, t2]) d := by
  intro B b X w lo hi x hr hlo hhi hBw h hc hlen
  obtain ⟨k, m, z, q, ql, qc, r, c, rfl, _, _, hsz, hv, hlc, hl112, hall⟩ := hr.open
  obtain ⟨W1, hW1⟩ : ∃ W1, W1 = w.alloc (.cells #[.int .i64 50, .int .i64 n, .string s, .int .i64 k, .int .i64 m, .string z, .slice q ql qc, .slice r [t1, t2].length c] 33) := ⟨_, rfl⟩
  have hb0 : Below w.heap.size w W1 := hW1 ▸ (Below.refl w.heap.size w).alloc (Nat.le_refl _) _
  have HX : Hid (W1.heap[w.heap.size]? = some (.cells #[.int .i64 50, .int .i64 n, .string s, .int .i64 k, .int .i64 m, .string z, .slice q ql qc, .slice r [t1, t2].length c] 33 (0, 0))) := hW1 ▸ heap_alloc_new w _
  have HW := Lib.hid (h.below hb0)
  have hB1 : B ≤ W1.heap.size := Nat.le_trans hBw hb0.size
  have HB := Lib.hid (hb0.mono hBw)
  have HK : Hid (Kp b w W1) := Kp.of_below hb0
  have HV := Lib.hid (fun W (hb : Below B w W) => hv.below hb hhi)
  have HALL := Lib.hid (fun W (hb : Below B w W) => hall.below hb hhi)
  have HC := Lib.hid hc
  obtain ⟨g, hg⟩ : ∃ g, g = w.heap.size := ⟨_, rfl⟩
  have hgb : g ≠ b := by have := h.lt; omega
  rw [← hg] at HX
  have hgl : g < W1.heap.size := ltW HX.out
  clear hr hc h hb0 hv
  obtain ⟨x0, x1, x2, x3, x4, x5, x6, x7, _⟩ := box8s _ g _ _ _ _ _ _ _ _ _ HX.out
  obtain ⟨bi, off, o0, n0, s0, v0, l0, k0, m0, z0, q0, ql0, qc0, r0, c0, hp0, _, hbh0, hli0, y00, y01, y02, y03, y04, y05, y06, y07, hr0⟩ := hall.item 0 (by simp)
  obtain ⟨bj1, of1, o1, n1, s1, v1, l1, k1, m1, z1, q1, ql1, qc1, r1, c1, hp1, _, hbh1, hli1, y10, y11, y12, y13, y14, y15, y16, y17, hr1⟩ := hall.item 1 (by simp)
  rw [hp0] at hp1
  injection hp1 with hp1
  injection hp1 with e1a e1b _
  subst e1a e1b
  subst hp0
  have hbB : bi < B := by omega
  have HR0 := Lib.hid (fun W (hb : Below B w W) => (show NRep w lo hi t1 _ from hr0).below hb hhi)
  have HR1 := Lib.hid (fun W (hb : Below B w W) => (show NRep w lo hi t2 _ from hr1).below hb hhi)
  simp only [Nat.zero_mul, Nat.add_zero, Nat.one_mul] at y00 y01 y02 y03 y04 y05 y06 y07 y10 y11 y12 y13 y14 y15 y16 y17
  clear hr0 hli0 hr1 hli1
  have hxt : xT (.mk 50 n s v [t1, t2]) d = indT d ++ [101, 120, 99, 101, 112, 116, 32] ++ (s.data.toList ++ [32]) ++ [40] ++ cT t1 ++ [41, 10] ++ bT t2 (d + 1) := by
    rw [xT]; unfold exT; rw [if_neg hs0]; rfl
  rw [hxt] at hlen
  have hds : s.data.toList.length = s.size := Array.length_toList ..
  simp only [List.length_append, List.length_cons, List.length_nil, Nat.zero_add, Nat.reduceAdd, hds] at hlen
  have HEX := Lib.hid (show X ++ xT (.mk 50 n s v [t1, t2]) d = ((((((X ++ (indT d ++ (⟨#[101, 120, 99, 101, 112, 116, 32]⟩ : ByteArray).data.toList)) ++ (s.data.toList ++ (⟨#[32]⟩ : ByteArray).data.toList)) ++ (⟨#[40]⟩ : ByteArray).data.toList) ++ cT t1) ++ (⟨#[41, 10]⟩ : ByteArray).data.toList) ++ bT t2 (d + 1)) from by rw [hxt]; simp)
  have HCO := Lib.hid hc1
  have HBL2 := Lib.hid hb2
  have hse : s.toList.isEmpty = false := by
    have h0 : s.toList ≠ [] := fun e => hs0 (by
      rw [Go.ByteArray.toList_eq] at e
      have h1 : s.data.toList.length = 0 := by rw [e]; rfl
      exact h1)
    cases hl : s.toList with
    | nil => exact absurd hl h0
    | cons a b => rfl
  have HP1 := Lib.hid (begin1d_any B b d X (⟨#[101, 120, 99, 101, 112, 116, 32]⟩ : ByteArray) W1 HW.out hd (by show X.length + ((indT d).length + 7) ≤ _; omega) hB1)
  clear hc1 hb2 hall HALL HV hxt hs0
  simp only [List.length_cons, List.length_nil, Nat.zero_add, Nat.reduceAdd] at x7 HX hW1
  go_enter Tryz.func41, Tryz.ntmps41
  go_upto_region 1 with fail
  try simp only [List.length_cons, List.length_nil, Nat.zero_add, Nat.reduceAdd]
  rw [← hW1, ← hg]
  clear hW1 hg
  go_wp2_with (first
    | (go_at_call 35; (with_reducible refine HP1.out.mono ?_); rintro e w2 ⟨rfl, h2, hb2, hk2⟩; have HB2 := Lib.hid (HB.out.trans hb2); have HK2 := Lib.hid (HK.out.trans hk2); have HX2 := Lib.hid (hk2 g _ _ (by decide) hgb HX.out); obtain ⟨a20, a21, a22, a23, a24, a25, a26, a27, _⟩ := box8s _ g _ _ _ _ _ _ _ _ _ HX2.out; have hs2 := Nat.le_trans hB1 hb2.size; have HP2 := Lib.hid (put2_any B b d _ s (⟨#[32]⟩ : ByteArray) w2 h2 (by simp only [List.length_append]; show X.length + ((indT d).length + 7) + (s.size + 1) ≤ _; omega) hs2); clear h2 hb2 hk2)
    | (go_at_call 37; (with_reducible refine HP2.out.mono ?_); rintro e w3 ⟨rfl, h3, hb3, hk3⟩; have HB3 := Lib.hid (HB2.out.trans hb3); have HK3 := Lib.hid (HK2.out.trans hk3); have HX3 := Lib.hid (hk3 g _ _ (by decide) hgb HX2.out); obtain ⟨a30, a31, a32, a33, a34, a35, a36, a37, _⟩ := box8s _ g _ _ _ _ _ _ _ _ _ HX3.out; have hs3 := Nat.le_trans hs2 hb3.size; have HP3 := Lib.hid (put1_any B b d _ (⟨#[40]⟩ : ByteArray) w3 h3 (by simp only [List.length_append]; show X.length + ((indT d).length + 7) + (s.size + 1) + 1 ≤ _; omega) hs3); clear h3 hb3 hk3)
    | (go_at_call 37; (with_reducible refine HP3.out.mono ?_); rintro e w4 ⟨rfl, h4, hb4, hk4⟩; have HB4 := Lib.hid (HB3.out.trans hb4); have HK4 := Lib.hid (HK3.out.trans hk4); have HX4 := Lib.hid (hk4 g _ _ (by decide) hgb HX3.out); obtain ⟨a40, a41, a42, a43, a44, a45, a46, a47, _⟩ := box8s _ g _ _ _ _ _ _ _ _ _ HX4.out; have hs4 := Nat.le_trans hs3 hb4.size; have z400 := (HB4.out.cell (p := ⟨bi, off, none⟩) hbB).trans y00; have z401 := (HB4.out.cell (p := ⟨bi, off + 1, none⟩) hbB).trans y01; have z402 := (HB4.out.cell (p := ⟨bi, off + 2, none⟩) hbB).trans y02; have z403 := (HB4.out.cell (p := ⟨bi, off + 3, none⟩) hbB).trans y03; have z404 := (HB4.out.cell (p := ⟨bi, off + 4, none⟩) hbB).trans y04; have z405 := (HB4.out.cell (p := ⟨bi, off + 5, none⟩) hbB).trans y05; have z406 := (HB4.out.cell (p := ⟨bi, off + 6, none⟩) hbB).trans y06; have z407 := (HB4.out.cell (p := ⟨bi, off + 7, none⟩) hbB).trans y07; have HP4 := Lib.hid (HCO.out B b d _ w4 lo hi _ (HR0.out _ HB4.out) hlo hhi hs4 h4 (HC.out.on HB4.out) (by simp only [List.length_append]; show X.length + ((indT d).length + 7) + (s.size + 1) + 1 + (cT t1).length ≤ _; omega)); clear h4 hb4 hk4)
    | (go_at_call 68; (with_reducible refine HP4.out.mono ?_); rintro e w5 ⟨rfl, h5, hb5, hk5⟩; have HB5 := Lib.hid (HB4.out.trans hb5); have HK5 := Lib.hid (HK4.out.trans hk5); have HX5 := Lib.hid (hk5 g _ _ (by decide) hgb HX4.out); obtain ⟨a50, a51, a52, a53, a54, a55, a56, a57, _⟩ := box8s _ g _ _ _ _ _ _ _ _ _ HX5.out; have hs5 := Nat.le_trans hs4 hb5.size; have HP5 := Lib.hid (put1_any B b d _ (⟨#[41, 10]⟩ : ByteArray) w5 h5 (by simp only [List.length_append]; show X.length + ((indT d).length + 7) + (s.size + 1) + 1 + (cT t1).length + 2 ≤ _; omega) hs5); clear h5 hb5 hk5)
    | (go_at_call 37; (with_reducible refine HP5.out.mono ?_); rintro e w6 ⟨rfl, h6, hb6, hk6⟩; have HB6 := Lib.hid (HB5.out.trans hb6); have HK6 := Lib.hid (HK5.out.trans hk6); have HX6 := Lib.hid (hk6 g _ _ (by decide) hgb HX5.out); obtain ⟨a60, a61, a62, a63, a64, a65, a66, a67, _⟩ := box8s _ g _ _ _ _ _ _ _ _ _ HX6.out; have hs6 := Nat.le_trans hs5 hb6.size; have z610 := (HB6.out.cell (p := ⟨bi, off + 8, none⟩) hbB).trans y10; have z611 := (HB6.out.cell (p := ⟨bi, off + 8 + 1, none⟩) hbB).trans y11; have z612 := (HB6.out.cell (p := ⟨bi, off + 8 + 2, none⟩) hbB).trans y12; have z613 := (HB6.out.cell (p := ⟨bi, off + 8 + 3, none⟩) hbB).trans y13; have z614 := (HB6.out.cell (p := ⟨bi, off + 8 + 4, none⟩) hbB).trans y14; have z615 := (HB6.out.cell (p := ⟨bi, off + 8 + 5, none⟩) hbB).trans y15; have z616 := (HB6.out.cell (p := ⟨bi, off + 8 + 6, none⟩) hbB).trans y16; have z617 := (HB6.out.cell (p := ⟨bi, off + 8 + 7, none⟩) hbB).trans y17; have HP6 := Lib.hid (HBL2.out B b _ w6 lo hi _ (HR1.out _ HB6.out) hlo hhi hs6 h6 (HC.out.on HB6.out) (by simp only [List.length_append]; show X.length + ((indT d).length + 7) + (s.size + 1) + 1 + (cT t1).length + 2 + (bT t2 (d + 1)).length ≤ _; omega)); clear h6 hb6 hk6)
    | (go_at_call 38; (with_reducible refine HP6.out.mono ?_); rintro e w7 ⟨rfl, h7, hb7, hk7⟩; have HB7 := Lib.hid (HB6.out.trans hb7); have HK7 := Lib.hid (HK6.out.trans hk7); have H7 := Lib.hid h7; clear h7 hb7 hk7))
  go_end0
  exact ⟨rfl, by rw [HEX.out]; exact H7.out, HB7.out, HK7.out⟩
end Go.Proofs.YtemkikjcjhmlaaaGreatDoor.Sh

namespace Go.Proofs.YtemkikjcjhmlaaaGreatDoor.Sh
open Go.RowKit
set_option maxRecDepth 100000

set_option maxHeartbeats 4000000 in
theorem statement_forin (ad : Nat → Addr) (eD eM eR eS : Value) (d : Nat) (hd : d ≤ 41) (n : Int) (s : ByteArray) (v : T) (t1 t2 : Nd) (hw1 : WOk ad eD eM eR eS t1) (hb2 : BOd ad eD eM eR eS t2 d) : SOd ad eD eM eR eS (.mk 42 n s v [t1, t2]) d (sT (.mk 42 n s v [t1, t2]) d) := by
  intro B b X w lo hi x hr hlo hhi hBw h hc hlen
  obtain ⟨k, m, z, q, ql, qc, r, c, rfl, _, _, hsz, hv, hlc, hl112, hall⟩ := hr.open
  obtain ⟨W1, hW1⟩ : ∃ W1, W1 = w.alloc (.cells #[.int .i64 42, .int .i64 n, .string s, .int .i64 k, .int .i64 m, .string z, .slice q ql qc, .slice r [t1, t2].length c] 33) := ⟨_, rfl⟩
  have hb0 : Below w.heap.size w W1 := hW1 ▸ (Below.refl w.heap.size w).alloc (Nat.le_refl _) _
  have HX : Hid (W1.heap[w.heap.size]? = some (.cells #[.int .i64 42, .int .i64 n, .string s, .int .i64 k, .int .i64 m, .string z, .slice q ql qc, .slice r [t1, t2].length c] 33 (0, 0))) := hW1 ▸ heap_alloc_new w _
  have HW := Lib.hid (h.below hb0)
  have hB1 : B ≤ W1.heap.size := Nat.le_trans hBw hb0.size
  have HB := Lib.hid (hb0.mono hBw)
  have HK : Hid (Kp b w W1) := Kp.of_below hb0
  have HV := Lib.hid (fun W (hb : Below B w W) => hv.below hb hhi)
  have HALL := Lib.hid (fun W (hb : Below B w W) => hall.below hb hhi)
  have HC := Lib.hid hc
  obtain ⟨g, hg⟩ : ∃ g, g = w.heap.size := ⟨_, rfl⟩
  have hgb : g ≠ b := by have := h.lt; omega
  rw [← hg] at HX
  have hgl : g < W1.heap.size := ltW HX.out
  clear hr hc h hb0 hv
  obtain ⟨x0, x1, x2, x3, x4, x5, x6, x7, _⟩ := box8s _ g _ _ _ _ _ _ _ _ _ HX.out
  obtain ⟨bi, off, o0, n0, s0, v0, l0, k0, m0, z0, q0, ql0, qc0, r0, c0, hp0, _, hbh0, hli0, y00, y01, y02, y03, y04, y05, y06, y07, hr0⟩ := hall.item 0 (by simp)
  obtain ⟨bj1, of1, o1, n1, s1, v1, l1, k1, m1, z1, q1, ql1, qc1, r1, c1, hp1, _, hbh1, hli1, y10, y11, y12, y13, y14, y15, y16, y17, hr1⟩ := hall.item 1 (by simp)
  rw [hp0] at hp1
  injection hp1 with hp1
  injection hp1 with e1a e1b _
  subst e1a e1b
  subst hp0
  have hbB : bi < B := by omega
  have HR0 := Lib.hid (fun W (hb : Below B w W) => (show NRep w lo hi t1 _ from hr0).below hb hhi)
  have HR1 := Lib.hid (fun W (hb : Below B w W) => (show NRep w lo hi t2 _ from hr1).below hb hhi)
  simp only [Nat.zero_mul, Nat.add_zero, Nat.one_mul] at y00 y01 y02 y03 y04 y05 y06 y07 y10 y11 y12 y13 y14 y15 y16 y17
  clear hr0 hli0 hr1 hli1
  have hst : sT (.mk 42 n s v [t1, t2]) d = indT d ++ ([102, 111, 114, 32] ++ (s.data.toList ++ [32, 105, 110, 32, 40])) ++ wT t1 ++ [41, 10] ++ bT t2 (d + 1) ++ lnT d [101, 110, 100, 102, 111, 114] := by rw [sT]; rfl
  rw [hst] at hlen
  have hds : s.data.toList.length = s.size := Array.length_toList ..
  simp only [lnT, List.length_append, List.length_cons, List.length_nil, Nat.zero_add, Nat.reduceAdd, hds] at hlen
  have HEX := Lib.hid (show X ++ sT (.mk 42 n s v [t1, t2]) d = (((((X ++ (indT d ++ ((⟨#[102, 111, 114, 32]⟩ : ByteArray).data.toList ++ (s.data.toList ++ (⟨#[32, 105, 110, 32, 40]⟩ : ByteArray).data.toList)))) ++ wT t1) ++ (⟨#[41, 10]⟩ : ByteArray).data.toList) ++ bT t2 (d + 1)) ++ (indT d ++ ((⟨#[101, 110, 100, 102, 111, 114]⟩ : ByteArray).data.toList ++ [10]))) from by rw [hst]; simp [lnT])
  have HW1 := Lib.hid hw1
  have HBL2 := Lib.hid hb2
  have HP1 := Lib.hid (begin3d_any B b d X (⟨#[102, 111, 114, 32]⟩ : ByteArray) s (⟨#[32, 105, 110, 32, 40]⟩ : ByteArray) W1 HW.out hd (by show X.length + ((indT d).length + (4 + s.size + 5)) ≤ _; omega) hB1)
  clear hall HV hst HALL hw1 hb2
  simp only [List.length_cons, List.length_nil, Nat.zero_add, Nat.reduceAdd] at x7 HX hW1
  go_enter Tryz.func20, Tryz.ntmps20
  go_upto_region 1 with fail
  try simp only [List.length_cons, List.length_nil, Nat.zero_add, Nat.reduceAdd]
  rw [← hW1, ← hg]
  clear hW1 hg
  go_wp2_with (first
    | (go_at_call 35; (with_reducible refine HP1.out.mono ?_); rintro e w2 ⟨rfl, h2, hb2, hk2⟩; have HB2 := Lib.hid (HB.out.trans hb2); have HK2 := Lib.hid (HK.out.trans hk2); have HX2 := Lib.hid (hk2 g _ _ (by decide) hgb HX.out); obtain ⟨a20, a21, a22, a23, a24, a25, a26, a27, _⟩ := box8s _ g _ _ _ _ _ _ _ _ _ HX2.out; have hs2 := Nat.le_trans hB1 hb2.size; have z200 := (HB2.out.cell (p := ⟨bi, off, none⟩) hbB).trans y00; have z201 := (HB2.out.cell (p := ⟨bi, off + 1, none⟩) hbB).trans y01; have z202 := (HB2.out.cell (p := ⟨bi, off + 2, none⟩) hbB).trans y02; have z203 := (HB2.out.cell (p := ⟨bi, off + 3, none⟩) hbB).trans y03; have z204 := (HB2.out.cell (p := ⟨bi, off + 4, none⟩) hbB).trans y04; have z205 := (HB2.out.cell (p := ⟨bi, off + 5, none⟩) hbB).trans y05; have z206 := (HB2.out.cell (p := ⟨bi, off + 6, none⟩) hbB).trans y06; have z207 := (HB2.out.cell (p := ⟨bi, off + 7, none⟩) hbB).trans y07; have HP2 := Lib.hid (HW1.out B b d _ w2 lo hi _ (HR0.out _ HB2.out) hlo hhi hs2 h2 (HC.out.on HB2.out) (by simp only [List.length_append]; show X.length + ((indT d).length + (4 + s.size + 5)) + (wT t1).length ≤ _; omega)); clear h2 hb2 hk2)
    | (go_at_call 36; (with_reducible refine HP2.out.mono ?_); rintro e w3 ⟨rfl, h3, hb3, hk3⟩; have HB3 := Lib.hid (HB2.out.trans hb3); have HK3 := Lib.hid (HK2.out.trans hk3); have HX3 := Lib.hid (hk3 g _ _ (by decide) hgb HX2.out); obtain ⟨a30, a31, a32, a33, a34, a35, a36, a37, _⟩ := box8s _ g _ _ _ _ _ _ _ _ _ HX3.out; have hs3 := Nat.le_trans hs2 hb3.size; have HP3 := Lib.hid (put1_any B b d _ (⟨#[41, 10]⟩ : ByteArray) w3 h3 (by simp only [List.length_append]; show X.length + ((indT d).length + (4 + s.size + 5)) + (wT t1).length + 2 ≤ _; omega) hs3); clear h3 hb3 hk3)
    | (go_at_call 37; (with_reducible refine HP3.out.mono ?_); rintro e w4 ⟨rfl, h4, hb4, hk4⟩; have HB4 := Lib.hid (HB3.out.trans hb4); have HK4 := Lib.hid (HK3.out.trans hk4); have HX4 := Lib.hid (hk4 g _ _ (by decide) hgb HX3.out); obtain ⟨a40, a41, a42, a43, a44, a45, a46, a47, _⟩ := box8s _ g _ _ _ _ _ _ _ _ _ HX4.out; have hs4 := Nat.le_trans hs3 hb4.size; have z410 := (HB4.out.cell (p := ⟨bi, off + 8, none⟩) hbB).trans y10; have z411 := (HB4.out.cell (p := ⟨bi, off + 8 + 1, none⟩) hbB).trans y11; have z412 := (HB4.out.cell (p := ⟨bi, off + 8 + 2, none⟩) hbB).trans y12; have z413 := (HB4.out.cell (p := ⟨bi, off + 8 + 3, none⟩) hbB).trans y13; have z414 := (HB4.out.cell (p := ⟨bi, off + 8 + 4, none⟩) hbB).trans y14; have z415 := (HB4.out.cell (p := ⟨bi, off + 8 + 5, none⟩) hbB).trans y15; have z416 := (HB4.out.cell (p := ⟨bi, off + 8 + 6, none⟩) hbB).trans y16; have z417 := (HB4.out.cell (p := ⟨bi, off + 8 + 7, none⟩) hbB).trans y17; have HP4 := Lib.hid (HBL2.out B b _ w4 lo hi _ (HR1.out _ HB4.out) hlo hhi hs4 h4 (HC.out.on HB4.out) (by simp only [List.length_append]; show X.length + ((indT d).length + (4 + s.size + 5)) + (wT t1).length + 2 + (bT t2 (d + 1)).length ≤ _; omega)); clear h4 hb4 hk4)
    | (go_at_call 38; (with_reducible refine HP4.out.mono ?_); rintro e w5 ⟨rfl, h5, hb5, hk5⟩; have HB5 := Lib.hid (HB4.out.trans hb5); have HK5 := Lib.hid (HK4.out.trans hk5); have HX5 := Lib.hid (hk5 g _ _ (by decide) hgb HX4.out); obtain ⟨a50, a51, a52, a53, a54, a55, a56, a57, _⟩ := box8s _ g _ _ _ _ _ _ _ _ _ HX5.out; have hs5 := Nat.le_trans hs4 hb5.size; have HP5 := Lib.hid (line_any B b d _ (⟨#[101, 110, 100, 102, 111, 114]⟩ : ByteArray) w5 h5 hd (by simp only [List.length_append]; show X.length + ((indT d).length + (4 + s.size + 5)) + (wT t1).length + 2 + (bT t2 (d + 1)).length + ((indT d).length + (6 + 1)) ≤ _; omega) hs5); clear h5 hb5 hk5)
    | (go_at_call 34; (with_reducible refine HP5.out.mono ?_); rintro e w6 ⟨rfl, h6, hb6, hk6⟩; have HB6 := Lib.hid (HB5.out.trans hb6); have HK6 := Lib.hid (HK5.out.trans hk6); have H6 := Lib.hid h6; clear h6 hb6 hk6))
  go_end0
  exact ⟨rfl, by rw [HEX.out]; exact H6.out, HB6.out, HK6.out⟩
set_option maxHeartbeats 4000000 in
theorem statement_while (ad : Nat → Addr) (eD eM eR eS : Value) (d : Nat) (hd : d ≤ 41) (n : Int) (s : ByteArray) (v : T) (t1 t2 : Nd) (hw1 : WOk ad eD eM eR eS t1) (hb2 : BOd ad eD eM eR eS t2 d) : SOd ad eD eM eR eS (.mk 44 n s v [t1, t2]) d (sT (.mk 44 n s v [t1, t2]) d) := by
  intro B b X w lo hi x hr hlo hhi hBw h hc hlen
  obtain ⟨k, m, z, q, ql, qc, r, c, rfl, _, _, hsz, hv, hlc, hl112, hall⟩ := hr.open
  obtain ⟨W1, hW1⟩ : ∃ W1, W1 = w.alloc (.cells #[.int .i64 44, .int .i64 n, .string s, .int .i64 k, .int .i64 m, .string z, .slice q ql qc, .slice r [t1, t2].length c] 33) := ⟨_, rfl⟩
  have hb0 : Below w.heap.size w W1 := hW1 ▸ (Below.refl w.heap.size w).alloc (Nat.le_refl _) _
  have HX : Hid (W1.heap[w.heap.size]? = some (.cells #[.int .i64 44, .int .i64 n, .string s, .int .i64 k, .int .i64 m, .string z, .slice q ql qc, .slice r [t1, t2].length c] 33 (0, 0))) := hW1 ▸ heap_alloc_new w _
  have HW := Lib.hid (h.below hb0)
  have hB1 : B ≤ W1.heap.size := Nat.le_trans hBw hb0.size
  have HB := Lib.hid (hb0.mono hBw)
  have HK : Hid (Kp b w W1) := Kp.of_below hb0
  have HV := Lib.hid (fun W (hb : Below B w W) => hv.below hb hhi)
  have HALL := Lib.hid (fun W (hb : Below B w W) => hall.below hb hhi)
  have HC := Lib.hid hc
  obtain ⟨g, hg⟩ : ∃ g, g = w.heap.size := ⟨_, rfl⟩
  have hgb : g ≠ b := by have := h.lt; omega
  rw [← hg] at HX
  have hgl : g < W1.heap.size := ltW HX.out
  clear hr hc h hb0 hv
  obtain ⟨x0, x1, x2, x3, x4, x5, x6, x7, _⟩ := box8s _ g _ _ _ _ _ _ _ _ _ HX.out
  obtain ⟨bi, off, o0, n0, s0, v0, l0, k0, m0, z0, q0, ql0, qc0, r0, c0, hp0, _, hbh0, hli0, y00, y01, y02, y03, y04, y05, y06, y07, hr0⟩ := hall.item 0 (by simp)
  obtain ⟨bj1, of1, o1, n1, s1, v1, l1, k1, m1, z1, q1, ql1, qc1, r1, c1, hp1, _, hbh1, hli1, y10, y11, y12, y13, y14, y15, y16, y17, hr1⟩ := hall.item 1 (by simp)
  rw [hp0] at hp1
  injection hp1 with hp1
  injection hp1 with e1a e1b _
  subst e1a e1b
  subst hp0
  have hbB : bi < B := by omega
  have HR0 := Lib.hid (fun W (hb : Below B w W) => (show NRep w lo hi t1 _ from hr0).below hb hhi)
  have HR1 := Lib.hid (fun W (hb : Below B w W) => (show NRep w lo hi t2 _ from hr1).below hb hhi)
  simp only [Nat.zero_mul, Nat.add_zero, Nat.one_mul] at y00 y01 y02 y03 y04 y05 y06 y07 y10 y11 y12 y13 y14 y15 y16 y17
  clear hr0 hli0 hr1 hli1
  have hst : sT (.mk 44 n s v [t1, t2]) d = brcT d [119, 104, 105, 108, 101] (wT t1) (fun d => bT t2 d) ++ lnT d [101, 110, 100, 119, 104, 105, 108, 101] := by rw [sT]; rfl
  rw [hst] at hlen
  simp only [lnT, brcT, List.length_append, List.length_cons, List.length_nil, Nat.zero_add, Nat.reduceAdd] at hlen
  have HEX := Lib.hid (show X ++ sT (.mk 44 n s v [t1, t2]) d = ((X ++ brcT d (⟨#[119, 104, 105, 108, 101]⟩ : ByteArray).data.toList (wT t1) (fun d => bT t2 d)) ++ (indT d ++ ((⟨#[101, 110, 100, 119, 104, 105, 108, 101]⟩ : ByteArray).data.toList ++ [10]))) from by rw [hst]; simp [lnT, brcT])
  have HW1 := Lib.hid hw1
  have HBL2 := Lib.hid hb2
  have HBd := Lib.hid (HB.out.drew)
  simp only [List.length_cons, List.length_nil, Nat.zero_add, Nat.reduceAdd] at x7 HX hW1
  have HXd : Hid (W1.drew.heap[g]? = some (.cells #[.int .i64 44, .int .i64 n, .string s, .int .i64 k, .int .i64 m, .string z, .slice q ql qc, .slice (some ⟨bi, off, none⟩) 2 c] 33 (0, 0))) := HX
  have HSF : Hid (∀ W', Below B w W' → W'.heap[g]? = some (.cells #[.int .i64 44, .int .i64 n, .string s, .int .i64 k, .int .i64 m, .string z, .slice q ql qc, .slice (some ⟨bi, off, none⟩) 2 c] 33 (0, 0)) → W'.cell? ⟨g, 7, none⟩ = some (.slice (some ⟨bi, off, none⟩) 2 c) ∧ W'.cell? ⟨bi, off, none⟩ = some (.int .i64 o0) ∧ W'.cell? ⟨bi, off + 1, none⟩ = some (.int .i64 n0) ∧ W'.cell? ⟨bi, off + 2, none⟩ = some (.string s0) ∧ W'.cell? ⟨bi, off + 3, none⟩ = some (.int .i64 k0) ∧ W'.cell? ⟨bi, off + 4, none⟩ = some (.int .i64 m0) ∧ W'.cell? ⟨bi, off + 5, none⟩ = some (.string z0) ∧ W'.cell? ⟨bi, off + 6, none⟩ = some (.slice q0 ql0 qc0) ∧ W'.cell? ⟨bi, off + 7, none⟩ = some (.slice r0 l0.length c0) ∧ W'.cell? ⟨bi, off + 8, none⟩ = some (.int .i64 o1) ∧ W'.cell? ⟨bi, off + 8 + 1, none⟩ = some (.int .i64 n1) ∧ W'.cell? ⟨bi, off + 8 + 2, none⟩ = some (.string s1) ∧ W'.cell? ⟨bi, off + 8 + 3, none⟩ = some (.int .i64 k1) ∧ W'.cell? ⟨bi, off + 8 + 4, none⟩ = some (.int .i64 m1) ∧ W'.cell? ⟨bi, off + 8 + 5, none⟩ = some (.string z1) ∧ W'.cell? ⟨bi, off + 8 + 6, none⟩ = some (.slice q1 ql1 qc1) ∧ W'.cell? ⟨bi, off + 8 + 7, none⟩ = some (.slice r1 l1.length c1)) := Lib.hid fun W' hb hx => ⟨(box8s _ g _ _ _ _ _ _ _ _ _ hx).2.2.2.2.2.2.2.1, (hb.cell (p := ⟨bi, off, none⟩) hbB).trans y00, (hb.cell (p := ⟨bi, off + 1, none⟩) hbB).trans y01, (hb.cell (p := ⟨bi, off + 2, none⟩) hbB).trans y02, (hb.cell (p := ⟨bi, off + 3, none⟩) hbB).trans y03, (hb.cell (p := ⟨bi, off + 4, none⟩) hbB).trans y04, (hb.cell (p := ⟨bi, off + 5, none⟩) hbB).trans y05, (hb.cell (p := ⟨bi, off + 6, none⟩) hbB).trans y06, (hb.cell (p := ⟨bi, off + 7, none⟩) hbB).trans y07, (hb.cell (p := ⟨bi, off + 8, none⟩) hbB).trans y10, (hb.cell (p := ⟨bi, off + 8 + 1, none⟩) hbB).trans y11, (hb.cell (p := ⟨bi, off + 8 + 2, none⟩) hbB).trans y12, (hb.cell (p := ⟨bi, off + 8 + 3, none⟩) hbB).trans y13, (hb.cell (p := ⟨bi, off + 8 + 4, none⟩) hbB).trans y14, (hb.cell (p := ⟨bi, off + 8 + 5, none⟩) hbB).trans y15, (hb.cell (p := ⟨bi, off + 8 + 6, none⟩) hbB).trans y16, (hb.cell (p := ⟨bi, off + 8 + 7, none⟩) hbB).trans y17⟩
  have HP1 := Lib.hid (branch_any ad eD eM eR eS d hd (⟨#[119, 104, 105, 108, 101]⟩ : ByteArray) t1 t2 HW1.out HBL2.out B b X W1.drew lo hi _ _ (HR0.out _ HBd.out) (HR1.out _ HBd.out) hlo hhi hB1 (HW.out.below (Below.refl _ _).drew) (HC.out.on HBd.out) (by unfold brcT; simp only [List.length_append]; show X.length + ((indT d).length + (5 + 2) + (wT t1).length + 2 + (bT t2 (d + 1)).length) ≤ _; omega))
  clear hall HV hst HALL hw1 hb2 y00 y10 y01 y11 y02 y12 y03 y13 y04 y14 y05 y15 y06 y16 y07 y17
  obtain ⟨f1, e00, e01, e02, e03, e04, e05, e06, e07, e10, e11, e12, e13, e14, e15, e16, e17⟩ := HSF.out _ HBd.out HXd.out
  go_enter Tryz.func20, Tryz.ntmps20
  go_upto_region 1 with fail
  try simp only [List.length_cons, List.length_nil, Nat.zero_add, Nat.reduceAdd]
  rw [← hW1, ← hg]
  clear hW1 hg
  go_upto_region 19 with fail
  go_region_held3 (fun W' => W'.cell? ⟨g, 7, none⟩ = some (.slice (some ⟨bi, off, none⟩) 2 c) ∧ W'.cell? ⟨bi, off, none⟩ = some (.int .i64 o0) ∧ W'.cell? ⟨bi, off + 1, none⟩ = some (.int .i64 n0) ∧ W'.cell? ⟨bi, off + 2, none⟩ = some (.string s0) ∧ W'.cell? ⟨bi, off + 3, none⟩ = some (.int .i64 k0) ∧ W'.cell? ⟨bi, off + 4, none⟩ = some (.int .i64 m0) ∧ W'.cell? ⟨bi, off + 5, none⟩ = some (.string z0) ∧ W'.cell? ⟨bi, off + 6, none⟩ = some (.slice q0 ql0 qc0) ∧ W'.cell? ⟨bi, off + 7, none⟩ = some (.slice r0 l0.length c0) ∧ W'.cell? ⟨bi, off + 8, none⟩ = some (.int .i64 o1) ∧ W'.cell? ⟨bi, off + 8 + 1, none⟩ = some (.int .i64 n1) ∧ W'.cell? ⟨bi, off + 8 + 2, none⟩ = some (.string s1) ∧ W'.cell? ⟨bi, off + 8 + 3, none⟩ = some (.int .i64 k1) ∧ W'.cell? ⟨bi, off + 8 + 4, none⟩ = some (.int .i64 m1) ∧ W'.cell? ⟨bi, off + 8 + 5, none⟩ = some (.string z1) ∧ W'.cell? ⟨bi, off + 8 + 6, none⟩ = some (.slice q1 ql1 qc1) ∧ W'.cell? ⟨bi, off + 8 + 7, none⟩ = some (.slice r1 l1.length c1)) (first | with_reducible exact HSF.out _ HBd.out HXd.out | with_reducible exact HSF.out _ HB2.out HX2.out | with_reducible exact HSF.out _ HB.out HX.out) (first | (go_at_call 40; (with_reducible refine HP1.out.mono ?_); rintro e w2 ⟨rfl, h2, hb2, hk2⟩; have HB2 := Lib.hid (HBd.out.trans hb2); have HK2 := Lib.hid ((Kp.trans HK.out (Kp.of_below (Below.refl _ _).drew)).trans hk2); have HX2 := Lib.hid (hk2 g _ _ (by decide) hgb HXd.out); have hs2 := Nat.le_trans (show B ≤ W1.drew.heap.size from hB1) hb2.size; have HP2 := Lib.hid (line_any B b d _ (⟨#[101, 110, 100, 119, 104, 105, 108, 101]⟩ : ByteArray) w2 h2 hd (by simp only [brcT, List.length_append]; show X.length + ((indT d).length + (5 + 2) + (wT t1).length + 2 + (bT t2 (d + 1)).length) + ((indT d).length + (8 + 1)) ≤ _; omega) hs2); clear h2 hb2 hk2))
  go_wp2_with (go_at_call 34; (with_reducible refine HP2.out.mono ?_); rintro e w3 ⟨rfl, h3, hb3, hk3⟩; have H3 := Lib.hid h3; have HB3 := Lib.hid (HB2.out.trans hb3); have HK3 := Lib.hid (HK2.out.trans hk3); clear h3 hb3 hk3)
  go_end0
  exact ⟨rfl, by rw [HEX.out]; exact H3.out, HB3.out, HK3.out⟩
set_option maxHeartbeats 4000000 in
theorem statement_fork (ad : Nat → Addr) (eD eM eR eS : Value) (d : Nat) (hd : d ≤ 41) (n : Int) (s : ByteArray) (v : T) (t1 t2 : Nd) (hw1 : WOk ad eD eM eR eS t1) (hb2 : BOd ad eD eM eR eS t2 d) : SOd ad eD eM eR eS (.mk 48 n s v [t1, t2]) d (sT (.mk 48 n s v [t1, t2]) d) := by
  intro B b X w lo hi x hr hlo hhi hBw h hc hlen
  obtain ⟨k, m, z, q, ql, qc, r, c, rfl, _, _, hsz, hv, hlc, hl112, hall⟩ := hr.open
  obtain ⟨W1, hW1⟩ : ∃ W1, W1 = w.alloc (.cells #[.int .i64 48, .int .i64 n, .string s, .int .i64 k, .int .i64 m, .string z, .slice q ql qc, .slice r [t1, t2].length c] 33) := ⟨_, rfl⟩
  have hb0 : Below w.heap.size w W1 := hW1 ▸ (Below.refl w.heap.size w).alloc (Nat.le_refl _) _
  have HX : Hid (W1.heap[w.heap.size]? = some (.cells #[.int .i64 48, .int .i64 n, .string s, .int .i64 k, .int .i64 m, .string z, .slice q ql qc, .slice r [t1, t2].length c] 33 (0, 0))) := hW1 ▸ heap_alloc_new w _
  have HW := Lib.hid (h.below hb0)
  have hB1 : B ≤ W1.heap.size := Nat.le_trans hBw hb0.size
  have HB := Lib.hid (hb0.mono hBw)
  have HK : Hid (Kp b w W1) := Kp.of_below hb0
  have HV := Lib.hid (fun W (hb : Below B w W) => hv.below hb hhi)
  have HALL := Lib.hid (fun W (hb : Below B w W) => hall.below hb hhi)
  have HC := Lib.hid hc
  obtain ⟨g, hg⟩ : ∃ g, g = w.heap.size := ⟨_, rfl⟩
  have hgb : g ≠ b := by have := h.lt; omega
  rw [← hg] at HX
  have hgl : g < W1.heap.size := ltW HX.out
  clear hr hc h hb0 hv
  obtain ⟨x0, x1, x2, x3, x4, x5, x6, x7, _⟩ := box8s _ g _ _ _ _ _ _ _ _ _ HX.out
  obtain ⟨bi, off, o0, n0, s0, v0, l0, k0, m0, z0, q0, ql0, qc0, r0, c0, hp0, _, hbh0, hli0, y00, y01, y02, y03, y04, y05, y06, y07, hr0⟩ := hall.item 0 (by simp)
  obtain ⟨bj1, of1, o1, n1, s1, v1, l1, k1, m1, z1, q1, ql1, qc1, r1, c1, hp1, _, hbh1, hli1, y10, y11, y12, y13, y14, y15, y16, y17, hr1⟩ := hall.item 1 (by simp)
  rw [hp0] at hp1
  injection hp1 with hp1
  injection hp1 with e1a e1b _
  subst e1a e1b
  subst hp0
  have hbB : bi < B := by omega
  have HR0 := Lib.hid (fun W (hb : Below B w W) => (show NRep w lo hi t1 _ from hr0).below hb hhi)
  have HR1 := Lib.hid (fun W (hb : Below B w W) => (show NRep w lo hi t2 _ from hr1).below hb hhi)
  simp only [Nat.zero_mul, Nat.add_zero, Nat.one_mul] at y00 y01 y02 y03 y04 y05 y06 y07 y10 y11 y12 y13 y14 y15 y16 y17
  clear hr0 hli0 hr1 hli1
  have hst : sT (.mk 48 n s v [t1, t2]) d = brcT d [102, 111, 114, 107] (wT t1) (fun d => bT t2 d) ++ lnT d [101, 110, 100, 102, 111, 114, 107] := by rw [sT]; rfl
  rw [hst] at hlen
  simp only [lnT, brcT, List.length_append, List.length_cons, List.length_nil, Nat.zero_add, Nat.reduceAdd] at hlen
  have HEX := Lib.hid (show X ++ sT (.mk 48 n s v [t1, t2]) d = ((X ++ brcT d (⟨#[102, 111, 114, 107]⟩ : ByteArray).data.toList (wT t1) (fun d => bT t2 d)) ++ (indT d ++ ((⟨#[101, 110, 100, 102, 111, 114, 107]⟩ : ByteArray).data.toList ++ [10]))) from by rw [hst]; simp [lnT, brcT])
  have HW1 := Lib.hid hw1
  have HBL2 := Lib.hid hb2
  have HBd := Lib.hid (HB.out.drew)
  simp only [List.length_cons, List.length_nil, Nat.zero_add, Nat.reduceAdd] at x7 HX hW1
  have HXd : Hid (W1.drew.heap[g]? = some (.cells #[.int .i64 48, .int .i64 n, .string s, .int .i64 k, .int .i64 m, .string z, .slice q ql qc, .slice (some ⟨bi, off, none⟩) 2 c] 33 (0, 0))) := HX
  have HSF : Hid (∀ W', Below B w W' → W'.heap[g]? = some (.cells #[.int .i64 48, .int .i64 n, .string s, .int .i64 k, .int .i64 m, .string z, .slice q ql qc, .slice (some ⟨bi, off, none⟩) 2 c] 33 (0, 0)) → W'.cell? ⟨g, 7, none⟩ = some (.slice (some ⟨bi, off, none⟩) 2 c) ∧ W'.cell? ⟨bi, off, none⟩ = some (.int .i64 o0) ∧ W'.cell? ⟨bi, off + 1, none⟩ = some (.int .i64 n0) ∧ W'.cell? ⟨bi, off + 2, none⟩ = some (.string s0) ∧ W'.cell? ⟨bi, off + 3, none⟩ = some (.int .i64 k0) ∧ W'.cell? ⟨bi, off + 4, none⟩ = some (.int .i64 m0) ∧ W'.cell? ⟨bi, off + 5, none⟩ = some (.string z0) ∧ W'.cell? ⟨bi, off + 6, none⟩ = some (.slice q0 ql0 qc0) ∧ W'.cell? ⟨bi, off + 7, none⟩ = some (.slice r0 l0.length c0) ∧ W'.cell? ⟨bi, off + 8, none⟩ = some (.int .i64 o1) ∧ W'.cell? ⟨bi, off + 8 + 1, none⟩ = some (.int .i64 n1) ∧ W'.cell? ⟨bi, off + 8 + 2, none⟩ = some (.string s1) ∧ W'.cell? ⟨bi, off + 8 + 3, none⟩ = some (.int .i64 k1) ∧ W'.cell? ⟨bi, off + 8 + 4, none⟩ = some (.int .i64 m1) ∧ W'.cell? ⟨bi, off + 8 + 5, none⟩ = some (.string z1) ∧ W'.cell? ⟨bi, off + 8 + 6, none⟩ = some (.slice q1 ql1 qc1) ∧ W'.cell? ⟨bi, off + 8 + 7, none⟩ = some (.slice r1 l1.length c1)) := Lib.hid fun W' hb hx => ⟨(box8s _ g _ _ _ _ _ _ _ _ _ hx).2.2.2.2.2.2.2.1, (hb.cell (p := ⟨bi, off, none⟩) hbB).trans y00, (hb.cell (p := ⟨bi, off + 1, none⟩) hbB).trans y01, (hb.cell (p := ⟨bi, off + 2, none⟩) hbB).trans y02, (hb.cell (p := ⟨bi, off + 3, none⟩) hbB).trans y03, (hb.cell (p := ⟨bi, off + 4, none⟩) hbB).trans y04, (hb.cell (p := ⟨bi, off + 5, none⟩) hbB).trans y05, (hb.cell (p := ⟨bi, off + 6, none⟩) hbB).trans y06, (hb.cell (p := ⟨bi, off + 7, none⟩) hbB).trans y07, (hb.cell (p := ⟨bi, off + 8, none⟩) hbB).trans y10, (hb.cell (p := ⟨bi, off + 8 + 1, none⟩) hbB).trans y11, (hb.cell (p := ⟨bi, off + 8 + 2, none⟩) hbB).trans y12, (hb.cell (p := ⟨bi, off + 8 + 3, none⟩) hbB).trans y13, (hb.cell (p := ⟨bi, off + 8 + 4, none⟩) hbB).trans y14, (hb.cell (p := ⟨bi, off + 8 + 5, none⟩) hbB).trans y15, (hb.cell (p := ⟨bi, off + 8 + 6, none⟩) hbB).trans y16, (hb.cell (p := ⟨bi, off + 8 + 7, none⟩) hbB).trans y17⟩
  have HP1 := Lib.hid (branch_any ad eD eM eR eS d hd (⟨#[102, 111, 114, 107]⟩ : ByteArray) t1 t2 HW1.out HBL2.out B b X W1.drew lo hi _ _ (HR0.out _ HBd.out) (HR1.out _ HBd.out) hlo hhi hB1 (HW.out.below (Below.refl _ _).drew) (HC.out.on HBd.out) (by unfold brcT; simp only [List.length_append]; show X.length + ((indT d).length + (4 + 2) + (wT t1).length + 2 + (bT t2 (d + 1)).length) ≤ _; omega))
  clear hall HV hst HALL hw1 hb2 y00 y10 y01 y11 y02 y12 y03 y13 y04 y14 y05 y15 y06 y16 y07 y17
  obtain ⟨f1, e00, e01, e02, e03, e04, e05, e06, e07, e10, e11, e12, e13, e14, e15, e16, e17⟩ := HSF.out _ HBd.out HXd.out
  go_enter Tryz.func20, Tryz.ntmps20
  go_upto_region 1 with fail
  try simp only [List.length_cons, List.length_nil, Nat.zero_add, Nat.reduceAdd]
  rw [← hW1, ← hg]
  clear hW1 hg
  go_upto_region 22 with fail
  go_region_held3 (fun W' => W'.cell? ⟨g, 7, none⟩ = some (.slice (some ⟨bi, off, none⟩) 2 c) ∧ W'.cell? ⟨bi, off, none⟩ = some (.int .i64 o0) ∧ W'.cell? ⟨bi, off + 1, none⟩ = some (.int .i64 n0) ∧ W'.cell? ⟨bi, off + 2, none⟩ = some (.string s0) ∧ W'.cell? ⟨bi, off + 3, none⟩ = some (.int .i64 k0) ∧ W'.cell? ⟨bi, off + 4, none⟩ = some (.int .i64 m0) ∧ W'.cell? ⟨bi, off + 5, none⟩ = some (.string z0) ∧ W'.cell? ⟨bi, off + 6, none⟩ = some (.slice q0 ql0 qc0) ∧ W'.cell? ⟨bi, off + 7, none⟩ = some (.slice r0 l0.length c0) ∧ W'.cell? ⟨bi, off + 8, none⟩ = some (.int .i64 o1) ∧ W'.cell? ⟨bi, off + 8 + 1, none⟩ = some (.int .i64 n1) ∧ W'.cell? ⟨bi, off + 8 + 2, none⟩ = some (.string s1) ∧ W'.cell? ⟨bi, off + 8 + 3, none⟩ = some (.int .i64 k1) ∧ W'.cell? ⟨bi, off + 8 + 4, none⟩ = some (.int .i64 m1) ∧ W'.cell? ⟨bi, off + 8 + 5, none⟩ = some (.string z1) ∧ W'.cell? ⟨bi, off + 8 + 6, none⟩ = some (.slice q1 ql1 qc1) ∧ W'.cell? ⟨bi, off + 8 + 7, none⟩ = some (.slice r1 l1.length c1)) (first | with_reducible exact HSF.out _ HBd.out HXd.out | with_reducible exact HSF.out _ HB2.out HX2.out | with_reducible exact HSF.out _ HB.out HX.out) (first | (go_at_call 40; (with_reducible refine HP1.out.mono ?_); rintro e w2 ⟨rfl, h2, hb2, hk2⟩; have HB2 := Lib.hid (HBd.out.trans hb2); have HK2 := Lib.hid ((Kp.trans HK.out (Kp.of_below (Below.refl _ _).drew)).trans hk2); have HX2 := Lib.hid (hk2 g _ _ (by decide) hgb HXd.out); have hs2 := Nat.le_trans (show B ≤ W1.drew.heap.size from hB1) hb2.size; have HP2 := Lib.hid (line_any B b d _ (⟨#[101, 110, 100, 102, 111, 114, 107]⟩ : ByteArray) w2 h2 hd (by simp only [brcT, List.length_append]; show X.length + ((indT d).length + (4 + 2) + (wT t1).length + 2 + (bT t2 (d + 1)).length) + ((indT d).length + (7 + 1)) ≤ _; omega) hs2); clear h2 hb2 hk2))
  go_wp2_with (go_at_call 34; (with_reducible refine HP2.out.mono ?_); rintro e w3 ⟨rfl, h3, hb3, hk3⟩; have H3 := Lib.hid h3; have HB3 := Lib.hid (HB2.out.trans hb3); have HK3 := Lib.hid (HK2.out.trans hk3); clear h3 hb3 hk3)
  go_end0
  exact ⟨rfl, by rw [HEX.out]; exact H3.out, HB3.out, HK3.out⟩
set_option maxHeartbeats 4000000 in
theorem statement_finally (ad : Nat → Addr) (eD eM eR eS : Value) (d : Nat) (hd : d ≤ 41) (n : Int) (s : ByteArray) (v : T) (t1 t2 : Nd) (hb1 : BOd ad eD eM eR eS t1 d) (hb2 : BOd ad eD eM eR eS t2 d) : SOd ad eD eM eR eS (.mk 51 n s v [t1, t2]) d (sT (.mk 51 n s v [t1, t2]) d) := by
  intro B b X w lo hi x hr hlo hhi hBw h hc hlen
  obtain ⟨k, m, z, q, ql, qc, r, c, rfl, _, _, hsz, hv, hlc, hl112, hall⟩ := hr.open
  obtain ⟨W1, hW1⟩ : ∃ W1, W1 = w.alloc (.cells #[.int .i64 51, .int .i64 n, .string s, .int .i64 k, .int .i64 m, .string z, .slice q ql qc, .slice r [t1, t2].length c] 33) := ⟨_, rfl⟩
  have hb0 : Below w.heap.size w W1 := hW1 ▸ (Below.refl w.heap.size w).alloc (Nat.le_refl _) _
  have HX : Hid (W1.heap[w.heap.size]? = some (.cells #[.int .i64 51, .int .i64 n, .string s, .int .i64 k, .int .i64 m, .string z, .slice q ql qc, .slice r [t1, t2].length c] 33 (0, 0))) := hW1 ▸ heap_alloc_new w _
  have HW := Lib.hid (h.below hb0)
  have hB1 : B ≤ W1.heap.size := Nat.le_trans hBw hb0.size
  have HB := Lib.hid (hb0.mono hBw)
  have HK : Hid (Kp b w W1) := Kp.of_below hb0
  have HV := Lib.hid (fun W (hb : Below B w W) => hv.below hb hhi)
  have HALL := Lib.hid (fun W (hb : Below B w W) => hall.below hb hhi)
  have HC := Lib.hid hc
  obtain ⟨g, hg⟩ : ∃ g, g = w.heap.size := ⟨_, rfl⟩
  have hgb : g ≠ b := by have := h.lt; omega
  rw [← hg] at HX
  have hgl : g < W1.heap.size := ltW HX.out
  clear hr hc h hb0 hv
  obtain ⟨x0, x1, x2, x3, x4, x5, x6, x7, _⟩ := box8s _ g _ _ _ _ _ _ _ _ _ HX.out
  obtain ⟨bi, off, o0, n0, s0, v0, l0, k0, m0, z0, q0, ql0, qc0, r0, c0, hp0, _, hbh0, hli0, y00, y01, y02, y03, y04, y05, y06, y07, hr0⟩ := hall.item 0 (by simp)
  obtain ⟨bj1, of1, o1, n1, s1, v1, l1, k1, m1, z1, q1, ql1, qc1, r1, c1, hp1, _, hbh1, hli1, y10, y11, y12, y13, y14, y15, y16, y17, hr1⟩ := hall.item 1 (by simp)
  rw [hp0] at hp1
  injection hp1 with hp1
  injection hp1 with e1a e1b _
  subst e1a e1b
  subst hp0
  have hbB : bi < B := by omega
  have HR0 := Lib.hid (fun W (hb : Below B w W) => (show NRep w lo hi t1 _ from hr0).below hb hhi)
  have HR1 := Lib.hid (fun W (hb : Below B w W) => (show NRep w lo hi t2 _ from hr1).below hb hhi)
  simp only [Nat.zero_mul, Nat.add_zero, Nat.one_mul] at y00 y01 y02 y03 y04 y05 y06 y07 y10 y11 y12 y13 y14 y15 y16 y17
  clear hr0 hli0 hr1 hli1
  have hst : sT (.mk 51 n s v [t1, t2]) d = lnT d [116, 114, 121] ++ bT t1 (d + 1) ++ lnT d [102, 105, 110, 97, 108, 108, 121] ++ bT t2 (d + 1) ++ lnT d [101, 110, 100, 116, 114, 121] := by rw [sT]; rfl
  rw [hst] at hlen
  simp only [lnT, List.length_append, List.length_cons, List.length_nil, Nat.zero_add, Nat.reduceAdd] at hlen
  have HEX := Lib.hid (show X ++ sT (.mk 51 n s v [t1, t2]) d = (((((X ++ (indT d ++ ((⟨#[116, 114, 121]⟩ : ByteArray).data.toList ++ [10]))) ++ bT t1 (d + 1)) ++ (indT d ++ ((⟨#[102, 105, 110, 97, 108, 108, 121]⟩ : ByteArray).data.toList ++ [10]))) ++ bT t2 (d + 1)) ++ (indT d ++ ((⟨#[101, 110, 100, 116, 114, 121]⟩ : ByteArray).data.toList ++ [10]))) from by rw [hst]; simp [lnT])
  have HBL1 := Lib.hid hb1
  have HBL2 := Lib.hid hb2
  have HP1 := Lib.hid (line_any B b d X (⟨#[116, 114, 121]⟩ : ByteArray) W1 HW.out hd (by show X.length + ((indT d).length + (3 + 1)) ≤ _; omega) hB1)
  clear hall HV hst HALL hb1 hb2
  simp only [List.length_cons, List.length_nil, Nat.zero_add, Nat.reduceAdd] at x7 HX hW1
  go_enter Tryz.func20, Tryz.ntmps20
  go_upto_region 1 with fail
  try simp only [List.length_cons, List.length_nil, Nat.zero_add, Nat.reduceAdd]
  rw [← hW1, ← hg]
  clear hW1 hg
  go_wp2_with (first
    | (go_at_call 34; (with_reducible refine HP1.out.mono ?_); rintro e w2 ⟨rfl, h2, hb2, hk2⟩; have HB2 := Lib.hid (HB.out.trans hb2); have HK2 := Lib.hid (HK.out.trans hk2); have HX2 := Lib.hid (hk2 g _ _ (by decide) hgb HX.out); obtain ⟨a20, a21, a22, a23, a24, a25, a26, a27, _⟩ := box8s _ g _ _ _ _ _ _ _ _ _ HX2.out; have hs2 := Nat.le_trans hB1 hb2.size; have z200 := (HB2.out.cell (p := ⟨bi, off, none⟩) hbB).trans y00; have z201 := (HB2.out.cell (p := ⟨bi, off + 1, none⟩) hbB).trans y01; have z202 := (HB2.out.cell (p := ⟨bi, off + 2, none⟩) hbB).trans y02; have z203 := (HB2.out.cell (p := ⟨bi, off + 3, none⟩) hbB).trans y03; have z204 := (HB2.out.cell (p := ⟨bi, off + 4, none⟩) hbB).trans y04; have z205 := (HB2.out.cell (p := ⟨bi, off + 5, none⟩) hbB).trans y05; have z206 := (HB2.out.cell (p := ⟨bi, off + 6, none⟩) hbB).trans y06; have z207 := (HB2.out.cell (p := ⟨bi, off + 7, none⟩) hbB).trans y07; have HP2 := Lib.hid (HBL1.out B b _ w2 lo hi _ (HR0.out _ HB2.out) hlo hhi hs2 h2 (HC.out.on HB2.out) (by simp only [List.length_append]; show X.length + ((indT d).length + (3 + 1)) + (bT t1 (d + 1)).length ≤ _; omega)); clear h2 hb2 hk2)
    | (go_at_call 38; (with_reducible refine HP2.out.mono ?_); rintro e w3 ⟨rfl, h3, hb3, hk3⟩; have HB3 := Lib.hid (HB2.out.trans hb3); have HK3 := Lib.hid (HK2.out.trans hk3); have HX3 := Lib.hid (hk3 g _ _ (by decide) hgb HX2.out); obtain ⟨a30, a31, a32, a33, a34, a35, a36, a37, _⟩ := box8s _ g _ _ _ _ _ _ _ _ _ HX3.out; have hs3 := Nat.le_trans hs2 hb3.size; have HP3 := Lib.hid (line_any B b d _ (⟨#[102, 105, 110, 97, 108, 108, 121]⟩ : ByteArray) w3 h3 hd (by simp only [List.length_append]; show X.length + ((indT d).length + (3 + 1)) + (bT t1 (d + 1)).length + ((indT d).length + (7 + 1)) ≤ _; omega) hs3); clear h3 hb3 hk3)
    | (go_at_call 34; (with_reducible refine HP3.out.mono ?_); rintro e w4 ⟨rfl, h4, hb4, hk4⟩; have HB4 := Lib.hid (HB3.out.trans hb4); have HK4 := Lib.hid (HK3.out.trans hk4); have HX4 := Lib.hid (hk4 g _ _ (by decide) hgb HX3.out); obtain ⟨a40, a41, a42, a43, a44, a45, a46, a47, _⟩ := box8s _ g _ _ _ _ _ _ _ _ _ HX4.out; have hs4 := Nat.le_trans hs3 hb4.size; have z410 := (HB4.out.cell (p := ⟨bi, off + 8, none⟩) hbB).trans y10; have z411 := (HB4.out.cell (p := ⟨bi, off + 8 + 1, none⟩) hbB).trans y11; have z412 := (HB4.out.cell (p := ⟨bi, off + 8 + 2, none⟩) hbB).trans y12; have z413 := (HB4.out.cell (p := ⟨bi, off + 8 + 3, none⟩) hbB).trans y13; have z414 := (HB4.out.cell (p := ⟨bi, off + 8 + 4, none⟩) hbB).trans y14; have z415 := (HB4.out.cell (p := ⟨bi, off + 8 + 5, none⟩) hbB).trans y15; have z416 := (HB4.out.cell (p := ⟨bi, off + 8 + 6, none⟩) hbB).trans y16; have z417 := (HB4.out.cell (p := ⟨bi, off + 8 + 7, none⟩) hbB).trans y17; have HP4 := Lib.hid (HBL2.out B b _ w4 lo hi _ (HR1.out _ HB4.out) hlo hhi hs4 h4 (HC.out.on HB4.out) (by simp only [List.length_append]; show X.length + ((indT d).length + (3 + 1)) + (bT t1 (d + 1)).length + ((indT d).length + (7 + 1)) + (bT t2 (d + 1)).length ≤ _; omega)); clear h4 hb4 hk4)
    | (go_at_call 38; (with_reducible refine HP4.out.mono ?_); rintro e w5 ⟨rfl, h5, hb5, hk5⟩; have HB5 := Lib.hid (HB4.out.trans hb5); have HK5 := Lib.hid (HK4.out.trans hk5); have HX5 := Lib.hid (hk5 g _ _ (by decide) hgb HX4.out); obtain ⟨a50, a51, a52, a53, a54, a55, a56, a57, _⟩ := box8s _ g _ _ _ _ _ _ _ _ _ HX5.out; have hs5 := Nat.le_trans hs4 hb5.size; have HP5 := Lib.hid (line_any B b d _ (⟨#[101, 110, 100, 116, 114, 121]⟩ : ByteArray) w5 h5 hd (by simp only [List.length_append]; show X.length + ((indT d).length + (3 + 1)) + (bT t1 (d + 1)).length + ((indT d).length + (7 + 1)) + (bT t2 (d + 1)).length + ((indT d).length + (6 + 1)) ≤ _; omega) hs5); clear h5 hb5 hk5)
    | (go_at_call 34; (with_reducible refine HP5.out.mono ?_); rintro e w6 ⟨rfl, h6, hb6, hk6⟩; have HB6 := Lib.hid (HB5.out.trans hb6); have HK6 := Lib.hid (HK5.out.trans hk6); have H6 := Lib.hid h6; clear h6 hb6 hk6))
  go_end0
  exact ⟨rfl, by rw [HEX.out]; exact H6.out, HB6.out, HK6.out⟩
set_option maxHeartbeats 4000000 in
theorem statement_simple (ad : Nat → Addr) (eD eM eR eS : Value) (d : Nat) (o n : Int) (s : ByteArray) (v : T) (l : List Nd) (tt : List UInt8) (ho : o = 40 ∨ o = 45 ∨ o = 46 ∨ o = 47) (hs : SiOk ad eD eM eR eS (.mk o n s v l) d tt) : SOd ad eD eM eR eS (.mk o n s v l) d tt := by
  intro B b X w lo hi x hr hlo hhi hBw h hc hlen
  obtain ⟨k, m, z, q, ql, qc, r, c, rfl, _, _, hsz, hv, hlc, hl112, hall⟩ := hr.open
  obtain ⟨W1, hW1⟩ : ∃ W1, W1 = w.alloc (.cells #[.int .i64 o, .int .i64 n, .string s, .int .i64 k, .int .i64 m, .string z, .slice q ql qc, .slice r l.length c] 33) := ⟨_, rfl⟩
  have hb0 : Below w.heap.size w W1 := hW1 ▸ (Below.refl w.heap.size w).alloc (Nat.le_refl _) _
  have HX : Hid (W1.heap[w.heap.size]? = some (.cells #[.int .i64 o, .int .i64 n, .string s, .int .i64 k, .int .i64 m, .string z, .slice q ql qc, .slice r l.length c] 33 (0, 0))) := hW1 ▸ heap_alloc_new w _
  have HW := Lib.hid (h.below hb0)
  have hB1 : B ≤ W1.heap.size := Nat.le_trans hBw hb0.size
  have HB := Lib.hid (hb0.mono hBw)
  have HK : Hid (Kp b w W1) := Kp.of_below hb0
  have HV := Lib.hid (fun W (hb : Below B w W) => hv.below hb hhi)
  have HALL := Lib.hid (fun W (hb : Below B w W) => hall.below hb hhi)
  have HC := Lib.hid hc
  obtain ⟨g, hg⟩ : ∃ g, g = w.heap.size := ⟨_, rfl⟩
  have hgb : g ≠ b := by have := h.lt; omega
  rw [← hg] at HX
  have hgl : g < W1.heap.size := ltW HX.out
  have HRR := Lib.hid (hr.below hb0 (Nat.le_trans hhi hBw))
  clear hr hc h hb0 hv hall
  obtain ⟨x0, x1, x2, x3, x4, x5, x6, x7, _⟩ := box8s _ g _ _ _ _ _ _ _ _ _ HX.out
  have HP := Lib.hid (hs B b X W1 lo hi _ HRR.out hlo hhi hB1 HW.out (HC.out.on HB.out) hlen)
  have e41 : (o == 41) = false := by simp; omega
  have e42 : (o == 42) = false := by simp; omega
  have e43 : (o == 43) = false := by simp; omega
  have e44 : (o == 44) = false := by simp; omega
  have e48 : (o == 48) = false := by simp; omega
  have e49 : (o == 49) = false := by simp; omega
  have e51 : (o == 51) = false := by simp; omega
  clear hs ho
  go_enter Tryz.func20, Tryz.ntmps20
  go_upto_region 1 with fail
  rw [← hW1, ← hg]
  clear hW1 hg
  go_wp2_with (go_at_call 42; refine HP.out.mono ?_; rintro e w3 ⟨rfl, h3, hb3, hk3⟩; have H3 := Lib.hid h3; have HB3 := Lib.hid (HB.out.trans hb3); have HK3 := Lib.hid (HK.out.trans hk3); clear h3 hb3 hk3)
  go_end0
  exact ⟨rfl, H3.out, HB3.out, HK3.out⟩
end Go.Proofs.YtemkikjcjhmlaaaGreatDoor.Sh

namespace Go.Proofs.YtemkikjcjhmlaaaGreatDoor.Sh
open Go.RowKit
set_option maxRecDepth 100000

/-- The parts of an If, each of its place. -/
def BrOk (ad : Nat → Addr) (eD eM eR eS : Value) (d : Nat) : List Nd → Prop
  | [] => True
  | [t] => BOd ad eD eM eR eS t d
  | t :: u :: r => WOk ad eD eM eR eS t ∧ BOd ad eD eM eR eS u d ∧ BrOk ad eD eM eR eS d r
def slen : Value → Nat
  | .slice _ n _ => n
  | _ => 0
theorem brT2 (d : Nat) (wd : List UInt8) (t u : Nd) (r : List Nd) : brT d wd (wAll (t :: u :: r)) (bAll (t :: u :: r)) = brcT d wd (wT t) (fun d => bT u d) ++ brT d [101, 108, 115, 101, 105, 102] (wAll r) (bAll r) := rfl
theorem brT1 (d : Nat) (wd : List UInt8) (t : Nd) : brT d wd (wAll [t]) (bAll [t]) = lnT d [101, 108, 115, 101] ++ bT t (d + 1) := rfl
theorem brT0 (d : Nat) (wd : List UInt8) : brT d wd (wAll []) (bAll []) = [] := rfl
set_option maxHeartbeats 4000000 in
theorem branches_any (ad : Nat → Addr) (eD eM eR eS : Value) (d : Nat) (hd : d ≤ 41) (L : List Nd) (hbr : BrOk ad eD eM eR eS d L) (hll : L.length ≤ 1000000) (B b : Nat) (X : List UInt8) (w : World) (lo hi : Nat) (p : Option Addr) (cap : Nat) (hall : NAll w lo hi L p) (hlc : L.length ≤ cap) (hlo : lo ≤ B) (hhi : hi ≤ B) (hBw : B ≤ w.heap.size) (h : Wr B b d X w) (hc : Ctx ad eD eM eR eS B w) (hlen : X.length + (brT d [105, 102] (wAll L) (bAll L)).length ≤ 70368744177664) :
    Calls Tryz.prog 33 #[.pointer (some ⟨b, 0, none⟩), .slice p L.length cap] w (WPost B b d (X ++ brT d [105, 102] (wAll L) (bAll L)) w) := by
  have HN := Lib.hid (fun W (hb : Below B w W) => hall.below hb hhi)
  have HC := Lib.hid hc
  have H := Lib.hid h
  have HBR := Lib.hid hbr
  obtain ⟨M, hM⟩ : ∃ M, X ++ brT d [105, 102] (wAll L) (bAll L) = M := ⟨_, rfl⟩
  have hml : M.length ≤ 70368744177664 := by rw [← hM, List.length_append]; exact hlen
  have HM := Lib.hid hM
  rw [hM]
  clear hall hc h hbr hlen hM
  go_enter Tryz.func33, Tryz.ntmps33
  go_wp2
  go_loopw [1, 4] (fun l wo wr => ∃ (R : List Nd) (q : Option Addr) (cq : Nat) (wd : ByteArray) (Y : List UInt8), l = .slice q R.length cq ∧ wo = .string wd ∧ R.length ≤ cq ∧ R.length ≤ 1000000 ∧ wd.size ≤ 100 ∧ Hid (BrOk ad eD eM eR eS d R) ∧ Hid (∀ W, Below B w W → NAll W lo hi R q) ∧ Hid (Wr B b d Y wr) ∧ Hid (Below B w wr) ∧ Hid (Kp b w wr) ∧ Hid (Y ++ brT d wd.data.toList (wAll R) (bAll R) = M)) (fun l _ _ => slen l)
  case atStart => exact ⟨L, p, cap, _, X, rfl, rfl, hlc, hll, by decide, HBR, HN, H, Lib.hid (Below.refl _ _), Lib.hid (Kp.refl _ _), HM⟩
  case round =>
    obtain ⟨R, q, cq, wd, Y, rfl, rfl, hcq, hrl, hwd, HBR, HN, HW, HB, HK, HM⟩ := hrel
    have hBr : B ≤ wr.heap.size := Nat.le_trans hBw HB.out.size
    match R, HBR, HN, HM, hcq, hrl with
    | [], HBR, HN, HM, hcq, hrl =>
      rw [brT0, List.append_nil] at HM
      simp only [List.length_nil]
      go_wp2
      go_end0
      exact ⟨rfl, HM.out ▸ HW.out, HB.out, HK.out⟩
    | [t], HBR, HN, HM, hcq, hrl =>
      have hMl : Y.length + ((indT d).length + (4 + 1)) + (bT t (d + 1)).length ≤ 70368744177664 := by
        rw [← HM.out, brT1] at hml
        simp only [lnT, List.length_append, List.length_cons, List.length_nil] at hml
        omega
      have HME := Lib.hid (show (Y ++ (indT d ++ ((⟨#[101, 108, 115, 101]⟩ : ByteArray).data.toList ++ [10]))) ++ bT t (d + 1) = M from by rw [← HM.out, brT1]; simp [lnT])
      obtain ⟨bi, off, o0, n0, s0, v0, l0, k0, m0, z0, q0, ql0, qc0, r0, c0, hp0, _, hbh0, hli0, y00, y01, y02, y03, y04, y05, y06, y07, hr0⟩ := (HN.out wr HB.out).item 0 (by simp)
      subst hp0
      have hbB : bi < B := by omega
      simp only [Nat.zero_mul, Nat.add_zero] at y00 y01 y02 y03 y04 y05 y06 y07
      have HR0 := Lib.hid (fun W (hb : Below B wr W) => (show NRep wr lo hi t _ from hr0).below hb hhi)
      have HP1 := Lib.hid (line_any B b d Y (⟨#[101, 108, 115, 101]⟩ : ByteArray) wr HW.out hd (by show Y.length + ((indT d).length + (4 + 1)) ≤ _; omega) hBr)
      have HBL := Lib.hid (show BOd ad eD eM eR eS t d from HBR.out)
      simp only [List.length_cons, List.length_nil, Nat.zero_add]
      clear hr0 hli0 HM HBR HN
      go_wp2_with (first
        | (go_at_call 34; (with_reducible refine HP1.out.mono ?_); rintro e w2 ⟨rfl, h2, hb2, hk2⟩; have HB2 := Lib.hid (HB.out.trans hb2); have HK2 := Lib.hid (HK.out.trans hk2); have hs2 := Nat.le_trans hBr hb2.size; have z20 := (hb2.cell (p := ⟨bi, off, none⟩) hbB).trans y00; have z21 := (hb2.cell (p := ⟨bi, off + 1, none⟩) hbB).trans y01; have z22 := (hb2.cell (p := ⟨bi, off + 2, none⟩) hbB).trans y02; have z23 := (hb2.cell (p := ⟨bi, off + 3, none⟩) hbB).trans y03; have z24 := (hb2.cell (p := ⟨bi, off + 4, none⟩) hbB).trans y04; have z25 := (hb2.cell (p := ⟨bi, off + 5, none⟩) hbB).trans y05; have z26 := (hb2.cell (p := ⟨bi, off + 6, none⟩) hbB).trans y06; have z27 := (hb2.cell (p := ⟨bi, off + 7, none⟩) hbB).trans y07; have HP2 := Lib.hid (HBL.out B b _ w2 lo hi _ (HR0.out _ hb2) hlo hhi hs2 h2 (HC.out.on HB2.out) (by simp only [List.length_append]; show Y.length + ((indT d).length + (4 + 1)) + _ ≤ _; omega)); clear h2 hb2 hk2)
        | (go_at_call 38; (with_reducible refine HP2.out.mono ?_); rintro e w3 ⟨rfl, h3, hb3, hk3⟩; have H3 := Lib.hid h3; have HB3 := Lib.hid (HB2.out.trans hb3); have HK3 := Lib.hid (HK2.out.trans hk3); clear h3 hb3 hk3))
      go_end0
      exact ⟨rfl, HME.out ▸ H3.out, HB3.out, HK3.out⟩
    | t :: u :: rr, HBR, HN, HM, hcq, hrl =>
      obtain ⟨hw1, hb2, hbr2⟩ := HBR.out
      have HW1 := Lib.hid hw1
      have HBL2 := Lib.hid hb2
      have HBR2 := Lib.hid hbr2
      have hMl : Y.length + (brcT d wd.data.toList (wT t) (fun d => bT u d)).length ≤ 70368744177664 := by
        rw [← HM.out, brT2] at hml
        simp only [List.length_append] at hml
        omega
      have HME := Lib.hid (show (Y ++ brcT d wd.data.toList (wT t) (fun d => bT u d)) ++ brT d (⟨#[101, 108, 115, 101, 105, 102]⟩ : ByteArray).data.toList (wAll rr) (bAll rr) = M from by rw [← HM.out, brT2, List.append_assoc])
      obtain ⟨bi, off, o0, n0, s0, v0, l0, k0, m0, z0, q0, ql0, qc0, r0, c0, hp0, _, hbh0, hli0, y00, y01, y02, y03, y04, y05, y06, y07, hr0⟩ := (HN.out wr HB.out).item 0 (by simp)
      obtain ⟨bj1, of1, o1, n1, s1, v1, l1, k1, m1, z1, q1, ql1, qc1, r1, c1, hp1, _, hbh1, hli1, y10, y11, y12, y13, y14, y15, y16, y17, hr1⟩ := (HN.out wr HB.out).item 1 (by simp)
      rw [hp0] at hp1
      injection hp1 with hp1
      injection hp1 with e1a e1b _
      subst e1a e1b
      subst hp0
      have hbB : bi < B := by omega
      simp only [Nat.zero_mul, Nat.add_zero, Nat.one_mul] at y00 y01 y02 y03 y04 y05 y06 y07 y10 y11 y12 y13 y14 y15 y16 y17
      have HR0 := Lib.hid (fun W (hb : Below B wr W) => (show NRep wr lo hi t _ from hr0).below hb hhi)
      have HR1 := Lib.hid (fun W (hb : Below B wr W) => (show NRep wr lo hi u _ from hr1).below hb hhi)
      obtain ⟨q9, hsl, _⟩ := nslice_tail (some ⟨bi, off, none⟩) (t :: u :: rr) cq 2 (by simp) hcq lo hi wr (HN.out wr HB.out)
      have HDR : Hid (∀ W, Below B w W → NAll W lo hi rr q9) := Lib.hid (fun W hb => by
        obtain ⟨q8, hs8, hn8⟩ := nslice_tail (some ⟨bi, off, none⟩) (t :: u :: rr) cq 2 (by simp) hcq lo hi W (HN.out W hb)
        have e := (hs8 wr).symm.trans (hsl wr)
        injection e with e1
        injection e1 with e2
        exact e2 ▸ hn8)
      have hN2 : rr.length + 1 + 1 - 2 = rr.length := by omega
      have HSF : Hid (∀ W', Below B wr W' → W'.cell? ⟨bi, off, none⟩ = some (.int .i64 o0) ∧ W'.cell? ⟨bi, off + 1, none⟩ = some (.int .i64 n0) ∧ W'.cell? ⟨bi, off + 2, none⟩ = some (.string s0) ∧ W'.cell? ⟨bi, off + 3, none⟩ = some (.int .i64 k0) ∧ W'.cell? ⟨bi, off + 4, none⟩ = some (.int .i64 m0) ∧ W'.cell? ⟨bi, off + 5, none⟩ = some (.string z0) ∧ W'.cell? ⟨bi, off + 6, none⟩ = some (.slice q0 ql0 qc0) ∧ W'.cell? ⟨bi, off + 7, none⟩ = some (.slice r0 l0.length c0) ∧ W'.cell? ⟨bi, off + 8, none⟩ = some (.int .i64 o1) ∧ W'.cell? ⟨bi, off + 8 + 1, none⟩ = some (.int .i64 n1) ∧ W'.cell? ⟨bi, off + 8 + 2, none⟩ = some (.string s1) ∧ W'.cell? ⟨bi, off + 8 + 3, none⟩ = some (.int .i64 k1) ∧ W'.cell? ⟨bi, off + 8 + 4, none⟩ = some (.int .i64 m1) ∧ W'.cell? ⟨bi, off + 8 + 5, none⟩ = some (.string z1) ∧ W'.cell? ⟨bi, off + 8 + 6, none⟩ = some (.slice q1 ql1 qc1) ∧ W'.cell? ⟨bi, off + 8 + 7, none⟩ = some (.slice r1 l1.length c1)) := Lib.hid fun W' hb => ⟨(hb.cell (p := ⟨bi, off, none⟩) hbB).trans y00, (hb.cell (p := ⟨bi, off + 1, none⟩) hbB).trans y01, (hb.cell (p := ⟨bi, off + 2, none⟩) hbB).trans y02, (hb.cell (p := ⟨bi, off + 3, none⟩) hbB).trans y03, (hb.cell (p := ⟨bi, off + 4, none⟩) hbB).trans y04, (hb.cell (p := ⟨bi, off + 5, none⟩) hbB).trans y05, (hb.cell (p := ⟨bi, off + 6, none⟩) hbB).trans y06, (hb.cell (p := ⟨bi, off + 7, none⟩) hbB).trans y07, (hb.cell (p := ⟨bi, off + 8, none⟩) hbB).trans y10, (hb.cell (p := ⟨bi, off + 8 + 1, none⟩) hbB).trans y11, (hb.cell (p := ⟨bi, off + 8 + 2, none⟩) hbB).trans y12, (hb.cell (p := ⟨bi, off + 8 + 3, none⟩) hbB).trans y13, (hb.cell (p := ⟨bi, off + 8 + 4, none⟩) hbB).trans y14, (hb.cell (p := ⟨bi, off + 8 + 5, none⟩) hbB).trans y15, (hb.cell (p := ⟨bi, off + 8 + 6, none⟩) hbB).trans y16, (hb.cell (p := ⟨bi, off + 8 + 7, none⟩) hbB).trans y17⟩
      have HBd : Hid (Below B wr wr.drew) := Lib.hid ((Below.refl _ _).drew)
      have HB0 : Hid (Below B wr wr) := Lib.hid (Below.refl _ _)
      have HP1 := Lib.hid (branch_any ad eD eM eR eS d hd wd t u HW1.out HBL2.out B b Y wr.drew lo hi _ _ (HR0.out _ HBd.out) (HR1.out _ HBd.out) hlo hhi hBr (HW.out.below (Below.refl _ _).drew) (HC.out.on (HB.out.trans HBd.out)) hMl)
      clear y00 y10 y01 y11 y02 y12 y03 y13 y04 y14 y05 y15 y06 y16 y07 y17 hr0 hli0 hr1 hli1 hw1 hb2 hbr2 hMl HM HBR HN
      obtain ⟨e00, e01, e02, e03, e04, e05, e06, e07, e10, e11, e12, e13, e14, e15, e16, e17⟩ := HSF.out _ HBd.out
      simp only [List.length_cons] at hsl hcq hrl ⊢
      rw [hN2] at hsl
      have hsl2 : ∀ W : World, (Instr.sliceAt 22 (.slice (some ⟨bi, off, none⟩) (rr.length + 1 + 1) cq) (some (.int .i64 2)) none none).run Tryz.prog W = .ok (.slice q9 rr.length (cq - 2)) W := hsl
      clear hsl
      have hp0 : (0 : Int) < (rr.length : Int) + 1 + 1 := by omega
      have hp1 : (1 : Int) < (rr.length : Int) + 1 + 1 := by omega
      go_upto_region 3 with fail
      go_region_held3 (fun W' => W'.cell? ⟨bi, off, none⟩ = some (.int .i64 o0) ∧ W'.cell? ⟨bi, off + 1, none⟩ = some (.int .i64 n0) ∧ W'.cell? ⟨bi, off + 2, none⟩ = some (.string s0) ∧ W'.cell? ⟨bi, off + 3, none⟩ = some (.int .i64 k0) ∧ W'.cell? ⟨bi, off + 4, none⟩ = some (.int .i64 m0) ∧ W'.cell? ⟨bi, off + 5, none⟩ = some (.string z0) ∧ W'.cell? ⟨bi, off + 6, none⟩ = some (.slice q0 ql0 qc0) ∧ W'.cell? ⟨bi, off + 7, none⟩ = some (.slice r0 l0.length c0) ∧ W'.cell? ⟨bi, off + 8, none⟩ = some (.int .i64 o1) ∧ W'.cell? ⟨bi, off + 8 + 1, none⟩ = some (.int .i64 n1) ∧ W'.cell? ⟨bi, off + 8 + 2, none⟩ = some (.string s1) ∧ W'.cell? ⟨bi, off + 8 + 3, none⟩ = some (.int .i64 k1) ∧ W'.cell? ⟨bi, off + 8 + 4, none⟩ = some (.int .i64 m1) ∧ W'.cell? ⟨bi, off + 8 + 5, none⟩ = some (.string z1) ∧ W'.cell? ⟨bi, off + 8 + 6, none⟩ = some (.slice q1 ql1 qc1) ∧ W'.cell? ⟨bi, off + 8 + 7, none⟩ = some (.slice r1 l1.length c1)) (first | with_reducible exact HSF.out _ HBd.out | with_reducible exact HSF.out _ HB2.out | with_reducible exact HSF.out _ HB0.out) (first | (go_at_call 40; (with_reducible refine HP1.out.mono ?_); rintro e w2 ⟨rfl, h2, hb2, hk2⟩; have HB2 := Lib.hid (HBd.out.trans hb2); have HK2 := Lib.hid ((Kp.trans HK.out (Kp.of_below (Below.refl _ _).drew)).trans hk2); have H2 := Lib.hid h2; clear h2 hb2 hk2))
      go_wp2
      go_roundw
      case rel => exact ⟨rr, q9, cq - 2, _, _, rfl, rfl, by omega, by omega, by decide, HBR2, HDR, H2, Lib.hid (HB.out.trans HB2.out), HK2, HME⟩
      case measure => simp [slen]; omega
end Go.Proofs.YtemkikjcjhmlaaaGreatDoor.Sh
