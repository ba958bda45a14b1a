/- What the document's Quoted answers. -/
import Derived.Test.YtminmadaeaiihaaDoorKC
import Derived.Test.YtminmadaeaiihaaDoorKO5
import Derived.Test.YtminmadaeaiihaaDoorKO7
import Derived.KernelRfl
import Derived.Test.YtminmadaeaiihaaDoorKC2
import Derived.Test.YtminmadaeaiihaaDoorKC3
import Derived.Lib.AppendIntMem
import Derived.WalkSpells
import Derived.Laws.Concat
import Derived.Test.YtminmadaeaiihaaDoorTxt2
import Derived.Test.YtminmadaeaiihaaDoorShJ
namespace Go.Proofs.YtminmadaeaiihaaDoor.Sh
open Go.RowKit
set_option maxRecDepth 100000

def smallB (c : UInt8) : Bool := (decide (97 ≤ c.toNat) && decide (c.toNat ≤ 122)) || c.toNat == 95
/-- A name by its bytes, a key too. -/
def nameOnlyB (s : ByteArray) : Bool :=
  match s.data.toList with
  | [] => false
  | c :: r => decide (s.size ≤ 32) && smallB c && (c :: r).all nameByteB
theorem byte_ways (c : UInt8) : nameByteB c = (smallB c || digB c) ∧ (smallB c = true → digB c = false) := by
  unfold nameByteB smallB digB
  by_cases h1 : 97 ≤ c.toNat <;> by_cases h2 : c.toNat ≤ 122 <;> by_cases h3 : c.toNat = 95 <;> by_cases h4 : 48 ≤ c.toNat <;> by_cases h5 : c.toNat ≤ 57 <;> simp [h1, h2, h3, h4, h5] <;> omega
theorem name_is (s : ByteArray) : isNameB s = (nameOnlyB s && !isKeyB s) := by
  unfold isNameB nameOnlyB
  cases h : s.data.toList with
  | nil => simp
  | cons c r =>
    simp only [List.all_cons]
    obtain ⟨h1, h2⟩ := byte_ways c
    rw [h1]
    cases hs : smallB c with
    | true => rw [h2 hs]; cases isKeyB s <;> simp
    | false => cases hd : digB c <;> simp

def holdsB (ss : List ByteArray) (s : ByteArray) : Bool := ss.any (fun y => y.toList == s.toList)
theorem bytes_eq {y s : ByteArray} : (y.toList == s.toList) = true ↔ y = s := by
  rw [beq_iff_eq]
  constructor
  · intro h
    have h2 : y.data.toList = s.data.toList := by rw [← Go.ByteArray.toList_eq, ← Go.ByteArray.toList_eq, h]
    cases y; cases s; simp only at h2; congr 1; exact Array.toList_inj.1 h2
  · rintro rfl; rfl
theorem holdsB_iff (ss : List ByteArray) (s : ByteArray) : holdsB ss s = true ↔ s ∈ ss := by
  unfold holdsB
  rw [List.any_eq_true]
  constructor
  · rintro ⟨y, hy, h⟩; rw [bytes_eq] at h; exact h ▸ hy
  · intro h; exact ⟨s, h, bytes_eq.2 rfl⟩
/-- The keys. -/
def keysL : List ByteArray := keyWords.map (fun k => ⟨k.toArray⟩)
theorem mem_keysL (s : ByteArray) : s ∈ keysL ↔ isKeyB s = true := by
  unfold keysL isKeyB
  rw [List.mem_map, List.any_eq_true]
  constructor
  · rintro ⟨k, hk, rfl⟩
    exact ⟨k, hk, by rw [beq_iff_eq, Go.ByteArray.toList_eq]⟩
  · rintro ⟨k, hk, h⟩
    rw [beq_iff_eq, Go.ByteArray.toList_eq] at h
    exact ⟨k, hk, by rw [← h]⟩
end Go.Proofs.YtminmadaeaiihaaDoor.Sh
namespace Go.Proofs.YtminmadaeaiihaaDoor.Sh
open Go.RowKit
set_option maxRecDepth 100000

theorem repeat0_any (s : ByteArray) (w : World) : Calls Tryd.prog 145 #[.string s, .int .i64 0] w fun e w' => e = .returned (.string ⟨#[]⟩) ∧ w' = w := by
  go_enter Tryd.func145, Tryd.ntmps145
  go_wp2
  go_ret
  exact ⟨rfl, rfl⟩
theorem put0_any (b : Nat) (w : World) : Calls Tryd.prog 63 #[.pointer (some ⟨b, 0, none⟩), .slice none 0 0] w fun e w' => e = .returned (.tuple #[]) ∧ w' = w := by
  go_enter Tryd.func63, Tryd.ntmps63
  go_wp2
  go_loopw [8] (fun i wr => i = .int .i64 0 ∧ wr = w) (fun _ _ => 0)
  case atStart => exact ⟨rfl, rfl⟩
  case round =>
    obtain ⟨rfl, rfl⟩ := hrel
    go_wp2
    go_end0
    exact ⟨rfl, rfl⟩
set_option maxHeartbeats 1000000 in
theorem begin0_any (B b : Nat) (X : List UInt8) (w : World) (hBw : B ≤ w.heap.size) (h : Wr B b 0 X w) (hlen : X.length ≤ 70368744177664) :
    Calls Tryd.prog 124 #[.pointer (some ⟨b, 0, none⟩), .slice none 0 0] w (WPost B b 0 X w) := by
  have HP := Lib.hid (put1_any B b 0 X ⟨#[]⟩ w h hlen hBw)
  obtain ⟨hB, a, v, ha, hh, ho⟩ := h
  obtain ⟨c0, c1, c2, _⟩ := row3 hh
  clear ha hh ho
  go_enter Tryd.func124, Tryd.ntmps124
  go_wp2_with (first
    | (go_at_call 145; refine (repeat0_any _ _).mono ?_; rintro e w2 ⟨rfl, rfl⟩)
    | (go_at_call 63; (with_reducible refine HP.out.mono ?_); rintro e w3 ⟨rfl, h3, hb3, hk3⟩; have H3 := Lib.hid h3; have HB3 := Lib.hid hb3; have HK3 := Lib.hid hk3; clear h3 hb3 hk3 HP)
    | (go_at_call 63; refine (put0_any b _).mono ?_; rintro e w4 ⟨rfl, rfl⟩))
  go_end0
  have h := H3.out
  rw [show X ++ (⟨#[]⟩ : ByteArray).data.toList = X from List.append_nil X] at h
  exact ⟨rfl, h, HB3.out, HK3.out⟩

/-- show.writer.statement writes this text of t, outside all blocks. -/
def SOk (ad : Nat → Addr) (eD eM eR eS : Value) (t : Nd) (tt : List UInt8) : Prop := ∀ (B b : Nat) (X : List UInt8) (w : World) (lo hi : Nat) (x : Value), NRep w lo hi t x → lo ≤ B → hi ≤ B → B ≤ w.heap.size → Wr B b 0 X w → Ctx ad eD eM eR eS B w → X.length + tt.length ≤ 70368744177664 →
  Calls Tryd.prog 98 #[.pointer (some ⟨b, 0, none⟩), x] w (WPost B b 0 (X ++ tt) w)
def doT (l : List Nd) : List UInt8 := joinS (⟨#[]⟩ : ByteArray).data.toList (wAll l) ++ [59, 10]
set_option maxHeartbeats 2000000 in
theorem simple_do (ad : Nat → Addr) (eD eM eR eS : Value) (n : Int) (s : ByteArray) (v : T) (l : List Nd) (hw : ∀ t ∈ l, WOk ad eD eM eR eS t) (hll : l.length ≤ 1000000) (B b : Nat) (X : List UInt8) (w : World) (lo hi : Nat) (x : Value) (hr : NRep w lo hi (.mk 40 n s v l) x) (hlo : lo ≤ B) (hhi : hi ≤ B) (hBw : B ≤ w.heap.size) (h : Wr B b 0 X w) (hc : Ctx ad eD eM eR eS B w) (hlen : X.length + (doT l).length ≤ 70368744177664) :
    Calls Tryd.prog 128 #[.pointer (some ⟨b, 0, none⟩), x] w (WPost B b 0 (X ++ doT l) w) := by
  obtain ⟨k, m, z, q, ql, qc, r, c, rfl, _, _, hsz, hv, hlc, hl112, hall⟩ := hr.open
  obtain ⟨W1, hW1⟩ : ∃ W1, W1 = w.alloc (.cells #[.int .i64 40, .int .i64 n, .string s, .int .i64 k, .int .i64 m, .string z, .slice q ql qc, .slice r l.length c] 40) := ⟨_, rfl⟩
  have hb0 : Below w.heap.size w W1 := hW1 ▸ (Below.refl w.heap.size w).alloc (Nat.le_refl _) _
  have HX : Hid (W1.heap[w.heap.size]? = some (.cells #[.int .i64 40, .int .i64 n, .string s, .int .i64 k, .int .i64 m, .string z, .slice q ql qc, .slice r l.length c] 40 (0, 0))) := hW1 ▸ heap_alloc_new w _
  have HW := Lib.hid (h.below hb0)
  have hB1 : B ≤ W1.heap.size := Nat.le_trans hBw hb0.size
  have HB := Lib.hid (hb0.mono hBw)
  have HK : Hid (Kp b w W1) := Kp.of_below hb0
  have HALL := Lib.hid (fun W (hb : Below B w W) => hall.below hb hhi)
  have HC := Lib.hid hc
  obtain ⟨g, hg⟩ : ∃ g, g = w.heap.size := ⟨_, rfl⟩
  have hgb : g ≠ b := by have := h.lt; omega
  rw [← hg] at HX
  have hd : (doT l).length = (joinS (⟨#[]⟩ : ByteArray).data.toList (wAll l)).length + 2 := by unfold doT; rw [List.length_append]; rfl
  rw [hd] at hlen
  have HP1 := Lib.hid (begin0_any B b X W1 hB1 HW.out (by omega))
  have HWW := Lib.hid hw
  clear hr hc h hb0 hv hall hw
  go_enter Tryd.func128, Tryd.ntmps128
  go_upto_region 1 with fail
  rw [← hW1, ← hg]
  clear hW1 hg
  go_wp2_with (first
    | (go_at_call 124; refine HP1.out.mono ?_; rintro e w2 ⟨rfl, h2, hb2, hk2⟩; have HB2 := Lib.hid (HB.out.trans hb2); have HK2 := Lib.hid (HK.out.trans hk2); have hx2 := hk2 g _ _ (by decide) hgb HX.out; obtain ⟨x0, x1, x2, x3, x4, x5, x6, x7, _⟩ := box8s _ g _ _ _ _ _ _ _ _ _ hx2; have hs2 := Nat.le_trans hB1 hb2.size; have HP2 := Lib.hid (shList_any ad eD eM eR eS l HWW.out ⟨#[]⟩ B b 0 X w2 lo hi r c (HALL.out _ HB2.out) hll hlo hhi hs2 h2 (HC.out.on HB2.out) (by omega)); clear h2 hb2 hk2 hx2)
    | (go_at_call 70; refine HP2.out.mono ?_; rintro e w3 ⟨rfl, h3, hb3, hk3⟩; have HB3 := Lib.hid (HB2.out.trans hb3); have HK3 := Lib.hid (HK2.out.trans hk3); have hs3 := Nat.le_trans hs2 hb3.size; have HP3 := Lib.hid (put1_any B b 0 _ ⟨#[59, 10]⟩ w3 h3 (by rw [List.length_append]; show X.length + _ + 2 ≤ _; omega) hs3); clear h3 hb3 hk3)
    | (go_at_call 63; refine HP3.out.mono ?_; rintro e w4 ⟨rfl, h4, hb4, hk4⟩; have H4 := Lib.hid h4; have HB4 := Lib.hid (HB3.out.trans hb4); have HK4 := Lib.hid (HK3.out.trans hk4); clear h4 hb4 hk4))
  go_end0
  have h := H4.out
  rw [List.append_assoc] at h
  exact ⟨rfl, h, HB4.out, HK4.out⟩
set_option maxHeartbeats 4000000 in
theorem statement_do (ad : Nat → Addr) (eD eM eR eS : Value) (n : Int) (s : ByteArray) (v : T) (l : List Nd) (hw : ∀ t ∈ l, WOk ad eD eM eR eS t) (hll : l.length ≤ 1000000) : SOk ad eD eM eR eS (.mk 40 n s v l) (doT l) := by
  intro B b X w lo hi x hr hlo hhi hBw h hc hlen
  have HR := Lib.hid (fun W (hb : Below B w W) => hr.below hb hhi)
  obtain ⟨k, m, z, q, ql, qc, r, c, rfl, _⟩ := hr.open
  obtain ⟨W1, hW1⟩ : ∃ W1, W1 = w.alloc (.cells #[.int .i64 40, .int .i64 n, .string s, .int .i64 k, .int .i64 m, .string z, .slice q ql qc, .slice r l.length c] 40) := ⟨_, rfl⟩
  have hb0 : Below w.heap.size w W1 := hW1 ▸ (Below.refl w.heap.size w).alloc (Nat.le_refl _) _
  have HX : Hid (W1.heap[w.heap.size]? = some (.cells #[.int .i64 40, .int .i64 n, .string s, .int .i64 k, .int .i64 m, .string z, .slice q ql qc, .slice r l.length c] 40 (0, 0))) := hW1 ▸ heap_alloc_new w _
  have hB1 : B ≤ W1.heap.size := Nat.le_trans hBw hb0.size
  have HB := Lib.hid (hb0.mono hBw)
  have HK : Hid (Kp b w W1) := Kp.of_below hb0
  have HP := Lib.hid (simple_do ad eD eM eR eS n s v l hw hll B b X W1 lo hi _ (HR.out _ HB.out) hlo hhi hB1 (h.below hb0) (hc.on HB.out) hlen)
  obtain ⟨g, hg⟩ : ∃ g, g = w.heap.size := ⟨_, rfl⟩
  rw [← hg] at HX
  clear hr hc h hb0 hw
  obtain ⟨x0, x1, x2, x3, x4, x5, x6, x7, _⟩ := box8s _ g _ _ _ _ _ _ _ _ _ HX.out
  go_enter Tryd.func98, Tryd.ntmps98
  go_upto_region 1 with fail
  rw [← hW1, ← hg]
  clear hW1 hg
  go_wp2_with (go_at_call 128; refine HP.out.mono ?_; rintro e w2 ⟨rfl, h2, hb2, hk2⟩; have H2 := Lib.hid h2; have HB2 := Lib.hid (HB.out.trans hb2); have HK2 := Lib.hid (HK.out.trans hk2); clear h2 hb2 hk2)
  go_end0
  exact ⟨rfl, H2.out, HB2.out, HK2.out⟩

set_option maxHeartbeats 2000000 in
theorem statements_any (ad : Nat → Addr) (eD eM eR eS : Value) (l : List Nd) (tx_ : Nd → List UInt8) (hs : ∀ t ∈ l, SOk ad eD eM eR eS t (tx_ t)) (B b : Nat) (X : List UInt8) (w : World) (lo hi : Nat) (p : Option Addr) (cap : Nat) (hall : NAll w lo hi l p) (hlc : l.length ≤ 1000000) (hlo : lo ≤ B) (hhi : hi ≤ B) (hBw : B ≤ w.heap.size) (h : Wr B b 0 X w) (hc : Ctx ad eD eM eR eS B w)
    (hlen : X.length + (l.flatMap tx_).length ≤ 70368744177664) :
    Calls Tryd.prog 62 #[.pointer (some ⟨b, 0, none⟩), .slice p l.length cap] w (WPost B b 0 (X ++ l.flatMap tx_) w) := by
  have HALL := Lib.hid (fun W (hb : Below B w W) => hall.below hb hhi)
  have HC := Lib.hid hc
  have HSO := Lib.hid hs
  have H := Lib.hid h
  clear hall hc hs h
  have hll : (l.length : Int) ≤ 1000000 := by omega
  have hmono : ∀ j, ((l.take j).flatMap tx_).length ≤ (l.flatMap tx_).length := fun j => by
    have := congrArg (fun l => (l.flatMap tx_).length) (List.take_append_drop j l)
    simp only [List.flatMap_append, List.length_append] at this
    omega
  have HM := Lib.hid hmono
  clear hmono
  go_enter Tryd.func62, Tryd.ntmps62
  go_wp2
  go_loopw [8] (fun i wr => ∃ j : Nat, j ≤ l.length ∧ i = .int .i64 j ∧ Hid (Wr B b 0 (X ++ (l.take j).flatMap tx_) wr) ∧ Hid (Below B w wr) ∧ Hid (Kp b w wr)) (fun i _ => l.length - (intOf i).toNat)
  case atStart => exact ⟨0, Nat.zero_le _, rfl, Lib.hid (by simpa using H.out), Lib.hid (Below.refl _ _), Lib.hid (Kp.refl _ _)⟩
  case round =>
    obtain ⟨j, hj, rfl, HW, HB, HK⟩ := hrel
    have hz := HB.out.size
    by_cases hlt : j < l.length
    · obtain ⟨bi, off, o, n, s, v, ll, k, m, z, q, ql, qc, r, c, hp, _, hbhi, hli, h0, h1, h2, h3, h4, h5, h6, h7, hrep⟩ := (HALL.out wr HB.out).item j hlt
      subst hp
      have hbw : bi < wr.heap.size := by omega
      have hBr : B ≤ wr.heap.size := by omega
      have HWT := Lib.hid (HSO.out _ (List.getElem_mem hlt))
      have e1 : (l.take (j + 1)).flatMap tx_ = (l.take j).flatMap tx_ ++ tx_ l[j] := by rw [List.take_succ_eq_append_getElem hlt, List.flatMap_append]; simp
      have hjl := HM.out (j + 1)
      rw [e1, List.length_append] at hjl
      have HST := Lib.hid (show X ++ (l.take (j + 1)).flatMap tx_ = (X ++ (l.take j).flatMap tx_) ++ tx_ l[j] from by rw [e1, List.append_assoc])
      obtain ⟨W1, hW1⟩ : ∃ W1, W1 = wr.alloc (.cells #[.int .i64 o, .int .i64 n, .string s, .int .i64 k, .int .i64 m, .string z, .slice q ql qc, .slice r ll.length c] 40) := ⟨_, rfl⟩
      have hb0 : Below wr.heap.size wr W1 := hW1 ▸ (Below.refl wr.heap.size wr).alloc (Nat.le_refl _) _
      have HX : Hid (W1.heap[wr.heap.size]? = some (.cells #[.int .i64 o, .int .i64 n, .string s, .int .i64 k, .int .i64 m, .string z, .slice q ql qc, .slice r ll.length c] 40 (0, 0))) := hW1 ▸ heap_alloc_new wr _
      have HB1 := Lib.hid (hb0.mono hBr)
      have HK1 : Hid (Kp b wr W1) := Kp.of_below hb0
      have HC1 := Lib.hid (HWT.out B b _ W1 lo hi _ (hrep.below HB1.out hhi) hlo hhi (Nat.le_trans hBr hb0.size) (HW.out.below hb0) ((HC.out.on HB.out).on HB1.out) (by rw [List.length_append]; omega))
      obtain ⟨g, hg⟩ : ∃ g, g = wr.heap.size := ⟨_, rfl⟩
      rw [← hg] at HX
      clear hrep hli hb0 e1
      go_upto_region 3 with fail
      rw [← hW1, ← hg]
      clear hW1 hg h0 h1 h2 h3 h4 h5 h6 h7
      obtain ⟨x0, x1, x2, x3, x4, x5, x6, x7, _⟩ := box8s _ g _ _ _ _ _ _ _ _ _ HX.out
      go_wp2_with (go_at_call 98; refine HC1.out.mono ?_; rintro e w2 ⟨rfl, h2, hb2, hk2⟩; have H2 := Lib.hid h2; have HB2 := Lib.hid (HB1.out.trans hb2); have HK2 := Lib.hid (HK1.out.trans hk2); clear h2 hb2 hk2)
      go_roundw
      case rel => exact ⟨j + 1, by omega, by go_num, by rw [HST.out]; exact H2, Lib.hid (HB.out.trans HB2.out), Lib.hid (HK.out.trans HK2.out)⟩
      case measure => simp [intOf]; omega
    · have hje : j = l.length := by omega
      have HF := Lib.hid (show X ++ l.flatMap tx_ = X ++ (l.take j).flatMap tx_ from by rw [hje, List.take_length])
      go_wp2
      go_end0
      exact ⟨rfl, by rw [HF.out]; exact HW.out, HB.out, HK.out⟩
end Go.Proofs.YtminmadaeaiihaaDoor.Sh
namespace Go.Proofs.YtminmadaeaiihaaDoor.Sh
open Go.RowKit
set_option maxRecDepth 100000

/-- The program's variables, as the walks need them. -/
structure Glob (ad : Nat → Addr) (eD eM eR eS : Value) (w : World) : Prop where
  e : EnvS w eD eM eR eS
  s : Sn w ad
  g : ∀ i : Nat, 5 ≤ i → i ≤ 18 → w.cell? ⟨0, i, none⟩ = some (.string ⟨(sgT i).toArray⟩)
theorem Glob.below {ad : Nat → Addr} {eD eM eR eS : Value} {w w' : World} (h : Glob ad eD eM eR eS w) (hb : Below w.heap.size w w') : Glob ad eD eM eR eS w' :=
  ⟨h.e.below hb, h.s.below hb, fun i h1 h2 => (hb.cell (World.block_lt_of_cell? w _ (h.g i h1 h2))).trans (h.g i h1 h2)⟩
theorem Glob.ctx {ad : Nat → Addr} {eD eM eR eS : Value} {w : World} (h : Glob ad eD eM eR eS w) : Ctx ad eD eM eR eS w.heap.size w :=
  ⟨fun _ hb => (h.below hb).e, fun _ hb => (h.below hb).s, fun _ hb => (h.below hb).g⟩

set_option maxHeartbeats 1000000 in
theorem program_any (ad : Nat → Addr) (eD eM eR eS : Value) (l : List Nd) (tx_ : Nd → List UInt8) (hs : ∀ t ∈ l, SOk ad eD eM eR eS t (tx_ t)) (w : World) (lo hi : Nat) (p : Option Addr) (cap : Nat) (hall : NAll w lo hi l p) (hlc : l.length ≤ cap) (hl : l.length ≤ 1000000) (hlo : lo ≤ w.heap.size) (hhi : hi ≤ w.heap.size) (hG : Glob ad eD eM eR eS w) (hv : vldF l 0 = .ok)
    (hlen : (l.flatMap tx_).length ≤ 70368744177664) :
    Calls Tryd.prog 43 #[.slice p l.length cap] w fun e w' => e = .returned (.tuple #[.string ⟨(l.flatMap tx_).toArray⟩, .nilIface]) ∧ Below w.heap.size w w' := by
  have HV := Lib.hid (tvalid_any ad l w lo hi p cap hall hhi hlc (by omega) hG.s)
  rw [hv] at HV
  have HALL := Lib.hid hall
  have HG := Lib.hid hG
  have HS := Lib.hid hs
  clear hall hG hs hv
  go_enter Tryd.func43, Tryd.ntmps43
  go_wp2_with (first
    | (go_at_call 29; refine HV.out.mono ?_; rintro e w2 ⟨hb2, rfl⟩; have HB2 := Lib.hid hb2; have hs2 := hb2.size; have HW2 := Lib.hid (Wr.fresh w2); have hb3 : Below w2.heap.size w2 (w2.alloc (.cells #[.pointer none, .slice none 0 0, .int .i64 0] 70)) := (Below.refl _ w2).alloc (Nat.le_refl _) _; have HB3 := Lib.hid hb3; have HP := Lib.hid (statements_any ad eD eM eR eS l tx_ HS.out w2.heap.size w2.heap.size [] _ lo hi p cap ((HALL.out.below hb2 hhi).below hb3 (by omega)) hl (by omega) (by omega) hb3.size HW2.out ((HG.out.below hb2).ctx.on hb3) (by simpa using hlen)); clear hb2 hb3)
    | (go_at_call 62; refine HP.out.mono ?_; rintro e w4 ⟨rfl, h4, hb4, _⟩; have HB4 := Lib.hid (HB3.out.trans hb4); have HST := Lib.hid (string_any w2.heap.size w2.heap.size 0 _ w4 h4 (HB3.out.trans hb4).size); clear h4 hb4)
    | (go_at_call 46; refine HST.out.mono ?_; rintro e w5 ⟨rfl, hb5⟩; have HB5 := Lib.hid (HB2.out.trans ((HB4.out.trans hb5).mono HB2.out.size)); clear hb5))
  go_ret2
  exact ⟨rfl, HB5.out⟩

set_option maxHeartbeats 1000000 in
theorem expr_any (ad : Nat → Addr) (eD eM eR eS : Value) (t : Nd) (hw : WOk ad eD eM eR eS t) (w : World) (lo hi : Nat) (x : Value) (hr : NRep w lo hi t x) (hlo : lo ≤ w.heap.size) (hhi : hi ≤ w.heap.size) (hG : Glob ad eD eM eR eS w) (hv : vldF [t] 3 = .ok) (hlen : (wT t).length ≤ 70368744177664) :
    Calls Tryd.prog 27 #[x] w fun e w' => e = .returned (.tuple #[.string ⟨(wT t).toArray⟩, .nilIface]) ∧ Below w.heap.size w w' := by
  obtain ⟨o, n, s, k, m, z, q, ql, qc, r, lc, c, rfl⟩ := nrep_form hr
  obtain ⟨W1, hW1⟩ : ∃ W1, W1 = w.alloc (.cells #[.int .i64 o, .int .i64 n, .string s, .int .i64 k, .int .i64 m, .string z, .slice q ql qc, .slice r lc c] 40) := ⟨_, rfl⟩
  have hb0 : Below w.heap.size w W1 := hW1 ▸ (Below.refl w.heap.size w).alloc (Nat.le_refl _) _
  have HX : Hid (W1.heap[w.heap.size]? = some (.cells #[.int .i64 o, .int .i64 n, .string s, .int .i64 k, .int .i64 m, .string z, .slice q ql qc, .slice r lc c] 40 (0, 0))) := hW1 ▸ heap_alloc_new w _
  have hs1 := hb0.size
  have HV := Lib.hid (texpr_any ad t _ W1 lo hi (hr.below hb0 hhi) (by omega) (by omega) (hG.s.below hb0))
  rw [hv] at HV
  have HB0 := Lib.hid hb0
  have HR := Lib.hid hr
  have HG := Lib.hid hG
  have HWO := Lib.hid hw
  obtain ⟨g, hg⟩ : ∃ g, g = w.heap.size := ⟨_, rfl⟩
  rw [← hg] at HX
  have hgl : g < W1.heap.size := ltW HX.out
  clear hr hG hw hv hb0
  obtain ⟨x0, x1, x2, x3, x4, x5, x6, x7, _⟩ := box8s _ g _ _ _ _ _ _ _ _ _ HX.out
  go_enter Tryd.func27, Tryd.ntmps27
  go_upto_region 1 with fail
  rw [← hW1, ← hg]
  clear hW1 hg
  go_wp2_with (first
    | (go_at_call 44; refine HV.out.mono ?_; rintro e w2 ⟨hb2, rfl⟩; have HB2 := Lib.hid (HB0.out.trans (hb2.mono HB0.out.size)); have hs2 := hb2.size; have hb3 : Below w2.heap.size w2 (w2.alloc (.cells #[.pointer none, .slice none 0 0, .int .i64 0] 70)) := (Below.refl _ w2).alloc (Nat.le_refl _) _; have HB3 := Lib.hid hb3; obtain ⟨y0, y1, y2, y3, y4, y5, y6, y7, _⟩ := box8s _ g _ _ _ _ _ _ _ _ _ ((hb3.block _ (by omega)).trans ((hb2.block _ hgl).trans HX.out)); have HP := Lib.hid (HWO.out w2.heap.size w2.heap.size 0 [] _ lo hi _ ((HR.out.below HB2.out hhi).below hb3 (by omega)) (by omega) (by omega) hb3.size (Wr.fresh w2) ((HG.out.below HB2.out).ctx.on hb3) (by simpa using hlen)); clear hb2 hb3)
    | (go_at_call 45; refine HP.out.mono ?_; rintro e w4 ⟨rfl, h4, hb4, _⟩; have HB4 := Lib.hid (HB3.out.trans hb4); have HST := Lib.hid (string_any w2.heap.size w2.heap.size 0 _ w4 h4 (HB3.out.trans hb4).size); clear h4 hb4)
    | (go_at_call 46; refine HST.out.mono ?_; rintro e w5 ⟨rfl, hb5⟩; have HB5 := Lib.hid (HB2.out.trans ((HB4.out.trans hb5).mono HB2.out.size)); clear hb5))
  go_ret2
  exact ⟨rfl, HB5.out⟩
end Go.Proofs.YtminmadaeaiihaaDoor.Sh
namespace Go.Proofs.YtminmadaeaiihaaDoor.Sh
open Go.RowKit
set_option maxRecDepth 100000

def litN (k : Int) : Nd := .mk 1 0 ⟨#[]⟩ (.mk 0 k ⟨#[]⟩ []) []
def varX : Nd := .mk 2 0 ⟨#[120]⟩ zV []
def addN : Nd := .mk 5 0 ⟨#[]⟩ zV [litN 1, litN 2]
def mulN : Nd := .mk 7 0 ⟨#[]⟩ zV [addN, litN 3]
def setN : Nd := .mk 27 0 ⟨#[]⟩ zV [varX, mulN]
def doN : Nd := .mk 40 0 ⟨#[]⟩ zV [setN]
theorem two_ok {P : Nd → Prop} {a b : Nd} (ha : P a) (hb : P b) : ∀ t ∈ [a, b], P t := by
  intro t ht
  simp only [List.mem_cons, List.not_mem_nil, or_false] at ht
  rcases ht with rfl | rfl
  · exact ha
  · exact hb
theorem one_ok {P : Nd → Prop} {a : Nd} (ha : P a) : ∀ t ∈ [a], P t := by
  intro t ht
  simp only [List.mem_cons, List.not_mem_nil, or_false] at ht
  rcases ht with rfl
  exact ha
theorem valid8 : vldF [doN] 0 = .ok := by kernel_rfl
theorem text8 : ([doN] : List Nd).flatMap (fun _ => doT [setN]) = [120, 32, 61, 32, 40, 49, 32, 43, 32, 50, 41, 32, 42, 32, 51, 59, 10] := by kernel_rfl
theorem sok8 (ad : Nat → Addr) (eD eM eR eS : Value) (hP : Ptrs eD eM eR eS) : ∀ t ∈ [doN], SOk ad eD eM eR eS t (doT [setN]) := by
  have hl : ∀ k : Int, (odd (.mk 0 k ⟨#[]⟩ []) 1 0).1 = 0 → WOk ad eD eM eR eS (litN k) := fun k h => whole_lit ad eD eM eR eS hP 0 _ _ _ h
  have ha := whole_bin5 ad eD eM eR eS 0 ⟨#[]⟩ zV (litN 1) (litN 2) (hl 1 rfl) (hl 2 rfl)
  have hm := whole_bin7 ad eD eM eR eS 0 ⟨#[]⟩ zV addN (litN 3) ha (hl 3 rfl)
  have hs := whole_set ad eD eM eR eS 0 ⟨#[]⟩ zV [varX, mulN] (two_ok (whole_var ad eD eM eR eS 0 ⟨#[120]⟩ zV []) hm) (by simp)
  exact one_ok (statement_do ad eD eM eR eS 0 ⟨#[]⟩ zV [setN] (one_ok hs) (by simp))
theorem two_row {w : World} {lo hi g : Nat} {t1 t2 : Nd} {a0 a1 a2 a3 a4 a5 a6 a7 b0 b1 b2 b3 b4 b5 b6 b7 : Value} (h1 : NRep w lo hi t1 (.agg #[a0, a1, a2, a3, a4, a5, a6, a7])) (h2 : NRep w lo hi t2 (.agg #[b0, b1, b2, b3, b4, b5, b6, b7])) (hlo : lo ≤ g) (hhi : g < hi)
    (hg : w.heap[g]? = some (.cells #[a0, a1, a2, a3, a4, a5, a6, a7, b0, b1, b2, b3, b4, b5, b6, b7] 40 (0, 0))) : NAll w lo hi [t1, t2] (some ⟨g, 0, none⟩) := by
  refine NAll.of hlo hhi [t1, t2] 0 (fun i hi => ?_)
  have hc := fun k => cell_of_row _ _ k _ _ _ hg
  match i, hi with
  | 0, _ => exact ⟨_, _, _, _, _, _, _, _, (hc 0).trans rfl, (hc 1).trans rfl, (hc 2).trans rfl, (hc 3).trans rfl, (hc 4).trans rfl, (hc 5).trans rfl, (hc 6).trans rfl, (hc 7).trans rfl, h1⟩
  | 1, _ => exact ⟨_, _, _, _, _, _, _, _, (hc 8).trans rfl, (hc 9).trans rfl, (hc 10).trans rfl, (hc 11).trans rfl, (hc 12).trans rfl, (hc 13).trans rfl, (hc 14).trans rfl, (hc 15).trans rfl, h2⟩
theorem one_row1 {w : World} {lo hi g : Nat} {t1 : Nd} {a0 a1 a2 a3 a4 a5 a6 a7 : Value} (h1 : NRep w lo hi t1 (.agg #[a0, a1, a2, a3, a4, a5, a6, a7])) (hlo : lo ≤ g) (hhi : g < hi)
    (hg : w.heap[g]? = some (.cells #[a0, a1, a2, a3, a4, a5, a6, a7] 40 (0, 0))) : NAll w lo hi [t1] (some ⟨g, 0, none⟩) := by
  refine NAll.of hlo hhi [t1] 0 (fun i hi => ?_)
  have hc := fun k => cell_of_row _ _ k _ _ _ hg
  match i, hi with
  | 0, _ => exact ⟨_, _, _, _, _, _, _, _, (hc 0).trans rfl, (hc 1).trans rfl, (hc 2).trans rfl, (hc 3).trans rfl, (hc 4).trans rfl, (hc 5).trans rfl, (hc 6).trans rfl, (hc 7).trans rfl, h1⟩
theorem lit_rep (w : World) (lo hi : Nat) (k : Int) (hk : I64 k) : NRep w lo hi (litN k) (.agg #[.int .i64 1, .int .i64 0, .string ⟨#[]⟩, .int .i64 0, .int .i64 k, .string ⟨#[]⟩, .slice none 0 0, .slice none 0 0]) := by
  unfold litN NRep
  refine ⟨0, k, ⟨#[]⟩, none, 0, 0, none, 0, rfl, by unfold I64; omega, by unfold I64; omega, by show (0 : Nat) ≤ _; omega, ?_, Nat.le_refl _, by simp, NAll.nil _ _ _ _⟩
  unfold Rep
  exact ⟨none, 0, rfl, by unfold I64; omega, hk, by show (0 : Nat) ≤ _; omega, Nat.le_refl _, by simp, by unfold RepAll; trivial⟩
theorem var_rep (w : World) (lo hi : Nat) : NRep w lo hi varX (.agg #[.int .i64 2, .int .i64 0, .string ⟨#[120]⟩, .int .i64 0, .int .i64 0, .string ⟨#[]⟩, .slice none 0 0, .slice none 0 0]) := by
  unfold varX NRep
  exact ⟨0, 0, ⟨#[]⟩, none, 0, 0, none, 0, rfl, by unfold I64; omega, by unfold I64; omega, by show (1 : Nat) ≤ _; omega, zV_rep _ _ _, Nat.le_refl _, by simp, NAll.nil _ _ _ _⟩
theorem f1_any (k : Int) (w : World) : Calls Tryd.prog 42 #[.int .i64 k] w fun e w' => e = .returned (.agg #[.int .i64 1, .int .i64 0, .string ⟨#[]⟩, .int .i64 0, .int .i64 k, .string ⟨#[]⟩, .slice none 0 0, .slice none 0 0]) ∧ Below w.heap.size w w' := by
  have hb : ∀ o : Obj, Below w.heap.size w (w.alloc o) := fun o => (Below.refl _ _).alloc (Nat.le_refl _) _
  have HB := Lib.hid hb
  clear hb
  go_enter Tryd.func42, Tryd.ntmps42
  go_wp2
  have hx := heap_alloc_new w (.cells #[.int .i64 1, .int .i64 0, .string ⟨#[]⟩, .int .i64 0, .int .i64 k, .string ⟨#[]⟩, .slice none 0 0, .slice none 0 0] 40)
  obtain ⟨x0, x1, x2, x3, x4, x5, x6, x7, _⟩ := box8s _ _ _ _ _ _ _ _ _ _ _ hx
  refine bodyPost_ret (v := .agg #[.int .i64 1, .int .i64 0, .string ⟨#[]⟩, .int .i64 0, .int .i64 k, .string ⟨#[]⟩, .slice none 0 0, .slice none 0 0]) (by simp [results, Tryd.results42, go_sem, x0, x1, x2, x3, x4, x5, x6, x7]) rfl ?_
  exact ⟨rfl, HB.out _⟩

abbrev nV (k : Int) (a : Value) : List Value := [.int .i64 k, .int .i64 0, .string ⟨#[]⟩, .int .i64 0, .int .i64 0, .string ⟨#[]⟩, .slice none 0 0, a]
theorem n_rep {w : World} {lo hi : Nat} (k : Int) (hk : I64 k) (ts : List Nd) (n : Nat) (hn : ts.length = n) (hn1 : n < 100) (p : Option Addr) (h : NAll w lo hi ts p) : NRep w lo hi (.mk k 0 ⟨#[]⟩ zV ts) (.agg #[.int .i64 k, .int .i64 0, .string ⟨#[]⟩, .int .i64 0, .int .i64 0, .string ⟨#[]⟩, .slice none 0 0, .slice p n n]) := by
  subst hn
  unfold NRep
  exact ⟨0, 0, ⟨#[]⟩, none, 0, 0, p, ts.length, rfl, hk, by unfold I64; omega, by show (0 : Nat) ≤ _; omega, zV_rep _ _ _, Nat.le_refl _, by omega, h⟩

theorem rows8 (w4 : World) (r1 : Nat) (hx : w4.heap[r1]? = some (.cells #[.int .i64 1, .int .i64 0, .string ⟨#[]⟩, .int .i64 0, .int .i64 1, .string ⟨#[]⟩, .slice none 0 0, .slice none 0 0, .int .i64 1, .int .i64 0, .string ⟨#[]⟩, .int .i64 0, .int .i64 2, .string ⟨#[]⟩, .slice none 0 0, .slice none 0 0] 40 (0, 0)))
    (W : World) (hb : Below w4.heap.size w4 W) (g2 g3 g4 g5 : Nat) (l2 : g2 < W.heap.size) (l3 : g3 < W.heap.size) (l4 : g4 < W.heap.size) (l5 : g5 < W.heap.size)
    (h2 : W.heap[g2]? = some (.cells #[.int .i64 5, .int .i64 0, .string ⟨#[]⟩, .int .i64 0, .int .i64 0, .string ⟨#[]⟩, .slice none 0 0, .slice (some ⟨r1, 0, none⟩) 2 2, .int .i64 1, .int .i64 0, .string ⟨#[]⟩, .int .i64 0, .int .i64 3, .string ⟨#[]⟩, .slice none 0 0, .slice none 0 0] 40 (0, 0)))
    (h3 : W.heap[g3]? = some (.cells #[.int .i64 2, .int .i64 0, .string ⟨#[120]⟩, .int .i64 0, .int .i64 0, .string ⟨#[]⟩, .slice none 0 0, .slice none 0 0, .int .i64 7, .int .i64 0, .string ⟨#[]⟩, .int .i64 0, .int .i64 0, .string ⟨#[]⟩, .slice none 0 0, .slice (some ⟨g2, 0, none⟩) 2 2] 40 (0, 0)))
    (h4 : W.heap[g4]? = some (.cells #[.int .i64 27, .int .i64 0, .string ⟨#[]⟩, .int .i64 0, .int .i64 0, .string ⟨#[]⟩, .slice none 0 0, .slice (some ⟨g3, 0, none⟩) 2 2] 40 (0, 0)))
    (h5 : W.heap[g5]? = some (.cells #[.int .i64 40, .int .i64 0, .string ⟨#[]⟩, .int .i64 0, .int .i64 0, .string ⟨#[]⟩, .slice none 0 0, .slice (some ⟨g4, 0, none⟩) 1 1] 40 (0, 0))) :
    NAll W 0 W.heap.size [doN] (some ⟨g5, 0, none⟩) := by
  have i : ∀ k : Int, 0 ≤ k → k < 100 → I64 k := fun k h1 h2 => by unfold I64; omega
  have hx1 := heap_old hx hb
  have l1 : r1 < W.heap.size := ltW hx1
  have a1 : NAll W 0 W.heap.size [litN 1, litN 2] (some ⟨r1, 0, none⟩) := two_row (lit_rep _ _ _ 1 (i 1 (by omega) (by omega))) (lit_rep _ _ _ 2 (i 2 (by omega) (by omega))) (Nat.zero_le _) l1 hx1
  have a2 : NAll W 0 W.heap.size [addN, litN 3] (some ⟨g2, 0, none⟩) := two_row (n_rep 5 (i 5 (by omega) (by omega)) _ 2 rfl (by omega) _ a1) (lit_rep _ _ _ 3 (i 3 (by omega) (by omega))) (Nat.zero_le _) l2 h2
  have a3 : NAll W 0 W.heap.size [varX, mulN] (some ⟨g3, 0, none⟩) := two_row (var_rep _ _ _) (n_rep 7 (i 7 (by omega) (by omega)) _ 2 rfl (by omega) _ a2) (Nat.zero_le _) l3 h3
  have a4 : NAll W 0 W.heap.size [setN] (some ⟨g4, 0, none⟩) := one_row1 (n_rep 27 (i 27 (by omega) (by omega)) _ 2 rfl (by omega) _ a3) (Nat.zero_le _) l4 h4
  exact one_row1 (n_rep 40 (i 40 (by omega) (by omega)) _ 1 rfl (by omega) _ a4) (Nat.zero_le _) l5 h5

theorem prog8 (ad : Nat → Addr) (eD eM eR eS : Value) (hP : Ptrs eD eM eR eS) (w : World) (hG : Glob ad eD eM eR eS w) (g : Nat) (hall : NAll w 0 w.heap.size [doN] (some ⟨g, 0, none⟩)) :
    Calls Tryd.prog 43 #[.slice (some ⟨g, 0, none⟩) 1 1] w fun e w' => e = .returned (.tuple #[.string ⟨#[120, 32, 61, 32, 40, 49, 32, 43, 32, 50, 41, 32, 42, 32, 51, 59, 10]⟩, .nilIface]) ∧ Below w.heap.size w w' := by
  have h := program_any ad eD eM eR eS [doN] (fun _ => doT [setN]) (sok8 ad eD eM eR eS hP) w 0 w.heap.size _ 1 hall (by simp) (by simp) (Nat.zero_le _) (Nat.le_refl _) hG valid8 (by rw [text8]; decide)
  rw [text8] at h
  exact h

theorem world8 (ad : Nat → Addr) (eD eM eR eS : Value) (hP : Ptrs eD eM eR eS) (w : World) (hG : Glob ad eD eM eR eS w) (n3 : Nat) (w4 : World) (hbw : Below w.heap.size w w4)
    (hx : w4.heap[n3]? = some (.cells #[.int .i64 1, .int .i64 0, .string ⟨#[]⟩, .int .i64 0, .int .i64 1, .string ⟨#[]⟩, .slice none 0 0, .slice none 0 0, .int .i64 1, .int .i64 0, .string ⟨#[]⟩, .int .i64 0, .int .i64 2, .string ⟨#[]⟩, .slice none 0 0, .slice none 0 0] 40 (0, 0)))
    (ob : Obj) :
    Calls Tryd.prog 43 #[.slice (some ⟨w4.heap.size + 1 + 1 + 1 + 1, 0, none⟩) 1 1]
      (((((w4.alloc (.cells #[.int .i64 5, .int .i64 0, .string ⟨#[]⟩, .int .i64 0, .int .i64 0, .string ⟨#[]⟩, .slice none 0 0, .slice (some ⟨n3, 0, none⟩) 2 2, .int .i64 1, .int .i64 0, .string ⟨#[]⟩, .int .i64 0, .int .i64 3, .string ⟨#[]⟩, .slice none 0 0, .slice none 0 0] 40)).alloc ob).alloc
        (.cells #[.int .i64 2, .int .i64 0, .string ⟨#[120]⟩, .int .i64 0, .int .i64 0, .string ⟨#[]⟩, .slice none 0 0, .slice none 0 0, .int .i64 7, .int .i64 0, .string ⟨#[]⟩, .int .i64 0, .int .i64 0, .string ⟨#[]⟩, .slice none 0 0, .slice (some ⟨w4.heap.size, 0, none⟩) 2 2] 40)).alloc
        (.cells #[.int .i64 27, .int .i64 0, .string ⟨#[]⟩, .int .i64 0, .int .i64 0, .string ⟨#[]⟩, .slice none 0 0, .slice (some ⟨w4.heap.size + 1 + 1, 0, none⟩) 2 2] 40)).alloc
        (.cells #[.int .i64 40, .int .i64 0, .string ⟨#[]⟩, .int .i64 0, .int .i64 0, .string ⟨#[]⟩, .slice none 0 0, .slice (some ⟨w4.heap.size + 1 + 1 + 1, 0, none⟩) 1 1] 40))
      fun e w' => e = .returned (.tuple #[.string ⟨#[120, 32, 61, 32, 40, 49, 32, 43, 32, 50, 41, 32, 42, 32, 51, 59, 10]⟩, .nilIface]) ∧ Below w.heap.size w w' := by
  have hal : ∀ (w : World) (o : Obj), Below w.heap.size w (w.alloc o) := fun w o => (Below.refl _ _).alloc (Nat.le_refl _) _
  have hsz : ∀ (w : World) (o : Obj), (w.alloc o).heap.size = w.heap.size + 1 := fun w o => World.size_alloc _ _
  generalize hA : w4.alloc _ = A
  have a2 : A.heap[w4.heap.size]? = _ := hA ▸ heap_alloc_new w4 _
  have ab : Below w4.heap.size w4 A := hA ▸ hal w4 _
  have sa : A.heap.size = w4.heap.size + 1 := hA ▸ hsz w4 _
  clear hA
  generalize hB : A.alloc _ = B
  have b2 := heap_old a2 (hB ▸ hal A _ : Below A.heap.size A B)
  have bb := ab.trans ((hB ▸ hal A _ : Below A.heap.size A B).mono ab.size)
  have bs : B.heap.size = w4.heap.size + 1 + 1 := by rw [← sa]; exact hB ▸ hsz A _
  clear hB
  generalize hC : B.alloc _ = C
  have c3 : C.heap[B.heap.size]? = _ := hC ▸ heap_alloc_new B _
  have c2 := heap_old b2 (hC ▸ hal B _ : Below B.heap.size B C)
  have cb := bb.trans ((hC ▸ hal B _ : Below B.heap.size B C).mono bb.size)
  have cs : C.heap.size = w4.heap.size + 1 + 1 + 1 := by rw [← bs]; exact hC ▸ hsz B _
  clear hC
  rw [bs] at c3
  generalize hD : C.alloc _ = D
  have d4 : D.heap[C.heap.size]? = _ := hD ▸ heap_alloc_new C _
  have d3 := heap_old c3 (hD ▸ hal C _ : Below C.heap.size C D)
  have d2 := heap_old c2 (hD ▸ hal C _ : Below C.heap.size C D)
  have db := cb.trans ((hD ▸ hal C _ : Below C.heap.size C D).mono cb.size)
  have ds : D.heap.size = w4.heap.size + 1 + 1 + 1 + 1 := by rw [← cs]; exact hD ▸ hsz C _
  clear hD
  rw [cs] at d4
  generalize hE : D.alloc _ = E
  have e5 : E.heap[D.heap.size]? = _ := hE ▸ heap_alloc_new D _
  have e4 := heap_old d4 (hE ▸ hal D _ : Below D.heap.size D E)
  have e3 := heap_old d3 (hE ▸ hal D _ : Below D.heap.size D E)
  have e2 := heap_old d2 (hE ▸ hal D _ : Below D.heap.size D E)
  have eb := db.trans ((hE ▸ hal D _ : Below D.heap.size D E).mono db.size)
  have es : E.heap.size = w4.heap.size + 1 + 1 + 1 + 1 + 1 := by rw [← ds]; exact hE ▸ hsz D _
  clear hE
  rw [ds] at e5
  have hn := rows8 w4 n3 hx E eb _ _ _ _ (by omega) (by omega) (by omega) (by omega) e2 e3 e4 e5
  have hbE := hbw.trans (eb.mono hbw.size)
  exact (prog8 ad eD eM eR eS hP E (hG.below hbE) _ hn).mono fun e w' ⟨h1, h2⟩ => ⟨h1, hbE.trans (h2.mono hbE.size)⟩

set_option maxHeartbeats 2000000 in
theorem first8_any (ad : Nat → Addr) (eD eM eR eS : Value) (hP : Ptrs eD eM eR eS) (w : World) (hG : Glob ad eD eM eR eS w) :
    Calls Tryd.prog 24 #[] w fun e w' => e = .returned (.bool true) ∧ Below w.heap.size w w' := by
  have HF1 := Lib.hid (f1_any 1 w)
  have HS := Lib.hid (sok8 ad eD eM eR eS hP)
  have HG := Lib.hid hG
  clear hG
  go_enter Tryd.func24, Tryd.ntmps24
  go_wp2_with (first
    | (go_at_call 42; (with_reducible refine HF1.out.mono ?_); rintro e w2 ⟨rfl, hb2⟩; have HB2 := Lib.hid hb2; have HF2 := Lib.hid (f1_any 2 w2); clear hb2 HF1)
    | (go_at_call 42; (with_reducible refine HF2.out.mono ?_); rintro e w3 ⟨rfl, hb3⟩; have HB3 := Lib.hid (HB2.out.trans (hb3.mono HB2.out.size)); have HBR := Lib.hid ((Below.refl w3.heap.size w3).alloc (Nat.le_refl _) (.cells #[.int .i64 1, .int .i64 0, .string ⟨#[]⟩, .int .i64 0, .int .i64 1, .string ⟨#[]⟩, .slice none 0 0, .slice none 0 0, .int .i64 1, .int .i64 0, .string ⟨#[]⟩, .int .i64 0, .int .i64 2, .string ⟨#[]⟩, .slice none 0 0, .slice none 0 0] 40)); have HX1 := Lib.hid (heap_alloc_new w3 (.cells #[.int .i64 1, .int .i64 0, .string ⟨#[]⟩, .int .i64 0, .int .i64 1, .string ⟨#[]⟩, .slice none 0 0, .slice none 0 0, .int .i64 1, .int .i64 0, .string ⟨#[]⟩, .int .i64 0, .int .i64 2, .string ⟨#[]⟩, .slice none 0 0, .slice none 0 0] 40)); have HF3 := Lib.hid (f1_any 3 (w3.alloc (.cells #[.int .i64 1, .int .i64 0, .string ⟨#[]⟩, .int .i64 0, .int .i64 1, .string ⟨#[]⟩, .slice none 0 0, .slice none 0 0, .int .i64 1, .int .i64 0, .string ⟨#[]⟩, .int .i64 0, .int .i64 2, .string ⟨#[]⟩, .slice none 0 0, .slice none 0 0] 40))); clear hb3 HF2)
    | (go_at_call 42; (with_reducible refine HF3.out.mono ?_); rintro e w4 ⟨rfl, hb4⟩; have HX2 := Lib.hid (heap_old HX1.out hb4); have HB34 := Lib.hid (HBR.out.trans (hb4.mono HBR.out.size)); clear hb4 HF3 HX1)
    | (go_at_call 43; (with_reducible refine (world8 ad eD eM eR eS hP w HG.out w3.heap.size _ (HB3.out.trans (HB34.out.mono HB3.out.size)) HX2.out _).mono ?_); rintro e w5 ⟨rfl, hb5⟩; have HB5 := Lib.hid hb5; clear hb5))
  go_ret
  exact ⟨rfl, HB5.out⟩
end Go.Proofs.YtminmadaeaiihaaDoor.Sh
namespace Go.Proofs.YtminmadaeaiihaaDoor.Sh
open Go.RowKit
set_option maxRecDepth 100000

theorem nameB_is (s : ByteArray) : nameB s = isNameB s := by
  have h1 : shapeBad 2 3 false s zV 0 = false := by
    unfold shapeBad
    rw [show mayStandB 2 3 false = true from rfl, show enoughB 2 0 = true from rfl, show rightV 2 zV = true from rfl, show isNamedB 2 = true from rfl]
    simp
  have h2 : nameBad 2 s = !isNameB s := by
    unfold nameBad
    rw [show isNamedB 2 = true from rfl, show ((2 : Int) == 50) = false from rfl]
    simp
  unfold nameB vldF
  rw [if_neg (by simp [cntAll, cnt]), if_neg (by simp [dpNAll, dpN]), firstF, ckN, List.length_nil, h1, h2]
  cases isNameB s <;> rfl

def sT (s : ByteArray) : T := .mk 2 0 s []
def sN (s : ByteArray) : Nd := .mk 1 0 ⟨#[]⟩ (sT s) []
def pN (c : Bool) (s : ByteArray) : Nd := .mk (if c = true then 23 else 22) 0 ⟨#[]⟩ zV [varX, sN s]
theorem s_odd (s : ByteArray) (hs : s.size ≤ 40) (hp : printed s = true) : (odd (sT s) 1 0).1 = 0 := by
  unfold sT odd
  have h2 : badShape 2 0 s 0 = false := by unfold badShape; simp [hp]
  simp only [if_true, List.length_nil, h2, show badRange 2 0 = false from rfl]
  rw [if_neg (by omega), if_neg (by omega), if_neg (by simp), if_neg (by simp), oddAll]
theorem pN_valid (c : Bool) (s : ByteArray) (hs : s.size ≤ 40) (hp : printed s = true) : vldF [pN c s] 3 = .ok := by
  have hr : rightV 1 (sT s) = true := by
    have h := s_odd s hs hp
    unfold rightV rightB oddCode
    rw [if_pos rfl, if_neg (by unfold sT; simp [T.k]), h]; rfl
  have h1 : ckN (sN s) 3 false = none := by
    unfold sN
    rw [ckN]
    have : shapeBad 1 3 false ⟨#[]⟩ (sT s) ([] : List Nd).length = false := by
      unfold shapeBad
      rw [hr]; rfl
    rw [this]; rfl
  have hv : ckN varX 3 false = none := by kernel_rfl
  have hsb : shapeBad 23 3 false ⟨#[]⟩ zV 2 = false := by kernel_rfl
  cases c
  · show vldF [.mk 22 0 ⟨#[]⟩ zV [varX, sN s]] 3 = .ok
    unfold vldF
    rw [if_neg (by simp [cntAll, cnt, varX, sN]), if_neg (by simp [dpNAll, dpN, varX, sN]), firstF, ckN]
    rw [ckL, show placeInN 22 3 ((0 : Nat) : Int) (([varX, sN s].length : Int) - 1) = 3 from rfl, show loopIn 22 false = false from rfl, hv]
    simp only
    rw [ckL, show placeInN 22 3 ((0 + 1 : Nat) : Int) (([varX, sN s].length : Int) - 1) = 3 from rfl, h1]
    rfl
  · show vldF [.mk 23 0 ⟨#[]⟩ zV [varX, sN s]] 3 = .ok
    unfold vldF
    rw [if_neg (by simp [cntAll, cnt, varX, sN]), if_neg (by simp [dpNAll, dpN, varX, sN]), firstF, ckN]
    rw [ckL, show placeInN 23 3 ((0 : Nat) : Int) (([varX, sN s].length : Int) - 1) = 3 from rfl, show loopIn 23 false = false from rfl, hv]
    simp only
    rw [ckL, show placeInN 23 3 ((0 + 1 : Nat) : Int) (([varX, sN s].length : Int) - 1) = 3 from rfl, h1]
    rw [show [varX, sN s].length = 2 from rfl, hsb]
    rfl
/-- The text behind the sign. -/
def nmL (s : ByteArray) : List UInt8 := if isNameB s = true then s.data.toList else [40] ++ (34 :: (esc s.data.toList ++ [34])) ++ [41]
theorem pN_text (c : Bool) (s : ByteArray) : wT (pN c s) = [120] ++ [if c = true then 58 else 46] ++ nmL s ++ (if c = true then [40, 41] else []) := by
  have hn : nmT (sN s) (wT (sN s)) = nmL s := by
    unfold nmL
    show (if (1 : Int) = 1 ∧ (2 : Int) = 2 ∧ nameB s = true then s.data.toList else parB true (wT (sN s))) = _
    rw [nameB_is]
    cases isNameB s <;> rfl
  have hw : wT varX = [120] := rfl
  cases c
  · show combT 22 ⟨#[]⟩ zV [varX, sN s] (wAll [varX, sN s]) (cAll [varX, sN s]) = _
    simp only [wAll]
    show ([120] ++ [46] ++ nmT (sN s) (wT (sN s))) = _
    rw [hn]; simp
  · show combT 23 ⟨#[]⟩ zV [varX, sN s] (wAll [varX, sN s]) (cAll [varX, sN s]) = _
    simp only [wAll]
    show ([120] ++ [58] ++ nmT (sN s) (wT (sN s)) ++ ([] : List UInt8) ++ [40] ++ ([] : List UInt8) ++ [41]) = _
    rw [hn]; simp
theorem pN_ok (ad : Nat → Addr) (eD eM eR eS : Value) (hP : Ptrs eD eM eR eS) (c : Bool) (s : ByteArray) (hs : s.size ≤ 40) (hp : printed s = true) : WOk ad eD eM eR eS (pN c s) := by
  have h1 := whole_var ad eD eM eR eS 0 ⟨#[120]⟩ zV []
  have h2 := whole_lit ad eD eM eR eS hP 0 ⟨#[]⟩ (sT s) [] (s_odd s hs hp)
  cases c
  · exact whole_prop ad eD eM eR eS 0 ⟨#[]⟩ zV varX (sN s) h1 h2
  · exact whole_call ad eD eM eR eS 0 ⟨#[]⟩ zV varX (sN s) [] h1 h2 (fun t ht => by cases ht) (by simp)
theorem sN_rep (w : World) (lo hi : Nat) (s : ByteArray) (hs : s.size ≤ 40) : NRep w lo hi (sN s) (.agg #[.int .i64 1, .int .i64 0, .string ⟨#[]⟩, .int .i64 2, .int .i64 0, .string s, .slice none 0 0, .slice none 0 0]) := by
  unfold sN sT NRep
  refine ⟨2, 0, s, none, 0, 0, none, 0, rfl, by unfold I64; omega, by unfold I64; omega, by show (0 : Nat) ≤ _; omega, ?_, Nat.le_refl _, by simp, NAll.nil _ _ _ _⟩
  unfold Rep
  exact ⟨none, 0, rfl, by unfold I64; omega, by unfold I64; omega, by omega, Nat.le_refl _, by simp, by unfold RepAll; trivial⟩
theorem pN_rep (c : Bool) {w : World} {lo hi g : Nat} (s : ByteArray) (hs : s.size ≤ 40) (hlo : lo ≤ g) (hhi : g < hi)
    (hg : w.heap[g]? = some (.cells #[.int .i64 2, .int .i64 0, .string ⟨#[120]⟩, .int .i64 0, .int .i64 0, .string ⟨#[]⟩, .slice none 0 0, .slice none 0 0, .int .i64 1, .int .i64 0, .string ⟨#[]⟩, .int .i64 2, .int .i64 0, .string s, .slice none 0 0, .slice none 0 0] 40 (0, 0))) :
    NRep w lo hi (pN c s) (.agg #[.int .i64 (if c = true then 23 else 22), .int .i64 0, .string ⟨#[]⟩, .int .i64 0, .int .i64 0, .string ⟨#[]⟩, .slice none 0 0, .slice (some ⟨g, 0, none⟩) 2 2]) := by
  have i : I64 (if c = true then 23 else 22) := by cases c <;> (unfold I64; simp)
  exact n_rep _ i [varX, sN s] 2 rfl (by omega) _ (two_row (var_rep _ _ _) (sN_rep _ _ _ s hs) hlo hhi hg)
theorem nmL_len (s : ByteArray) (hs : s.size ≤ 40) : (nmL s).length ≤ 100000 := by
  have := esc_len s.data.toList
  unfold nmL
  have h2 : s.data.toList.length = s.size := by simp
  split
  · omega
  · simp; omega
end Go.Proofs.YtminmadaeaiihaaDoor.Sh
namespace Go.Proofs.YtminmadaeaiihaaDoor.Sh
open Go.RowKit
set_option maxRecDepth 100000

attribute [local go_sem ↓] run_string_add
def strB (l : Bs) : ByteArray := ⟨l.toArray⟩
theorem strB_size (l : Bs) : (strB l).size = l.length := by show l.toArray.size = _; simp
theorem strB_app (l m : Bs) : strB l ++ strB m = strB (l ++ m) := by
  apply ByteArray.ext; apply Array.ext'; simp [strB]
theorem strB_list (s : ByteArray) : strB s.data.toList = s := by
  apply ByteArray.ext; apply Array.ext'; simp [strB]
theorem ext_one (s : ByteArray) (j : Nat) (h : j < s.size) : s.extract j (j + 1) = strB [s[j]] := by
  apply ByteArray.ext; apply Array.ext'
  have hl : j < s.data.toList.length := by simpa using h
  simp [strB]
  rw [List.take_one, List.head?_drop]
  simp [h]
  rfl

theorem ret_str {a b : ByteArray} (h : a = b) : Ending.returned (.string a) = .returned (.string b) := by rw [h]
theorem esc_ge (l : Bs) : l.length ≤ (esc l).length := by
  induction l with
  | nil => simp [esc]
  | cons c r ih => rw [esc]; split <;> simp <;> omega

set_option maxHeartbeats 2000000 in
theorem refQuoted_any (s : ByteArray) (w : World) (hlen : (esc s.data.toList).length ≤ 4000000) :
    Calls Tryd.prog 28 #[.string s] w fun e w' => e = .returned (.string (strB (34 :: (esc s.data.toList ++ [34])))) ∧ w = w' := by
  have hss : s.size ≤ 4000000 := by
    have := esc_ge s.data.toList
    have h2 : s.data.toList.length = s.size := by simp
    omega
  go_enter Tryd.func28, Tryd.ntmps28
  go_wp2
  go_loop [3, 4] (fun o i => ∃ (j : Nat) (O : ByteArray), j ≤ s.size ∧ i = .int .i64 j ∧ o = .string O ∧ Hid (O = strB (34 :: esc (s.data.toList.take j)))) (fun _ i => s.size - (intOf i).toNat)
  case atStart => exact ⟨0, _, Nat.zero_le _, rfl, rfl, Lib.hid rfl⟩
  case round =>
    obtain ⟨j, O, hj, rfl, rfl, hO⟩ := hrel
    have hel := esc_take_le s.data.toList j
    have hz0 : O.size ≤ 4000001 := by rw [hO.out, strB_size]; simp; omega
    have hz : (O.size : Int) ≤ 4000001 := by omega
    clear hel hz0
    by_cases hlt : j < s.size
    · have htk : s.data.toList.take (j + 1) = s.data.toList.take j ++ [s[j]] := by
        rw [List.take_succ_eq_append_getElem (by simpa using hlt)]; rfl
      have hes := esc_snoc (s.data.toList.take j) s[j]
      rw [← htk] at hes
      obtain ⟨P, hP⟩ : ∃ P, s.extract j (j + 1) = P := ⟨_, rfl⟩
      have hP1 : P = strB [s[j]] := hP.symm.trans (ext_one s j hlt)
      have hPz : (P.size : Int) ≤ 1 := by rw [hP1, strB_size]; simp
      have hji : (j : Int) ≤ (j : Int) + 1 := by omega
      have hji2 : (j : Int) + 1 ≤ (s.size : Int) := by omega
      by_cases h1 : (s[j]).toNat = 34 ∨ (s[j]).toNat = 92
      · rw [if_pos h1] at hes
        have HE := Lib.hid (show (O ++ ⟨#[92]⟩) ++ P = strB (34 :: esc (s.data.toList.take (j + 1))) from by
          rw [hO.out, hP1]; show (_ ++ strB [92]) ++ _ = _; rw [strB_app, strB_app, hes]; simp)
        clear hes htk hP1
        rcases h1 with h1 | h1
        · have e1 : (((s[j]).toNat : Int) == 34) = true := by simp; omega
          go_wp2
          go_round
          case measure => show s.size - ((j : Int) + 1).toNat < s.size - ((j : Int)).toNat; omega
          case rel => exact ⟨j + 1, _, by omega, by go_num, rfl, HE⟩
        · have e1 : (((s[j]).toNat : Int) == 34) = false := by simp; omega
          have e2 : (((s[j]).toNat : Int) == 92) = true := by simp; omega
          go_wp2
          go_round
          case measure => show s.size - ((j : Int) + 1).toNat < s.size - ((j : Int)).toNat; omega
          case rel => exact ⟨j + 1, _, by omega, by go_num, rfl, HE⟩
      · rw [if_neg h1] at hes
        have HE := Lib.hid (show O ++ P = strB (34 :: esc (s.data.toList.take (j + 1))) from by
          rw [hO.out, hP1, strB_app, hes]; simp)
        clear hes htk hP1
        have e1 : (((s[j]).toNat : Int) == 34) = false := by simp; omega
        have e2 : (((s[j]).toNat : Int) == 92) = false := by simp; omega
        go_wp2
        go_round
        case measure => show s.size - ((j : Int) + 1).toNat < s.size - ((j : Int)).toNat; omega
        case rel => exact ⟨j + 1, _, by omega, by go_num, rfl, HE⟩
    · have hje : j = s.size := by omega
      subst hje
      rw [List.take_of_length_le (by simp)] at hO
      go_wp2
      have HF := Lib.hid (show O ++ ⟨#[34]⟩ = strB (34 :: (esc s.data.toList ++ [34])) from by
        rw [hO.out]; show _ ++ strB [34] = _; rw [strB_app]; rfl)
      go_ret
      exact ⟨ret_str HF.out, rfl⟩
end Go.Proofs.YtminmadaeaiihaaDoor.Sh
namespace Go.Proofs.YtminmadaeaiihaaDoor.Sh
open Go.RowKit
set_option maxRecDepth 100000

set_option maxHeartbeats 400000 in
theorem rS1_any (s : ByteArray) (w : World) :
    Calls Tryd.prog 26 #[.string s] w fun e w' => e = .returned (.agg #[.int .i64 2, .int .i64 0, .string s, .slice none 0 0]) ∧ Below w.heap.size w w' := by
  go_enter Tryd.func26, Tryd.ntmps26
  go_wp2
  go_returns
  exact ⟨rfl, by go_grown⟩

theorem exprN (ad : Nat → Addr) (eD eM eR eS : Value) (hP : Ptrs eD eM eR eS) (s : ByteArray) (c : Bool) (hs : s.size ≤ 40) (hp : printed s = true) (w W : World) (hG : Glob ad eD eM eR eS w) (hb : Below w.heap.size w W) (g : Nat)
    (hg : W.heap[g]? = some (.cells #[.int .i64 2, .int .i64 0, .string ⟨#[120]⟩, .int .i64 0, .int .i64 0, .string ⟨#[]⟩, .slice none 0 0, .slice none 0 0, .int .i64 1, .int .i64 0, .string ⟨#[]⟩, .int .i64 2, .int .i64 0, .string s, .slice none 0 0, .slice none 0 0] 40 (0, 0))) :
    Calls Tryd.prog 27 #[.agg #[.int .i64 (if c = true then 23 else 22), .int .i64 0, .string ⟨#[]⟩, .int .i64 0, .int .i64 0, .string ⟨#[]⟩, .slice none 0 0, .slice (some ⟨g, 0, none⟩) 2 2]] W fun e w' => e = .returned (.tuple #[.string ⟨(wT (pN c s)).toArray⟩, .nilIface]) ∧ Below w.heap.size w w' := by
  have hl : (wT (pN c s)).length ≤ 70368744177664 := by
    have := nmL_len s hs
    rw [pN_text]
    cases c <;> simp <;> omega
  exact (expr_any ad eD eM eR eS (pN c s) (pN_ok ad eD eM eR eS hP c s hs hp) W 0 W.heap.size _ (pN_rep c s hs (Nat.zero_le _) (ltW hg) hg) (Nat.zero_le _) (Nat.le_refl _) (hG.below hb) (pN_valid c s hs hp) hl).mono fun e w' ⟨h1, h2⟩ => ⟨h1, hb.trans (h2.mono hb.size)⟩

theorem exprW (ad : Nat → Addr) (eD eM eR eS : Value) (hP : Ptrs eD eM eR eS) (s : ByteArray) (c : Bool) (hs : s.size ≤ 40) (hp : printed s = true) (w : World) (hG : Glob ad eD eM eR eS w) (k : Int) (hk : k = if c = true then 23 else 22) (W : World) (hb : Below w.heap.size w W) (o : Obj) :
    Calls Tryd.prog 27 #[.agg #[.int .i64 k, .int .i64 0, .string ⟨#[]⟩, .int .i64 0, .int .i64 0, .string ⟨#[]⟩, .slice none 0 0, .slice (some ⟨W.heap.size, 0, none⟩) 2 2]] ((W.alloc (.cells #[.int .i64 2, .int .i64 0, .string ⟨#[120]⟩, .int .i64 0, .int .i64 0, .string ⟨#[]⟩, .slice none 0 0, .slice none 0 0, .int .i64 1, .int .i64 0, .string ⟨#[]⟩, .int .i64 2, .int .i64 0, .string s, .slice none 0 0, .slice none 0 0] 40)).alloc o)
      fun e w' => e = .returned (.tuple #[.string ⟨(wT (pN c s)).toArray⟩, .nilIface]) ∧ Below w.heap.size w w' := by
  subst hk
  have h1 := (hb.alloc hb.size (.cells #[.int .i64 2, .int .i64 0, .string ⟨#[120]⟩, .int .i64 0, .int .i64 0, .string ⟨#[]⟩, .slice none 0 0, .slice none 0 0, .int .i64 1, .int .i64 0, .string ⟨#[]⟩, .int .i64 2, .int .i64 0, .string s, .slice none 0 0, .slice none 0 0] 40))
  exact exprN ad eD eM eR eS hP s c hs hp w _ hG (h1.alloc h1.size o) W.heap.size (heap_alloc_ _ _ _ _ (heap_alloc_new W _))

theorem first8_ways (s : ByteArray) (N1 : Bool) (hN : N1 = (decide (1 ≤ s.size) && decide (s.size ≤ 32) && smallB (s.data.toList.headD 0))) : N1 = false ∧ ¬ (1 : Int) ≤ s.size ∨ N1 = false ∧ (32 : Int) < s.size ∧ (1 : Int) ≤ s.size ∨ ∃ h0 : 0 < s.size, (1 : Int) ≤ s.size ∧ (s.size : Int) ≤ 32 ∧ (N1 = true ∧ (97 : Int) ≤ (s[0].toNat : Int) ∧ (s[0].toNat : Int) ≤ 122 ∨ N1 = false ∧ (97 : Int) ≤ (s[0].toNat : Int) ∧ (122 : Int) < (s[0].toNat : Int) ∧ ¬ (s[0].toNat : Int) = 95 ∨ N1 = true ∧ ¬ (97 : Int) ≤ (s[0].toNat : Int) ∧ (s[0].toNat : Int) = 95 ∨ N1 = false ∧ ¬ (97 : Int) ≤ (s[0].toNat : Int) ∧ ¬ (s[0].toNat : Int) = 95) := by
  by_cases h1 : 1 ≤ s.size
  · by_cases h2 : s.size ≤ 32
    · have h0 : 0 < s.size := by omega
      refine .inr (.inr ⟨h0, by omega, by omega, ?_⟩)
      have hdl : s.data.toList.length = s.size := by simp
      have hh : s.data.toList.headD 0 = s[0] := by
        cases hl : s.data.toList with
        | nil => rw [hl] at hdl; simp at hdl; omega
        | cons c r =>
          have h1 : s[0] = s.data[0] := rfl
          rw [h1, ← Array.getElem_toList]; simp [hl]
      rw [hh, decide_eq_true h1, decide_eq_true h2] at hN
      generalize s[0] = c at *
      unfold smallB at hN
      rw [hN]
      generalize c.toNat = n
      by_cases a1 : 97 ≤ n
      · by_cases a2 : n ≤ 122
        · exact .inl ⟨by simp [a1, a2], by omega, by omega⟩
        · exact .inr (.inl ⟨by simp [a2]; omega, by omega, by omega, by omega⟩)
      · by_cases a3 : n = 95
        · exact .inr (.inr (.inl ⟨by simp [a3], by omega, by omega⟩))
        · exact .inr (.inr (.inr ⟨by simp [a1, a3], by omega, by omega⟩))
    · exact .inr (.inl ⟨by rw [hN, decide_eq_false h2]; simp, by omega, by omega⟩)
  · exact .inl ⟨by rw [hN, decide_eq_false h1]; rfl, by omega⟩
/-- One byte of a name. -/
theorem byte_5 (c : UInt8) : nameByteB c = true ∧ (97 : Int) ≤ (c.toNat : Int) ∧ (c.toNat : Int) ≤ 122 ∨ nameByteB c = true ∧ ¬ (97 : Int) ≤ (c.toNat : Int) ∧ (c.toNat : Int) = 95 ∨ nameByteB c = true ∧ ¬ (97 : Int) ≤ (c.toNat : Int) ∧ ¬ (c.toNat : Int) = 95 ∧ (48 : Int) ≤ (c.toNat : Int) ∧ (c.toNat : Int) ≤ 57 ∨
    nameByteB c = false ∧ (97 : Int) ≤ (c.toNat : Int) ∧ (122 : Int) < (c.toNat : Int) ∧ ¬ (c.toNat : Int) = 95 ∧ (48 : Int) ≤ (c.toNat : Int) ∧ (57 : Int) < (c.toNat : Int) ∨ nameByteB c = false ∧ ¬ (97 : Int) ≤ (c.toNat : Int) ∧ ¬ (c.toNat : Int) = 95 ∧ ¬ (48 : Int) ≤ (c.toNat : Int) ∨ nameByteB c = false ∧ ¬ (97 : Int) ≤ (c.toNat : Int) ∧ ¬ (c.toNat : Int) = 95 ∧ (48 : Int) ≤ (c.toNat : Int) ∧ (57 : Int) < (c.toNat : Int) := by
  unfold nameByteB digB
  generalize c.toNat = n
  by_cases a1 : 97 ≤ n
  · by_cases a2 : n ≤ 122
    · exact .inl ⟨by simp [a1, a2], by omega, by omega⟩
    · exact .inr (.inr (.inr (.inl ⟨by simp [a2]; omega, by omega, by omega, by omega, by omega, by omega⟩)))
  · by_cases a3 : n = 95
    · exact .inr (.inl ⟨by simp [a3], by omega, by omega⟩)
    · by_cases a4 : 48 ≤ n
      · by_cases a5 : n ≤ 57
        · exact .inr (.inr (.inl ⟨by simp [a4, a5], by omega, by omega, by omega, by omega⟩))
        · exact .inr (.inr (.inr (.inr (.inr ⟨by simp [a1, a3, a5], by omega, by omega, by omega, by omega⟩))))
      · exact .inr (.inr (.inr (.inr (.inl ⟨by simp [a1, a3, a4], by omega, by omega, by omega⟩))))
/-- What is a name, as the statement finds it. -/
theorem isName_says (s : ByteArray) (N1 : Bool) (hN : N1 = (decide (1 ≤ s.size) && decide (s.size ≤ 32) && smallB (s.data.toList.headD 0))) : isNameB s = (N1 && s.data.toList.all nameByteB && !holdsB keysL s) := by
  have hk : holdsB keysL s = isKeyB s := by rw [Bool.eq_iff_iff, holdsB_iff, mem_keysL]
  rw [name_is, hk, hN]
  unfold nameOnlyB
  have hdl : s.data.toList.length = s.size := by simp
  cases hl : s.data.toList with
  | nil =>
    rw [hl] at hdl
    have : ¬ 1 ≤ s.size := by simp at hdl; omega
    simp [this]
  | cons c r =>
    rw [hl] at hdl
    have : 1 ≤ s.size := by simp at hdl; omega
    simp [this]

theorem keyRow (W : World) : ∀ i (h : i < 19), (W.alloc (.cells (keysL.map Value.string).toArray 9)).cell? ⟨W.heap.size, i, none⟩ = some (.string (keysL[i]'h)) := fun i h => by
  have h' : i < keysL.length := h
  rw [cell_of_row _ _ _ _ _ _ (heap_alloc_new W _)]
  simp [h']
  rfl
theorem holds_next (j : Nat) (h : j < keysL.length) (s : ByteArray) : holdsB (keysL.take (j + 1)) s = (holdsB (keysL.take j) s || (keysL[j].toList == s.toList)) := by
  unfold holdsB
  rw [List.take_succ_eq_append_getElem h, List.any_append]
  simp

theorem textT (c : Bool) (s t : ByteArray) (hn : isNameB s = true) (ht : t = ⟨([120] ++ [if c = true then 58 else 46] ++ nmL s ++ (if c = true then [40, 41] else [])).toArray⟩) : t.toList = ((⟨#[120]⟩ : ByteArray) ++ (⟨#[if c = true then 58 else 46]⟩ : ByteArray) ++ s ++ (⟨if c = true then #[40, 41] else #[]⟩ : ByteArray)).toList := by
  congr 1
  subst ht
  apply ByteArray.ext; apply Array.ext'
  unfold nmL
  rw [if_pos hn]
  cases c <;> simp
theorem textF (c : Bool) (s t : ByteArray) (hn : isNameB s = false) (ht : t = ⟨([120] ++ [if c = true then 58 else 46] ++ nmL s ++ (if c = true then [40, 41] else [])).toArray⟩) : t.toList = ((⟨#[120]⟩ : ByteArray) ++ (⟨#[if c = true then 58 else 46]⟩ : ByteArray) ++ (⟨#[40]⟩ : ByteArray) ++ strB (34 :: (esc s.data.toList ++ [34])) ++ (⟨#[41]⟩ : ByteArray) ++ (⟨if c = true then #[40, 41] else #[]⟩ : ByteArray)).toList := by
  congr 1
  subst ht
  apply ByteArray.ext; apply Array.ext'
  unfold nmL
  rw [if_neg (show ¬ isNameB s = true by simp [hn])]
  cases c <;> simp [strB]
theorem number9 (t : ByteArray) (w : World) (ht : t.size ≤ 100100) : ∃ m : Int, 0 ≤ m ∧ Calls Tryd.prog 23 #[.int .i64 t.size, .int .i64 9] w fun e w' => e = .returned (.int .i64 m) ∧ w' = w :=
  ⟨_, by unfold numB; omega, number_any (t.size : Int) 9 w (by unfold I64; omega) (by omega) (by omega)⟩

end Go.Proofs.YtminmadaeaiihaaDoor.Sh
