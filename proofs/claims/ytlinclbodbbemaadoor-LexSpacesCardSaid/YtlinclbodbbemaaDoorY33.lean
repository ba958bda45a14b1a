/- The contract of the reader of words: numbers. -/
import Derived.Test.YtlinclbodbbemaaDoorY27
import Derived.Test.YtlinclbodbbemaaDoorY17
import Derived.Test.YtlinclbodbbemaaDoorY11
import Derived.Test.YtlinclbodbbemaaDoorY08
import Derived.Deep.RegionHeld3
import Derived.Deep.DeepCutAuto
import Derived.Deep.CutRange
namespace Go.Proofs.YtlinclbodbbemaaDoor
open Go.RowKit
set_option maxRecDepth 100000

set_option maxHeartbeats 1000000 in
theorem word_dig_ok (eD eM eR eS : Value) (aY : Addr) (hP : Ptrs eD eM eR eS) (s : ByteArray) (p n g : Nat) (w : World) (hx : LR w g s p n) (hp : p < s.size) (hs : s.size ≤ 140737488355328) (hE : ∀ W, But g w W → REnv W eD eM eR eS aY ∧ LexT W)
    (c : Int) (hc : ((nx (s.data.toList.drop p)).toNat : Int) = c) (h34 : ¬ c = 34) (h35 : ¬ c = 35) (hD : isD (nx (s.data.toList.drop p)) = true) (d : Bs) (hrun : runB (s.data.toList.drop p) = d) (hA : areD d = true) (N : Int) (hn : (numC 9223372036854775807 d).1 = some N) :
    Calls Tryd.prog 41 #[.pointer (some ⟨g, 0, none⟩)] w (WordPost eR aY s n g w (.ok 3 [] (.mk 0 N ⟨#[]⟩ []) ((s.data.toList.drop p).drop d.length))) := by
  have HE := Lib.hid hE
  have HC := Lib.hid hc
  have HB0 := Lib.hid (Bx.start hx)
  obtain ⟨h0, h1, h2, hf, hlt⟩ := hx.open
  have hyl := World.block_lt_of_cell? w _ (hE w (But.refl _ _)).1.syn
  have hrl := World.block_lt_of_cell? w _ (hE w (But.refl _ _)).1.errs.range
  simp only at hyl hrl
  clear hx hE
  have hsl : s.data.toList.length = s.size := by simp
  have HR := Lib.hid hrun
  have hrl0 := runB_le (s.data.toList.drop p)
  rw [hrun, List.length_drop, hsl] at hrl0
  have hpl : p + d.length ≤ s.size := by omega
  have HDS := Lib.hid (show (⟨d.toArray⟩ : ByteArray).size ≤ 140737488355328 by show d.toArray.size ≤ _; rw [List.size_toArray]; omega)
  have sA := Lib.hid (fun w => areDigits_any ⟨d.toArray⟩ true (by rw [ba_list]; exact hA) w HDS.out)
  have sD := Lib.hid (fun w => lexDigit_any _ c hc _ hD w)
  obtain ⟨p1, hp1⟩ : ∃ p1, p1 = (p + d.length) := ⟨_, rfl⟩
  have hpi0 : (0 : Int) ≤ (p : Int) := by omega
  have hpi1 : (p : Int) ≤ (p1 : Int) := by omega
  have hpi2 : (p1 : Int) ≤ (s.size : Int) := by omega
  have hXl : (s.extract p p1).data.toList = d := by
    rw [ext_take]
    rw [show p1 - p = d.length by omega, ← hrun, runB_take]
  have hXs : (s.extract p p1).size ≤ 140737488355328 := by
    have e := congrArg List.length hXl
    rw [show (s.extract p p1).data.toList.length = (s.extract p p1).size from Array.length_toList] at e
    try simp only [List.length_cons] at e
    omega
  have sR := Lib.hid (fun (W : World) (he : REnv W eD eM eR eS aY) => readN_ok eD eM eR eS aY hP (s.extract p p1) W hXs he (kind := 0) (most := 9223372036854775807) (minus := false) (t := d) (d := d) (.inl ⟨rfl, rfl, hXl⟩) ⟨hA, .inl ⟨rfl, rfl⟩⟩ hn)
  have HP1 := Lib.hid hp1
  have HPL := Lib.hid hpl
  clear hXl hXs hn hp1 hpl
  clear hA hrun hrl0 hsl hc hD
  go_enter Tryd.func41, Tryd.ntmps41
  go_upto_region 4 with (go_at_call 64; refine (lnext_any s p n g _ HB0.out.lr (by omega) _ HC.out).mono ?_; rintro e w1 ⟨rfl, m, rfl⟩)
  have HB1 := Lib.hid (HB0.out.drewN m)
  clear HB0 h0 h1 h2 hf hlt
  generalize ((w.alloc (.cells #[.int .i64 0, .int .i64 0, .string ⟨#[]⟩, .int .i64 0, .int .i64 0, .string ⟨#[]⟩, .slice none 0 0] 34)).alloc (.cells #[.int .i64 3, .int .i64 n, .string ⟨#[]⟩, .int .i64 0, .int .i64 0, .string ⟨#[]⟩, .slice none 0 0] 34)).drewN m = W at *
  have hr0 := HB1.out.r0; have hrt := HB1.out.rt; have hgw := HB1.out.gw
  generalize w.heap.size + 1 = gT at *
  generalize w.heap.size = gR at *
  obtain ⟨y0, y1, y2, y3, y4, y5, y6, yf⟩ := box7_in W gT _ _ _ _ _ _ _ _ HB1.out.tok; have yf0 := yf 0; have yf1 := yf 1; have yf2 := yf 2; have yf3 := yf 3; have yf4 := yf 4; have yf5 := yf 5; have yf6 := yf 6; clear yf; obtain ⟨h0, h1, h2, hf, hlt⟩ := HB1.out.lr.open; have hf0 := hf 0; have hf1 := hf 1; have hf2 := hf 2; clear hf
  have HBQ := HB1
  go_upto_region 16 with (first
    | (go_at_call 67; refine (sD.out _).mono ?_; rintro e w2 ⟨rfl, rfl⟩)
    | (go_at_call 68; refine (run_val s p n g _ HBQ.out.lr (by omega) hs d HR.out).mono ?_; rintro e w3 ⟨rfl, hx3, hb3⟩; rw [← HP1.out] at hx3; have HB3 := Lib.hid (HBQ.out.call hx3 hb3); clear hx3 hb3)
    | (go_at_call 69; refine (sA.out _).mono ?_; rintro e w4 ⟨rfl, rfl⟩))
  clear y0 y1 y2 y3 y4 y5 y6 yf0 yf1 yf2 yf3 yf4 yf5 yf6 h0 h1 h2 hf0 hf1 hf2 hlt HB1 HBQ
  have hz3 := HB3.out.tl
  have hgs : g ≠ w4.heap.size := by omega
  obtain ⟨h0, h1, h2, hf, hlt⟩ := HB3.out.lr.open; clear hf
  have SRA := Lib.hid (sR.out ((w4.alloc (.cells #[.int .i64 0, .int .i64 0, .string ⟨#[]⟩, .slice none 0 0] 32)).drew) (HE.out _ ((HB3.out.alloc (.cells #[.int .i64 0, .int .i64 0, .string ⟨#[]⟩, .slice none 0 0] 32)).drew).but).1)
  have SRB := Lib.hid (sR.out w4.drew (HE.out _ (HB3.out.drew).but).1)
  clear sR
  go_cut [10, 11] from 76 to 89 (fun v10 v11 wx => ∃ (x : Nat) (xq : Option Addr) (xc : Nat), v10 = .pointer (some ⟨x, 0, none⟩) ∧ v11 = .nilIface ∧ Hid (Vx s n g gR gT w wx p1 x 0 N ⟨#[]⟩ xq xc))
  case first =>
    go_region_held3 (fun w' => w'.cell? ⟨g, 0, none⟩ = some (.string s) ∧ w'.cell? ⟨g, 1, none⟩ = some (.int .i64 (p1 : Int))) (first | with_reducible exact ⟨h0, h1⟩ | with_reducible exact ⟨k0, k1⟩ | with_reducible exact ⟨set4_cell k0 hgs _ _ _ _, set4_cell k1 hgs _ _ _ _⟩ | (go_keep) | (go_show; fail)) (first
      | (go_at_call 70; (with_reducible refine SRA.out.mono ?_); rintro e w8 ⟨⟨xq, xc, rfl⟩, hb8⟩; have HB8 := Lib.hid (((HB3.out.alloc (.cells #[.int .i64 0, .int .i64 0, .string ⟨#[]⟩, .slice none 0 0] 32)).drew).bel hb8); have HHX := Lib.hid (heap_old (heap_drew (heap_alloc_new _ (.cells #[.int .i64 0, .int .i64 0, .string ⟨#[]⟩, .slice none 0 0] 32))) hb8); obtain ⟨x0, x1, x2, x3, xf⟩ := box4_in w8 _ _ _ _ _ _ HHX.out; have xf0 := xf 0; have xf1 := xf 1; have xf2 := xf 2; have xf3 := xf 3; clear xf; obtain ⟨k0, k1, k2, kf, klt⟩ := HB8.out.lr.open; clear kf)
      | (go_at_call 70; (with_reducible refine SRB.out.mono ?_); rintro e w8 ⟨⟨xq, xc, rfl⟩, hb8⟩; have HB8 := Lib.hid ((HB3.out.drew).bel hb8); obtain ⟨k0, k1, k2, kf, klt⟩ := HB8.out.lr.open; clear kf))
    all_goals (first
      | (have HV := Lib.hid (Vx.of_set HB8.out hz3 HHX.out 0 N ⟨#[]⟩ xq xc))
      | (have HV := Lib.hid (Vx.of_alloc HB8.out 0 N ⟨#[]⟩ xq xc)))
    all_goals go_wp2_with fail
    all_goals go_meet
    all_goals (refine ⟨_, xq, xc, rfl, rfl, ?_⟩; with_reducible exact HV)
  case rest =>
    clear h0 h1 h2 hlt HB3 hz3 hgs SRA SRB
    obtain ⟨x, xq, xc, rfl, rfl, HV⟩ := hcut
    have hxl := HV.out.lt
    obtain ⟨x0, x1, x2, x3, xf⟩ := box4_in wc x _ _ _ _ _ HV.out.box
    clear xf
    obtain ⟨y0, y1, y2, y3, y4, y5, y6, yf⟩ := box7_in wc gT _ _ _ _ _ _ _ _ HV.out.bx.tok; have yf0 := yf 0; have yf1 := yf 1; have yf2 := yf 2; have yf3 := yf 3; have yf4 := yf 4; have yf5 := yf 5; have yf6 := yf 6; clear yf
    go_upto_region 26 with fail
    have HB4 := Lib.hid ((((HV.out.bx.setV0 0).setV1 N).setV2 ⟨#[]⟩).setV3 xq xc)
    clear y0 y1 y2 y3 y4 y5 y6 yf0 yf1 yf2 yf3 yf4 yf5 yf6 x0 x1 x2 x3 HV
    generalize (((wc.setCell ⟨gT, 3, none⟩ (.int .i64 0)).setCell ⟨gT, 4, none⟩ (.int .i64 N)).setCell ⟨gT, 5, none⟩ (.string ⟨#[]⟩)).setCell ⟨gT, 6, none⟩ (.slice xq 0 xc) = w5 at *
    obtain ⟨y0, y1, y2, y3, y4, y5, y6, yf⟩ := box7_in w5 gT _ _ _ _ _ _ _ _ HB4.out.tok; have yf0 := yf 0; have yf1 := yf 1; have yf2 := yf 2; have yf3 := yf 3; have yf4 := yf 4; have yf5 := yf 5; have yf6 := yf 6; clear yf; obtain ⟨r0, r1, r2, r3, r4, r5, r6, rf⟩ := box7_in w5 gR _ _ _ _ _ _ _ _ HB4.out.res; have rf0 := rf 0; have rf1 := rf 1; have rf2 := rf 2; have rf3 := rf 3; have rf4 := rf 4; have rf5 := rf 5; have rf6 := rf 6; clear rf
    go_wp2
    refine bodyPost_ret (v := .tuple #[tokVal 3 n [] (.mk 0 N ⟨#[]⟩ []) xq xc, .nilIface]) (by unfold tokVal; (simp [results, Tryd.results41, go_sem, r0, r1, r2, r3, r4, r5, r6]); try (exact ⟨rfl, rfl, rfl⟩)) rfl ?_
    exact ⟨p1, _, _, by have := HPL.out; have := HP1.out; omega, by rw [List.drop_drop, HP1.out], rfl, (HB4.out.out _ _ _ _ _ _ _).1, (HB4.out.out _ _ _ _ _ _ _).2⟩

set_option maxHeartbeats 1000000 in
theorem word_obj_ok (eD eM eR eS : Value) (aY : Addr) (hP : Ptrs eD eM eR eS) (s : ByteArray) (p n g : Nat) (w : World) (hx : LR w g s p n) (hp : p < s.size) (hs : s.size ≤ 140737488355328) (hE : ∀ W, But g w W → REnv W eD eM eR eS aY ∧ LexT W)
    (c : Int) (hc : ((nx (s.data.toList.drop p)).toNat : Int) = c) (h35 : c = 35) (d2 : Int) (hd2 : ((nx (s.data.toList.drop (p + 1))).toNat : Int) = d2) (h45 : d2 ≠ 45) (d : Bs) (hrun : runB (s.data.toList.drop (p + 1)) = d) (hA : areD d = true) (N : Int) (hn : (numC 2147483647 d).1 = some N) :
    Calls Tryd.prog 41 #[.pointer (some ⟨g, 0, none⟩)] w (WordPost eR aY s n g w (.ok 3 [] (.mk 1 N ⟨#[]⟩ []) ((s.data.toList.drop (p + 1)).drop d.length))) := by
  have HE := Lib.hid hE
  have HC := Lib.hid hc
  have HB0 := Lib.hid (Bx.start hx)
  obtain ⟨h0, h1, h2, hf, hlt⟩ := hx.open
  have hyl := World.block_lt_of_cell? w _ (hE w (But.refl _ _)).1.syn
  have hrl := World.block_lt_of_cell? w _ (hE w (But.refl _ _)).1.errs.range
  simp only at hyl hrl
  clear hx hE
  subst h35
  have HD2 := Lib.hid hd2
  clear hd2
  have hsl : s.data.toList.length = s.size := by simp
  have HR := Lib.hid hrun
  have hrl0 := runB_le (s.data.toList.drop (p + 1))
  rw [hrun, List.length_drop, hsl] at hrl0
  have hpl : (p + 1) + d.length ≤ s.size := by omega
  have HDS := Lib.hid (show (⟨d.toArray⟩ : ByteArray).size ≤ 140737488355328 by show d.toArray.size ≤ _; rw [List.size_toArray]; omega)
  have sA := Lib.hid (fun w => areDigits_any ⟨d.toArray⟩ true (by rw [ba_list]; exact hA) w HDS.out)
  obtain ⟨p1, hp1⟩ : ∃ p1, p1 = (p + 1 + d.length) := ⟨_, rfl⟩
  have hpi0 : (0 : Int) ≤ (p : Int) := by omega
  have hpi1 : (p : Int) ≤ (p1 : Int) := by omega
  have hpi2 : (p1 : Int) ≤ (s.size : Int) := by omega
  have hXl : (s.extract p p1).data.toList = 35 :: d := by
    rw [ext_take]
    rw [show p1 - p = d.length + 1 by omega, drop_at hp, List.take_succ_cons, ← hrun, runB_take, show nx (s.data.toList.drop p) = 35 from UInt8.toNat_inj.1 (by show _ = 35; omega)]
  have hXs : (s.extract p p1).size ≤ 140737488355328 := by
    have e := congrArg List.length hXl
    rw [show (s.extract p p1).data.toList.length = (s.extract p p1).size from Array.length_toList] at e
    try simp only [List.length_cons] at e
    omega
  have sR := Lib.hid (fun (W : World) (he : REnv W eD eM eR eS aY) => readN_ok eD eM eR eS aY hP (s.extract p p1) W hXs he (kind := 1) (most := 2147483647) (minus := false) (t := d) (d := d) (.inr ⟨rfl, rfl, hXl⟩) ⟨hA, .inl ⟨rfl, rfl⟩⟩ hn)
  have HP1 := Lib.hid hp1
  have HPL := Lib.hid hpl
  clear hXl hXs hn hp1 hpl
  clear hA hrun hrl0 hsl hc
  go_enter Tryd.func41, Tryd.ntmps41
  go_upto_region 4 with (go_at_call 64; refine (lnext_any s p n g _ HB0.out.lr (by omega) _ HC.out).mono ?_; rintro e w1 ⟨rfl, m, rfl⟩)
  have HB1 := Lib.hid (HB0.out.drewN m)
  clear HB0 h0 h1 h2 hf hlt
  generalize ((w.alloc (.cells #[.int .i64 0, .int .i64 0, .string ⟨#[]⟩, .int .i64 0, .int .i64 0, .string ⟨#[]⟩, .slice none 0 0] 34)).alloc (.cells #[.int .i64 3, .int .i64 n, .string ⟨#[]⟩, .int .i64 0, .int .i64 0, .string ⟨#[]⟩, .slice none 0 0] 34)).drewN m = W at *
  have hr0 := HB1.out.r0; have hrt := HB1.out.rt; have hgw := HB1.out.gw
  generalize w.heap.size + 1 = gT at *
  generalize w.heap.size = gR at *
  obtain ⟨y0, y1, y2, y3, y4, y5, y6, yf⟩ := box7_in W gT _ _ _ _ _ _ _ _ HB1.out.tok; have yf0 := yf 0; have yf1 := yf 1; have yf2 := yf 2; have yf3 := yf 3; have yf4 := yf 4; have yf5 := yf 5; have yf6 := yf 6; clear yf; obtain ⟨h0, h1, h2, hf, hlt⟩ := HB1.out.lr.open; have hf0 := hf 0; have hf1 := hf 1; have hf2 := hf 2; clear hf
  have HB2 := Lib.hid (HB1.out.call (HB1.out.lr.setPos (p + 1) (q := (p : Int) + 1) (by simp)) ((But.refl g W).setCell 1 _))
  go_upto_region 16 with (first
    | (go_at_call 66; refine (lpass_no s (p + 1) n g 45 d2 _ HB2.out.lr (by omega) HD2.out h45).mono ?_; rintro e w2 ⟨rfl, mm, rfl⟩; have HBQ := Lib.hid (HB2.out.drewN mm); clear HB2)
    | (go_at_call 68; refine (run_val s (p + 1) n g _ HBQ.out.lr (by omega) hs d HR.out).mono ?_; rintro e w3 ⟨rfl, hx3, hb3⟩; rw [← HP1.out] at hx3; have HB3 := Lib.hid (HBQ.out.call hx3 hb3); clear hx3 hb3)
    | (go_at_call 69; refine (sA.out _).mono ?_; rintro e w4 ⟨rfl, rfl⟩))
  clear y0 y1 y2 y3 y4 y5 y6 yf0 yf1 yf2 yf3 yf4 yf5 yf6 h0 h1 h2 hf0 hf1 hf2 hlt HB1 HBQ
  have hz3 := HB3.out.tl
  have hgs : g ≠ w4.heap.size := by omega
  obtain ⟨h0, h1, h2, hf, hlt⟩ := HB3.out.lr.open; clear hf
  have SRA := Lib.hid (sR.out ((w4.alloc (.cells #[.int .i64 0, .int .i64 0, .string ⟨#[]⟩, .slice none 0 0] 32)).drew) (HE.out _ ((HB3.out.alloc (.cells #[.int .i64 0, .int .i64 0, .string ⟨#[]⟩, .slice none 0 0] 32)).drew).but).1)
  have SRB := Lib.hid (sR.out w4.drew (HE.out _ (HB3.out.drew).but).1)
  clear sR
  go_cut [10, 11] from 76 to 89 (fun v10 v11 wx => ∃ (x : Nat) (xq : Option Addr) (xc : Nat), v10 = .pointer (some ⟨x, 0, none⟩) ∧ v11 = .nilIface ∧ Hid (Vx s n g gR gT w wx p1 x 1 N ⟨#[]⟩ xq xc))
  case first =>
    go_region_held3 (fun w' => w'.cell? ⟨g, 0, none⟩ = some (.string s) ∧ w'.cell? ⟨g, 1, none⟩ = some (.int .i64 (p1 : Int))) (first | with_reducible exact ⟨h0, h1⟩ | with_reducible exact ⟨k0, k1⟩ | with_reducible exact ⟨set4_cell k0 hgs _ _ _ _, set4_cell k1 hgs _ _ _ _⟩ | (go_keep) | (go_show; fail)) (first
      | (go_at_call 70; (with_reducible refine SRA.out.mono ?_); rintro e w8 ⟨⟨xq, xc, rfl⟩, hb8⟩; have HB8 := Lib.hid (((HB3.out.alloc (.cells #[.int .i64 0, .int .i64 0, .string ⟨#[]⟩, .slice none 0 0] 32)).drew).bel hb8); have HHX := Lib.hid (heap_old (heap_drew (heap_alloc_new _ (.cells #[.int .i64 0, .int .i64 0, .string ⟨#[]⟩, .slice none 0 0] 32))) hb8); obtain ⟨x0, x1, x2, x3, xf⟩ := box4_in w8 _ _ _ _ _ _ HHX.out; have xf0 := xf 0; have xf1 := xf 1; have xf2 := xf 2; have xf3 := xf 3; clear xf; obtain ⟨k0, k1, k2, kf, klt⟩ := HB8.out.lr.open; clear kf)
      | (go_at_call 70; (with_reducible refine SRB.out.mono ?_); rintro e w8 ⟨⟨xq, xc, rfl⟩, hb8⟩; have HB8 := Lib.hid ((HB3.out.drew).bel hb8); obtain ⟨k0, k1, k2, kf, klt⟩ := HB8.out.lr.open; clear kf))
    all_goals (first
      | (have HV := Lib.hid (Vx.of_set HB8.out hz3 HHX.out 1 N ⟨#[]⟩ xq xc))
      | (have HV := Lib.hid (Vx.of_alloc HB8.out 1 N ⟨#[]⟩ xq xc)))
    all_goals go_wp2_with fail
    all_goals go_meet
    all_goals (refine ⟨_, xq, xc, rfl, rfl, ?_⟩; with_reducible exact HV)
  case rest =>
    clear h0 h1 h2 hlt HB3 hz3 hgs SRA SRB
    obtain ⟨x, xq, xc, rfl, rfl, HV⟩ := hcut
    have hxl := HV.out.lt
    obtain ⟨x0, x1, x2, x3, xf⟩ := box4_in wc x _ _ _ _ _ HV.out.box
    clear xf
    obtain ⟨y0, y1, y2, y3, y4, y5, y6, yf⟩ := box7_in wc gT _ _ _ _ _ _ _ _ HV.out.bx.tok; have yf0 := yf 0; have yf1 := yf 1; have yf2 := yf 2; have yf3 := yf 3; have yf4 := yf 4; have yf5 := yf 5; have yf6 := yf 6; clear yf
    go_upto_region 26 with fail
    have HB4 := Lib.hid ((((HV.out.bx.setV0 1).setV1 N).setV2 ⟨#[]⟩).setV3 xq xc)
    clear y0 y1 y2 y3 y4 y5 y6 yf0 yf1 yf2 yf3 yf4 yf5 yf6 x0 x1 x2 x3 HV
    generalize (((wc.setCell ⟨gT, 3, none⟩ (.int .i64 1)).setCell ⟨gT, 4, none⟩ (.int .i64 N)).setCell ⟨gT, 5, none⟩ (.string ⟨#[]⟩)).setCell ⟨gT, 6, none⟩ (.slice xq 0 xc) = w5 at *
    obtain ⟨y0, y1, y2, y3, y4, y5, y6, yf⟩ := box7_in w5 gT _ _ _ _ _ _ _ _ HB4.out.tok; have yf0 := yf 0; have yf1 := yf 1; have yf2 := yf 2; have yf3 := yf 3; have yf4 := yf 4; have yf5 := yf 5; have yf6 := yf 6; clear yf; obtain ⟨r0, r1, r2, r3, r4, r5, r6, rf⟩ := box7_in w5 gR _ _ _ _ _ _ _ _ HB4.out.res; have rf0 := rf 0; have rf1 := rf 1; have rf2 := rf 2; have rf3 := rf 3; have rf4 := rf 4; have rf5 := rf 5; have rf6 := rf 6; clear rf
    go_wp2
    refine bodyPost_ret (v := .tuple #[tokVal 3 n [] (.mk 1 N ⟨#[]⟩ []) xq xc, .nilIface]) (by unfold tokVal; (simp [results, Tryd.results41, go_sem, r0, r1, r2, r3, r4, r5, r6]); try (exact ⟨rfl, rfl, rfl⟩)) rfl ?_
    exact ⟨p1, _, _, by have := HPL.out; have := HP1.out; omega, by rw [List.drop_drop, HP1.out], rfl, (HB4.out.out _ _ _ _ _ _ _).1, (HB4.out.out _ _ _ _ _ _ _).2⟩

set_option maxHeartbeats 1000000 in
theorem word_neg_ok (eD eM eR eS : Value) (aY : Addr) (hP : Ptrs eD eM eR eS) (s : ByteArray) (p n g : Nat) (w : World) (hx : LR w g s p n) (hp : p < s.size) (hs : s.size ≤ 140737488355328) (hE : ∀ W, But g w W → REnv W eD eM eR eS aY ∧ LexT W)
    (c : Int) (hc : ((nx (s.data.toList.drop p)).toNat : Int) = c) (h35 : c = 35) (hd2 : ((nx (s.data.toList.drop (p + 1))).toNat : Int) = 45) (d : Bs) (hrun : runB (s.data.toList.drop (p + 1 + 1)) = d) (hA : areD d = true) (h48 : d ≠ [48]) (N : Int) (hn : (numC 2147483647 (45 :: d)).1 = some N) :
    Calls Tryd.prog 41 #[.pointer (some ⟨g, 0, none⟩)] w (WordPost eR aY s n g w (.ok 3 [] (.mk 1 N ⟨#[]⟩ []) ((s.data.toList.drop (p + 1 + 1)).drop d.length))) := by
  have HE := Lib.hid hE
  have HC := Lib.hid hc
  have HB0 := Lib.hid (Bx.start hx)
  obtain ⟨h0, h1, h2, hf, hlt⟩ := hx.open
  have hyl := World.block_lt_of_cell? w _ (hE w (But.refl _ _)).1.syn
  have hrl := World.block_lt_of_cell? w _ (hE w (But.refl _ _)).1.errs.range
  simp only at hyl hrl
  clear hx hE
  subst h35
  have HD2 := Lib.hid hd2
  have hps0 : p < s.size := hp
  have hps1 : p + 1 < s.size := nx_drop (by omega)
  clear hd2
  have hsl : s.data.toList.length = s.size := by simp
  have HR := Lib.hid hrun
  have hrl0 := runB_le (s.data.toList.drop (p + 1 + 1))
  rw [hrun, List.length_drop, hsl] at hrl0
  have hpl : (p + 1 + 1) + d.length ≤ s.size := by omega
  have HDS := Lib.hid (show (⟨d.toArray⟩ : ByteArray).size ≤ 140737488355328 by show d.toArray.size ≤ _; rw [List.size_toArray]; omega)
  have sA := Lib.hid (fun w => areDigits_any ⟨d.toArray⟩ true (by rw [ba_list]; exact hA) w HDS.out)
  have hb48 := beq48 d false (by simp [h48])
  have hc48 : (d == [48]) = false := by simp [h48]
  have hd48 : ¬ d = [48] := h48
  obtain ⟨p1, hp1⟩ : ∃ p1, p1 = (p + 1 + 1 + d.length) := ⟨_, rfl⟩
  have hpi0 : (0 : Int) ≤ (p : Int) := by omega
  have hpi1 : (p : Int) ≤ (p1 : Int) := by omega
  have hpi2 : (p1 : Int) ≤ (s.size : Int) := by omega
  have hXl : (s.extract p p1).data.toList = 35 :: (45 :: d) := by
    rw [ext_take]
    rw [show p1 - p = d.length + 1 + 1 by omega, drop_at hp, List.take_succ_cons, drop_at hps1, List.take_succ_cons, ← hrun, runB_take, show nx (s.data.toList.drop p) = 35 from UInt8.toNat_inj.1 (by show _ = 35; omega), show nx (s.data.toList.drop (p + 1)) = 45 from UInt8.toNat_inj.1 (by show _ = 45; exact by have := HD2.out; omega)]
  have hXs : (s.extract p p1).size ≤ 140737488355328 := by
    have e := congrArg List.length hXl
    rw [show (s.extract p p1).data.toList.length = (s.extract p p1).size from Array.length_toList] at e
    try simp only [List.length_cons] at e
    omega
  have sR := Lib.hid (fun (W : World) (he : REnv W eD eM eR eS aY) => readN_ok eD eM eR eS aY hP (s.extract p p1) W hXs he (kind := 1) (most := 2147483647) (minus := true) (t := (45 :: d)) (d := d) (.inr ⟨rfl, rfl, hXl⟩) ⟨hA, .inr ⟨rfl, h48, rfl⟩⟩ hn)
  have HP1 := Lib.hid hp1
  have HPL := Lib.hid hpl
  clear hXl hXs hn hp1 hpl
  clear hA hrun hrl0 hsl h48 hc
  go_enter Tryd.func41, Tryd.ntmps41
  go_upto_region 4 with (go_at_call 64; refine (lnext_any s p n g _ HB0.out.lr (by omega) _ HC.out).mono ?_; rintro e w1 ⟨rfl, m, rfl⟩)
  have HB1 := Lib.hid (HB0.out.drewN m)
  clear HB0 h0 h1 h2 hf hlt
  generalize ((w.alloc (.cells #[.int .i64 0, .int .i64 0, .string ⟨#[]⟩, .int .i64 0, .int .i64 0, .string ⟨#[]⟩, .slice none 0 0] 34)).alloc (.cells #[.int .i64 3, .int .i64 n, .string ⟨#[]⟩, .int .i64 0, .int .i64 0, .string ⟨#[]⟩, .slice none 0 0] 34)).drewN m = W at *
  have hr0 := HB1.out.r0; have hrt := HB1.out.rt; have hgw := HB1.out.gw
  generalize w.heap.size + 1 = gT at *
  generalize w.heap.size = gR at *
  obtain ⟨y0, y1, y2, y3, y4, y5, y6, yf⟩ := box7_in W gT _ _ _ _ _ _ _ _ HB1.out.tok; have yf0 := yf 0; have yf1 := yf 1; have yf2 := yf 2; have yf3 := yf 3; have yf4 := yf 4; have yf5 := yf 5; have yf6 := yf 6; clear yf; obtain ⟨h0, h1, h2, hf, hlt⟩ := HB1.out.lr.open; have hf0 := hf 0; have hf1 := hf 1; have hf2 := hf 2; clear hf
  have HB2 := Lib.hid (HB1.out.call (HB1.out.lr.setPos (p + 1) (q := (p : Int) + 1) (by simp)) ((But.refl g W).setCell 1 _))
  go_upto_region 16 with (first
    | (go_at_call 66; refine (lpass_yes s (p + 1) n g 45 _ HB2.out.lr hps1 hs HD2.out).mono ?_; rintro e w2 ⟨rfl, hx2, hb2⟩; have HBQ := Lib.hid (HB2.out.call hx2 hb2); clear hx2 hb2 HB2)
    | (go_at_call 68; refine (run_val s (p + 1 + 1) n g _ HBQ.out.lr (by omega) hs d HR.out).mono ?_; rintro e w3 ⟨rfl, hx3, hb3⟩; rw [← HP1.out] at hx3; have HB3 := Lib.hid (HBQ.out.call hx3 hb3); clear hx3 hb3)
    | (go_at_call 69; refine (sA.out _).mono ?_; rintro e w4 ⟨rfl, rfl⟩))
  clear y0 y1 y2 y3 y4 y5 y6 yf0 yf1 yf2 yf3 yf4 yf5 yf6 h0 h1 h2 hf0 hf1 hf2 hlt HB1 HBQ
  have hz3 := HB3.out.tl
  have hgs : g ≠ w4.heap.size := by omega
  obtain ⟨h0, h1, h2, hf, hlt⟩ := HB3.out.lr.open; clear hf
  have SRA := Lib.hid (sR.out ((w4.alloc (.cells #[.int .i64 0, .int .i64 0, .string ⟨#[]⟩, .slice none 0 0] 32)).drew) (HE.out _ ((HB3.out.alloc (.cells #[.int .i64 0, .int .i64 0, .string ⟨#[]⟩, .slice none 0 0] 32)).drew).but).1)
  have SRB := Lib.hid (sR.out w4.drew (HE.out _ (HB3.out.drew).but).1)
  clear sR
  go_cut [10, 11] from 76 to 89 (fun v10 v11 wx => ∃ (x : Nat) (xq : Option Addr) (xc : Nat), v10 = .pointer (some ⟨x, 0, none⟩) ∧ v11 = .nilIface ∧ Hid (Vx s n g gR gT w wx p1 x 1 N ⟨#[]⟩ xq xc))
  case first =>
    go_region_held3 (fun w' => w'.cell? ⟨g, 0, none⟩ = some (.string s) ∧ w'.cell? ⟨g, 1, none⟩ = some (.int .i64 (p1 : Int))) (first | with_reducible exact ⟨h0, h1⟩ | with_reducible exact ⟨k0, k1⟩ | with_reducible exact ⟨set4_cell k0 hgs _ _ _ _, set4_cell k1 hgs _ _ _ _⟩ | (go_keep) | (go_show; fail)) (first
      | (go_at_call 70; (with_reducible refine SRA.out.mono ?_); rintro e w8 ⟨⟨xq, xc, rfl⟩, hb8⟩; have HB8 := Lib.hid (((HB3.out.alloc (.cells #[.int .i64 0, .int .i64 0, .string ⟨#[]⟩, .slice none 0 0] 32)).drew).bel hb8); have HHX := Lib.hid (heap_old (heap_drew (heap_alloc_new _ (.cells #[.int .i64 0, .int .i64 0, .string ⟨#[]⟩, .slice none 0 0] 32))) hb8); obtain ⟨x0, x1, x2, x3, xf⟩ := box4_in w8 _ _ _ _ _ _ HHX.out; have xf0 := xf 0; have xf1 := xf 1; have xf2 := xf 2; have xf3 := xf 3; clear xf; obtain ⟨k0, k1, k2, kf, klt⟩ := HB8.out.lr.open; clear kf)
      | (go_at_call 70; (with_reducible refine SRB.out.mono ?_); rintro e w8 ⟨⟨xq, xc, rfl⟩, hb8⟩; have HB8 := Lib.hid ((HB3.out.drew).bel hb8); obtain ⟨k0, k1, k2, kf, klt⟩ := HB8.out.lr.open; clear kf))
    all_goals (first
      | (have HV := Lib.hid (Vx.of_set HB8.out hz3 HHX.out 1 N ⟨#[]⟩ xq xc))
      | (have HV := Lib.hid (Vx.of_alloc HB8.out 1 N ⟨#[]⟩ xq xc)))
    all_goals go_wp2_with fail
    all_goals go_meet
    all_goals (refine ⟨_, xq, xc, rfl, rfl, ?_⟩; with_reducible exact HV)
  case rest =>
    clear h0 h1 h2 hlt HB3 hz3 hgs SRA SRB
    obtain ⟨x, xq, xc, rfl, rfl, HV⟩ := hcut
    have hxl := HV.out.lt
    obtain ⟨x0, x1, x2, x3, xf⟩ := box4_in wc x _ _ _ _ _ HV.out.box
    clear xf
    obtain ⟨y0, y1, y2, y3, y4, y5, y6, yf⟩ := box7_in wc gT _ _ _ _ _ _ _ _ HV.out.bx.tok; have yf0 := yf 0; have yf1 := yf 1; have yf2 := yf 2; have yf3 := yf 3; have yf4 := yf 4; have yf5 := yf 5; have yf6 := yf 6; clear yf
    go_upto_region 26 with fail
    have HB4 := Lib.hid ((((HV.out.bx.setV0 1).setV1 N).setV2 ⟨#[]⟩).setV3 xq xc)
    clear y0 y1 y2 y3 y4 y5 y6 yf0 yf1 yf2 yf3 yf4 yf5 yf6 x0 x1 x2 x3 HV
    generalize (((wc.setCell ⟨gT, 3, none⟩ (.int .i64 1)).setCell ⟨gT, 4, none⟩ (.int .i64 N)).setCell ⟨gT, 5, none⟩ (.string ⟨#[]⟩)).setCell ⟨gT, 6, none⟩ (.slice xq 0 xc) = w5 at *
    obtain ⟨y0, y1, y2, y3, y4, y5, y6, yf⟩ := box7_in w5 gT _ _ _ _ _ _ _ _ HB4.out.tok; have yf0 := yf 0; have yf1 := yf 1; have yf2 := yf 2; have yf3 := yf 3; have yf4 := yf 4; have yf5 := yf 5; have yf6 := yf 6; clear yf; obtain ⟨r0, r1, r2, r3, r4, r5, r6, rf⟩ := box7_in w5 gR _ _ _ _ _ _ _ _ HB4.out.res; have rf0 := rf 0; have rf1 := rf 1; have rf2 := rf 2; have rf3 := rf 3; have rf4 := rf 4; have rf5 := rf 5; have rf6 := rf 6; clear rf
    go_wp2
    refine bodyPost_ret (v := .tuple #[tokVal 3 n [] (.mk 1 N ⟨#[]⟩ []) xq xc, .nilIface]) (by unfold tokVal; (simp [results, Tryd.results41, go_sem, r0, r1, r2, r3, r4, r5, r6]); try (exact ⟨rfl, rfl, rfl⟩)) rfl ?_
    exact ⟨p1, _, _, by have := HPL.out; have := HP1.out; omega, by rw [List.drop_drop, HP1.out], rfl, (HB4.out.out _ _ _ _ _ _ _).1, (HB4.out.out _ _ _ _ _ _ _).2⟩

end Go.Proofs.YtlinclbodbbemaaDoor
