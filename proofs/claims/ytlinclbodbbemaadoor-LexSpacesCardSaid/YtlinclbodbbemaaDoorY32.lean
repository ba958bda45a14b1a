/- The contract of the reader of words: numbers that are none. -/
import Derived.Test.YtlinclbodbbemaaDoorY27
import Derived.Test.YtlinclbodbbemaaDoorY17
import Derived.Test.YtlinclbodbbemaaDoorY11
import Derived.Test.YtlinclbodbbemaaDoorY08
import Derived.Deep.RegionHeld3
import Derived.Deep.DeepCutAuto
import Derived.Deep.CutRange
namespace Go.Proofs.YtlinclbodbbemaaDoor
open Go.RowKit
set_option maxRecDepth 100000

set_option maxHeartbeats 1000000 in
theorem word_dig_syn (eD eM eR eS : Value) (aY : Addr) (s : ByteArray) (p n g : Nat) (w : World) (hx : LR w g s p n) (hp : p < s.size) (hs : s.size ≤ 140737488355328) (hE : ∀ W, But g w W → REnv W eD eM eR eS aY ∧ LexT W)
    (c : Int) (hc : ((nx (s.data.toList.drop p)).toNat : Int) = c) (h34 : ¬ c = 34) (h35 : ¬ c = 35) (hD : isD (nx (s.data.toList.drop p)) = true) (d : Bs) (hrun : runB (s.data.toList.drop p) = d) (hA : areD d = false) :
    Calls Tryd.prog 41 #[.pointer (some ⟨g, 0, none⟩)] w (WordPost eR aY s n g w (.bad false)) := by
  have HE := Lib.hid hE
  have HC := Lib.hid hc
  have HB0 := Lib.hid (Bx.start hx)
  obtain ⟨h0, h1, h2, hf, hlt⟩ := hx.open
  have hyl := World.block_lt_of_cell? w _ (hE w (But.refl _ _)).1.syn
  have hrl := World.block_lt_of_cell? w _ (hE w (But.refl _ _)).1.errs.range
  simp only at hyl hrl
  clear hx hE
  have hsl : s.data.toList.length = s.size := by simp
  have HR := Lib.hid hrun
  have hrl0 := runB_le (s.data.toList.drop p)
  rw [hrun, List.length_drop, hsl] at hrl0
  have hpl : p + d.length ≤ s.size := by omega
  have HDS := Lib.hid (show (⟨d.toArray⟩ : ByteArray).size ≤ 140737488355328 by show d.toArray.size ≤ _; rw [List.size_toArray]; omega)
  have sA := Lib.hid (fun w => areDigits_any ⟨d.toArray⟩ false (by rw [ba_list]; exact hA) w HDS.out)
  have sD := Lib.hid (fun w => lexDigit_any _ c hc _ hD w)
  clear hA hrun hrl0 hsl hc hD
  go_enter Tryd.func41, Tryd.ntmps41
  go_upto_region 4 with (go_at_call 64; refine (lnext_any s p n g _ HB0.out.lr (by omega) _ HC.out).mono ?_; rintro e w1 ⟨rfl, m, rfl⟩)
  have HB1 := Lib.hid (HB0.out.drewN m)
  clear HB0 h0 h1 h2 hf hlt
  generalize ((w.alloc (.cells #[.int .i64 0, .int .i64 0, .string ⟨#[]⟩, .int .i64 0, .int .i64 0, .string ⟨#[]⟩, .slice none 0 0] 34)).alloc (.cells #[.int .i64 3, .int .i64 n, .string ⟨#[]⟩, .int .i64 0, .int .i64 0, .string ⟨#[]⟩, .slice none 0 0] 34)).drewN m = W at *
  have hr0 := HB1.out.r0; have hrt := HB1.out.rt; have hgw := HB1.out.gw
  generalize w.heap.size + 1 = gT at *
  generalize w.heap.size = gR at *
  obtain ⟨y0, y1, y2, y3, y4, y5, y6, yf⟩ := box7_in W gT _ _ _ _ _ _ _ _ HB1.out.tok; have yf0 := yf 0; have yf1 := yf 1; have yf2 := yf 2; have yf3 := yf 3; have yf4 := yf 4; have yf5 := yf 5; have yf6 := yf 6; clear yf; obtain ⟨h0, h1, h2, hf, hlt⟩ := HB1.out.lr.open; have hf0 := hf 0; have hf1 := hf 1; have hf2 := hf 2; clear hf
  have HBQ := HB1
  go_wp2_with (first
    | (go_at_call 67; refine (sD.out _).mono ?_; rintro e w2 ⟨rfl, rfl⟩)
    | (go_at_call 68; refine (run_val s p n g _ HBQ.out.lr (by omega) hs d HR.out).mono ?_; rintro e w3 ⟨rfl, hx3, hb3⟩; have HB3 := Lib.hid (HBQ.out.call hx3 hb3); clear hx3 hb3)
    | (go_at_call 69; refine (sA.out _).mono ?_; rintro e w4 ⟨rfl, rfl⟩))
  clear y0 y1 y2 y3 y4 y5 y6 yf0 yf1 yf2 yf3 yf4 yf5 yf6 h0 h1 h2 hf0 hf1 hf2 hlt
  obtain ⟨r0, r1, r2, r3, r4, r5, r6, rf⟩ := box7_in _ gR _ _ _ _ _ _ _ _ HB3.out.res; have rf0 := rf 0; have rf1 := rf 1; have rf2 := rf 2; have rf3 := rf 3; have rf4 := rf 4; have rf5 := rf 5; have rf6 := rf 6; clear rf; have hey := (HE.out _ HB3.out.but).1.syn
  go_region
  all_goals
    go_wp2_with fail
    refine bodyPost_ret (v := .tuple #[zeroTok, eY aY]) (by (simp [results, Tryd.results41, go_sem, r0, r1, r2, r3, r4, r5, r6]); try rfl) rfl ?_
    exact ⟨_, rfl, (HB3.out.out _ _ _ _ _ _ _).1.drewN 1, (HB3.out.out _ _ _ _ _ _ _).2.drewN 1⟩

set_option maxHeartbeats 1000000 in
theorem word_obj_syn (eD eM eR eS : Value) (aY : Addr) (s : ByteArray) (p n g : Nat) (w : World) (hx : LR w g s p n) (hp : p < s.size) (hs : s.size ≤ 140737488355328) (hE : ∀ W, But g w W → REnv W eD eM eR eS aY ∧ LexT W)
    (c : Int) (hc : ((nx (s.data.toList.drop p)).toNat : Int) = c) (h35 : c = 35) (d2 : Int) (hd2 : ((nx (s.data.toList.drop (p + 1))).toNat : Int) = d2) (h45 : d2 ≠ 45) (d : Bs) (hrun : runB (s.data.toList.drop (p + 1)) = d) (hA : areD d = false) :
    Calls Tryd.prog 41 #[.pointer (some ⟨g, 0, none⟩)] w (WordPost eR aY s n g w (.bad false)) := by
  have HE := Lib.hid hE
  have HC := Lib.hid hc
  have HB0 := Lib.hid (Bx.start hx)
  obtain ⟨h0, h1, h2, hf, hlt⟩ := hx.open
  have hyl := World.block_lt_of_cell? w _ (hE w (But.refl _ _)).1.syn
  have hrl := World.block_lt_of_cell? w _ (hE w (But.refl _ _)).1.errs.range
  simp only at hyl hrl
  clear hx hE
  subst h35
  have HD2 := Lib.hid hd2
  clear hd2
  have hsl : s.data.toList.length = s.size := by simp
  have HR := Lib.hid hrun
  have hrl0 := runB_le (s.data.toList.drop (p + 1))
  rw [hrun, List.length_drop, hsl] at hrl0
  have hpl : (p + 1) + d.length ≤ s.size := by omega
  have HDS := Lib.hid (show (⟨d.toArray⟩ : ByteArray).size ≤ 140737488355328 by show d.toArray.size ≤ _; rw [List.size_toArray]; omega)
  have sA := Lib.hid (fun w => areDigits_any ⟨d.toArray⟩ false (by rw [ba_list]; exact hA) w HDS.out)
  clear hA hrun hrl0 hsl hc
  go_enter Tryd.func41, Tryd.ntmps41
  go_upto_region 4 with (go_at_call 64; refine (lnext_any s p n g _ HB0.out.lr (by omega) _ HC.out).mono ?_; rintro e w1 ⟨rfl, m, rfl⟩)
  have HB1 := Lib.hid (HB0.out.drewN m)
  clear HB0 h0 h1 h2 hf hlt
  generalize ((w.alloc (.cells #[.int .i64 0, .int .i64 0, .string ⟨#[]⟩, .int .i64 0, .int .i64 0, .string ⟨#[]⟩, .slice none 0 0] 34)).alloc (.cells #[.int .i64 3, .int .i64 n, .string ⟨#[]⟩, .int .i64 0, .int .i64 0, .string ⟨#[]⟩, .slice none 0 0] 34)).drewN m = W at *
  have hr0 := HB1.out.r0; have hrt := HB1.out.rt; have hgw := HB1.out.gw
  generalize w.heap.size + 1 = gT at *
  generalize w.heap.size = gR at *
  obtain ⟨y0, y1, y2, y3, y4, y5, y6, yf⟩ := box7_in W gT _ _ _ _ _ _ _ _ HB1.out.tok; have yf0 := yf 0; have yf1 := yf 1; have yf2 := yf 2; have yf3 := yf 3; have yf4 := yf 4; have yf5 := yf 5; have yf6 := yf 6; clear yf; obtain ⟨h0, h1, h2, hf, hlt⟩ := HB1.out.lr.open; have hf0 := hf 0; have hf1 := hf 1; have hf2 := hf 2; clear hf
  have HB2 := Lib.hid (HB1.out.call (HB1.out.lr.setPos (p + 1) (q := (p : Int) + 1) (by simp)) ((But.refl g W).setCell 1 _))
  go_wp2_with (first
    | (go_at_call 66; refine (lpass_no s (p + 1) n g 45 d2 _ HB2.out.lr (by omega) HD2.out h45).mono ?_; rintro e w2 ⟨rfl, mm, rfl⟩; have HBQ := Lib.hid (HB2.out.drewN mm); clear HB2)
    | (go_at_call 68; refine (run_val s (p + 1) n g _ HBQ.out.lr (by omega) hs d HR.out).mono ?_; rintro e w3 ⟨rfl, hx3, hb3⟩; have HB3 := Lib.hid (HBQ.out.call hx3 hb3); clear hx3 hb3)
    | (go_at_call 69; refine (sA.out _).mono ?_; rintro e w4 ⟨rfl, rfl⟩))
  clear y0 y1 y2 y3 y4 y5 y6 yf0 yf1 yf2 yf3 yf4 yf5 yf6 h0 h1 h2 hf0 hf1 hf2 hlt
  obtain ⟨r0, r1, r2, r3, r4, r5, r6, rf⟩ := box7_in _ gR _ _ _ _ _ _ _ _ HB3.out.res; have rf0 := rf 0; have rf1 := rf 1; have rf2 := rf 2; have rf3 := rf 3; have rf4 := rf 4; have rf5 := rf 5; have rf6 := rf 6; clear rf; have hey := (HE.out _ HB3.out.but).1.syn
  go_region
  all_goals
    go_wp2_with fail
    refine bodyPost_ret (v := .tuple #[zeroTok, eY aY]) (by (simp [results, Tryd.results41, go_sem, r0, r1, r2, r3, r4, r5, r6]); try rfl) rfl ?_
    exact ⟨_, rfl, (HB3.out.out _ _ _ _ _ _ _).1.drewN 1, (HB3.out.out _ _ _ _ _ _ _).2.drewN 1⟩

set_option maxHeartbeats 1000000 in
theorem word_neg_syn (eD eM eR eS : Value) (aY : Addr) (s : ByteArray) (p n g : Nat) (w : World) (hx : LR w g s p n) (hp : p < s.size) (hs : s.size ≤ 140737488355328) (hE : ∀ W, But g w W → REnv W eD eM eR eS aY ∧ LexT W)
    (c : Int) (hc : ((nx (s.data.toList.drop p)).toNat : Int) = c) (h35 : c = 35) (hd2 : ((nx (s.data.toList.drop (p + 1))).toNat : Int) = 45) (d : Bs) (hrun : runB (s.data.toList.drop (p + 1 + 1)) = d) (hA : areD d = false) :
    Calls Tryd.prog 41 #[.pointer (some ⟨g, 0, none⟩)] w (WordPost eR aY s n g w (.bad false)) := by
  have HE := Lib.hid hE
  have HC := Lib.hid hc
  have HB0 := Lib.hid (Bx.start hx)
  obtain ⟨h0, h1, h2, hf, hlt⟩ := hx.open
  have hyl := World.block_lt_of_cell? w _ (hE w (But.refl _ _)).1.syn
  have hrl := World.block_lt_of_cell? w _ (hE w (But.refl _ _)).1.errs.range
  simp only at hyl hrl
  clear hx hE
  subst h35
  have HD2 := Lib.hid hd2
  have hps0 : p < s.size := hp
  have hps1 : p + 1 < s.size := nx_drop (by omega)
  clear hd2
  have hsl : s.data.toList.length = s.size := by simp
  have HR := Lib.hid hrun
  have hrl0 := runB_le (s.data.toList.drop (p + 1 + 1))
  rw [hrun, List.length_drop, hsl] at hrl0
  have hpl : (p + 1 + 1) + d.length ≤ s.size := by omega
  have HDS := Lib.hid (show (⟨d.toArray⟩ : ByteArray).size ≤ 140737488355328 by show d.toArray.size ≤ _; rw [List.size_toArray]; omega)
  have sA := Lib.hid (fun w => areDigits_any ⟨d.toArray⟩ false (by rw [ba_list]; exact hA) w HDS.out)
  clear hA hrun hrl0 hsl hc
  go_enter Tryd.func41, Tryd.ntmps41
  go_upto_region 4 with (go_at_call 64; refine (lnext_any s p n g _ HB0.out.lr (by omega) _ HC.out).mono ?_; rintro e w1 ⟨rfl, m, rfl⟩)
  have HB1 := Lib.hid (HB0.out.drewN m)
  clear HB0 h0 h1 h2 hf hlt
  generalize ((w.alloc (.cells #[.int .i64 0, .int .i64 0, .string ⟨#[]⟩, .int .i64 0, .int .i64 0, .string ⟨#[]⟩, .slice none 0 0] 34)).alloc (.cells #[.int .i64 3, .int .i64 n, .string ⟨#[]⟩, .int .i64 0, .int .i64 0, .string ⟨#[]⟩, .slice none 0 0] 34)).drewN m = W at *
  have hr0 := HB1.out.r0; have hrt := HB1.out.rt; have hgw := HB1.out.gw
  generalize w.heap.size + 1 = gT at *
  generalize w.heap.size = gR at *
  obtain ⟨y0, y1, y2, y3, y4, y5, y6, yf⟩ := box7_in W gT _ _ _ _ _ _ _ _ HB1.out.tok; have yf0 := yf 0; have yf1 := yf 1; have yf2 := yf 2; have yf3 := yf 3; have yf4 := yf 4; have yf5 := yf 5; have yf6 := yf 6; clear yf; obtain ⟨h0, h1, h2, hf, hlt⟩ := HB1.out.lr.open; have hf0 := hf 0; have hf1 := hf 1; have hf2 := hf 2; clear hf
  have HB2 := Lib.hid (HB1.out.call (HB1.out.lr.setPos (p + 1) (q := (p : Int) + 1) (by simp)) ((But.refl g W).setCell 1 _))
  go_wp2_with (first
    | (go_at_call 66; refine (lpass_yes s (p + 1) n g 45 _ HB2.out.lr hps1 hs HD2.out).mono ?_; rintro e w2 ⟨rfl, hx2, hb2⟩; have HBQ := Lib.hid (HB2.out.call hx2 hb2); clear hx2 hb2 HB2)
    | (go_at_call 68; refine (run_val s (p + 1 + 1) n g _ HBQ.out.lr (by omega) hs d HR.out).mono ?_; rintro e w3 ⟨rfl, hx3, hb3⟩; have HB3 := Lib.hid (HBQ.out.call hx3 hb3); clear hx3 hb3)
    | (go_at_call 69; refine (sA.out _).mono ?_; rintro e w4 ⟨rfl, rfl⟩))
  clear y0 y1 y2 y3 y4 y5 y6 yf0 yf1 yf2 yf3 yf4 yf5 yf6 h0 h1 h2 hf0 hf1 hf2 hlt
  obtain ⟨r0, r1, r2, r3, r4, r5, r6, rf⟩ := box7_in _ gR _ _ _ _ _ _ _ _ HB3.out.res; have rf0 := rf 0; have rf1 := rf 1; have rf2 := rf 2; have rf3 := rf 3; have rf4 := rf 4; have rf5 := rf 5; have rf6 := rf 6; clear rf; have hey := (HE.out _ HB3.out.but).1.syn
  go_region
  all_goals
    go_wp2_with fail
    refine bodyPost_ret (v := .tuple #[zeroTok, eY aY]) (by (simp [results, Tryd.results41, go_sem, r0, r1, r2, r3, r4, r5, r6]); try rfl) rfl ?_
    exact ⟨_, rfl, (HB3.out.out _ _ _ _ _ _ _).1.drewN 1, (HB3.out.out _ _ _ _ _ _ _).2.drewN 1⟩

set_option maxHeartbeats 1000000 in
theorem word_neg_zero (eD eM eR eS : Value) (aY : Addr) (s : ByteArray) (p n g : Nat) (w : World) (hx : LR w g s p n) (hp : p < s.size) (hs : s.size ≤ 140737488355328) (hE : ∀ W, But g w W → REnv W eD eM eR eS aY ∧ LexT W)
    (c : Int) (hc : ((nx (s.data.toList.drop p)).toNat : Int) = c) (h35 : c = 35) (hd2 : ((nx (s.data.toList.drop (p + 1))).toNat : Int) = 45) (d : Bs) (hrun : runB (s.data.toList.drop (p + 1 + 1)) = d) (h48 : d = [48]) :
    Calls Tryd.prog 41 #[.pointer (some ⟨g, 0, none⟩)] w (WordPost eR aY s n g w (.bad false)) := by
  have HE := Lib.hid hE
  have HC := Lib.hid hc
  have HB0 := Lib.hid (Bx.start hx)
  obtain ⟨h0, h1, h2, hf, hlt⟩ := hx.open
  have hyl := World.block_lt_of_cell? w _ (hE w (But.refl _ _)).1.syn
  have hrl := World.block_lt_of_cell? w _ (hE w (But.refl _ _)).1.errs.range
  simp only at hyl hrl
  clear hx hE
  subst h48
  subst h35
  have HD2 := Lib.hid hd2
  have hps0 : p < s.size := hp
  have hps1 : p + 1 < s.size := nx_drop (by omega)
  clear hd2
  have hsl : s.data.toList.length = s.size := by simp
  have HR := Lib.hid hrun
  have hrl0 := runB_le (s.data.toList.drop (p + 1 + 1))
  rw [hrun, List.length_drop, hsl] at hrl0
  have hpl : (p + 1 + 1) + [48].length ≤ s.size := by omega
  have HDS := Lib.hid (show (⟨#[48]⟩ : ByteArray).size ≤ 140737488355328 by show 1 ≤ 140737488355328; omega)
  have sA := Lib.hid (fun w => areDigits_any ⟨#[48]⟩ true rfl w HDS.out)
  clear hrun hrl0 hsl hc
  go_enter Tryd.func41, Tryd.ntmps41
  go_upto_region 4 with (go_at_call 64; refine (lnext_any s p n g _ HB0.out.lr (by omega) _ HC.out).mono ?_; rintro e w1 ⟨rfl, m, rfl⟩)
  have HB1 := Lib.hid (HB0.out.drewN m)
  clear HB0 h0 h1 h2 hf hlt
  generalize ((w.alloc (.cells #[.int .i64 0, .int .i64 0, .string ⟨#[]⟩, .int .i64 0, .int .i64 0, .string ⟨#[]⟩, .slice none 0 0] 34)).alloc (.cells #[.int .i64 3, .int .i64 n, .string ⟨#[]⟩, .int .i64 0, .int .i64 0, .string ⟨#[]⟩, .slice none 0 0] 34)).drewN m = W at *
  have hr0 := HB1.out.r0; have hrt := HB1.out.rt; have hgw := HB1.out.gw
  generalize w.heap.size + 1 = gT at *
  generalize w.heap.size = gR at *
  obtain ⟨y0, y1, y2, y3, y4, y5, y6, yf⟩ := box7_in W gT _ _ _ _ _ _ _ _ HB1.out.tok; have yf0 := yf 0; have yf1 := yf 1; have yf2 := yf 2; have yf3 := yf 3; have yf4 := yf 4; have yf5 := yf 5; have yf6 := yf 6; clear yf; obtain ⟨h0, h1, h2, hf, hlt⟩ := HB1.out.lr.open; have hf0 := hf 0; have hf1 := hf 1; have hf2 := hf 2; clear hf
  have HB2 := Lib.hid (HB1.out.call (HB1.out.lr.setPos (p + 1) (q := (p : Int) + 1) (by simp)) ((But.refl g W).setCell 1 _))
  go_wp2_with (first
    | (go_at_call 66; refine (lpass_yes s (p + 1) n g 45 _ HB2.out.lr hps1 hs HD2.out).mono ?_; rintro e w2 ⟨rfl, hx2, hb2⟩; have HBQ := Lib.hid (HB2.out.call hx2 hb2); clear hx2 hb2 HB2)
    | (go_at_call 68; refine (run_val s (p + 1 + 1) n g _ HBQ.out.lr (by omega) hs [48] HR.out).mono ?_; rintro e w3 ⟨rfl, hx3, hb3⟩; have HB3 := Lib.hid (HBQ.out.call hx3 hb3); clear hx3 hb3)
    | (go_at_call 69; refine (sA.out _).mono ?_; rintro e w4 ⟨rfl, rfl⟩))
  clear y0 y1 y2 y3 y4 y5 y6 yf0 yf1 yf2 yf3 yf4 yf5 yf6 h0 h1 h2 hf0 hf1 hf2 hlt
  obtain ⟨r0, r1, r2, r3, r4, r5, r6, rf⟩ := box7_in _ gR _ _ _ _ _ _ _ _ HB3.out.res; have rf0 := rf 0; have rf1 := rf 1; have rf2 := rf 2; have rf3 := rf 3; have rf4 := rf 4; have rf5 := rf 5; have rf6 := rf 6; clear rf; have hey := (HE.out _ HB3.out.but).1.syn
  go_region
  all_goals
    go_wp2_with fail
    refine bodyPost_ret (v := .tuple #[zeroTok, eY aY]) (by (simp [results, Tryd.results41, go_sem, r0, r1, r2, r3, r4, r5, r6]); try rfl) rfl ?_
    exact ⟨_, rfl, (HB3.out.out _ _ _ _ _ _ _).1.drewN 1, (HB3.out.out _ _ _ _ _ _ _).2.drewN 1⟩

end Go.Proofs.YtlinclbodbbemaaDoor
