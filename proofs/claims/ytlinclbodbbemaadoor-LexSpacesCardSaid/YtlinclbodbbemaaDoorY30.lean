/- The contract of the reader of words: names. -/
import Derived.Test.YtlinclbodbbemaaDoorY27
import Derived.Test.YtlinclbodbbemaaDoorY17
import Derived.Test.YtlinclbodbbemaaDoorY11
import Derived.Test.YtlinclbodbbemaaDoorY08
namespace Go.Proofs.YtlinclbodbbemaaDoor
open Go.RowKit
set_option maxRecDepth 100000

set_option maxHeartbeats 400000 in
theorem word_name_ok_us (eD eM eR eS : Value) (aY : Addr) (s : ByteArray) (p n g : Nat) (w : World) (hx : LR w g s p n) (hp : p < s.size) (hs : s.size ≤ 140737488355328) (hE : ∀ W, But g w W → REnv W eD eM eR eS aY ∧ LexT W)
    (c : Int) (hc : ((nx (s.data.toList.drop p)).toNat : Int) = c) (h34 : ¬ c = 34) (h35 : ¬ c = 35) (hD : isD (nx (s.data.toList.drop p)) = false) (hCa : isC (nx (s.data.toList.drop p)) = false) (hSm : isS (nx (s.data.toList.drop p)) = false) (h95 : c = 95) (d : Bs) (hrun : runB (s.data.toList.drop p) = d) (q : Int) (hq : kindL d = (q, true)) :
    Calls Tryd.prog 41 #[.pointer (some ⟨g, 0, none⟩)] w (WordPost eR aY s n g w (.ok q d zT ((s.data.toList.drop p).drop d.length))) := by
  have HE := Lib.hid hE
  have HC := Lib.hid hc
  have HB0 := Lib.hid (Bx.start hx)
  obtain ⟨h0, h1, h2, hf, hlt⟩ := hx.open
  have hyl := World.block_lt_of_cell? w _ (hE w (But.refl _ _)).1.syn
  have hrl := World.block_lt_of_cell? w _ (hE w (But.refl _ _)).1.errs.range
  simp only at hyl hrl
  clear hx hE
  have HR := Lib.hid hrun
  have hrl0 := runB_le (s.data.toList.drop p)
  rw [hrun, List.length_drop, show s.data.toList.length = s.size from by simp] at hrl0
  have HPL := Lib.hid (show p + d.length ≤ s.size by omega)
  have HDS := Lib.hid (show (⟨d.toArray⟩ : ByteArray).size ≤ 140737488355328 by show d.toArray.size ≤ _; rw [List.size_toArray]; omega)
  clear hrl0 hrun
  have sD := Lib.hid (fun w => lexDigit_any _ c hc _ hD w)
  have sC := Lib.hid (fun w => lexCapital_any _ c hc _ hCa w)
  have sS := Lib.hid (fun w => lexSmall_any _ c hc _ hSm w)
  have sQ := Lib.hid (fun w hn => kindOf_any ⟨d.toArray⟩ _ hq w HDS.out hn)
  clear hD hCa hSm hq hc
  subst h95
  go_enter Tryd.func41, Tryd.ntmps41
  go_upto_region 4 with (go_at_call 64; refine (lnext_any s p n g _ HB0.out.lr (by omega) _ HC.out).mono ?_; rintro e w1 ⟨rfl, m, rfl⟩)
  have HB1 := Lib.hid (HB0.out.drewN m)
  clear HB0 h0 h1 h2 hf hlt
  generalize ((w.alloc (.cells #[.int .i64 0, .int .i64 0, .string ⟨#[]⟩, .int .i64 0, .int .i64 0, .string ⟨#[]⟩, .slice none 0 0] 34)).alloc (.cells #[.int .i64 3, .int .i64 n, .string ⟨#[]⟩, .int .i64 0, .int .i64 0, .string ⟨#[]⟩, .slice none 0 0] 34)).drewN m = W at *
  have hr0 := HB1.out.r0; have hrt := HB1.out.rt; have hgw := HB1.out.gw
  generalize w.heap.size + 1 = gT at *
  generalize w.heap.size = gR at *
  obtain ⟨y0, y1, y2, y3, y4, y5, y6, yf⟩ := box7_in W gT _ _ _ _ _ _ _ _ HB1.out.tok; have yf0 := yf 0; have yf1 := yf 1; have yf2 := yf 2; have yf3 := yf 3; have yf4 := yf 4; have yf5 := yf 5; have yf6 := yf 6; clear yf; obtain ⟨h0, h1, h2, hf, hlt⟩ := HB1.out.lr.open; have hf0 := hf 0; have hf1 := hf 1; have hf2 := hf 2; clear hf
  go_wp2_with (first
    | (go_at_call 67; refine (sD.out _).mono ?_; rintro e w2 ⟨rfl, rfl⟩)
    | (go_at_call 71; refine (sC.out _).mono ?_; rintro e w2 ⟨rfl, rfl⟩)
    | (go_at_call 73; refine (sS.out _).mono ?_; rintro e w2 ⟨rfl, rfl⟩)
    | (go_at_call 68; refine (run_val s p n g _ HB1.out.lr (by omega) hs d HR.out).mono ?_; rintro e w3 ⟨rfl, hx3, hb3⟩; have HB3 := Lib.hid (HB1.out.call hx3 hb3); clear hx3 hb3; obtain ⟨y0, y1, y2, y3, y4, y5, y6, yf⟩ := box7_in w3 gT _ _ _ _ _ _ _ _ HB3.out.tok; have yf0 := yf 0; have yf1 := yf 1; have yf2 := yf 2; have yf3 := yf 3; have yf4 := yf 4; have yf5 := yf 5; have yf6 := yf 6; clear yf; obtain ⟨r0, r1, r2, r3, r4, r5, r6, rf⟩ := box7_in w3 gR _ _ _ _ _ _ _ _ HB3.out.res; have rf0 := rf 0; have rf1 := rf 1; have rf2 := rf 2; have rf3 := rf 3; have rf4 := rf 4; have rf5 := rf 5; have rf6 := rf 6; clear rf; have hey := (HE.out w3 HB3.out.but).1.syn)
    | (go_at_call 74; refine (sQ.out _ (HE.out _ (HB3.out.setS _).but).2).mono ?_; rintro e w4 ⟨rfl, rfl⟩))
  have HB4 := Lib.hid ((HB3.out.setS ⟨d.toArray⟩).setK q)
  refine bodyPost_ret (v := .tuple #[tokVal q n d zT none 0, .nilIface]) (by unfold tokVal; (simp [results, Tryd.results41, go_sem, r0, r1, r2, r3, r4, r5, r6]); try (exact ⟨rfl, rfl, rfl⟩)) rfl ?_
  exact ⟨_, _, _, HPL.out, by rw [List.drop_drop], rfl, (HB4.out.out _ _ _ _ _ _ _).1, (HB4.out.out _ _ _ _ _ _ _).2⟩

set_option maxHeartbeats 400000 in
theorem word_name_ok (eD eM eR eS : Value) (aY : Addr) (s : ByteArray) (p n g : Nat) (w : World) (hx : LR w g s p n) (hp : p < s.size) (hs : s.size ≤ 140737488355328) (hE : ∀ W, But g w W → REnv W eD eM eR eS aY ∧ LexT W)
    (c : Int) (hc : ((nx (s.data.toList.drop p)).toNat : Int) = c) (h34 : ¬ c = 34) (h35 : ¬ c = 35) (hD : isD (nx (s.data.toList.drop p)) = false) (hCa : isC (nx (s.data.toList.drop p)) = false) (hSm : isS (nx (s.data.toList.drop p)) = true) (d : Bs) (hrun : runB (s.data.toList.drop p) = d) (q : Int) (hq : kindL d = (q, true)) :
    Calls Tryd.prog 41 #[.pointer (some ⟨g, 0, none⟩)] w (WordPost eR aY s n g w (.ok q d zT ((s.data.toList.drop p).drop d.length))) := by
  have HE := Lib.hid hE
  have HC := Lib.hid hc
  have HB0 := Lib.hid (Bx.start hx)
  obtain ⟨h0, h1, h2, hf, hlt⟩ := hx.open
  have hyl := World.block_lt_of_cell? w _ (hE w (But.refl _ _)).1.syn
  have hrl := World.block_lt_of_cell? w _ (hE w (But.refl _ _)).1.errs.range
  simp only at hyl hrl
  clear hx hE
  have HR := Lib.hid hrun
  have hrl0 := runB_le (s.data.toList.drop p)
  rw [hrun, List.length_drop, show s.data.toList.length = s.size from by simp] at hrl0
  have HPL := Lib.hid (show p + d.length ≤ s.size by omega)
  have HDS := Lib.hid (show (⟨d.toArray⟩ : ByteArray).size ≤ 140737488355328 by show d.toArray.size ≤ _; rw [List.size_toArray]; omega)
  clear hrl0 hrun
  have sD := Lib.hid (fun w => lexDigit_any _ c hc _ hD w)
  have sC := Lib.hid (fun w => lexCapital_any _ c hc _ hCa w)
  have sS := Lib.hid (fun w => lexSmall_any _ c hc _ hSm w)
  have sQ := Lib.hid (fun w hn => kindOf_any ⟨d.toArray⟩ _ hq w HDS.out hn)
  clear hD hCa hSm hq hc
  go_enter Tryd.func41, Tryd.ntmps41
  go_upto_region 4 with (go_at_call 64; refine (lnext_any s p n g _ HB0.out.lr (by omega) _ HC.out).mono ?_; rintro e w1 ⟨rfl, m, rfl⟩)
  have HB1 := Lib.hid (HB0.out.drewN m)
  clear HB0 h0 h1 h2 hf hlt
  generalize ((w.alloc (.cells #[.int .i64 0, .int .i64 0, .string ⟨#[]⟩, .int .i64 0, .int .i64 0, .string ⟨#[]⟩, .slice none 0 0] 34)).alloc (.cells #[.int .i64 3, .int .i64 n, .string ⟨#[]⟩, .int .i64 0, .int .i64 0, .string ⟨#[]⟩, .slice none 0 0] 34)).drewN m = W at *
  have hr0 := HB1.out.r0; have hrt := HB1.out.rt; have hgw := HB1.out.gw
  generalize w.heap.size + 1 = gT at *
  generalize w.heap.size = gR at *
  obtain ⟨y0, y1, y2, y3, y4, y5, y6, yf⟩ := box7_in W gT _ _ _ _ _ _ _ _ HB1.out.tok; have yf0 := yf 0; have yf1 := yf 1; have yf2 := yf 2; have yf3 := yf 3; have yf4 := yf 4; have yf5 := yf 5; have yf6 := yf 6; clear yf; obtain ⟨h0, h1, h2, hf, hlt⟩ := HB1.out.lr.open; have hf0 := hf 0; have hf1 := hf 1; have hf2 := hf 2; clear hf
  go_wp2_with (first
    | (go_at_call 67; refine (sD.out _).mono ?_; rintro e w2 ⟨rfl, rfl⟩)
    | (go_at_call 71; refine (sC.out _).mono ?_; rintro e w2 ⟨rfl, rfl⟩)
    | (go_at_call 73; refine (sS.out _).mono ?_; rintro e w2 ⟨rfl, rfl⟩)
    | (go_at_call 68; refine (run_val s p n g _ HB1.out.lr (by omega) hs d HR.out).mono ?_; rintro e w3 ⟨rfl, hx3, hb3⟩; have HB3 := Lib.hid (HB1.out.call hx3 hb3); clear hx3 hb3; obtain ⟨y0, y1, y2, y3, y4, y5, y6, yf⟩ := box7_in w3 gT _ _ _ _ _ _ _ _ HB3.out.tok; have yf0 := yf 0; have yf1 := yf 1; have yf2 := yf 2; have yf3 := yf 3; have yf4 := yf 4; have yf5 := yf 5; have yf6 := yf 6; clear yf; obtain ⟨r0, r1, r2, r3, r4, r5, r6, rf⟩ := box7_in w3 gR _ _ _ _ _ _ _ _ HB3.out.res; have rf0 := rf 0; have rf1 := rf 1; have rf2 := rf 2; have rf3 := rf 3; have rf4 := rf 4; have rf5 := rf 5; have rf6 := rf 6; clear rf; have hey := (HE.out w3 HB3.out.but).1.syn)
    | (go_at_call 74; refine (sQ.out _ (HE.out _ (HB3.out.setS _).but).2).mono ?_; rintro e w4 ⟨rfl, rfl⟩))
  have HB4 := Lib.hid ((HB3.out.setS ⟨d.toArray⟩).setK q)
  refine bodyPost_ret (v := .tuple #[tokVal q n d zT none 0, .nilIface]) (by unfold tokVal; (simp [results, Tryd.results41, go_sem, r0, r1, r2, r3, r4, r5, r6]); try (exact ⟨rfl, rfl, rfl⟩)) rfl ?_
  exact ⟨_, _, _, HPL.out, by rw [List.drop_drop], rfl, (HB4.out.out _ _ _ _ _ _ _).1, (HB4.out.out _ _ _ _ _ _ _).2⟩

set_option maxHeartbeats 400000 in
theorem word_name_bad_us (eD eM eR eS : Value) (aY : Addr) (s : ByteArray) (p n g : Nat) (w : World) (hx : LR w g s p n) (hp : p < s.size) (hs : s.size ≤ 140737488355328) (hE : ∀ W, But g w W → REnv W eD eM eR eS aY ∧ LexT W)
    (c : Int) (hc : ((nx (s.data.toList.drop p)).toNat : Int) = c) (h34 : ¬ c = 34) (h35 : ¬ c = 35) (hD : isD (nx (s.data.toList.drop p)) = false) (hCa : isC (nx (s.data.toList.drop p)) = false) (hSm : isS (nx (s.data.toList.drop p)) = false) (h95 : c = 95) (d : Bs) (hrun : runB (s.data.toList.drop p) = d) (q : Int) (hq : kindL d = (q, false)) :
    Calls Tryd.prog 41 #[.pointer (some ⟨g, 0, none⟩)] w (WordPost eR aY s n g w (.bad false)) := by
  have HE := Lib.hid hE
  have HC := Lib.hid hc
  have HB0 := Lib.hid (Bx.start hx)
  obtain ⟨h0, h1, h2, hf, hlt⟩ := hx.open
  have hyl := World.block_lt_of_cell? w _ (hE w (But.refl _ _)).1.syn
  have hrl := World.block_lt_of_cell? w _ (hE w (But.refl _ _)).1.errs.range
  simp only at hyl hrl
  clear hx hE
  have HR := Lib.hid hrun
  have hrl0 := runB_le (s.data.toList.drop p)
  rw [hrun, List.length_drop, show s.data.toList.length = s.size from by simp] at hrl0
  have HPL := Lib.hid (show p + d.length ≤ s.size by omega)
  have HDS := Lib.hid (show (⟨d.toArray⟩ : ByteArray).size ≤ 140737488355328 by show d.toArray.size ≤ _; rw [List.size_toArray]; omega)
  clear hrl0 hrun
  have sD := Lib.hid (fun w => lexDigit_any _ c hc _ hD w)
  have sC := Lib.hid (fun w => lexCapital_any _ c hc _ hCa w)
  have sS := Lib.hid (fun w => lexSmall_any _ c hc _ hSm w)
  have sQ := Lib.hid (fun w hn => kindOf_any ⟨d.toArray⟩ _ hq w HDS.out hn)
  clear hD hCa hSm hq hc
  subst h95
  go_enter Tryd.func41, Tryd.ntmps41
  go_upto_region 4 with (go_at_call 64; refine (lnext_any s p n g _ HB0.out.lr (by omega) _ HC.out).mono ?_; rintro e w1 ⟨rfl, m, rfl⟩)
  have HB1 := Lib.hid (HB0.out.drewN m)
  clear HB0 h0 h1 h2 hf hlt
  generalize ((w.alloc (.cells #[.int .i64 0, .int .i64 0, .string ⟨#[]⟩, .int .i64 0, .int .i64 0, .string ⟨#[]⟩, .slice none 0 0] 34)).alloc (.cells #[.int .i64 3, .int .i64 n, .string ⟨#[]⟩, .int .i64 0, .int .i64 0, .string ⟨#[]⟩, .slice none 0 0] 34)).drewN m = W at *
  have hr0 := HB1.out.r0; have hrt := HB1.out.rt; have hgw := HB1.out.gw
  generalize w.heap.size + 1 = gT at *
  generalize w.heap.size = gR at *
  obtain ⟨y0, y1, y2, y3, y4, y5, y6, yf⟩ := box7_in W gT _ _ _ _ _ _ _ _ HB1.out.tok; have yf0 := yf 0; have yf1 := yf 1; have yf2 := yf 2; have yf3 := yf 3; have yf4 := yf 4; have yf5 := yf 5; have yf6 := yf 6; clear yf; obtain ⟨h0, h1, h2, hf, hlt⟩ := HB1.out.lr.open; have hf0 := hf 0; have hf1 := hf 1; have hf2 := hf 2; clear hf
  go_wp2_with (first
    | (go_at_call 67; refine (sD.out _).mono ?_; rintro e w2 ⟨rfl, rfl⟩)
    | (go_at_call 71; refine (sC.out _).mono ?_; rintro e w2 ⟨rfl, rfl⟩)
    | (go_at_call 73; refine (sS.out _).mono ?_; rintro e w2 ⟨rfl, rfl⟩)
    | (go_at_call 68; refine (run_val s p n g _ HB1.out.lr (by omega) hs d HR.out).mono ?_; rintro e w3 ⟨rfl, hx3, hb3⟩; have HB3 := Lib.hid (HB1.out.call hx3 hb3); clear hx3 hb3; obtain ⟨y0, y1, y2, y3, y4, y5, y6, yf⟩ := box7_in w3 gT _ _ _ _ _ _ _ _ HB3.out.tok; have yf0 := yf 0; have yf1 := yf 1; have yf2 := yf 2; have yf3 := yf 3; have yf4 := yf 4; have yf5 := yf 5; have yf6 := yf 6; clear yf; obtain ⟨r0, r1, r2, r3, r4, r5, r6, rf⟩ := box7_in w3 gR _ _ _ _ _ _ _ _ HB3.out.res; have rf0 := rf 0; have rf1 := rf 1; have rf2 := rf 2; have rf3 := rf 3; have rf4 := rf 4; have rf5 := rf 5; have rf6 := rf 6; clear rf; have hey := (HE.out w3 HB3.out.but).1.syn)
    | (go_at_call 74; refine (sQ.out _ (HE.out _ (HB3.out.setS _).but).2).mono ?_; rintro e w4 ⟨rfl, rfl⟩))
  have HB4 := Lib.hid ((HB3.out.setS ⟨d.toArray⟩).setK q)
  go_region
  all_goals
    go_wp2_with fail
    refine bodyPost_ret (v := .tuple #[zeroTok, eY aY]) (by (simp [results, Tryd.results41, go_sem, r0, r1, r2, r3, r4, r5, r6]); try rfl) rfl ?_
    exact ⟨_, rfl, (HB4.out.out _ _ _ _ _ _ _).1.drewN 1, (HB4.out.out _ _ _ _ _ _ _).2.drewN 1⟩

set_option maxHeartbeats 400000 in
theorem word_name_bad (eD eM eR eS : Value) (aY : Addr) (s : ByteArray) (p n g : Nat) (w : World) (hx : LR w g s p n) (hp : p < s.size) (hs : s.size ≤ 140737488355328) (hE : ∀ W, But g w W → REnv W eD eM eR eS aY ∧ LexT W)
    (c : Int) (hc : ((nx (s.data.toList.drop p)).toNat : Int) = c) (h34 : ¬ c = 34) (h35 : ¬ c = 35) (hD : isD (nx (s.data.toList.drop p)) = false) (hCa : isC (nx (s.data.toList.drop p)) = false) (hSm : isS (nx (s.data.toList.drop p)) = true) (d : Bs) (hrun : runB (s.data.toList.drop p) = d) (q : Int) (hq : kindL d = (q, false)) :
    Calls Tryd.prog 41 #[.pointer (some ⟨g, 0, none⟩)] w (WordPost eR aY s n g w (.bad false)) := by
  have HE := Lib.hid hE
  have HC := Lib.hid hc
  have HB0 := Lib.hid (Bx.start hx)
  obtain ⟨h0, h1, h2, hf, hlt⟩ := hx.open
  have hyl := World.block_lt_of_cell? w _ (hE w (But.refl _ _)).1.syn
  have hrl := World.block_lt_of_cell? w _ (hE w (But.refl _ _)).1.errs.range
  simp only at hyl hrl
  clear hx hE
  have HR := Lib.hid hrun
  have hrl0 := runB_le (s.data.toList.drop p)
  rw [hrun, List.length_drop, show s.data.toList.length = s.size from by simp] at hrl0
  have HPL := Lib.hid (show p + d.length ≤ s.size by omega)
  have HDS := Lib.hid (show (⟨d.toArray⟩ : ByteArray).size ≤ 140737488355328 by show d.toArray.size ≤ _; rw [List.size_toArray]; omega)
  clear hrl0 hrun
  have sD := Lib.hid (fun w => lexDigit_any _ c hc _ hD w)
  have sC := Lib.hid (fun w => lexCapital_any _ c hc _ hCa w)
  have sS := Lib.hid (fun w => lexSmall_any _ c hc _ hSm w)
  have sQ := Lib.hid (fun w hn => kindOf_any ⟨d.toArray⟩ _ hq w HDS.out hn)
  clear hD hCa hSm hq hc
  go_enter Tryd.func41, Tryd.ntmps41
  go_upto_region 4 with (go_at_call 64; refine (lnext_any s p n g _ HB0.out.lr (by omega) _ HC.out).mono ?_; rintro e w1 ⟨rfl, m, rfl⟩)
  have HB1 := Lib.hid (HB0.out.drewN m)
  clear HB0 h0 h1 h2 hf hlt
  generalize ((w.alloc (.cells #[.int .i64 0, .int .i64 0, .string ⟨#[]⟩, .int .i64 0, .int .i64 0, .string ⟨#[]⟩, .slice none 0 0] 34)).alloc (.cells #[.int .i64 3, .int .i64 n, .string ⟨#[]⟩, .int .i64 0, .int .i64 0, .string ⟨#[]⟩, .slice none 0 0] 34)).drewN m = W at *
  have hr0 := HB1.out.r0; have hrt := HB1.out.rt; have hgw := HB1.out.gw
  generalize w.heap.size + 1 = gT at *
  generalize w.heap.size = gR at *
  obtain ⟨y0, y1, y2, y3, y4, y5, y6, yf⟩ := box7_in W gT _ _ _ _ _ _ _ _ HB1.out.tok; have yf0 := yf 0; have yf1 := yf 1; have yf2 := yf 2; have yf3 := yf 3; have yf4 := yf 4; have yf5 := yf 5; have yf6 := yf 6; clear yf; obtain ⟨h0, h1, h2, hf, hlt⟩ := HB1.out.lr.open; have hf0 := hf 0; have hf1 := hf 1; have hf2 := hf 2; clear hf
  go_wp2_with (first
    | (go_at_call 67; refine (sD.out _).mono ?_; rintro e w2 ⟨rfl, rfl⟩)
    | (go_at_call 71; refine (sC.out _).mono ?_; rintro e w2 ⟨rfl, rfl⟩)
    | (go_at_call 73; refine (sS.out _).mono ?_; rintro e w2 ⟨rfl, rfl⟩)
    | (go_at_call 68; refine (run_val s p n g _ HB1.out.lr (by omega) hs d HR.out).mono ?_; rintro e w3 ⟨rfl, hx3, hb3⟩; have HB3 := Lib.hid (HB1.out.call hx3 hb3); clear hx3 hb3; obtain ⟨y0, y1, y2, y3, y4, y5, y6, yf⟩ := box7_in w3 gT _ _ _ _ _ _ _ _ HB3.out.tok; have yf0 := yf 0; have yf1 := yf 1; have yf2 := yf 2; have yf3 := yf 3; have yf4 := yf 4; have yf5 := yf 5; have yf6 := yf 6; clear yf; obtain ⟨r0, r1, r2, r3, r4, r5, r6, rf⟩ := box7_in w3 gR _ _ _ _ _ _ _ _ HB3.out.res; have rf0 := rf 0; have rf1 := rf 1; have rf2 := rf 2; have rf3 := rf 3; have rf4 := rf 4; have rf5 := rf 5; have rf6 := rf 6; clear rf; have hey := (HE.out w3 HB3.out.but).1.syn)
    | (go_at_call 74; refine (sQ.out _ (HE.out _ (HB3.out.setS _).but).2).mono ?_; rintro e w4 ⟨rfl, rfl⟩))
  have HB4 := Lib.hid ((HB3.out.setS ⟨d.toArray⟩).setK q)
  go_region
  all_goals
    go_wp2_with fail
    refine bodyPost_ret (v := .tuple #[zeroTok, eY aY]) (by (simp [results, Tryd.results41, go_sem, r0, r1, r2, r3, r4, r5, r6]); try rfl) rfl ?_
    exact ⟨_, rfl, (HB4.out.out _ _ _ _ _ _ _).1.drewN 1, (HB4.out.out _ _ _ _ _ _ _).2.drewN 1⟩

end Go.Proofs.YtlinclbodbbemaaDoor
