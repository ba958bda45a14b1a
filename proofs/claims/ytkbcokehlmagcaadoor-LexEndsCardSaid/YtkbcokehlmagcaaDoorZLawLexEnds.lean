/- The walk of the statement on texts that end too early, and on numbers beyond their bounds. -/
import Derived.Test.YtkbcokehlmagcaaDoorZ36
import Derived.Test.YtkbcokehlmagcaaDoorZ02
import Derived.Test.YtkbcokehlmagcaaDoorZ08
import Derived.Deep.DeepCutAuto
namespace Go.Proofs.YtkbcokehlmagcaaDoor
open Go.RowKit
set_option maxRecDepth 100000

abbrev pad (n : Nat) : Bs := List.replicate n 10
theorem pad_skip : ∀ (L n : Nat) (r : Bs), skipL n (pad L ++ r) = skipL (n + L) r
  | 0, n, r => rfl
  | L + 1, n, r => by
    rw [pad, List.replicate_succ, List.cons_append, skipL, if_pos (by decide), pad_skip L (n + 1) r]
    congr 1; omega
theorem pad_lx {L n : Nat} {i : Bs} {R : AR} (h : Lx (n + L) i R) : Lx n (pad L ++ i) R := by
  cases h with
  | done h1 => exact Lx.done (by rw [pad_skip]; exact h1)
  | bad h1 h2 h3 => exact Lx.bad (by rw [pad_skip]; exact h1) h2 h3
  | cons h1 h2 h3 h4 => exact Lx.cons (by rw [pad_skip]; exact h1) h2 h3 h4
/-- No quote, no back, no byte beside the signs. -/
def plainB (c : UInt8) : Bool := !(c.toNat == 34 || c.toNat == 92 || decide (c.toNat < 32) || decide (126 < c.toNat))
theorem strOf_open : ∀ (s r : Bs), s.all plainB = true → strOf (s ++ (10 :: r)) = (none, 10 :: r)
  | [], r, _ => by rw [List.nil_append, strOf_cons, if_pos (by decide)]
  | c :: s, r, h => by
    rw [List.all_cons, Bool.and_eq_true] at h
    have hc : c.toNat ≠ 34 ∧ c.toNat ≠ 92 ∧ 32 ≤ c.toNat ∧ c.toNat ≤ 126 := by
      have := h.1; unfold plainB at this; simp at this; omega
    rw [List.cons_append, strOf_plain (by omega) (by omega) (by omega), strOf_open s r h.2]; rfl
theorem ends_open (L : Nat) (s : Bs) (h : s.all plainB = true) : Lx 1 (pad L ++ (34 :: (s ++ [10, 34]))) (.bad (1 + L) false) := by
  refine pad_lx (Lx.bad (m := 1 + L) (j := 34 :: (s ++ [10, 34])) (by rw [skipL, if_neg (by decide), if_neg (by decide)]) (by simp) ?_)
  rw [wordL_34, strOf_open s [34] h]; rfl
abbrev big64 : Bs := [57, 50, 50, 51, 51, 55, 50, 48, 51, 54, 56, 53, 52, 55, 55, 53, 56, 48, 56]
abbrev big32 : Bs := [35, 50, 49, 52, 55, 52, 56, 51, 54, 52, 56]
abbrev both : Bs := [57, 50, 50, 51, 51, 55, 50, 48, 51, 54, 56, 53, 52, 55, 55, 53, 56, 48, 55, 32, 35, 45, 50, 49, 52, 55, 52, 56, 51, 54, 52, 56]
theorem ends_64 (L : Nat) : Lx 1 (pad L ++ big64) (.bad (1 + L) true) :=
  pad_lx (Lx.bad (m := 1 + L) (j := big64) (by rw [skipL, if_neg (by decide), if_neg (by decide)]) (by simp) (by kernel_rfl))
theorem ends_32 (L : Nat) : Lx 1 (pad L ++ big32) (.bad (1 + L) true) :=
  pad_lx (Lx.bad (m := 1 + L) (j := big32) (by rw [skipL, if_neg (by decide), if_neg (by decide)]) (by simp) (by kernel_rfl))
theorem ends_both (L : Nat) : Lx 1 (pad L ++ both) (.ok [⟨3, 1 + L, [], .mk 0 9223372036854775807 ⟨#[]⟩ []⟩, ⟨3, 1 + L, [], .mk 1 (-2147483648) ⟨#[]⟩ []⟩]) := by
  refine pad_lx (Lx.cons (R := .ok [⟨3, 1 + L, [], .mk 1 (-2147483648) ⟨#[]⟩ []⟩]) (m := 1 + L) (j := both) (r := [32, 35, 45, 50, 49, 52, 55, 52, 56, 51, 54, 52, 56]) (by rw [skipL, if_neg (by decide), if_neg (by decide)]) (by simp) (by kernel_rfl) ?_)
  refine Lx.cons (R := .ok []) (m := 1 + L) (j := [35, 45, 50, 49, 52, 55, 52, 56, 51, 54, 52, 56]) (r := []) (by rw [skipL, if_neg (by decide), if_pos (by decide), skipL, if_neg (by decide), if_neg (by decide)]) (by simp) (by kernel_rfl) (Lx.done rfl)

set_option maxHeartbeats 400000 in
theorem ends_main (ad : Nat → Addr) (hP : Ptrs (ev (ad 11)) (ev (ad 3)) (ev (ad 4)) (ev (ad 2))) (x : Int) (s : ByteArray) (hx : I64 x) (w : World) (he : LEnv w (ev (ad 11)) (ev (ad 3)) (ev (ad 4)) (ev (ad 2)) (ad 10)) (hS : Sents w ad) (hs : s.size ≤ 50) :
    Calls Tryd.prog 6 #[.int .i64 x, .string s] w fun e w' => e = .returned (.bool true) ∧ Below w.heap.size w w' := by
  have HE := Lib.hid he; clear he
  have HS := Lib.hid hS; clear hS
  obtain ⟨L, hL⟩ : ∃ L : Nat, x % 20 = (L : Int) := ⟨(x % 20).toNat, by omega⟩
  have hL2 : L < 20 := by omega
  have HNM := Lib.hid (fun w => number6_any x 20 w hx (by omega) (by omega))
  rw [hL] at HNM
  clear hx hL
  go_enter Tryd.func6, Tryd.ntmps6
  go_wp2_with (first
    | (go_at_call 7; refine (first6_any _ _ _ _ _ hP _ HE.out).mono ?_; rintro e w1 ⟨rfl, hb1⟩; have HB1 := Lib.hid hb1; have HE1 := Lib.hid (HE.out.below hb1); have HS1 := Lib.hid (HS.out.below hb1); clear hb1 HE HS)
    | (go_at_call 9; refine (HNM.out _).mono ?_; rintro e w2 ⟨rfl, rfl⟩))
  go_loop [6, 7] (fun q i => ∃ (j : Nat) (P : ByteArray), q = .string P ∧ i = .int .i64 j ∧ j ≤ L ∧ Hid (P.data.toList = pad j) ∧ P.size = j) (fun _ i => L - (intOf i).toNat)
  case atStart => exact ⟨0, _, rfl, rfl, by omega, Lib.hid rfl, rfl⟩
  case round =>
    obtain ⟨j, P, rfl, rfl, hj, hPl, hPs⟩ := hrel
    by_cases hjL : j < L
    · go_wp2
      go_round
      case measure => simp [intOf]; omega
      case rel => exact ⟨j + 1, _, rfl, by go_num, by omega, Lib.hid (by rw [show (P ++ (⟨#[10]⟩ : ByteArray)).data.toList = P.data.toList ++ [10] from by simp, hPl.out, pad, pad, List.replicate_succ']), by rw [show (P ++ (⟨#[10]⟩ : ByteArray)).size = P.size + 1 from by simp; rfl, hPs]⟩
    · have hje : j = L := by omega
      subst hje
      have HPL := Lib.hid hPl.out
      clear hPl hjL hj
      go_wp2
      go_loop [8] (fun i => ∃ (i' : Nat), i = .int .i64 i' ∧ i' ≤ s.size ∧ Hid ((s.data.toList.take i').all plainB = true)) (fun i => s.size - (intOf i).toNat)
      case atStart => exact ⟨0, rfl, by omega, Lib.hid rfl⟩
      case round =>
        obtain ⟨i, rfl, hi, hall⟩ := hrel
        by_cases his : i < s.size
        · rcases hpb : plainB s[i]
          · have hcs : s[i].toNat = 34 ∨ s[i].toNat = 92 ∨ s[i].toNat < 32 ∨ 126 < s[i].toNat := by
              unfold plainB at hpb; simp at hpb; omega
            clear hpb
            by_cases c1 : ((s[i]).toNat : Int) = 34
            · go_wp2; go_ret; exact ⟨rfl, HB1.out⟩
            by_cases c2 : ((s[i]).toNat : Int) = 92
            · go_wp2; go_ret; exact ⟨rfl, HB1.out⟩
            by_cases c3 : ((s[i]).toNat : Int) < 32
            · go_wp2; go_ret; exact ⟨rfl, HB1.out⟩
            have c4 : (126 : Int) < ((s[i]).toNat : Int) := by omega
            go_wp2; go_ret; exact ⟨rfl, HB1.out⟩
          · have hcs : ¬ ((s[i]).toNat : Int) = 34 ∧ ¬ ((s[i]).toNat : Int) = 92 ∧ (32 : Int) ≤ ((s[i]).toNat : Int) ∧ ((s[i]).toNat : Int) ≤ 126 := by
              unfold plainB at hpb; simp at hpb; omega
            obtain ⟨c1, c2, c3, c4⟩ := hcs
            have HN := Lib.hid (show (s.data.toList.take (i + 1)).all plainB = true from by
              have h' : i < s.data.toList.length := by simpa using his
              rw [List.take_succ_eq_append_getElem h', List.all_append, hall.out]
              simp only [List.all_cons, List.all_nil, Bool.and_true, Bool.true_and]
              exact hpb)
            clear hpb
            go_wp2
            all_goals first
              | (go_ret; exact ⟨rfl, HB1.out⟩)
              | (go_round; (case measure => show s.size - ((i : Int) + 1).toNat < s.size - ((i : Int)).toNat; omega); (case rel => exact ⟨i + 1, by go_num, by omega, HN⟩))
        · have HALL := Lib.hid (show s.data.toList.all plainB = true from by
            have := hall.out
            rwa [List.take_of_length_le (by simp; omega)] at this)
          clear hall
          have hcast : ((1 + j : Nat) : Int) = 1 + (j : Int) := by omega
          have hA : ∀ (X : ByteArray) (b : Bool) (v : Value), (if b then ev (ad 4) else eY (ad 10)) = v → X.size ≤ 32768 → Lx 1 X.data.toList (.bad (1 + j) b) → Hid (∀ W, LEnv W (ev (ad 11)) (ev (ad 3)) (ev (ad 4)) (ev (ad 2)) (ad 10) → Calls Tryd.prog 8 #[.string X] W fun e w' => (∃ bk, e = .returned (.tuple #[.slice none 0 0, .iface 53 (.pointer (some ⟨bk, 0, none⟩))]) ∧ W.heap.size ≤ bk ∧ w'.heap[bk]? = some (.cells #[.int .i64 (1 + (j : Int)), v] 55 (0, 0))) ∧ Below W.heap.size W w') := fun X b v hv h1 h2 => Lib.hid (fun W he => by
            have := all_bad _ _ _ _ _ hP X W he h1 h2
            rw [hcast, hv] at this; exact this)
          have A1 := hA (P ++ ⟨#[34]⟩ ++ s ++ ⟨#[10, 34]⟩) false (ev (ad 10)) rfl (by rw [show (P ++ ⟨#[34]⟩ ++ s ++ ⟨#[10, 34]⟩ : ByteArray).size = P.size + 1 + s.size + 2 from by simp; rfl]; omega) (by
            have e : (P ++ ⟨#[34]⟩ ++ s ++ ⟨#[10, 34]⟩ : ByteArray).data.toList = pad j ++ (34 :: (s.data.toList ++ [10, 34])) := by simp [HPL.out]
            rw [e]; exact ends_open j _ HALL.out)
          have A2 := hA (P ++ ⟨#[57, 50, 50, 51, 51, 55, 50, 48, 51, 54, 56, 53, 52, 55, 55, 53, 56, 48, 56]⟩) true (ev (ad 4)) rfl (by rw [show (P ++ ⟨#[57, 50, 50, 51, 51, 55, 50, 48, 51, 54, 56, 53, 52, 55, 55, 53, 56, 48, 56]⟩ : ByteArray).size = P.size + 19 from by simp; rfl]; omega) (by
            have e : (P ++ ⟨#[57, 50, 50, 51, 51, 55, 50, 48, 51, 54, 56, 53, 52, 55, 55, 53, 56, 48, 56]⟩ : ByteArray).data.toList = pad j ++ big64 := by simp [HPL.out]
            rw [e]; exact ends_64 j)
          have A3 := hA (P ++ ⟨#[35, 50, 49, 52, 55, 52, 56, 51, 54, 52, 56]⟩) true (ev (ad 4)) rfl (by rw [show (P ++ ⟨#[35, 50, 49, 52, 55, 52, 56, 51, 54, 52, 56]⟩ : ByteArray).size = P.size + 11 from by simp; rfl]; omega) (by
            have e : (P ++ ⟨#[35, 50, 49, 52, 55, 52, 56, 51, 54, 52, 56]⟩ : ByteArray).data.toList = pad j ++ big32 := by simp [HPL.out]
            rw [e]; exact ends_32 j)
          have A4 := Lib.hid (fun W he => all_ok (ev (ad 11)) (ev (ad 3)) (ev (ad 4)) (ev (ad 2)) (ad 10) hP (P ++ ⟨#[57, 50, 50, 51, 51, 55, 50, 48, 51, 54, 56, 53, 52, 55, 55, 53, 56, 48, 55, 32, 35, 45, 50, 49, 52, 55, 52, 56, 51, 54, 52, 56]⟩) W he (by rw [show (P ++ ⟨#[57, 50, 50, 51, 51, 55, 50, 48, 51, 54, 56, 53, 52, 55, 55, 53, 56, 48, 55, 32, 35, 45, 50, 49, 52, 55, 52, 56, 51, 54, 52, 56]⟩ : ByteArray).size = P.size + 32 from by simp; rfl]; omega) (by simp) (show Lx 1 (P ++ ⟨#[57, 50, 50, 51, 51, 55, 50, 48, 51, 54, 56, 53, 52, 55, 55, 53, 56, 48, 55, 32, 35, 45, 50, 49, 52, 55, 52, 56, 51, 54, 52, 56]⟩ : ByteArray).data.toList (.ok [⟨3, 1 + j, [], .mk 0 9223372036854775807 ⟨#[]⟩ []⟩, ⟨3, 1 + j, [], .mk 1 (-2147483648) ⟨#[]⟩ []⟩]) from by
            have e : (P ++ ⟨#[57, 50, 50, 51, 51, 55, 50, 48, 51, 54, 56, 53, 52, 55, 55, 53, 56, 48, 55, 32, 35, 45, 50, 49, 52, 55, 52, 56, 51, 54, 52, 56]⟩ : ByteArray).data.toList = pad j ++ both := by simp [HPL.out]
            rw [e]; exact ends_both j))
          have P5 := Lib.hid (fun (W : World) => placed_any 105 (1 + (j : Int)) (by omega) W)
          have P1 := Lib.hid (fun (W : World) => placed_any 111 (1 + (j : Int)) (by omega) W)
          have SS := Lib.hid (fun (W : World) (b : Nat) (h1 : Sents W ad) (h2 : W.heap[b]? = some (.cells #[.int .i64 (1 + (j : Int)), ev (ad 10)] 55 (0, 0))) => (show Calls Tryd.prog 15 #[.iface 53 (.pointer (some ⟨b, 0, none⟩)), .agg #[.int .i64 111, .bool true, .int .i64 (1 + (j : Int)), .int .i64 0, .int .i64 0, .string ByteArray.empty, .slice none 0 0]] W (fun e w' => e = .returned (.bool true) ∧ Below W.heap.size W w') from seeSame_at ad 10 (by omega) b (1 + (j : Int)) W h1 h2))
          have SR := Lib.hid (fun (W : World) (b : Nat) (h1 : Sents W ad) (h2 : W.heap[b]? = some (.cells #[.int .i64 (1 + (j : Int)), ev (ad 4)] 55 (0, 0))) => (show Calls Tryd.prog 15 #[.iface 53 (.pointer (some ⟨b, 0, none⟩)), .agg #[.int .i64 105, .bool true, .int .i64 (1 + (j : Int)), .int .i64 0, .int .i64 0, .string ByteArray.empty, .slice none 0 0]] W (fun e w' => e = .returned (.bool true) ∧ Below W.heap.size W w') from seeSame_at ad 4 (by omega) b (1 + (j : Int)) W h1 h2))
          unfold fp at P5 P1
          clear hA HNM HPL HALL
          have hi0 : (P.size : Int) ≤ 1000 := by omega
          go_upto_region 22 with (first
            | (go_at_call 8; first
                | ((with_reducible refine (A1.out _ HE1.out).mono ?_); rintro e w3 ⟨⟨b3, rfl, _, hx3⟩, hb3⟩; have HX3 := Lib.hid hx3; have HB3 := Lib.hid (HB1.out.trans (hb3.mono HB1.out.size)); have HE3 := Lib.hid (HE1.out.below hb3); have HC3 := Lib.hid hb3; clear hx3 hb3 A1)
                | ((with_reducible refine (A2.out _ HE3.out).mono ?_); rintro e w4 ⟨⟨b4, rfl, _, hx4⟩, hb4⟩; have HX4 := Lib.hid hx4; have HC4 := Lib.hid (HC3.out.trans (hb4.mono HC3.out.size)); have HX34 := Lib.hid (heap_old HX3.out hb4); have HE4 := Lib.hid (HE3.out.below hb4); clear hx4 hb4 A2)
                | ((with_reducible refine (A3.out _ HE4.out).mono ?_); rintro e w5 ⟨⟨b5, rfl, _, hx5⟩, hb5⟩; have HX5 := Lib.hid hx5; have HC5 := Lib.hid (HC4.out.trans (hb5.mono HC4.out.size)); have HX35 := Lib.hid (heap_old HX34.out hb5); have HX45 := Lib.hid (heap_old HX4.out hb5); have HE5 := Lib.hid (HE4.out.below hb5); clear hx5 hb5 A3)
                | ((with_reducible refine (A4.out _ HE5.out).mono ?_); rintro e w6 ⟨⟨g6, cap6, rfl, hr6⟩, hb6⟩; have HR6 := Lib.hid hr6; have HC6 := Lib.hid (HC5.out.trans (hb6.mono HC5.out.size)); have HX36 := Lib.hid (heap_old HX35.out hb6); have HX46 := Lib.hid (heap_old HX45.out hb6); have HX56 := Lib.hid (heap_old HX5.out hb6); clear hr6 hb6 A4))
            | (go_at_call 16; refine (P5.out _).mono ?_; rintro e w7 ⟨rfl, hb7⟩; have HC7 := Lib.hid (HC6.out.trans (hb7.mono HC6.out.size)); have HX37 := Lib.hid (heap_old HX36.out hb7); have HX47 := Lib.hid (heap_old HX46.out hb7); have HX57 := Lib.hid (heap_old HX56.out hb7); have HR7 := Lib.hid (HR6.out.below hb7 (Nat.le_refl _)); clear hb7))
          clear HE1 HE3 HE4 HE5 HX3 HX34 HX4 HX35 HX45 HX5 HX36 HX46 HX56 HR6 HC3 HC4 HC5 HC6 HB3
          have hb8 : Below w7.heap.size w7 (w7.alloc (.cells #[.int .i64 105, .bool true, .int .i64 (1 + (j : Int)), .int .i64 0, .int .i64 0, .string ByteArray.empty, .slice none 0 0] 43)) := (Below.refl _ _).alloc (Nat.le_refl _) _
          have HBX := Lib.hid (heap_alloc_new w7 (.cells #[.int .i64 105, .bool true, .int .i64 (1 + (j : Int)), .int .i64 0, .int .i64 0, .string ByteArray.empty, .slice none 0 0] 43))
          have H3 := Lib.hid (heap_old HX37.out hb8)
          have H4 := Lib.hid (heap_old HX47.out hb8)
          have H5 := Lib.hid (heap_old HX57.out hb8)
          have HR8 := Lib.hid (HR7.out.below hb8 (Nat.le_refl _))
          have HC8 := Lib.hid (HC7.out.trans (hb8.mono HC7.out.size))
          clear hb8 HX37 HX47 HX57 HR7 HC7
          generalize w7.alloc (.cells #[.int .i64 105, .bool true, .int .i64 (1 + (j : Int)), .int .i64 0, .int .i64 0, .string ByteArray.empty, .slice none 0 0] 43) = w8 at *
          generalize w7.heap.size = g7 at *
          go_wp2_with (first
            | (go_at_call 16; refine (P1.out _).mono ?_; rintro e w9 ⟨rfl, hb9⟩; have HD9 := Lib.hid hb9; clear hb9)
            | (go_at_call 15; first
                | ((with_reducible refine (SS.out _ b3 (HS1.out.below (HC8.out.trans (HD9.out.mono HC8.out.size))) (heap_old H3.out HD9.out)).mono ?_); rintro e w10 ⟨rfl, hb10⟩; have HD10 := Lib.hid (HD9.out.trans (hb10.mono HD9.out.size)); obtain ⟨y0, y1, y2, y3, y4, y5, y6, _⟩ := box7_in w10 g7 _ _ _ _ _ _ _ _ (heap_old HBX.out HD10.out); clear hb10)
                | ((with_reducible refine (SR.out _ b4 (HS1.out.below (HC8.out.trans (HD10.out.mono HC8.out.size))) (heap_old H4.out HD10.out)).mono ?_); rintro e w11 ⟨rfl, hb11⟩; have HD11 := Lib.hid (HD10.out.trans (hb11.mono HD10.out.size)); obtain ⟨z0, z1, z2, z3, z4, z5, z6, _⟩ := box7_in w11 g7 _ _ _ _ _ _ _ _ (heap_old HBX.out HD11.out); clear hb11)
                | ((with_reducible refine (SR.out _ b5 (HS1.out.below (HC8.out.trans (HD11.out.mono HC8.out.size))) (heap_old H5.out HD11.out)).mono ?_); rintro e w12 ⟨rfl, hb12⟩; have HD12 := Lib.hid (HD11.out.trans (hb12.mono HD11.out.size)); have hr12 := HR8.out.below HD12.out (Nat.le_refl _); obtain ⟨q0, c0, _, _, _, _, t0, _⟩ := hr12.at_ 0 (by simp); obtain ⟨q1, c1, _, _, _, _, t1, _⟩ := hr12.at_ 1 (by simp); simp only [List.getElem_cons_zero, List.getElem_cons_succ, Nat.zero_mul, Nat.one_mul, Nat.zero_add, Nat.reduceAdd, T.n] at t0 t1; clear hr12 hb12)))
          go_ret
          exact ⟨rfl, HB1.out.trans ((HC8.out.trans (HD12.out.mono HC8.out.size)).mono HB1.out.size)⟩

set_option maxHeartbeats 400000 in
theorem ends_all (ad : Nat → Addr) (hP : Ptrs (ev (ad 11)) (ev (ad 3)) (ev (ad 4)) (ev (ad 2))) (x : Int) (s : ByteArray) (hx : I64 x) (hsm : s.size ≤ 9223372036854775807) (w : World) (he : LEnv w (ev (ad 11)) (ev (ad 3)) (ev (ad 4)) (ev (ad 2)) (ad 10)) (hS : Sents w ad) :
    Calls Tryd.prog 6 #[.int .i64 x, .string s] w fun e w' => e = .returned (.bool true) ∧ Below w.heap.size w w' := by
  by_cases hs : s.size ≤ 50
  · exact ends_main ad hP x s hx w he hS hs
  · have HE := Lib.hid he; clear he hS
    have HNM := Lib.hid (fun w => number6_any x 20 w hx (by omega) (by omega))
    have hs' : (50 : Int) < (s.size : Int) := by omega
    have hm := Int.emod_nonneg x (b := 20) (by omega)
    have hm2 := Int.emod_lt_of_pos x (b := 20) (by omega)
    generalize x % 20 = y at *
    clear hx
    go_enter Tryd.func6, Tryd.ntmps6
    go_wp2_with (first
      | (go_at_call 7; refine (first6_any _ _ _ _ _ hP _ HE.out).mono ?_; rintro e w1 ⟨rfl, hb1⟩; have HB1 := Lib.hid hb1; clear hb1)
      | (go_at_call 9; refine (HNM.out _).mono ?_; rintro e w2 ⟨rfl, rfl⟩))
    go_ret
    exact ⟨rfl, HB1.out⟩

end Go.Proofs.YtkbcokehlmagcaaDoor
