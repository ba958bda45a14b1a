/- strings.Repeat of two blanks, few times. Printed by gen_repeat.py. strings.Repeat of two blanks, few times. Printed by gen_repeat.py. The writer of package show: begin, line, at any depth. Programs as text, plain data: statements, Blocks, Excepts, at any depth. The writer of package show, at any depth: begin with texts, a Block, statements. Printed by gen_stmt.py. The writer of package show: a statement without a Block. Printed by gen_stmt.py. The writer of package show: more cases. Printed by gen_whole4.py. The document's odd: what is first amiss with a node. The document's odd: a name that is none; what a node has. -/
import Derived.Test.YtemkikjcjhmlaaaGreatDoorM14
import Derived.Test.YtemkikjcjhmlaaaGreatDoorM11
import Derived.Test.YtemkikjcjhmlaaaGreatDoorM15
import Derived.Test.YtemkikjcjhmlaaaGreatDoorM06
import Derived.Test.YtemkikjcjhmlaaaGreatDoorM13
import Derived.Test.YtemkikjcjhmlaaaGreatDoorM07
import Derived.Test.YtemkikjcjhmlaaaGreatDoorM09
import Derived.Deep.RegionHeld3
import Derived.Deep.RegionHeldLaw
import Derived.Deep.DeepCutAuto
namespace Go.Proofs.YtemkikjcjhmlaaaGreatDoor.Sh
open Go.RowKit
set_option maxRecDepth 100000

set_option maxHeartbeats 2000000 in
theorem mul64_n (n : Int) (h0 : 2 ≤ n) (h : n ≤ 41) (w : World) : Calls Tryz.prog 95 #[.int .u64 2, .int .u64 n] w fun e w' => e = .returned (.tuple #[.int .u64 0, .int .u64 (2 * n)]) ∧ w' = w := by
  rcases (show n = 2 ∨ n = 3 ∨ n = 4 ∨ n = 5 ∨ n = 6 ∨ n = 7 ∨ n = 8 ∨ n = 9 ∨ n = 10 ∨ n = 11 ∨ n = 12 ∨ n = 13 ∨ n = 14 ∨ n = 15 ∨ n = 16 ∨ n = 17 ∨ n = 18 ∨ n = 19 ∨ n = 20 ∨ n = 21 ∨ n = 22 ∨ n = 23 ∨ n = 24 ∨ n = 25 ∨ n = 26 ∨ n = 27 ∨ n = 28 ∨ n = 29 ∨ n = 30 ∨ n = 31 ∨ n = 32 ∨ n = 33 ∨ n = 34 ∨ n = 35 ∨ n = 36 ∨ n = 37 ∨ n = 38 ∨ n = 39 ∨ n = 40 ∨ n = 41 from by omega) with rfl | rfl | rfl | rfl | rfl | rfl | rfl | rfl | rfl | rfl | rfl | rfl | rfl | rfl | rfl | rfl | rfl | rfl | rfl | rfl | rfl | rfl | rfl | rfl | rfl | rfl | rfl | rfl | rfl | rfl | rfl | rfl | rfl | rfl | rfl | rfl | rfl | rfl | rfl | rfl
  all_goals (go_enter Tryz.func95, Tryz.ntmps95; go_wp2; go_ret2; exact ⟨rfl, rfl⟩)
theorem mul_n (n : Int) (h0 : 2 ≤ n) (h : n ≤ 41) (w : World) : Calls Tryz.prog 83 #[.int .u64 2, .int .u64 n] w fun e w' => e = .returned (.tuple #[.int .u64 0, .int .u64 (2 * n)]) ∧ w' = w := by
  have HM := Lib.hid (mul64_n n h0 h)
  go_enter Tryz.func83, Tryz.ntmps83
  go_wp2_with (go_at_call 95; refine (HM.out _).mono ?_; rintro e w2 ⟨rfl, rfl⟩)
  go_ret2
  exact ⟨rfl, rfl⟩
end Go.Proofs.YtemkikjcjhmlaaaGreatDoor.Sh

namespace Go.Proofs.YtemkikjcjhmlaaaGreatDoor.Sh
open Go.RowKit
set_option maxRecDepth 100000

/-- So many blanks. -/
def blanks (n : Nat) : ByteArray := ⟨(List.replicate n 32).toArray⟩
theorem bl128 : (⟨#[32, 32, 32, 32, 32, 32, 32, 32, 32, 32, 32, 32, 32, 32, 32, 32, 32, 32, 32, 32, 32, 32, 32, 32, 32, 32, 32, 32, 32, 32, 32, 32, 32, 32, 32, 32, 32, 32, 32, 32, 32, 32, 32, 32, 32, 32, 32, 32, 32, 32, 32, 32, 32, 32, 32, 32, 32, 32, 32, 32, 32, 32, 32, 32, 32, 32, 32, 32, 32, 32, 32, 32, 32, 32, 32, 32, 32, 32, 32, 32, 32, 32, 32, 32, 32, 32, 32, 32, 32, 32, 32, 32, 32, 32, 32, 32, 32, 32, 32, 32, 32, 32, 32, 32, 32, 32, 32, 32, 32, 32, 32, 32, 32, 32, 32, 32, 32, 32, 32, 32, 32, 32, 32, 32, 32, 32, 32, 32]⟩ : ByteArray) = blanks 128 := rfl
theorem blanks_ext (m n : Nat) (h : n ≤ m) : (blanks m).extract 0 n = blanks n := by
  apply ByteArray.ext
  unfold blanks
  rw [ByteArray.data_extract]
  simp [Nat.min_eq_left h]
theorem hasPrefix_bl0 (w : World) : Calls Tryz.prog 96 #[.string ⟨#[32, 32, 32, 32, 32, 32, 32, 32, 32, 32, 32, 32, 32, 32, 32, 32, 32, 32, 32, 32, 32, 32, 32, 32, 32, 32, 32, 32, 32, 32, 32, 32, 32, 32, 32, 32, 32, 32, 32, 32, 32, 32, 32, 32, 32, 32, 32, 32, 32, 32, 32, 32, 32, 32, 32, 32, 32, 32, 32, 32, 32, 32, 32, 32, 32, 32, 32, 32, 32, 32, 32, 32, 32, 32, 32, 32, 32, 32, 32, 32, 32, 32, 32, 32, 32, 32, 32, 32, 32, 32, 32, 32, 32, 32, 32, 32, 32, 32, 32, 32, 32, 32, 32, 32, 32, 32, 32, 32, 32, 32, 32, 32, 32, 32, 32, 32, 32, 32, 32, 32, 32, 32, 32, 32, 32, 32, 32, 32]⟩, .string ⟨#[32, 32]⟩] w fun e w' => e = .returned (.bool true) ∧ w' = w := by
  have hx : (((⟨#[32, 32, 32, 32, 32, 32, 32, 32, 32, 32, 32, 32, 32, 32, 32, 32, 32, 32, 32, 32, 32, 32, 32, 32, 32, 32, 32, 32, 32, 32, 32, 32, 32, 32, 32, 32, 32, 32, 32, 32, 32, 32, 32, 32, 32, 32, 32, 32, 32, 32, 32, 32, 32, 32, 32, 32, 32, 32, 32, 32, 32, 32, 32, 32, 32, 32, 32, 32, 32, 32, 32, 32, 32, 32, 32, 32, 32, 32, 32, 32, 32, 32, 32, 32, 32, 32, 32, 32, 32, 32, 32, 32, 32, 32, 32, 32, 32, 32, 32, 32, 32, 32, 32, 32, 32, 32, 32, 32, 32, 32, 32, 32, 32, 32, 32, 32, 32, 32, 32, 32, 32, 32, 32, 32, 32, 32, 32, 32]⟩ : ByteArray).extract 0 2).toList == [32, 32]) = true := by
    rw [bl128, blanks_ext 128 2 (by omega)]; decide +kernel
  go_enter Tryz.func96, Tryz.ntmps96
  go_wp2
  go_ret
  exact ⟨ret_bool rfl, rfl⟩
theorem hasPrefix_bl (w : World) : Calls Tryz.prog 84 #[.string ⟨#[32, 32, 32, 32, 32, 32, 32, 32, 32, 32, 32, 32, 32, 32, 32, 32, 32, 32, 32, 32, 32, 32, 32, 32, 32, 32, 32, 32, 32, 32, 32, 32, 32, 32, 32, 32, 32, 32, 32, 32, 32, 32, 32, 32, 32, 32, 32, 32, 32, 32, 32, 32, 32, 32, 32, 32, 32, 32, 32, 32, 32, 32, 32, 32, 32, 32, 32, 32, 32, 32, 32, 32, 32, 32, 32, 32, 32, 32, 32, 32, 32, 32, 32, 32, 32, 32, 32, 32, 32, 32, 32, 32, 32, 32, 32, 32, 32, 32, 32, 32, 32, 32, 32, 32, 32, 32, 32, 32, 32, 32, 32, 32, 32, 32, 32, 32, 32, 32, 32, 32, 32, 32, 32, 32, 32, 32, 32, 32]⟩, .string ⟨#[32, 32]⟩] w fun e w' => e = .returned (.bool true) ∧ w' = w := by
  go_enter Tryz.func84, Tryz.ntmps84
  go_wp2_with (go_at_call 96; refine (hasPrefix_bl0 _).mono ?_; rintro e w2 ⟨rfl, rfl⟩)
  go_ret
  exact ⟨rfl, rfl⟩
theorem repeat1_any (s : ByteArray) (w : World) : Calls Tryz.prog 57 #[.string s, .int .i64 1] w fun e w' => e = .returned (.string s) ∧ w' = w := by
  go_enter Tryz.func57, Tryz.ntmps57
  go_wp2
  go_ret
  exact ⟨rfl, rfl⟩
set_option maxHeartbeats 2000000 in
theorem repeat_n (n : Nat) (h2 : 2 ≤ n) (h : n ≤ 41) (w : World) : Calls Tryz.prog 57 #[.string ⟨#[32, 32]⟩, .int .i64 n] w fun e w' => e = .returned (.string (blanks (2 * n))) ∧ w' = w := by
  have HM := Lib.hid (mul_n n (by omega) (by omega))
  have HE := Lib.hid (blanks_ext 128 (2 * n) (by omega))
  have e0 : ((n : Int) == 0) = false := by simp; omega
  have e1 : ((n : Int) == 1) = false := by simp; omega
  have hn : ((2 * n : Nat) : Int) = 2 * (n : Int) := by omega
  have b1 : (2 : Int) ≤ n := by omega
  have b2 : (n : Int) ≤ 41 := by omega
  go_enter Tryz.func57, Tryz.ntmps57
  go_wp2_with (first
    | (go_at_call 83; refine (HM.out _).mono ?_; rintro e w2 ⟨rfl, rfl⟩)
    | (go_at_call 84; refine (hasPrefix_bl _).mono ?_; rintro e w2 ⟨rfl, rfl⟩))
  go_ret
  exact ⟨by rw [← HE.out, ← bl128]; rfl, rfl⟩
end Go.Proofs.YtemkikjcjhmlaaaGreatDoor.Sh

namespace Go.Proofs.YtemkikjcjhmlaaaGreatDoor.Sh
open Go.RowKit
set_option maxRecDepth 100000

theorem blanks_size (n : Nat) : (blanks n).size = n := by
  show (List.replicate n (32 : UInt8)).toArray.size = n
  simp
theorem blanks_len (n : Nat) : (blanks n).data.toList.length = n := by
  rw [Array.length_toList]; exact blanks_size n
theorem go_repeat0 (w : World) : Calls Tryz.prog 57 #[.string ⟨#[32, 32]⟩, .int .i64 0] w fun e w' => e = .returned (.string ⟨#[]⟩) ∧ w' = w := by
  go_enter Tryz.func57, Tryz.ntmps57
  go_wp2
  go_ret
  exact ⟨rfl, rfl⟩
theorem repeat_any (n : Nat) (h : n ≤ 41) (w : World) : Calls Tryz.prog 57 #[.string ⟨#[32, 32]⟩, .int .i64 n] w fun e w' => e = .returned (.string (blanks (2 * n))) ∧ w' = w := by
  match n, h with
  | 0, _ => exact (go_repeat0 w)
  | 1, _ => exact repeat1_any ⟨#[32, 32]⟩ w
  | n + 2, h => exact repeat_n (n + 2) (by omega) h w
theorem putN_any (b : Nat) (w : World) : Calls Tryz.prog 37 #[.pointer (some ⟨b, 0, none⟩), .slice none 0 0] w fun e w' => e = .returned (.tuple #[]) ∧ w' = w := by
  go_enter Tryz.func37, Tryz.ntmps37
  go_wp2
  go_loopw [8] (fun i wr => i = .int .i64 0 ∧ wr = w) (fun _ _ => 0)
  case atStart => exact ⟨rfl, rfl⟩
  case round =>
    obtain ⟨rfl, rfl⟩ := hrel
    go_wp2
    go_end0
    exact ⟨rfl, rfl⟩
/-- What stands ahead on a line. -/
def indT (d : Nat) : List UInt8 := (blanks (2 * d)).data.toList
set_option maxHeartbeats 2000000 in
theorem begin_any (B b g c d : Nat) (X : List UInt8) (ss : List ByteArray) (w : World) (h : Wr B b d X w) (hd : d ≤ 41) (hg : w.heap[g]? = some (.cells (ss.map Value.string).toArray 9 (0, 0))) (hgb : g ≠ b) (hss : ss.length ≤ 1000) (hlen : X.length + ((indT d).length + (flatB ss).length) ≤ 70368744177664) (hBw : B ≤ w.heap.size) :
    Calls Tryz.prog 35 #[.pointer (some ⟨b, 0, none⟩), .slice (some ⟨g, 0, none⟩) ss.length c] w (WPost B b d (X ++ (indT d ++ flatB ss)) w) := by
  have hil : (indT d).length = 2 * d := blanks_len _
  have HP := Lib.hid (put1_any B b d X (blanks (2 * d)) w h (by rw [blanks_size]; omega) hBw)
  have HG := Lib.hid hg
  obtain ⟨hB, a, v, ha, hh, ho⟩ := h
  obtain ⟨c0, c1, c2, _⟩ := row3 hh
  clear ha hh ho hg
  have hdi : (d : Int) ≤ 41 := by omega
  go_enter Tryz.func35, Tryz.ntmps35
  go_wp2_with (first
    | (go_at_call 57; refine (repeat_any d hd _).mono ?_; rintro e w2 ⟨rfl, rfl⟩)
    | (go_at_call 37; (with_reducible refine HP.out.mono ?_); rintro e w3 ⟨rfl, h3, hb3, hk3⟩; have HB3 := Lib.hid hb3; have HK3 := Lib.hid hk3; have HP4 := Lib.hid (put_any B b g c d _ ss w3 h3 (hk3 g _ _ (by decide) hgb HG.out) hgb hss (by rw [List.length_append]; show X.length + (indT d).length + _ ≤ _; omega) (Nat.le_trans hBw hb3.size)); clear h3 hb3 hk3 HP)
    | (go_at_call 37; (with_reducible refine HP4.out.mono ?_); rintro e w4 ⟨rfl, h4, hb4, hk4⟩; have H4 := Lib.hid h4; have HB4 := Lib.hid (HB3.out.trans hb4); have HK4 := Lib.hid (HK3.out.trans hk4); clear h4 hb4 hk4))
  go_end0
  have h4 := H4.out
  rw [show (X ++ (blanks (2 * d)).data.toList) ++ flatB ss = X ++ (indT d ++ flatB ss) from List.append_assoc ..] at h4
  exact ⟨rfl, h4, HB4.out, HK4.out⟩
set_option maxHeartbeats 2000000 in
theorem beginN_any (B b d : Nat) (X : List UInt8) (w : World) (h : Wr B b d X w) (hd : d ≤ 41) (hlen : X.length + (indT d).length ≤ 70368744177664) (hBw : B ≤ w.heap.size) :
    Calls Tryz.prog 35 #[.pointer (some ⟨b, 0, none⟩), .slice none 0 0] w (WPost B b d (X ++ indT d) w) := by
  have hil : (indT d).length = 2 * d := blanks_len _
  have HP := Lib.hid (put1_any B b d X (blanks (2 * d)) w h (by rw [blanks_size]; omega) hBw)
  obtain ⟨hB, a, v, ha, hh, ho⟩ := h
  obtain ⟨c0, c1, c2, _⟩ := row3 hh
  clear ha hh ho
  have hdi : (d : Int) ≤ 41 := by omega
  go_enter Tryz.func35, Tryz.ntmps35
  go_wp2_with (first
    | (go_at_call 57; refine (repeat_any d hd _).mono ?_; rintro e w2 ⟨rfl, rfl⟩)
    | (go_at_call 37; (with_reducible refine HP.out.mono ?_); rintro e w3 ⟨rfl, h3, hb3, hk3⟩; have H3 := Lib.hid h3; have HB3 := Lib.hid hb3; have HK3 := Lib.hid hk3; clear h3 hb3 hk3 HP)
    | (go_at_call 37; refine (putN_any b _).mono ?_; rintro e w4 ⟨rfl, rfl⟩))
  go_end0
  exact ⟨rfl, H3.out, HB3.out, HK3.out⟩
/-- A line of its own. -/
theorem line_any (B b d : Nat) (X : List UInt8) (s : ByteArray) (w : World) (h : Wr B b d X w) (hd : d ≤ 41) (hlen : X.length + ((indT d).length + (s.size + 1)) ≤ 70368744177664) (hBw : B ≤ w.heap.size) :
    Calls Tryz.prog 34 #[.pointer (some ⟨b, 0, none⟩), .string s] w (WPost B b d (X ++ (indT d ++ (s.data.toList ++ [10]))) w) := by
  have hb : Below w.heap.size w (w.alloc (.cells #[.string s, .string ⟨#[10]⟩] 9)) := (Below.refl _ w).alloc (Nat.le_refl _) _
  have hf : flatB [s, ⟨#[10]⟩] = s.data.toList ++ [10] := by simp [flatB]
  have HP := Lib.hid (begin_any B b w.heap.size 2 d X [s, ⟨#[10]⟩] _ (h.below hb) hd (heap_alloc_new w (.cells #[.string s, .string ⟨#[10]⟩] 9)) (by have := h.lt; omega) (by simp) (by rw [hf, List.length_append, Array.length_toList]; exact hlen) (Nat.le_trans hBw hb.size))
  rw [hf] at HP
  simp only [List.length_cons, List.length_nil, Nat.zero_add, Nat.reduceAdd] at HP
  have HB := Lib.hid (hb.mono hBw)
  have HK : Hid (Kp b w _) := Kp.of_below hb
  clear h hb
  go_enter Tryz.func34, Tryz.ntmps34
  go_wp2_with (go_at_call 35; (with_reducible refine HP.out.mono ?_); rintro e w3 ⟨rfl, h3, hb3, hk3⟩; have H3 := Lib.hid h3; have HB3 := Lib.hid (HB.out.trans hb3); have HK3 := Lib.hid (HK.out.trans hk3); clear h3 hb3 hk3 HP)
  go_end0
  exact ⟨rfl, H3.out, HB3.out, HK3.out⟩
end Go.Proofs.YtemkikjcjhmlaaaGreatDoor.Sh

namespace Go.Proofs.YtemkikjcjhmlaaaGreatDoor.Sh
open Go.RowKit
set_option maxRecDepth 100000

/-- A line of its own. -/
def lnT (d : Nat) (s : List UInt8) : List UInt8 := indT d ++ (s ++ [10])
/-- A condition and its Block. -/
def brcT (d : Nat) (word x : List UInt8) (b : Nat → List UInt8) : List UInt8 := indT d ++ (word ++ [32, 40]) ++ x ++ [41, 10] ++ b (d + 1)
/-- What an If has, from word on. -/
def brT (d : Nat) : List UInt8 → List (List UInt8) → List (Nat → List UInt8) → List UInt8
  | word, x :: _ :: xs, _ :: b :: bs => brcT d word x b ++ brT d [101, 108, 115, 101, 105, 102] xs bs
  | _, [_], [b] => lnT d [101, 108, 115, 101] ++ b (d + 1)
  | _, _, _ => []
/-- An Except: its name, the texts of its codes, its Block. -/
def exT (d : Nat) (s : ByteArray) (cs : List (List UInt8)) (bs : List (Nat → List UInt8)) : List UInt8 :=
  indT d ++ [101, 120, 99, 101, 112, 116, 32] ++ (if s.size = 0 then [] else s.data.toList ++ [32]) ++ [40] ++ cs.getD 0 [] ++ [41, 10] ++ bs.getD 1 (fun _ => []) (d + 1)
def bN (bs : List (Nat → List UInt8)) (i d : Nat) : List UInt8 := bs.getD i (fun _ => []) d
def stT (o : Int) (s : ByteArray) (xs : List (List UInt8)) (bs es : List (Nat → List UInt8)) (d : Nat) : List UInt8 :=
  if o = 41 then brT d [105, 102] xs bs ++ lnT d [101, 110, 100, 105, 102]
  else if o = 42 then indT d ++ ([102, 111, 114, 32] ++ (s.data.toList ++ [32, 105, 110, 32, 40])) ++ xs.getD 0 [] ++ [41, 10] ++ bN bs 1 (d + 1) ++ lnT d [101, 110, 100, 102, 111, 114]
  else if o = 43 then indT d ++ ([102, 111, 114, 32] ++ (s.data.toList ++ [32, 105, 110, 32, 91])) ++ joinS [46, 46] (xs.take 2) ++ [93, 10] ++ bN bs 2 (d + 1) ++ lnT d [101, 110, 100, 102, 111, 114]
  else if o = 44 then brcT d [119, 104, 105, 108, 101] (xs.getD 0 []) (bs.getD 1 (fun _ => [])) ++ lnT d [101, 110, 100, 119, 104, 105, 108, 101]
  else if o = 48 then brcT d [102, 111, 114, 107] (xs.getD 0 []) (bs.getD 1 (fun _ => [])) ++ lnT d [101, 110, 100, 102, 111, 114, 107]
  else if o = 49 then lnT d [116, 114, 121] ++ bN bs 0 (d + 1) ++ (es.drop 1).flatMap (fun e => e d) ++ lnT d [101, 110, 100, 116, 114, 121]
  else if o = 51 then lnT d [116, 114, 121] ++ bN bs 0 (d + 1) ++ lnT d [102, 105, 110, 97, 108, 108, 121] ++ bN bs 1 (d + 1) ++ lnT d [101, 110, 100, 116, 114, 121]
  else if o = 45 then indT d ++ [98, 114, 101, 97, 107] ++ [59, 10]
  else if o = 46 then indT d ++ [99, 111, 110, 116, 105, 110, 117, 101] ++ [59, 10]
  else if o = 47 then indT d ++ [114, 101, 116, 117, 114, 110] ++ (if xs.length = 0 then [] else [32]) ++ joinS [] xs ++ [59, 10]
  else indT d ++ joinS [] xs ++ [59, 10]
mutual
/-- A statement as text, so deep. -/
def sT : Nd → Nat → List UInt8
  | .mk o _ s _ l, d => stT o s (wAll l) (bAll l) (xAll l) d
def sAll : List Nd → Nat → List UInt8
  | [], _ => []
  | t :: r, d => sT t d ++ sAll r d
/-- What a Block holds. -/
def bT : Nd → Nat → List UInt8
  | .mk _ _ _ _ l, d => sAll l d
def bAll : List Nd → List (Nat → List UInt8)
  | [] => []
  | t :: r => (fun d => bT t d) :: bAll r
/-- An Except. -/
def xT : Nd → Nat → List UInt8
  | .mk _ _ s _ l, d => exT d s (cAll l) (bAll l)
def xAll : List Nd → List (Nat → List UInt8)
  | [] => []
  | t :: r => (fun d => xT t d) :: xAll r
end
theorem sAll_flat (d : Nat) : ∀ l, sAll l d = l.flatMap (fun t => sT t d)
  | [] => by rw [sAll]; rfl
  | t :: r => by rw [sAll, sAll_flat d r, List.flatMap_cons]
theorem sAll_app (d : Nat) (a b : List Nd) : sAll (a ++ b) d = sAll a d ++ sAll b d := by rw [sAll_flat, sAll_flat, sAll_flat, List.flatMap_append]
theorem xAll_flat (d : Nat) : ∀ l, (xAll l).flatMap (fun e => e d) = l.flatMap (fun t => xT t d)
  | [] => by rw [xAll]; rfl
  | t :: r => by rw [xAll, List.flatMap_cons, xAll_flat d r, List.flatMap_cons]
/-- A statement's line is no part of its text. -/
theorem sT_line (o n m : Int) (s : ByteArray) (v : T) (l : List Nd) (d : Nat) : sT (.mk o n s v l) d = sT (.mk o m s v l) d := by rw [sT, sT]
theorem lnT_end (d : Nat) (s x : List UInt8) : ∃ y, x ++ lnT d s = y ++ [10] := ⟨x ++ (indT d ++ s), by unfold lnT; simp⟩
theorem end_ite {c : Prop} [Decidable c] {a b : List UInt8} (h : ∃ y, a = y ++ [10]) (k : ∃ y, b = y ++ [10]) : ∃ y, (if c then a else b) = y ++ [10] := by split <;> assumption
/-- A statement's text ends with an end of line. -/
theorem sT_end (t : Nd) (d : Nat) : ∃ y, sT t d = y ++ [10] := by
  obtain ⟨o, n, s, v, l⟩ := t
  rw [sT]
  unfold stT
  repeat' (with_reducible refine end_ite ?_ ?_)
  all_goals first
    | exact lnT_end _ _ _
    | exact ⟨_, (List.append_assoc _ [59] [10]).symm⟩
theorem sAll_end (d : Nat) : ∀ l, l = [] ∨ ∃ y, sAll l d = y ++ [10]
  | [] => .inl rfl
  | [t] => by
    obtain ⟨y, hy⟩ := sT_end t d
    exact .inr ⟨y, by rw [sAll, sAll, hy, List.append_nil]⟩
  | t :: u :: r => by
    rcases sAll_end d (u :: r) with h | ⟨y, hy⟩
    · cases h
    · exact .inr ⟨sT t d ++ y, by rw [sAll, hy, List.append_assoc]⟩
end Go.Proofs.YtemkikjcjhmlaaaGreatDoor.Sh

namespace Go.Proofs.YtemkikjcjhmlaaaGreatDoor.Sh
open Go.RowKit
set_option maxRecDepth 100000

/-- show.writer.statement writes this text of t, so deep. -/
def SOd (ad : Nat → Addr) (eD eM eR eS : Value) (t : Nd) (d : Nat) (tt : List UInt8) : Prop := ∀ (B b : Nat) (X : List UInt8) (w : World) (lo hi : Nat) (x : Value), NRep w lo hi t x → lo ≤ B → hi ≤ B → B ≤ w.heap.size → Wr B b d X w → Ctx ad eD eM eR eS B w → X.length + tt.length ≤ 70368744177664 →
  Calls Tryz.prog 20 #[.pointer (some ⟨b, 0, none⟩), x] w (WPost B b d (X ++ tt) w)
def SiOk (ad : Nat → Addr) (eD eM eR eS : Value) (t : Nd) (d : Nat) (tt : List UInt8) : Prop := ∀ (B b : Nat) (X : List UInt8) (w : World) (lo hi : Nat) (x : Value), NRep w lo hi t x → lo ≤ B → hi ≤ B → B ≤ w.heap.size → Wr B b d X w → Ctx ad eD eM eR eS B w → X.length + tt.length ≤ 70368744177664 →
  Calls Tryz.prog 42 #[.pointer (some ⟨b, 0, none⟩), x] w (WPost B b d (X ++ tt) w)
def BOd (ad : Nat → Addr) (eD eM eR eS : Value) (t : Nd) (d : Nat) : Prop := ∀ (B b : Nat) (X : List UInt8) (w : World) (lo hi : Nat) (x : Value), NRep w lo hi t x → lo ≤ B → hi ≤ B → B ≤ w.heap.size → Wr B b d X w → Ctx ad eD eM eR eS B w → X.length + (bT t (d + 1)).length ≤ 70368744177664 →
  Calls Tryz.prog 38 #[.pointer (some ⟨b, 0, none⟩), x] w (WPost B b d (X ++ bT t (d + 1)) w)
def EOd (ad : Nat → Addr) (eD eM eR eS : Value) (t : Nd) (d : Nat) : Prop := ∀ (B b : Nat) (X : List UInt8) (w : World) (lo hi : Nat) (x : Value), NRep w lo hi t x → lo ≤ B → hi ≤ B → B ≤ w.heap.size → Wr B b d X w → Ctx ad eD eM eR eS B w → X.length + (xT t d).length ≤ 70368744177664 →
  Calls Tryz.prog 41 #[.pointer (some ⟨b, 0, none⟩), x] w (WPost B b d (X ++ xT t d) w)
theorem begin1d_any (B b d : Nat) (X : List UInt8) (s0 : ByteArray) (w : World) (h : Wr B b d X w) (hd : d ≤ 41) (hlen : X.length + ((indT d).length + (s0.size)) ≤ 70368744177664) (hBw : B ≤ w.heap.size) :
    Calls Tryz.prog 35 #[.pointer (some ⟨b, 0, none⟩), .slice (some ⟨w.heap.size, 0, none⟩) 1 1] (w.alloc (.cells #[.string s0] 9)) (WPost B b d (X ++ (indT d ++ s0.data.toList)) w) := by
  have hb : Below w.heap.size w (w.alloc (.cells #[.string s0] 9)) := (Below.refl _ w).alloc (Nat.le_refl _) _
  have hf : flatB [s0] = s0.data.toList := by simp [flatB]
  have hfl : (flatB [s0]).length = s0.size := by rw [hf]; exact Array.length_toList ..
  have HP := begin_any B b w.heap.size 1 d X [s0] _ (h.below hb) hd (heap_alloc_new w (.cells #[.string s0] 9)) (by have := h.lt; omega) (by simp) (by rw [hfl]; exact hlen) (Nat.le_trans hBw hb.size)
  rw [hf] at HP
  refine Calls.mono HP ?_
  rintro e w2 ⟨rfl, h2, hb2, hk2⟩
  exact ⟨rfl, h2, (hb.mono hBw).trans hb2, (Kp.of_below hb).trans hk2⟩
theorem begin2d_any (B b d : Nat) (X : List UInt8) (s0 s1 : ByteArray) (w : World) (h : Wr B b d X w) (hd : d ≤ 41) (hlen : X.length + ((indT d).length + (s0.size + s1.size)) ≤ 70368744177664) (hBw : B ≤ w.heap.size) :
    Calls Tryz.prog 35 #[.pointer (some ⟨b, 0, none⟩), .slice (some ⟨w.heap.size, 0, none⟩) 2 2] (w.alloc (.cells #[.string s0, .string s1] 9)) (WPost B b d (X ++ (indT d ++ (s0.data.toList ++ s1.data.toList))) w) := by
  have hb : Below w.heap.size w (w.alloc (.cells #[.string s0, .string s1] 9)) := (Below.refl _ w).alloc (Nat.le_refl _) _
  have hf : flatB [s0, s1] = (s0.data.toList ++ s1.data.toList) := by simp [flatB]
  have hfl : (flatB [s0, s1]).length = s0.size + s1.size := by rw [hf]; simp only [List.length_append, Array.length_toList]; rfl
  have HP := begin_any B b w.heap.size 2 d X [s0, s1] _ (h.below hb) hd (heap_alloc_new w (.cells #[.string s0, .string s1] 9)) (by have := h.lt; omega) (by simp) (by rw [hfl]; exact hlen) (Nat.le_trans hBw hb.size)
  rw [hf] at HP
  refine Calls.mono HP ?_
  rintro e w2 ⟨rfl, h2, hb2, hk2⟩
  exact ⟨rfl, h2, (hb.mono hBw).trans hb2, (Kp.of_below hb).trans hk2⟩
theorem begin3d_any (B b d : Nat) (X : List UInt8) (s0 s1 s2 : ByteArray) (w : World) (h : Wr B b d X w) (hd : d ≤ 41) (hlen : X.length + ((indT d).length + (s0.size + s1.size + s2.size)) ≤ 70368744177664) (hBw : B ≤ w.heap.size) :
    Calls Tryz.prog 35 #[.pointer (some ⟨b, 0, none⟩), .slice (some ⟨w.heap.size, 0, none⟩) 3 3] (w.alloc (.cells #[.string s0, .string s1, .string s2] 9)) (WPost B b d (X ++ (indT d ++ (s0.data.toList ++ (s1.data.toList ++ s2.data.toList)))) w) := by
  have hb : Below w.heap.size w (w.alloc (.cells #[.string s0, .string s1, .string s2] 9)) := (Below.refl _ w).alloc (Nat.le_refl _) _
  have hf : flatB [s0, s1, s2] = (s0.data.toList ++ (s1.data.toList ++ s2.data.toList)) := by simp [flatB]
  have hfl : (flatB [s0, s1, s2]).length = s0.size + s1.size + s2.size := by rw [hf]; simp only [List.length_append, Array.length_toList]; show s0.size + (s1.size + s2.size) = _; omega
  have HP := begin_any B b w.heap.size 3 d X [s0, s1, s2] _ (h.below hb) hd (heap_alloc_new w (.cells #[.string s0, .string s1, .string s2] 9)) (by have := h.lt; omega) (by simp) (by rw [hfl]; exact hlen) (Nat.le_trans hBw hb.size)
  rw [hf] at HP
  refine Calls.mono HP ?_
  rintro e w2 ⟨rfl, h2, hb2, hk2⟩
  exact ⟨rfl, h2, (hb.mono hBw).trans hb2, (Kp.of_below hb).trans hk2⟩
/-- The count of Blocks stored. -/
theorem Wr.count {B b : Nat} {k : Int} {X : List UInt8} {w : World} (h : Wr B b k X w) (k2 : Int) : Wr B b k2 X (w.setCell ⟨b, 2, none⟩ (.int .i64 k2)) ∧ Below B w (w.setCell ⟨b, 2, none⟩ (.int .i64 k2)) ∧ Kp b w (w.setCell ⟨b, 2, none⟩ (.int .i64 k2)) := by
  obtain ⟨hB, a, v, ha, hh, ho⟩ := h
  exact ⟨⟨hB, a, v, ha, by simp [World.setCell, Array.getElem?_modify, hh], own_set ho (by decide) hh⟩, (Below.refl B w).setCell (p := ⟨b, 2, none⟩) hB _, (Kp.refl _ _).set _ _⟩
theorem Wr.cells {B b : Nat} {k : Int} {X : List UInt8} {w : World} (h : Wr B b k X w) : w.cell? ⟨b, 2, none⟩ = some (.int .i64 k) ∧ w.frozen? ⟨b, 2, none⟩ = false := by
  obtain ⟨_, a, v, _, hh, _⟩ := h
  obtain ⟨_, _, c2, hf⟩ := row3 hh
  exact ⟨c2, hf 2⟩
set_option maxHeartbeats 2000000 in
theorem statementsD_any (ad : Nat → Addr) (eD eM eR eS : Value) (d : Nat) (l : List Nd) (tx_ : Nd → List UInt8) (hs : ∀ t ∈ l, SOd ad eD eM eR eS t d (tx_ t)) (B b : Nat) (X : List UInt8) (w : World) (lo hi : Nat) (p : Option Addr) (cap : Nat) (hall : NAll w lo hi l p) (hlc : l.length ≤ 1000000) (hlo : lo ≤ B) (hhi : hi ≤ B) (hBw : B ≤ w.heap.size) (h : Wr B b d X w) (hc : Ctx ad eD eM eR eS B w)
    (hlen : X.length + (l.flatMap tx_).length ≤ 70368744177664) :
    Calls Tryz.prog 11 #[.pointer (some ⟨b, 0, none⟩), .slice p l.length cap] w (WPost B b d (X ++ l.flatMap tx_) w) := by
  have HALL := Lib.hid (fun W (hb : Below B w W) => hall.below hb hhi)
  have HC := Lib.hid hc
  have HSO := Lib.hid hs
  have H := Lib.hid h
  clear hall hc hs h
  have hll : (l.length : Int) ≤ 1000000 := by omega
  have hmono : ∀ j, ((l.take j).flatMap tx_).length ≤ (l.flatMap tx_).length := fun j => by
    have := congrArg (fun l => (l.flatMap tx_).length) (List.take_append_drop j l)
    simp only [List.flatMap_append, List.length_append] at this
    omega
  have HM := Lib.hid hmono
  clear hmono
  go_enter Tryz.func11, Tryz.ntmps11
  go_wp2
  go_loopw [8] (fun i wr => ∃ j : Nat, j ≤ l.length ∧ i = .int .i64 j ∧ Hid (Wr B b d (X ++ (l.take j).flatMap tx_) wr) ∧ Hid (Below B w wr) ∧ Hid (Kp b w wr)) (fun i _ => l.length - (intOf i).toNat)
  case atStart => exact ⟨0, Nat.zero_le _, rfl, Lib.hid (by simpa using H.out), Lib.hid (Below.refl _ _), Lib.hid (Kp.refl _ _)⟩
  case round =>
    obtain ⟨j, hj, rfl, HW, HB, HK⟩ := hrel
    have hz := HB.out.size
    by_cases hlt : j < l.length
    · obtain ⟨bi, off, o, n, s, v, ll, k, m, z, q, ql, qc, r, c, hp, _, hbhi, hli, h0, h1, h2, h3, h4, h5, h6, h7, hrep⟩ := (HALL.out wr HB.out).item j hlt
      subst hp
      have hbw : bi < wr.heap.size := by omega
      have hBr : B ≤ wr.heap.size := by omega
      have HWT := Lib.hid (HSO.out _ (List.getElem_mem hlt))
      have e1 : (l.take (j + 1)).flatMap tx_ = (l.take j).flatMap tx_ ++ tx_ l[j] := by rw [List.take_succ_eq_append_getElem hlt, List.flatMap_append]; simp
      have hjl := HM.out (j + 1)
      rw [e1, List.length_append] at hjl
      have HST := Lib.hid (show X ++ (l.take (j + 1)).flatMap tx_ = (X ++ (l.take j).flatMap tx_) ++ tx_ l[j] from by rw [e1, List.append_assoc])
      obtain ⟨W1, hW1⟩ : ∃ W1, W1 = wr.alloc (.cells #[.int .i64 o, .int .i64 n, .string s, .int .i64 k, .int .i64 m, .string z, .slice q ql qc, .slice r ll.length c] 33) := ⟨_, rfl⟩
      have hb0 : Below wr.heap.size wr W1 := hW1 ▸ (Below.refl wr.heap.size wr).alloc (Nat.le_refl _) _
      have HX : Hid (W1.heap[wr.heap.size]? = some (.cells #[.int .i64 o, .int .i64 n, .string s, .int .i64 k, .int .i64 m, .string z, .slice q ql qc, .slice r ll.length c] 33 (0, 0))) := hW1 ▸ heap_alloc_new wr _
      have HB1 := Lib.hid (hb0.mono hBr)
      have HK1 : Hid (Kp b wr W1) := Kp.of_below hb0
      have HC1 := Lib.hid (HWT.out B b _ W1 lo hi _ (hrep.below HB1.out hhi) hlo hhi (Nat.le_trans hBr hb0.size) (HW.out.below hb0) ((HC.out.on HB.out).on HB1.out) (by rw [List.length_append]; omega))
      obtain ⟨g, hg⟩ : ∃ g, g = wr.heap.size := ⟨_, rfl⟩
      rw [← hg] at HX
      clear hrep hli hb0 e1
      go_upto_region 3 with fail
      rw [← hW1, ← hg]
      clear hW1 hg h0 h1 h2 h3 h4 h5 h6 h7
      obtain ⟨x0, x1, x2, x3, x4, x5, x6, x7, _⟩ := box8s _ g _ _ _ _ _ _ _ _ _ HX.out
      go_wp2_with (go_at_call 20; refine HC1.out.mono ?_; rintro e w2 ⟨rfl, h2, hb2, hk2⟩; have H2 := Lib.hid h2; have HB2 := Lib.hid (HB1.out.trans hb2); have HK2 := Lib.hid (HK1.out.trans hk2); clear h2 hb2 hk2)
      go_roundw
      case rel => exact ⟨j + 1, by omega, by go_num, by rw [HST.out]; exact H2, Lib.hid (HB.out.trans HB2.out), Lib.hid (HK.out.trans HK2.out)⟩
      case measure => simp [intOf]; omega
    · have hje : j = l.length := by omega
      have HF := Lib.hid (show X ++ l.flatMap tx_ = X ++ (l.take j).flatMap tx_ from by rw [hje, List.take_length])
      go_wp2
      go_end0
      exact ⟨rfl, by rw [HF.out]; exact HW.out, HB.out, HK.out⟩
set_option maxHeartbeats 4000000 in
theorem block_any (ad : Nat → Addr) (eD eM eR eS : Value) (d : Nat) (o n : Int) (s : ByteArray) (v : T) (l : List Nd) (hs : ∀ t ∈ l, SOd ad eD eM eR eS t (d + 1) (sT t (d + 1))) (hll : l.length ≤ 1000000) (hd : d ≤ 41) : BOd ad eD eM eR eS (.mk o n s v l) d := by
  intro B b X w lo hi x hr hlo hhi hBw h hc hlen
  obtain ⟨k, m, z, q, ql, qc, r, c, rfl, _, _, hsz, hv, hlc, hl112, hall⟩ := hr.open
  obtain ⟨W1, hW1⟩ : ∃ W1, W1 = w.alloc (.cells #[.int .i64 o, .int .i64 n, .string s, .int .i64 k, .int .i64 m, .string z, .slice q ql qc, .slice r l.length c] 33) := ⟨_, rfl⟩
  have hb0 : Below w.heap.size w W1 := hW1 ▸ (Below.refl w.heap.size w).alloc (Nat.le_refl _) _
  have HX : Hid (W1.heap[w.heap.size]? = some (.cells #[.int .i64 o, .int .i64 n, .string s, .int .i64 k, .int .i64 m, .string z, .slice q ql qc, .slice r l.length c] 33 (0, 0))) := hW1 ▸ heap_alloc_new w _
  have HE : bT (.mk o n s v l) (d + 1) = l.flatMap (fun t => sT t (d + 1)) := by rw [bT, sAll_flat]
  rw [HE] at hlen ⊢
  have HW := h.below hb0
  have hB1 : B ≤ W1.heap.size := Nat.le_trans hBw hb0.size
  have hB := hb0.mono hBw
  obtain ⟨hw2, hb2, hk2⟩ := HW.count ((d : Int) + 1)
  obtain ⟨c2, f2⟩ := HW.cells
  obtain ⟨W2, hW2⟩ : ∃ W2, W2 = W1.setCell ⟨b, 2, none⟩ (.int .i64 ((d : Int) + 1)) := ⟨_, rfl⟩
  rw [← hW2] at hw2 hb2 hk2
  obtain ⟨g, hg⟩ : ∃ g, g = w.heap.size := ⟨_, rfl⟩
  have hgb : g ≠ b := by have := h.lt; omega
  rw [← hg] at HX
  have HX2 := Lib.hid (hk2 g _ _ (by decide) hgb HX.out)
  have HB2 := Lib.hid (hB.trans hb2)
  have HK2 : Hid (Kp b w W2) := Lib.hid ((Kp.of_below hb0).trans hk2)
  have hs2 : B ≤ W2.heap.size := Nat.le_trans hB1 hb2.size
  have HP := Lib.hid (statementsD_any ad eD eM eR eS (d + 1) l (fun t => sT t (d + 1)) hs B b X W2 lo hi r c (hall.below HB2.out hhi) hll hlo hhi hs2 hw2 (hc.on HB2.out) hlen)
  have hdi : (d : Int) ≤ 41 := by omega
  have hde : Hid (((d + 1 : Nat) : Int) = (d : Int) + 1) := Lib.hid (by omega)
  have hlt : b < W1.heap.size := HW.lt
  clear hr hc h hb0 hv hall hs HW hw2 hb2 hk2 hB HE
  go_enter Tryz.func38, Tryz.ntmps38
  go_upto_region 1 with fail
  rw [← hW1, ← hg]
  clear hW1 hg
  obtain ⟨x0, x1, x2, x3, x4, x5, x6, x7, _⟩ := box8s _ g _ _ _ _ _ _ _ _ _ HX.out
  go_upto_region 2 with fail
  rw [← hW2]
  clear hW2 c2 f2 x0 x1 x2 x3 x4 x5 x6 x7
  obtain ⟨x0, x1, x2, x3, x4, x5, x6, x7, _⟩ := box8s _ g _ _ _ _ _ _ _ _ _ HX2.out
  go_wp2_with (go_at_call 11; (with_reducible refine HP.out.mono ?_); rintro e w3 ⟨rfl, h3, hb3, hk3⟩; have HB3 := Lib.hid (HB2.out.trans hb3); have HK3 := Lib.hid (HK2.out.trans hk3); rw [hde.out] at h3; have HC3 := Lib.hid (h3.count (d : Int)); obtain ⟨c3, f3⟩ := h3.cells; clear h3 hb3 hk3)
  go_end0
  obtain ⟨q1, q2, q3⟩ := HC3.out
  exact ⟨rfl, q1, HB3.out.trans q2, HK3.out.trans q3⟩
end Go.Proofs.YtemkikjcjhmlaaaGreatDoor.Sh

namespace Go.Proofs.YtemkikjcjhmlaaaGreatDoor.Sh
open Go.RowKit
set_option maxRecDepth 100000

set_option maxHeartbeats 4000000 in
theorem simpd_break (ad : Nat → Addr) (eD eM eR eS : Value) (d : Nat) (hd : d ≤ 41) (n : Int) (s : ByteArray) (v : T) : SiOk ad eD eM eR eS (.mk 45 n s v ([] : List Nd)) d (indT d ++ [98, 114, 101, 97, 107] ++ [59, 10]) := by
  intro B b X w lo hi x hr hlo hhi hBw h hc hlen
  obtain ⟨k, m, z, q, ql, qc, r, c, rfl, _, _, hsz, hv, hlc, hl112, hall⟩ := hr.open
  obtain ⟨W1, hW1⟩ : ∃ W1, W1 = w.alloc (.cells #[.int .i64 45, .int .i64 n, .string s, .int .i64 k, .int .i64 m, .string z, .slice q ql qc, .slice r ([] : List Nd).length c] 33) := ⟨_, rfl⟩
  have hb0 : Below w.heap.size w W1 := hW1 ▸ (Below.refl w.heap.size w).alloc (Nat.le_refl _) _
  have HX : Hid (W1.heap[w.heap.size]? = some (.cells #[.int .i64 45, .int .i64 n, .string s, .int .i64 k, .int .i64 m, .string z, .slice q ql qc, .slice r ([] : List Nd).length c] 33 (0, 0))) := hW1 ▸ heap_alloc_new w _
  have HW := Lib.hid (h.below hb0)
  have hB1 : B ≤ W1.heap.size := Nat.le_trans hBw hb0.size
  have HB := Lib.hid (hb0.mono hBw)
  have HK : Hid (Kp b w W1) := Kp.of_below hb0
  have HV := Lib.hid (fun W (hb : Below B w W) => hv.below hb hhi)
  have HALL := Lib.hid (fun W (hb : Below B w W) => hall.below hb hhi)
  have HC := Lib.hid hc
  obtain ⟨g, hg⟩ : ∃ g, g = w.heap.size := ⟨_, rfl⟩
  have hgb : g ≠ b := by have := h.lt; omega
  rw [← hg] at HX
  have hgl : g < W1.heap.size := ltW HX.out
  clear hr hc h hb0 hv hall
  obtain ⟨x0, x1, x2, x3, x4, x5, x6, x7, _⟩ := box8s _ g _ _ _ _ _ _ _ _ _ HX.out
  simp only [List.length_append, List.length_cons, List.length_nil, Nat.zero_add, Nat.reduceAdd] at hlen
  have HEX := Lib.hid (show X ++ (indT d ++ [98, 114, 101, 97, 107] ++ [59, 10]) = (((X ++ indT d) ++ (⟨#[98, 114, 101, 97, 107]⟩ : ByteArray).data.toList) ++ (⟨#[59, 10]⟩ : ByteArray).data.toList) from by simp)
  have HP1 := Lib.hid (beginN_any B b d X W1 HW.out hd (by show X.length + (indT d).length ≤ _; omega) hB1)
  try simp only [List.length_nil] at x7 HX hW1
  go_enter Tryz.func42, Tryz.ntmps42
  go_upto_region 1 with fail
  try simp only [List.length_nil]
  rw [← hW1, ← hg]
  clear hW1 hg
  go_wp2_with (first
    | (go_at_call 35; (with_reducible refine HP1.out.mono ?_); rintro e w2 ⟨rfl, h2, hb2, hk2⟩; have HB2 := Lib.hid (HB.out.trans hb2); have HK2 := Lib.hid (HK.out.trans hk2); have HX2 := Lib.hid (hk2 g _ _ (by decide) hgb HX.out); obtain ⟨a20, a21, a22, a23, a24, a25, a26, a27, _⟩ := box8s _ g _ _ _ _ _ _ _ _ _ HX2.out; have hs2 := Nat.le_trans hB1 hb2.size; have HP2 := Lib.hid (put1_any B b d _ (⟨#[98, 114, 101, 97, 107]⟩ : ByteArray) w2 h2 (by simp only [List.length_append]; show X.length + (indT d).length + 5 ≤ _; omega) hs2); clear h2 hb2 hk2)
    | (go_at_call 37; (with_reducible refine HP2.out.mono ?_); rintro e w3 ⟨rfl, h3, hb3, hk3⟩; have HB3 := Lib.hid (HB2.out.trans hb3); have HK3 := Lib.hid (HK2.out.trans hk3); have HX3 := Lib.hid (hk3 g _ _ (by decide) hgb HX2.out); obtain ⟨a30, a31, a32, a33, a34, a35, a36, a37, _⟩ := box8s _ g _ _ _ _ _ _ _ _ _ HX3.out; have hs3 := Nat.le_trans hs2 hb3.size; have HP3 := Lib.hid (put1_any B b d _ (⟨#[59, 10]⟩ : ByteArray) w3 h3 (by simp only [List.length_append]; show X.length + (indT d).length + 5 + 2 ≤ _; omega) hs3); clear h3 hb3 hk3)
    | (go_at_call 37; (with_reducible refine HP3.out.mono ?_); rintro e w4 ⟨rfl, h4, hb4, hk4⟩; have HB4 := Lib.hid (HB3.out.trans hb4); have HK4 := Lib.hid (HK3.out.trans hk4); have H4 := Lib.hid h4; clear h4 hb4 hk4))
  go_end0
  exact ⟨rfl, by rw [HEX.out]; exact H4.out, HB4.out, HK4.out⟩
set_option maxHeartbeats 4000000 in
theorem simpd_continue (ad : Nat → Addr) (eD eM eR eS : Value) (d : Nat) (hd : d ≤ 41) (n : Int) (s : ByteArray) (v : T) : SiOk ad eD eM eR eS (.mk 46 n s v ([] : List Nd)) d (indT d ++ [99, 111, 110, 116, 105, 110, 117, 101] ++ [59, 10]) := by
  intro B b X w lo hi x hr hlo hhi hBw h hc hlen
  obtain ⟨k, m, z, q, ql, qc, r, c, rfl, _, _, hsz, hv, hlc, hl112, hall⟩ := hr.open
  obtain ⟨W1, hW1⟩ : ∃ W1, W1 = w.alloc (.cells #[.int .i64 46, .int .i64 n, .string s, .int .i64 k, .int .i64 m, .string z, .slice q ql qc, .slice r ([] : List Nd).length c] 33) := ⟨_, rfl⟩
  have hb0 : Below w.heap.size w W1 := hW1 ▸ (Below.refl w.heap.size w).alloc (Nat.le_refl _) _
  have HX : Hid (W1.heap[w.heap.size]? = some (.cells #[.int .i64 46, .int .i64 n, .string s, .int .i64 k, .int .i64 m, .string z, .slice q ql qc, .slice r ([] : List Nd).length c] 33 (0, 0))) := hW1 ▸ heap_alloc_new w _
  have HW := Lib.hid (h.below hb0)
  have hB1 : B ≤ W1.heap.size := Nat.le_trans hBw hb0.size
  have HB := Lib.hid (hb0.mono hBw)
  have HK : Hid (Kp b w W1) := Kp.of_below hb0
  have HV := Lib.hid (fun W (hb : Below B w W) => hv.below hb hhi)
  have HALL := Lib.hid (fun W (hb : Below B w W) => hall.below hb hhi)
  have HC := Lib.hid hc
  obtain ⟨g, hg⟩ : ∃ g, g = w.heap.size := ⟨_, rfl⟩
  have hgb : g ≠ b := by have := h.lt; omega
  rw [← hg] at HX
  have hgl : g < W1.heap.size := ltW HX.out
  clear hr hc h hb0 hv hall
  obtain ⟨x0, x1, x2, x3, x4, x5, x6, x7, _⟩ := box8s _ g _ _ _ _ _ _ _ _ _ HX.out
  simp only [List.length_append, List.length_cons, List.length_nil, Nat.zero_add, Nat.reduceAdd] at hlen
  have HEX := Lib.hid (show X ++ (indT d ++ [99, 111, 110, 116, 105, 110, 117, 101] ++ [59, 10]) = (((X ++ indT d) ++ (⟨#[99, 111, 110, 116, 105, 110, 117, 101]⟩ : ByteArray).data.toList) ++ (⟨#[59, 10]⟩ : ByteArray).data.toList) from by simp)
  have HP1 := Lib.hid (beginN_any B b d X W1 HW.out hd (by show X.length + (indT d).length ≤ _; omega) hB1)
  try simp only [List.length_nil] at x7 HX hW1
  go_enter Tryz.func42, Tryz.ntmps42
  go_upto_region 1 with fail
  try simp only [List.length_nil]
  rw [← hW1, ← hg]
  clear hW1 hg
  go_wp2_with (first
    | (go_at_call 35; (with_reducible refine HP1.out.mono ?_); rintro e w2 ⟨rfl, h2, hb2, hk2⟩; have HB2 := Lib.hid (HB.out.trans hb2); have HK2 := Lib.hid (HK.out.trans hk2); have HX2 := Lib.hid (hk2 g _ _ (by decide) hgb HX.out); obtain ⟨a20, a21, a22, a23, a24, a25, a26, a27, _⟩ := box8s _ g _ _ _ _ _ _ _ _ _ HX2.out; have hs2 := Nat.le_trans hB1 hb2.size; have HP2 := Lib.hid (put1_any B b d _ (⟨#[99, 111, 110, 116, 105, 110, 117, 101]⟩ : ByteArray) w2 h2 (by simp only [List.length_append]; show X.length + (indT d).length + 8 ≤ _; omega) hs2); clear h2 hb2 hk2)
    | (go_at_call 37; (with_reducible refine HP2.out.mono ?_); rintro e w3 ⟨rfl, h3, hb3, hk3⟩; have HB3 := Lib.hid (HB2.out.trans hb3); have HK3 := Lib.hid (HK2.out.trans hk3); have HX3 := Lib.hid (hk3 g _ _ (by decide) hgb HX2.out); obtain ⟨a30, a31, a32, a33, a34, a35, a36, a37, _⟩ := box8s _ g _ _ _ _ _ _ _ _ _ HX3.out; have hs3 := Nat.le_trans hs2 hb3.size; have HP3 := Lib.hid (put1_any B b d _ (⟨#[59, 10]⟩ : ByteArray) w3 h3 (by simp only [List.length_append]; show X.length + (indT d).length + 8 + 2 ≤ _; omega) hs3); clear h3 hb3 hk3)
    | (go_at_call 37; (with_reducible refine HP3.out.mono ?_); rintro e w4 ⟨rfl, h4, hb4, hk4⟩; have HB4 := Lib.hid (HB3.out.trans hb4); have HK4 := Lib.hid (HK3.out.trans hk4); have H4 := Lib.hid h4; clear h4 hb4 hk4))
  go_end0
  exact ⟨rfl, by rw [HEX.out]; exact H4.out, HB4.out, HK4.out⟩
set_option maxHeartbeats 4000000 in
theorem simpd_return0 (ad : Nat → Addr) (eD eM eR eS : Value) (d : Nat) (hd : d ≤ 41) (n : Int) (s : ByteArray) (v : T) : SiOk ad eD eM eR eS (.mk 47 n s v ([] : List Nd)) d (indT d ++ [114, 101, 116, 117, 114, 110] ++ [59, 10]) := by
  intro B b X w lo hi x hr hlo hhi hBw h hc hlen
  obtain ⟨k, m, z, q, ql, qc, r, c, rfl, _, _, hsz, hv, hlc, hl112, hall⟩ := hr.open
  obtain ⟨W1, hW1⟩ : ∃ W1, W1 = w.alloc (.cells #[.int .i64 47, .int .i64 n, .string s, .int .i64 k, .int .i64 m, .string z, .slice q ql qc, .slice r ([] : List Nd).length c] 33) := ⟨_, rfl⟩
  have hb0 : Below w.heap.size w W1 := hW1 ▸ (Below.refl w.heap.size w).alloc (Nat.le_refl _) _
  have HX : Hid (W1.heap[w.heap.size]? = some (.cells #[.int .i64 47, .int .i64 n, .string s, .int .i64 k, .int .i64 m, .string z, .slice q ql qc, .slice r ([] : List Nd).length c] 33 (0, 0))) := hW1 ▸ heap_alloc_new w _
  have HW := Lib.hid (h.below hb0)
  have hB1 : B ≤ W1.heap.size := Nat.le_trans hBw hb0.size
  have HB := Lib.hid (hb0.mono hBw)
  have HK : Hid (Kp b w W1) := Kp.of_below hb0
  have HV := Lib.hid (fun W (hb : Below B w W) => hv.below hb hhi)
  have HALL := Lib.hid (fun W (hb : Below B w W) => hall.below hb hhi)
  have HC := Lib.hid hc
  obtain ⟨g, hg⟩ : ∃ g, g = w.heap.size := ⟨_, rfl⟩
  have hgb : g ≠ b := by have := h.lt; omega
  rw [← hg] at HX
  have hgl : g < W1.heap.size := ltW HX.out
  clear hr hc h hb0 hv hall
  obtain ⟨x0, x1, x2, x3, x4, x5, x6, x7, _⟩ := box8s _ g _ _ _ _ _ _ _ _ _ HX.out
  simp only [List.length_append, List.length_cons, List.length_nil, Nat.zero_add, Nat.reduceAdd] at hlen
  have HEX := Lib.hid (show X ++ (indT d ++ [114, 101, 116, 117, 114, 110] ++ [59, 10]) = ((((X ++ indT d) ++ (⟨#[114, 101, 116, 117, 114, 110]⟩ : ByteArray).data.toList) ++ joinS (⟨#[]⟩ : ByteArray).data.toList (wAll [])) ++ (⟨#[59, 10]⟩ : ByteArray).data.toList) from by simp [wAll, joinS, jn])
  have hll : ([] : List Nd).length ≤ 1000000 := by simp
  have HWR := Lib.hid (show ∀ t ∈ ([] : List Nd), WOk ad eD eM eR eS t from by simp)
  have HP1 := Lib.hid (beginN_any B b d X W1 HW.out hd (by show X.length + (indT d).length ≤ _; omega) hB1)
  try simp only [List.length_nil] at x7 HX hW1
  go_enter Tryz.func42, Tryz.ntmps42
  go_upto_region 1 with fail
  try simp only [List.length_nil]
  rw [← hW1, ← hg]
  clear hW1 hg
  go_wp2_with (first
    | (go_at_call 35; (with_reducible refine HP1.out.mono ?_); rintro e w2 ⟨rfl, h2, hb2, hk2⟩; have HB2 := Lib.hid (HB.out.trans hb2); have HK2 := Lib.hid (HK.out.trans hk2); have HX2 := Lib.hid (hk2 g _ _ (by decide) hgb HX.out); obtain ⟨a20, a21, a22, a23, a24, a25, a26, a27, _⟩ := box8s _ g _ _ _ _ _ _ _ _ _ HX2.out; have hs2 := Nat.le_trans hB1 hb2.size; have HP2 := Lib.hid (put1_any B b d _ (⟨#[114, 101, 116, 117, 114, 110]⟩ : ByteArray) w2 h2 (by simp only [List.length_append]; show X.length + (indT d).length + 6 ≤ _; omega) hs2); clear h2 hb2 hk2)
    | (go_at_call 37; (with_reducible refine HP2.out.mono ?_); rintro e w3 ⟨rfl, h3, hb3, hk3⟩; have HB3 := Lib.hid (HB2.out.trans hb3); have HK3 := Lib.hid (HK2.out.trans hk3); have HX3 := Lib.hid (hk3 g _ _ (by decide) hgb HX2.out); obtain ⟨a30, a31, a32, a33, a34, a35, a36, a37, _⟩ := box8s _ g _ _ _ _ _ _ _ _ _ HX3.out; have hs3 := Nat.le_trans hs2 hb3.size; have HP3 := Lib.hid (shList_any ad eD eM eR eS [] HWR.out (⟨#[]⟩ : ByteArray) B b d _ w3 lo hi r c (HALL.out _ HB3.out) hll hlo hhi hs3 h3 (HC.out.on HB3.out) (by simp only [List.length_append]; show X.length + (indT d).length + 6 + 0 ≤ _; omega)); simp only [List.length_nil] at HP3; clear h3 hb3 hk3)
    | (go_at_call 39; (with_reducible refine HP3.out.mono ?_); rintro e w4 ⟨rfl, h4, hb4, hk4⟩; have HB4 := Lib.hid (HB3.out.trans hb4); have HK4 := Lib.hid (HK3.out.trans hk4); have HX4 := Lib.hid (hk4 g _ _ (by decide) hgb HX3.out); obtain ⟨a40, a41, a42, a43, a44, a45, a46, a47, _⟩ := box8s _ g _ _ _ _ _ _ _ _ _ HX4.out; have hs4 := Nat.le_trans hs3 hb4.size; have HP4 := Lib.hid (put1_any B b d _ (⟨#[59, 10]⟩ : ByteArray) w4 h4 (by simp only [List.length_append]; show X.length + (indT d).length + 6 + 0 + 2 ≤ _; omega) hs4); clear h4 hb4 hk4)
    | (go_at_call 37; (with_reducible refine HP4.out.mono ?_); rintro e w5 ⟨rfl, h5, hb5, hk5⟩; have HB5 := Lib.hid (HB4.out.trans hb5); have HK5 := Lib.hid (HK4.out.trans hk5); have H5 := Lib.hid h5; clear h5 hb5 hk5))
  go_end0
  exact ⟨rfl, by rw [HEX.out]; exact H5.out, HB5.out, HK5.out⟩
set_option maxHeartbeats 4000000 in
theorem simpd_return1 (ad : Nat → Addr) (eD eM eR eS : Value) (d : Nat) (hd : d ≤ 41) (n : Int) (s : ByteArray) (v : T) (t1 : Nd) (hw1 : WOk ad eD eM eR eS t1) : SiOk ad eD eM eR eS (.mk 47 n s v [t1]) d (indT d ++ [114, 101, 116, 117, 114, 110] ++ [32] ++ joinS [] (wAll [t1]) ++ [59, 10]) := by
  intro B b X w lo hi x hr hlo hhi hBw h hc hlen
  obtain ⟨k, m, z, q, ql, qc, r, c, rfl, _, _, hsz, hv, hlc, hl112, hall⟩ := hr.open
  obtain ⟨W1, hW1⟩ : ∃ W1, W1 = w.alloc (.cells #[.int .i64 47, .int .i64 n, .string s, .int .i64 k, .int .i64 m, .string z, .slice q ql qc, .slice r [t1].length c] 33) := ⟨_, rfl⟩
  have hb0 : Below w.heap.size w W1 := hW1 ▸ (Below.refl w.heap.size w).alloc (Nat.le_refl _) _
  have HX : Hid (W1.heap[w.heap.size]? = some (.cells #[.int .i64 47, .int .i64 n, .string s, .int .i64 k, .int .i64 m, .string z, .slice q ql qc, .slice r [t1].length c] 33 (0, 0))) := hW1 ▸ heap_alloc_new w _
  have HW := Lib.hid (h.below hb0)
  have hB1 : B ≤ W1.heap.size := Nat.le_trans hBw hb0.size
  have HB := Lib.hid (hb0.mono hBw)
  have HK : Hid (Kp b w W1) := Kp.of_below hb0
  have HV := Lib.hid (fun W (hb : Below B w W) => hv.below hb hhi)
  have HALL := Lib.hid (fun W (hb : Below B w W) => hall.below hb hhi)
  have HC := Lib.hid hc
  obtain ⟨g, hg⟩ : ∃ g, g = w.heap.size := ⟨_, rfl⟩
  have hgb : g ≠ b := by have := h.lt; omega
  rw [← hg] at HX
  have hgl : g < W1.heap.size := ltW HX.out
  clear hr hc h hb0 hv hall
  obtain ⟨x0, x1, x2, x3, x4, x5, x6, x7, _⟩ := box8s _ g _ _ _ _ _ _ _ _ _ HX.out
  simp only [List.length_append, List.length_cons, List.length_nil, Nat.zero_add, Nat.reduceAdd] at hlen
  have HEX := Lib.hid (show X ++ (indT d ++ [114, 101, 116, 117, 114, 110] ++ [32] ++ joinS [] (wAll [t1]) ++ [59, 10]) = (((((X ++ indT d) ++ (⟨#[114, 101, 116, 117, 114, 110]⟩ : ByteArray).data.toList) ++ (⟨#[32]⟩ : ByteArray).data.toList) ++ joinS (⟨#[]⟩ : ByteArray).data.toList (wAll [t1])) ++ (⟨#[59, 10]⟩ : ByteArray).data.toList) from by simp)
  have hll : [t1].length ≤ 1000000 := by simp
  have HWR := Lib.hid (show ∀ t ∈ [t1], WOk ad eD eM eR eS t from by simpa using hw1)
  have HP1 := Lib.hid (beginN_any B b d X W1 HW.out hd (by show X.length + (indT d).length ≤ _; omega) hB1)
  clear hw1
  try simp only [List.length_cons, List.length_nil, Nat.zero_add] at x7 HX hW1
  go_enter Tryz.func42, Tryz.ntmps42
  go_upto_region 1 with fail
  try simp only [List.length_cons, List.length_nil, Nat.zero_add]
  rw [← hW1, ← hg]
  clear hW1 hg
  go_wp2_with (first
    | (go_at_call 35; (with_reducible refine HP1.out.mono ?_); rintro e w2 ⟨rfl, h2, hb2, hk2⟩; have HB2 := Lib.hid (HB.out.trans hb2); have HK2 := Lib.hid (HK.out.trans hk2); have HX2 := Lib.hid (hk2 g _ _ (by decide) hgb HX.out); obtain ⟨a20, a21, a22, a23, a24, a25, a26, a27, _⟩ := box8s _ g _ _ _ _ _ _ _ _ _ HX2.out; have hs2 := Nat.le_trans hB1 hb2.size; have HP2 := Lib.hid (put1_any B b d _ (⟨#[114, 101, 116, 117, 114, 110]⟩ : ByteArray) w2 h2 (by simp only [List.length_append]; show X.length + (indT d).length + 6 ≤ _; omega) hs2); clear h2 hb2 hk2)
    | (go_at_call 37; (with_reducible refine HP2.out.mono ?_); rintro e w3 ⟨rfl, h3, hb3, hk3⟩; have HB3 := Lib.hid (HB2.out.trans hb3); have HK3 := Lib.hid (HK2.out.trans hk3); have HX3 := Lib.hid (hk3 g _ _ (by decide) hgb HX2.out); obtain ⟨a30, a31, a32, a33, a34, a35, a36, a37, _⟩ := box8s _ g _ _ _ _ _ _ _ _ _ HX3.out; have hs3 := Nat.le_trans hs2 hb3.size; have HP3 := Lib.hid (put1_any B b d _ (⟨#[32]⟩ : ByteArray) w3 h3 (by simp only [List.length_append]; show X.length + (indT d).length + 6 + 1 ≤ _; omega) hs3); clear h3 hb3 hk3)
    | (go_at_call 37; (with_reducible refine HP3.out.mono ?_); rintro e w4 ⟨rfl, h4, hb4, hk4⟩; have HB4 := Lib.hid (HB3.out.trans hb4); have HK4 := Lib.hid (HK3.out.trans hk4); have HX4 := Lib.hid (hk4 g _ _ (by decide) hgb HX3.out); obtain ⟨a40, a41, a42, a43, a44, a45, a46, a47, _⟩ := box8s _ g _ _ _ _ _ _ _ _ _ HX4.out; have hs4 := Nat.le_trans hs3 hb4.size; have HP4 := Lib.hid (shList_any ad eD eM eR eS [t1] HWR.out (⟨#[]⟩ : ByteArray) B b d _ w4 lo hi r c (HALL.out _ HB4.out) hll hlo hhi hs4 h4 (HC.out.on HB4.out) (by simp only [List.length_append]; show X.length + (indT d).length + 6 + 1 + (joinS [] (wAll [t1])).length ≤ _; omega)); simp only [List.length_cons, List.length_nil, Nat.zero_add] at HP4; clear h4 hb4 hk4)
    | (go_at_call 39; (with_reducible refine HP4.out.mono ?_); rintro e w5 ⟨rfl, h5, hb5, hk5⟩; have HB5 := Lib.hid (HB4.out.trans hb5); have HK5 := Lib.hid (HK4.out.trans hk5); have HX5 := Lib.hid (hk5 g _ _ (by decide) hgb HX4.out); obtain ⟨a50, a51, a52, a53, a54, a55, a56, a57, _⟩ := box8s _ g _ _ _ _ _ _ _ _ _ HX5.out; have hs5 := Nat.le_trans hs4 hb5.size; have HP5 := Lib.hid (put1_any B b d _ (⟨#[59, 10]⟩ : ByteArray) w5 h5 (by simp only [List.length_append]; show X.length + (indT d).length + 6 + 1 + (joinS [] (wAll [t1])).length + 2 ≤ _; omega) hs5); clear h5 hb5 hk5)
    | (go_at_call 37; (with_reducible refine HP5.out.mono ?_); rintro e w6 ⟨rfl, h6, hb6, hk6⟩; have HB6 := Lib.hid (HB5.out.trans hb6); have HK6 := Lib.hid (HK5.out.trans hk6); have H6 := Lib.hid h6; clear h6 hb6 hk6))
  go_end0
  exact ⟨rfl, by rw [HEX.out]; exact H6.out, HB6.out, HK6.out⟩
set_option maxHeartbeats 4000000 in
theorem simpd_do (ad : Nat → Addr) (eD eM eR eS : Value) (d : Nat) (hd : d ≤ 41) (n : Int) (s : ByteArray) (v : T) (t1 : Nd) (hw1 : WOk ad eD eM eR eS t1) : SiOk ad eD eM eR eS (.mk 40 n s v [t1]) d (indT d ++ joinS [] (wAll [t1]) ++ [59, 10]) := by
  intro B b X w lo hi x hr hlo hhi hBw h hc hlen
  obtain ⟨k, m, z, q, ql, qc, r, c, rfl, _, _, hsz, hv, hlc, hl112, hall⟩ := hr.open
  obtain ⟨W1, hW1⟩ : ∃ W1, W1 = w.alloc (.cells #[.int .i64 40, .int .i64 n, .string s, .int .i64 k, .int .i64 m, .string z, .slice q ql qc, .slice r [t1].length c] 33) := ⟨_, rfl⟩
  have hb0 : Below w.heap.size w W1 := hW1 ▸ (Below.refl w.heap.size w).alloc (Nat.le_refl _) _
  have HX : Hid (W1.heap[w.heap.size]? = some (.cells #[.int .i64 40, .int .i64 n, .string s, .int .i64 k, .int .i64 m, .string z, .slice q ql qc, .slice r [t1].length c] 33 (0, 0))) := hW1 ▸ heap_alloc_new w _
  have HW := Lib.hid (h.below hb0)
  have hB1 : B ≤ W1.heap.size := Nat.le_trans hBw hb0.size
  have HB := Lib.hid (hb0.mono hBw)
  have HK : Hid (Kp b w W1) := Kp.of_below hb0
  have HV := Lib.hid (fun W (hb : Below B w W) => hv.below hb hhi)
  have HALL := Lib.hid (fun W (hb : Below B w W) => hall.below hb hhi)
  have HC := Lib.hid hc
  obtain ⟨g, hg⟩ : ∃ g, g = w.heap.size := ⟨_, rfl⟩
  have hgb : g ≠ b := by have := h.lt; omega
  rw [← hg] at HX
  have hgl : g < W1.heap.size := ltW HX.out
  clear hr hc h hb0 hv hall
  obtain ⟨x0, x1, x2, x3, x4, x5, x6, x7, _⟩ := box8s _ g _ _ _ _ _ _ _ _ _ HX.out
  simp only [List.length_append, List.length_cons, List.length_nil, Nat.zero_add, Nat.reduceAdd] at hlen
  have HEX := Lib.hid (show X ++ (indT d ++ joinS [] (wAll [t1]) ++ [59, 10]) = (((X ++ indT d) ++ joinS (⟨#[]⟩ : ByteArray).data.toList (wAll [t1])) ++ (⟨#[59, 10]⟩ : ByteArray).data.toList) from by simp)
  have hll : [t1].length ≤ 1000000 := by simp
  have HWR := Lib.hid (show ∀ t ∈ [t1], WOk ad eD eM eR eS t from by simpa using hw1)
  have HP1 := Lib.hid (beginN_any B b d X W1 HW.out hd (by show X.length + (indT d).length ≤ _; omega) hB1)
  clear hw1
  try simp only [List.length_cons, List.length_nil, Nat.zero_add] at x7 HX hW1
  go_enter Tryz.func42, Tryz.ntmps42
  go_upto_region 1 with fail
  try simp only [List.length_cons, List.length_nil, Nat.zero_add]
  rw [← hW1, ← hg]
  clear hW1 hg
  go_wp2_with (first
    | (go_at_call 35; (with_reducible refine HP1.out.mono ?_); rintro e w2 ⟨rfl, h2, hb2, hk2⟩; have HB2 := Lib.hid (HB.out.trans hb2); have HK2 := Lib.hid (HK.out.trans hk2); have HX2 := Lib.hid (hk2 g _ _ (by decide) hgb HX.out); obtain ⟨a20, a21, a22, a23, a24, a25, a26, a27, _⟩ := box8s _ g _ _ _ _ _ _ _ _ _ HX2.out; have hs2 := Nat.le_trans hB1 hb2.size; have HP2 := Lib.hid (shList_any ad eD eM eR eS [t1] HWR.out (⟨#[]⟩ : ByteArray) B b d _ w2 lo hi r c (HALL.out _ HB2.out) hll hlo hhi hs2 h2 (HC.out.on HB2.out) (by simp only [List.length_append]; show X.length + (indT d).length + (joinS [] (wAll [t1])).length ≤ _; omega)); simp only [List.length_cons, List.length_nil, Nat.zero_add] at HP2; clear h2 hb2 hk2)
    | (go_at_call 39; (with_reducible refine HP2.out.mono ?_); rintro e w3 ⟨rfl, h3, hb3, hk3⟩; have HB3 := Lib.hid (HB2.out.trans hb3); have HK3 := Lib.hid (HK2.out.trans hk3); have HX3 := Lib.hid (hk3 g _ _ (by decide) hgb HX2.out); obtain ⟨a30, a31, a32, a33, a34, a35, a36, a37, _⟩ := box8s _ g _ _ _ _ _ _ _ _ _ HX3.out; have hs3 := Nat.le_trans hs2 hb3.size; have HP3 := Lib.hid (put1_any B b d _ (⟨#[59, 10]⟩ : ByteArray) w3 h3 (by simp only [List.length_append]; show X.length + (indT d).length + (joinS [] (wAll [t1])).length + 2 ≤ _; omega) hs3); clear h3 hb3 hk3)
    | (go_at_call 37; (with_reducible refine HP3.out.mono ?_); rintro e w4 ⟨rfl, h4, hb4, hk4⟩; have HB4 := Lib.hid (HB3.out.trans hb4); have HK4 := Lib.hid (HK3.out.trans hk4); have H4 := Lib.hid h4; clear h4 hb4 hk4))
  go_end0
  exact ⟨rfl, by rw [HEX.out]; exact H4.out, HB4.out, HK4.out⟩
end Go.Proofs.YtemkikjcjhmlaaaGreatDoor.Sh

namespace Go.Proofs.YtemkikjcjhmlaaaGreatDoor.Sh
open Go.RowKit
set_option maxRecDepth 100000

/-- beginsWithDigit answers digN. -/
def DOk (t : Nd) : Prop := ∀ (w : World) (lo hi : Nat) (x : Value), NRep w lo hi t x → hi ≤ w.heap.size →
  Calls Tryz.prog 61 #[x] w fun e w' => e = .returned (.bool (digN t)) ∧ Below w.heap.size w w'
set_option maxHeartbeats 4000000 in
theorem dig_lit (n : Int) (s : ByteArray) (v : T) (l : List Nd) : DOk (.mk 1 n s v l) := by
  intro w lo hi x hr hhi
  obtain ⟨k, m, z, q, ql, qc, r, c, rfl, _, _, _, hv, _, _, hall⟩ := hr.open
  obtain ⟨hk, hm, _⟩ := rep_is hv
  have HB := fun o : Obj => Lib.hid ((Below.refl w.heap.size w).alloc (Nat.le_refl _) o)
  have HE := Lib.hid (show digN (.mk 1 n s v l) = (decide (k = 0) && decide (0 ≤ m)) from by rw [digN, hk, hm]; rfl)
  clear hr hv hk hm hall
  by_cases hm0 : 0 ≤ m
  · have hmd : decide (0 ≤ m) = true := by simpa using hm0
    by_cases hj : k = 0
    · have a : (k == 0) = true := by simpa using hj
      go_enter Tryz.func61, Tryz.ntmps61
      go_wp2
      go_ret
      exact ⟨ret_bool (by rw [HE.out]; simp [hj, hm0]), (HB _).out⟩
    · have a : (k == 0) = false := by simpa using hj
      go_enter Tryz.func61, Tryz.ntmps61
      go_wp2
      go_ret
      exact ⟨ret_bool (by rw [HE.out]; simp [hj]), (HB _).out⟩
  · have hmd : decide (0 ≤ m) = false := by simpa using hm0
    by_cases hj : k = 0
    · have a : (k == 0) = true := by simpa using hj
      go_enter Tryz.func61, Tryz.ntmps61
      go_wp2
      go_ret
      exact ⟨ret_bool (by rw [HE.out]; simp [hm0]), (HB _).out⟩
    · have a : (k == 0) = false := by simpa using hj
      go_enter Tryz.func61, Tryz.ntmps61
      go_wp2
      go_ret
      exact ⟨ret_bool (by rw [HE.out]; simp [hj]), (HB _).out⟩
set_option maxHeartbeats 4000000 in
theorem dig_flat (o n : Int) (s : ByteArray) (v : T) (l : List Nd) (h1 : o ≠ 1) (h2 : ¬ (20 ≤ o ∧ o ≤ 23)) : DOk (.mk o n s v l) := by
  intro w lo hi x hr hhi
  obtain ⟨k, m, z, q, ql, qc, r, c, rfl, _, _, _, hv, _, _, hall⟩ := hr.open
  obtain ⟨hk, hm, _⟩ := rep_is hv
  have HB := fun o : Obj => Lib.hid ((Below.refl w.heap.size w).alloc (Nat.le_refl _) o)
  have HE := Lib.hid (show digN (.mk o n s v l) = false from by rw [digN, if_neg h1, if_neg h2])
  clear hr hv hk hm hall
  have e1 : (o == 1) = false := by simpa using h1
  have e20 : (o == 20) = false := by simp; omega
  have e21 : (o == 21) = false := by simp; omega
  have e22 : (o == 22) = false := by simp; omega
  have e23 : (o == 23) = false := by simp; omega
  clear h2
  go_enter Tryz.func61, Tryz.ntmps61
  go_wp2
  go_ret
  exact ⟨ret_bool (by rw [HE.out]), (HB _).out⟩
set_option maxHeartbeats 4000000 in
theorem dig_head20 (n : Int) (s : ByteArray) (v : T) (t1 : Nd) (rest : List Nd) (h1 : DOk t1) : DOk (.mk 20 n s v (t1 :: rest)) := by
  intro w lo hi x hr hhi
  obtain ⟨k, m, z, q, ql, qc, r, c, rfl, _, _, _, hv, _, _, hall⟩ := hr.open
  obtain ⟨hk, hm, _⟩ := rep_is hv
  have HB := fun o : Obj => Lib.hid ((Below.refl w.heap.size w).alloc (Nat.le_refl _) o)
  have HE := Lib.hid (show digN (.mk 20 n s v (t1 :: rest)) = digN t1 from by rw [digN, if_neg (by decide), if_pos (by decide), digH])
  obtain ⟨bi, off, o0, n0, s0, v0, l0, k0, m0, z0, q0, ql0, qc0, r0, c0, hp0, _, hbh0, hli0, y00, y01, y02, y03, y04, y05, y06, y07, hr0⟩ := hall.item 0 (by simp)
  subst hp0
  have hbB : bi < w.heap.size := by omega
  simp only [Nat.zero_mul, Nat.add_zero] at y00 y01 y02 y03 y04 y05 y06 y07
  obtain ⟨W1, hW1⟩ : ∃ W1, W1 = w.alloc (.cells #[.int .i64 20, .int .i64 n, .string s, .int .i64 k, .int .i64 m, .string z, .slice q ql qc, .slice (some ⟨bi, off, none⟩) (t1 :: rest).length c] 33) := ⟨_, rfl⟩
  have hb0 : Below w.heap.size w W1 := hW1 ▸ (Below.refl w.heap.size w).alloc (Nat.le_refl _) _
  have HX : Hid (W1.heap[w.heap.size]? = some (.cells #[.int .i64 20, .int .i64 n, .string s, .int .i64 k, .int .i64 m, .string z, .slice q ql qc, .slice (some ⟨bi, off, none⟩) (t1 :: rest).length c] 33 (0, 0))) := hW1 ▸ heap_alloc_new w _
  have HB0 := Lib.hid hb0
  have HD := Lib.hid (h1 W1 lo hi _ ((show NRep w lo hi t1 _ from hr0).below hb0 hhi) (Nat.le_trans hhi hb0.size))
  have z10 := (hb0.cell (p := ⟨bi, off, none⟩) hbB).trans y00
  have z11 := (hb0.cell (p := ⟨bi, off + 1, none⟩) hbB).trans y01
  have z12 := (hb0.cell (p := ⟨bi, off + 2, none⟩) hbB).trans y02
  have z13 := (hb0.cell (p := ⟨bi, off + 3, none⟩) hbB).trans y03
  have z14 := (hb0.cell (p := ⟨bi, off + 4, none⟩) hbB).trans y04
  have z15 := (hb0.cell (p := ⟨bi, off + 5, none⟩) hbB).trans y05
  have z16 := (hb0.cell (p := ⟨bi, off + 6, none⟩) hbB).trans y06
  have z17 := (hb0.cell (p := ⟨bi, off + 7, none⟩) hbB).trans y07
  obtain ⟨g, hg⟩ : ∃ g, g = w.heap.size := ⟨_, rfl⟩
  rw [← hg] at HX
  obtain ⟨x0, x1, x2, x3, x4, x5, x6, x7, _⟩ := box8s _ g _ _ _ _ _ _ _ _ _ HX.out
  have hp : 0 < (rest.length : Int) + 1 := by omega
  simp only [List.length_cons] at x7 HX hW1
  clear hr hv hk hm hall hr0 hli0 hb0 h1 HB
  go_enter Tryz.func61, Tryz.ntmps61
  go_upto_region 1 with fail
  try simp only [List.length_cons]
  rw [← hW1, ← hg]
  clear hW1 hg
  go_wp2_with (go_at_call 61; refine HD.out.mono ?_; rintro e w2 ⟨rfl, hb2⟩; have HB2 := Lib.hid (HB0.out.trans (hb2.mono HB0.out.size)); clear hb2)
  go_ret
  exact ⟨ret_bool (by rw [HE.out]), HB2.out⟩
set_option maxHeartbeats 4000000 in
theorem dig_head21 (n : Int) (s : ByteArray) (v : T) (t1 : Nd) (rest : List Nd) (h1 : DOk t1) : DOk (.mk 21 n s v (t1 :: rest)) := by
  intro w lo hi x hr hhi
  obtain ⟨k, m, z, q, ql, qc, r, c, rfl, _, _, _, hv, _, _, hall⟩ := hr.open
  obtain ⟨hk, hm, _⟩ := rep_is hv
  have HB := fun o : Obj => Lib.hid ((Below.refl w.heap.size w).alloc (Nat.le_refl _) o)
  have HE := Lib.hid (show digN (.mk 21 n s v (t1 :: rest)) = digN t1 from by rw [digN, if_neg (by decide), if_pos (by decide), digH])
  obtain ⟨bi, off, o0, n0, s0, v0, l0, k0, m0, z0, q0, ql0, qc0, r0, c0, hp0, _, hbh0, hli0, y00, y01, y02, y03, y04, y05, y06, y07, hr0⟩ := hall.item 0 (by simp)
  subst hp0
  have hbB : bi < w.heap.size := by omega
  simp only [Nat.zero_mul, Nat.add_zero] at y00 y01 y02 y03 y04 y05 y06 y07
  obtain ⟨W1, hW1⟩ : ∃ W1, W1 = w.alloc (.cells #[.int .i64 21, .int .i64 n, .string s, .int .i64 k, .int .i64 m, .string z, .slice q ql qc, .slice (some ⟨bi, off, none⟩) (t1 :: rest).length c] 33) := ⟨_, rfl⟩
  have hb0 : Below w.heap.size w W1 := hW1 ▸ (Below.refl w.heap.size w).alloc (Nat.le_refl _) _
  have HX : Hid (W1.heap[w.heap.size]? = some (.cells #[.int .i64 21, .int .i64 n, .string s, .int .i64 k, .int .i64 m, .string z, .slice q ql qc, .slice (some ⟨bi, off, none⟩) (t1 :: rest).length c] 33 (0, 0))) := hW1 ▸ heap_alloc_new w _
  have HB0 := Lib.hid hb0
  have HD := Lib.hid (h1 W1 lo hi _ ((show NRep w lo hi t1 _ from hr0).below hb0 hhi) (Nat.le_trans hhi hb0.size))
  have z10 := (hb0.cell (p := ⟨bi, off, none⟩) hbB).trans y00
  have z11 := (hb0.cell (p := ⟨bi, off + 1, none⟩) hbB).trans y01
  have z12 := (hb0.cell (p := ⟨bi, off + 2, none⟩) hbB).trans y02
  have z13 := (hb0.cell (p := ⟨bi, off + 3, none⟩) hbB).trans y03
  have z14 := (hb0.cell (p := ⟨bi, off + 4, none⟩) hbB).trans y04
  have z15 := (hb0.cell (p := ⟨bi, off + 5, none⟩) hbB).trans y05
  have z16 := (hb0.cell (p := ⟨bi, off + 6, none⟩) hbB).trans y06
  have z17 := (hb0.cell (p := ⟨bi, off + 7, none⟩) hbB).trans y07
  obtain ⟨g, hg⟩ : ∃ g, g = w.heap.size := ⟨_, rfl⟩
  rw [← hg] at HX
  obtain ⟨x0, x1, x2, x3, x4, x5, x6, x7, _⟩ := box8s _ g _ _ _ _ _ _ _ _ _ HX.out
  have hp : 0 < (rest.length : Int) + 1 := by omega
  simp only [List.length_cons] at x7 HX hW1
  clear hr hv hk hm hall hr0 hli0 hb0 h1 HB
  go_enter Tryz.func61, Tryz.ntmps61
  go_upto_region 1 with fail
  try simp only [List.length_cons]
  rw [← hW1, ← hg]
  clear hW1 hg
  go_wp2_with (go_at_call 61; refine HD.out.mono ?_; rintro e w2 ⟨rfl, hb2⟩; have HB2 := Lib.hid (HB0.out.trans (hb2.mono HB0.out.size)); clear hb2)
  go_ret
  exact ⟨ret_bool (by rw [HE.out]), HB2.out⟩
set_option maxHeartbeats 4000000 in
theorem dig_head22 (n : Int) (s : ByteArray) (v : T) (t1 : Nd) (rest : List Nd) (h1 : DOk t1) : DOk (.mk 22 n s v (t1 :: rest)) := by
  intro w lo hi x hr hhi
  obtain ⟨k, m, z, q, ql, qc, r, c, rfl, _, _, _, hv, _, _, hall⟩ := hr.open
  obtain ⟨hk, hm, _⟩ := rep_is hv
  have HB := fun o : Obj => Lib.hid ((Below.refl w.heap.size w).alloc (Nat.le_refl _) o)
  have HE := Lib.hid (show digN (.mk 22 n s v (t1 :: rest)) = digN t1 from by rw [digN, if_neg (by decide), if_pos (by decide), digH])
  obtain ⟨bi, off, o0, n0, s0, v0, l0, k0, m0, z0, q0, ql0, qc0, r0, c0, hp0, _, hbh0, hli0, y00, y01, y02, y03, y04, y05, y06, y07, hr0⟩ := hall.item 0 (by simp)
  subst hp0
  have hbB : bi < w.heap.size := by omega
  simp only [Nat.zero_mul, Nat.add_zero] at y00 y01 y02 y03 y04 y05 y06 y07
  obtain ⟨W1, hW1⟩ : ∃ W1, W1 = w.alloc (.cells #[.int .i64 22, .int .i64 n, .string s, .int .i64 k, .int .i64 m, .string z, .slice q ql qc, .slice (some ⟨bi, off, none⟩) (t1 :: rest).length c] 33) := ⟨_, rfl⟩
  have hb0 : Below w.heap.size w W1 := hW1 ▸ (Below.refl w.heap.size w).alloc (Nat.le_refl _) _
  have HX : Hid (W1.heap[w.heap.size]? = some (.cells #[.int .i64 22, .int .i64 n, .string s, .int .i64 k, .int .i64 m, .string z, .slice q ql qc, .slice (some ⟨bi, off, none⟩) (t1 :: rest).length c] 33 (0, 0))) := hW1 ▸ heap_alloc_new w _
  have HB0 := Lib.hid hb0
  have HD := Lib.hid (h1 W1 lo hi _ ((show NRep w lo hi t1 _ from hr0).below hb0 hhi) (Nat.le_trans hhi hb0.size))
  have z10 := (hb0.cell (p := ⟨bi, off, none⟩) hbB).trans y00
  have z11 := (hb0.cell (p := ⟨bi, off + 1, none⟩) hbB).trans y01
  have z12 := (hb0.cell (p := ⟨bi, off + 2, none⟩) hbB).trans y02
  have z13 := (hb0.cell (p := ⟨bi, off + 3, none⟩) hbB).trans y03
  have z14 := (hb0.cell (p := ⟨bi, off + 4, none⟩) hbB).trans y04
  have z15 := (hb0.cell (p := ⟨bi, off + 5, none⟩) hbB).trans y05
  have z16 := (hb0.cell (p := ⟨bi, off + 6, none⟩) hbB).trans y06
  have z17 := (hb0.cell (p := ⟨bi, off + 7, none⟩) hbB).trans y07
  obtain ⟨g, hg⟩ : ∃ g, g = w.heap.size := ⟨_, rfl⟩
  rw [← hg] at HX
  obtain ⟨x0, x1, x2, x3, x4, x5, x6, x7, _⟩ := box8s _ g _ _ _ _ _ _ _ _ _ HX.out
  have hp : 0 < (rest.length : Int) + 1 := by omega
  simp only [List.length_cons] at x7 HX hW1
  clear hr hv hk hm hall hr0 hli0 hb0 h1 HB
  go_enter Tryz.func61, Tryz.ntmps61
  go_upto_region 1 with fail
  try simp only [List.length_cons]
  rw [← hW1, ← hg]
  clear hW1 hg
  go_wp2_with (go_at_call 61; refine HD.out.mono ?_; rintro e w2 ⟨rfl, hb2⟩; have HB2 := Lib.hid (HB0.out.trans (hb2.mono HB0.out.size)); clear hb2)
  go_ret
  exact ⟨ret_bool (by rw [HE.out]), HB2.out⟩
set_option maxHeartbeats 4000000 in
theorem dig_head23 (n : Int) (s : ByteArray) (v : T) (t1 : Nd) (rest : List Nd) (h1 : DOk t1) : DOk (.mk 23 n s v (t1 :: rest)) := by
  intro w lo hi x hr hhi
  obtain ⟨k, m, z, q, ql, qc, r, c, rfl, _, _, _, hv, _, _, hall⟩ := hr.open
  obtain ⟨hk, hm, _⟩ := rep_is hv
  have HB := fun o : Obj => Lib.hid ((Below.refl w.heap.size w).alloc (Nat.le_refl _) o)
  have HE := Lib.hid (show digN (.mk 23 n s v (t1 :: rest)) = digN t1 from by rw [digN, if_neg (by decide), if_pos (by decide), digH])
  obtain ⟨bi, off, o0, n0, s0, v0, l0, k0, m0, z0, q0, ql0, qc0, r0, c0, hp0, _, hbh0, hli0, y00, y01, y02, y03, y04, y05, y06, y07, hr0⟩ := hall.item 0 (by simp)
  subst hp0
  have hbB : bi < w.heap.size := by omega
  simp only [Nat.zero_mul, Nat.add_zero] at y00 y01 y02 y03 y04 y05 y06 y07
  obtain ⟨W1, hW1⟩ : ∃ W1, W1 = w.alloc (.cells #[.int .i64 23, .int .i64 n, .string s, .int .i64 k, .int .i64 m, .string z, .slice q ql qc, .slice (some ⟨bi, off, none⟩) (t1 :: rest).length c] 33) := ⟨_, rfl⟩
  have hb0 : Below w.heap.size w W1 := hW1 ▸ (Below.refl w.heap.size w).alloc (Nat.le_refl _) _
  have HX : Hid (W1.heap[w.heap.size]? = some (.cells #[.int .i64 23, .int .i64 n, .string s, .int .i64 k, .int .i64 m, .string z, .slice q ql qc, .slice (some ⟨bi, off, none⟩) (t1 :: rest).length c] 33 (0, 0))) := hW1 ▸ heap_alloc_new w _
  have HB0 := Lib.hid hb0
  have HD := Lib.hid (h1 W1 lo hi _ ((show NRep w lo hi t1 _ from hr0).below hb0 hhi) (Nat.le_trans hhi hb0.size))
  have z10 := (hb0.cell (p := ⟨bi, off, none⟩) hbB).trans y00
  have z11 := (hb0.cell (p := ⟨bi, off + 1, none⟩) hbB).trans y01
  have z12 := (hb0.cell (p := ⟨bi, off + 2, none⟩) hbB).trans y02
  have z13 := (hb0.cell (p := ⟨bi, off + 3, none⟩) hbB).trans y03
  have z14 := (hb0.cell (p := ⟨bi, off + 4, none⟩) hbB).trans y04
  have z15 := (hb0.cell (p := ⟨bi, off + 5, none⟩) hbB).trans y05
  have z16 := (hb0.cell (p := ⟨bi, off + 6, none⟩) hbB).trans y06
  have z17 := (hb0.cell (p := ⟨bi, off + 7, none⟩) hbB).trans y07
  obtain ⟨g, hg⟩ : ∃ g, g = w.heap.size := ⟨_, rfl⟩
  rw [← hg] at HX
  obtain ⟨x0, x1, x2, x3, x4, x5, x6, x7, _⟩ := box8s _ g _ _ _ _ _ _ _ _ _ HX.out
  have hp : 0 < (rest.length : Int) + 1 := by omega
  simp only [List.length_cons] at x7 HX hW1
  clear hr hv hk hm hall hr0 hli0 hb0 h1 HB
  go_enter Tryz.func61, Tryz.ntmps61
  go_upto_region 1 with fail
  try simp only [List.length_cons]
  rw [← hW1, ← hg]
  clear hW1 hg
  go_wp2_with (go_at_call 61; refine HD.out.mono ?_; rintro e w2 ⟨rfl, hb2⟩; have HB2 := Lib.hid (HB0.out.trans (hb2.mono HB0.out.size)); clear hb2)
  go_ret
  exact ⟨ret_bool (by rw [HE.out]), HB2.out⟩
end Go.Proofs.YtemkikjcjhmlaaaGreatDoor.Sh

namespace Go.Proofs.YtemkikjcjhmlaaaGreatDoor
open Go.RowKit
set_option maxRecDepth 100000

/-- A fault that a node has, as the document's words lay it. -/
def fR : Option (Int × Nat) → Value
  | none => fv 0
  | some f => fp (101 + f.2) f.1
/-- Does a Break, or a Continue, lead nowhere? -/
def awayB (o : Int) (lp : Bool) : Bool := ((o == 45) || (o == 46)) && !lp
theorem stand_away (o a : Int) (lp : Bool) (ha : 0 ≤ a ∧ a ≤ 8) : mayStandB o a lp = (mayStandB o a true && !awayB o lp) := by
  have hc : a = 0 ∨ a = 1 ∨ a = 2 ∨ a = 3 ∨ a = 4 ∨ a = 5 ∨ a = 6 ∨ a = 7 ∨ a = 8 := by omega
  clear ha
  by_cases h5 : o = 45
  · subst h5; rcases hc with rfl | rfl | rfl | rfl | rfl | rfl | rfl | rfl | rfl <;> cases lp <;> decide
  by_cases h6 : o = 46
  · subst h6; rcases hc with rfl | rfl | rfl | rfl | rfl | rfl | rfl | rfl | rfl <;> cases lp <;> decide
  have e5 : (o == 45) = false := by simpa using h5
  have e6 : (o == 46) = false := by simpa using h6
  have e : awayB o lp = false := by unfold awayB; rw [e5, e6]; rfl
  have f5 : (o != 45) = true := by simpa using h5
  have f6 : (o != 46) = true := by simpa using h6
  rw [e, Bool.not_false, Bool.and_true]
  unfold mayStandB
  rw [f5, f6]
  cases lp <;> rfl
theorem named_two (o : Int) (s : ByteArray) : (namedR o s == 2) = (!(s.size == 0) && !isNamedB o) := by
  unfold namedR isNamedB
  by_cases h2 : o = 2
  · subst h2; cases isNameB s <;> simp
  by_cases h24 : o = 24
  · subst h24; cases isNameB s <;> simp
  by_cases h42 : o = 42
  · subst h42; cases isNameB s <;> simp
  by_cases h43 : o = 43
  · subst h43; cases isNameB s <;> simp
  by_cases h50 : o = 50
  · subst h50; by_cases hs : s.size = 0 <;> cases isNameB s <;> simp [hs]
  by_cases hs : s.size = 0 <;> simp [h2, h24, h42, h43, h50, hs]
theorem named_one (o : Int) (s : ByteArray) : (namedR o s == 1) = nameBad o s := by
  unfold namedR nameBad isNamedB
  by_cases h2 : o = 2
  · subst h2; cases isNameB s <;> simp
  by_cases h24 : o = 24
  · subst h24; cases isNameB s <;> simp
  by_cases h42 : o = 42
  · subst h42; cases isNameB s <;> simp
  by_cases h43 : o = 43
  · subst h43; cases isNameB s <;> simp
  by_cases h50 : o = 50
  · subst h50; by_cases hs : s.size = 0 <;> cases isNameB s <;> simp [hs]
  by_cases hs : s.size = 0 <;> simp [h2, h24, h42, h43, h50, hs]
theorem shape_parts (o a : Int) (lp : Bool) (s : ByteArray) (v : T) (len : Nat) (ha : 0 ≤ a ∧ a ≤ 8) : shapeBad o a lp s v len = (!mayStandB o a true || !enoughB o len || !rightV o v || (namedR o s == 2) || awayB o lp) := by
  unfold shapeBad
  rw [stand_away o a lp ha, named_two]
  cases mayStandB o a true <;> cases awayB o lp <;> cases enoughB o len <;> cases rightV o v <;> cases (!(s.size == 0) && !isNamedB o) <;> rfl

/-- The boxes of the call: the node's, the fault's. -/
structure OB (w W : World) (nd : Obj) : Prop where
  bel : Below w.heap.size w W
  nod : W.heap[w.heap.size]? = some nd
  flt : W.heap[w.heap.size + 1]? = some (.cells #[.int .i64 0, .bool false, .int .i64 0, .int .i64 0, .int .i64 0, .string ⟨#[]⟩, .slice none 0 0] 37 (0, 0))
theorem OB.step {w W W' : World} {nd : Obj} (h : OB w W nd) (hb : Below W.heap.size W W') : OB w W' nd := ⟨h.bel.trans (hb.mono h.bel.size), heap_old h.nod hb, heap_old h.flt hb⟩
theorem OB.start (w : World) (nd : Obj) : OB w ((w.alloc nd).alloc (.cells #[.int .i64 0, .bool false, .int .i64 0, .int .i64 0, .int .i64 0, .string ⟨#[]⟩, .slice none 0 0] 37)) nd :=
  ⟨((Below.refl _ _).alloc (Nat.le_refl _) _).alloc (by simp) _, heap_alloc_ _ _ _ _ (heap_alloc_new w nd), by have := heap_alloc_new (w.alloc nd) (.cells #[.int .i64 0, .bool false, .int .i64 0, .int .i64 0, .int .i64 0, .string ⟨#[]⟩, .slice none 0 0] 37); rw [World.size_alloc] at this; exact this⟩

theorem eqV_zero (v : T) : eqV v zV = emptyV v := by
  obtain ⟨k, n, s, l⟩ := v
  unfold eqV emptyV
  have h1 : eqAll l [] = (l.length == 0) := by cases l <;> simp [eqAll]
  have h2 : (s.toList == (⟨#[]⟩ : ByteArray).toList) = (s.size == 0) := by
    have := CkOk_name s
    rw [← this, show (⟨#[]⟩ : ByteArray).toList = [] from by rw [Go.ByteArray.toList_eq]]
    cases s.toList <;> rfl
  rw [h1, h2]
  simp only [T.k, T.n, T.s, T.l]
  cases (k == 0) <;> cases (n == 0) <;> cases (s.size == 0) <;> cases (l.length == 0) <;> rfl

/-- What V comes to, way by way. -/
theorem v_ways {o k m : Int} {v : T} (e1 : v.k = k) (e2 : v.n = m) :
    ((o == 1) = true ∧ rightB v = false ∧ rightV o v = false) ∨ ((o == 1) = true ∧ rightB v = true ∧ (k != 4) = false ∧ rightV o v = false) ∨ ((o == 1) = true ∧ rightB v = true ∧ (k != 4) = true ∧ (k != 0) = false ∧ (m != -9223372036854775808) = false ∧ rightV o v = false) ∨
    ((o == 1) = false ∧ emptyV v = false ∧ rightV o v = false) ∨ ((o == 1) = true ∧ rightB v = true ∧ (k != 4) = true ∧ (k != 0) = true ∧ rightV o v = true) ∨ ((o == 1) = true ∧ rightB v = true ∧ (k != 4) = true ∧ (k != 0) = false ∧ (m != -9223372036854775808) = true ∧ rightV o v = true) ∨
    ((o == 1) = false ∧ emptyV v = true ∧ rightV o v = true) := by
  unfold rightV
  rw [e1, e2]
  by_cases ho : o = 1
  · have b1 : (o == 1) = true := by simpa using ho
    rw [if_pos ho, b1]
    by_cases h4 : k = 4
    · rw [if_pos (.inl h4)]
      have b4 : (k != 4) = false := by simpa using h4
      rw [b4]
      cases rightB v <;> simp
    · have b4 : (k != 4) = true := by simpa using h4
      rw [b4]
      by_cases h0 : k = 0
      · have b0 : (k != 0) = false := by simpa using h0
        rw [b0]
        by_cases hm : m = -9223372036854775808
        · have bm : (m != -9223372036854775808) = false := by simpa using hm
          rw [if_pos (.inr ⟨h0, hm⟩), bm]
          cases rightB v <;> simp
        · have bm : (m != -9223372036854775808) = true := by simpa using hm
          rw [if_neg (by rintro (h | h); exact h4 h; exact hm h.2), bm]
          cases rightB v <;> simp
      · have b0 : (k != 0) = true := by simpa using h0
        rw [if_neg (by rintro (h | h); exact h4 h; exact h0 h.1), b0]
        cases rightB v <;> simp
  · have b1 : (o == 1) = false := by simpa using ho
    rw [if_neg ho, b1]
    cases emptyV v <;> simp
end Go.Proofs.YtemkikjcjhmlaaaGreatDoor

namespace Go.Proofs.YtemkikjcjhmlaaaGreatDoor
open Go.RowKit
set_option maxRecDepth 100000

set_option maxHeartbeats 8000000 in
/-- A name that is none. -/
theorem rodd_name (o n : Int) (s : ByteArray) (v : T) (l : List Nd) (x : Value) (a : Int) (lp : Bool) (w : World) (lo hi : Nat) (hr : NRep w lo hi (.mk o n s v l) x) (hhi : hi ≤ w.heap.size) (ha : 0 ≤ a ∧ a ≤ 8) (hok : shapeBad o a lp s v l.length = false) (hnm : nameBad o s = true) :
    Calls Tryz.prog 17 #[x, .int .i64 (rp a), .bool lp] w fun e w' => e = .returned (fp 106 n) ∧ Below w.heap.size w w' := by
  obtain ⟨k, m, z, q, ql, qc, p, cap, rfl, hio, hin, hsz, hrv, hlc, hl112, hall⟩ := hr.open
  obtain ⟨e1, e2, e3, e4⟩ := rep_open hrv
  have HALL := Lib.hid hall
  have hll := len_cnt l
  have HO := Lib.hid (OB.start w (.cells #[.int .i64 o, .int .i64 n, .string s, .int .i64 k, .int .i64 m, .string z, .slice q ql qc, .slice p l.length cap] 33))
  have HSV := Lib.hid (fun W (hb : Below w.heap.size w W) => by
    have h := sameValue_any v zV W lo hi 0 0 _ _ (hrv.below hb hhi) (by have := hb.size; omega) (zV_rep W 0 0) (Nat.zero_le _)
    rw [eqV_zero] at h; exact h)
  have HRI := Lib.hid (fun W (hb : Below w.heap.size w W) => right_any v W lo hi _ (hrv.below hb hhi) (by have := hb.size; omega))
  have HNM := Lib.hid (fun W => rnamed_any o n s k m z q ql qc p l.length cap W hsz)
  have HST := Lib.hid (fun w => stands_any o a ha w)
  have HEN := Lib.hid (fun w => counts_any o l.length (by omega) w)
  have hw := v_ways (o := o) e1 e2
  obtain ⟨W1, hW1⟩ : ∃ W1, (w.alloc (.cells #[.int .i64 o, .int .i64 n, .string s, .int .i64 k, .int .i64 m, .string z, .slice q ql qc, .slice p l.length cap] 33)).alloc (.cells #[.int .i64 0, .bool false, .int .i64 0, .int .i64 0, .int .i64 0, .string ⟨#[]⟩, .slice none 0 0] 37) = W1 := ⟨_, rfl⟩
  rw [hW1] at HO
  obtain ⟨x0, x1, x2, x3, x4, x5, x6, x7, _⟩ := box8_in _ _ _ _ _ _ _ _ _ _ _ HO.out.nod
  have HSV1 := Lib.hid (HSV.out _ HO.out.bel)
  have hb := hok
  rw [shape_parts o a lp s v l.length ha] at hb
  obtain ⟨N, hN⟩ : ∃ N, N = namedR o s := ⟨_, rfl⟩
  rw [← hN] at HNM hb
  obtain ⟨⟨⟨⟨hS, hE⟩, hV⟩, hN2⟩, hA⟩ : (((mayStandB o a true = true ∧ enoughB o l.length = true) ∧ rightV o v = true) ∧ (N == 2) = false) ∧ awayB o lp = false := by simpa only [Bool.or_eq_false_iff, Bool.not_eq_false'] using hb
  have hn1 := named_one o s
  rw [← hN] at hn1
  rw [hS] at HST
  rw [hE] at HEN
  rw [hV] at hw
  have hA3 : (o == 45) = true ∧ lp = true ∨ (o == 45) = false ∧ (o == 46) = true ∧ lp = true ∨ (o == 45) = false ∧ (o == 46) = false := by
    unfold awayB at hA
    cases h5 : (o == 45) <;> cases h6 : (o == 46) <;> cases lp <;> simp_all
  clear hr hrv hall HSV e1 e2 e3 e4 hok hN hS hE hb hA
  rw [hnm] at hn1
  clear hnm
  generalize rightV o v = V at *
  generalize rightB v = R at *
  generalize emptyV v = M at *
  have hw3 : ((o == 1) = true ∧ R = true ∧ (k != 4) = true ∧ (k != 0) = true) ∨ ((o == 1) = true ∧ R = true ∧ (k != 4) = true ∧ (k != 0) = false ∧ (m != -9223372036854775808) = true) ∨ ((o == 1) = false ∧ M = true) := by
    rcases hw with ⟨_, _, h⟩ | ⟨_, _, _, h⟩ | ⟨_, _, _, _, _, h⟩ | ⟨_, _, h⟩ | ⟨b1, h, b4, b0, _⟩ | ⟨b1, h, b4, b0, bm, _⟩ | ⟨b1, h, _⟩
    · cases h
    · cases h
    · cases h
    · cases h
    · exact .inl ⟨b1, h, b4, b0⟩
    · exact .inr (.inl ⟨b1, h, b4, b0, bm⟩)
    · exact .inr (.inr ⟨b1, h⟩)
  clear hw hV
  go_enter Tryz.func17, Tryz.ntmps17
  rcases hw3 with ⟨b1, rfl, b4, b0⟩ | ⟨b1, rfl, b4, b0, bm⟩ | ⟨b1, rfl⟩
  · go_upto_region 5 with (first | (go_at_call 23; refine HSV1.out.mono ?_; rintro e w2 ⟨rfl, hb2⟩; have HO2 := Lib.hid (HO.out.step hb2); obtain ⟨y0, y1, y2, y3, y4, y5, y6, y7, _⟩ := box8_in _ _ _ _ _ _ _ _ _ _ _ HO2.out.nod; clear hb2) | (go_at_call 24; refine (HRI.out _ HO2.out.bel).mono ?_; rintro e w3 ⟨rfl, hb3⟩; have HO2 := Lib.hid (HO2.out.step hb3); obtain ⟨z0, z1, z2, z3, z4, z5, z6, z7, _⟩ := box8_in _ _ _ _ _ _ _ _ _ _ _ HO2.out.nod; clear hb3) | (go_at_call 25; refine (HNM.out _).mono ?_; rintro e w4 ⟨rfl, hb4⟩; have HO4 := Lib.hid (HO2.out.step hb4); obtain ⟨t0, t1, t2, t3, t4, t5, t6, t7, _⟩ := box8_in _ _ _ _ _ _ _ _ _ _ _ HO4.out.nod; clear hb4))
    clear HSV1 HRI HNM
    first | clear HO2 | skip
    rename World => w4
    go_cut [9] from 42 to 53 (fun c9 wx => c9 = .bool false ∧ wx = w4)
    case first =>
      rcases hA3 with ⟨h5, h6⟩ | ⟨h5, h6, h7⟩ | ⟨h5, h6⟩
      · subst h6; go_wp2; go_meet; exact ⟨rfl, rfl⟩
      · subst h7; go_wp2; go_meet; exact ⟨rfl, rfl⟩
      · go_wp2; go_meet; exact ⟨rfl, rfl⟩
    obtain ⟨rfl, rfl⟩ := hcut
    go_wp2_with (first | (go_at_call 26; refine (HST.out _).mono ?_; rintro e w5 ⟨rfl, rfl⟩) | (go_at_call 27; refine (HEN.out _).mono ?_; rintro e w5 ⟨rfl, rfl⟩) | (go_at_call 28; refine (placed_any 106 n (by decide) _).mono ?_; unfold fp; rintro e w6 ⟨rfl, hb6⟩; have HO6 := Lib.hid (HO4.out.step hb6); obtain ⟨f0, f1, f2, f3, f4, f5, f6, hxf⟩ := box7_in _ _ _ _ _ _ _ _ _ _ HO6.out.flt; have hxf0 := hxf 0; have hxf1 := hxf 1; have hxf2 := hxf 2; have hxf3 := hxf 3; have hxf4 := hxf 4; have hxf5 := hxf 5; have hxf6 := hxf 6; clear hxf hb6))
    refine bodyPost_ret (v := fp 106 n) (by unfold fp; simp [results, Tryz.results17, go_sem, f0, f1, f2, f3, f4, f5, f6]) rfl ?_
    exact ⟨rfl, below_set7 HO6.out.bel (Nat.le_succ _) _ _ _ _ _ _ _⟩
  · go_upto_region 5 with (first | (go_at_call 23; refine HSV1.out.mono ?_; rintro e w2 ⟨rfl, hb2⟩; have HO2 := Lib.hid (HO.out.step hb2); obtain ⟨y0, y1, y2, y3, y4, y5, y6, y7, _⟩ := box8_in _ _ _ _ _ _ _ _ _ _ _ HO2.out.nod; clear hb2) | (go_at_call 24; refine (HRI.out _ HO2.out.bel).mono ?_; rintro e w3 ⟨rfl, hb3⟩; have HO2 := Lib.hid (HO2.out.step hb3); obtain ⟨z0, z1, z2, z3, z4, z5, z6, z7, _⟩ := box8_in _ _ _ _ _ _ _ _ _ _ _ HO2.out.nod; clear hb3) | (go_at_call 25; refine (HNM.out _).mono ?_; rintro e w4 ⟨rfl, hb4⟩; have HO4 := Lib.hid (HO2.out.step hb4); obtain ⟨t0, t1, t2, t3, t4, t5, t6, t7, _⟩ := box8_in _ _ _ _ _ _ _ _ _ _ _ HO4.out.nod; clear hb4))
    clear HSV1 HRI HNM
    first | clear HO2 | skip
    rename World => w4
    go_cut [9] from 42 to 53 (fun c9 wx => c9 = .bool false ∧ wx = w4)
    case first =>
      rcases hA3 with ⟨h5, h6⟩ | ⟨h5, h6, h7⟩ | ⟨h5, h6⟩
      · subst h6; go_wp2; go_meet; exact ⟨rfl, rfl⟩
      · subst h7; go_wp2; go_meet; exact ⟨rfl, rfl⟩
      · go_wp2; go_meet; exact ⟨rfl, rfl⟩
    obtain ⟨rfl, rfl⟩ := hcut
    go_wp2_with (first | (go_at_call 26; refine (HST.out _).mono ?_; rintro e w5 ⟨rfl, rfl⟩) | (go_at_call 27; refine (HEN.out _).mono ?_; rintro e w5 ⟨rfl, rfl⟩) | (go_at_call 28; refine (placed_any 106 n (by decide) _).mono ?_; unfold fp; rintro e w6 ⟨rfl, hb6⟩; have HO6 := Lib.hid (HO4.out.step hb6); obtain ⟨f0, f1, f2, f3, f4, f5, f6, hxf⟩ := box7_in _ _ _ _ _ _ _ _ _ _ HO6.out.flt; have hxf0 := hxf 0; have hxf1 := hxf 1; have hxf2 := hxf 2; have hxf3 := hxf 3; have hxf4 := hxf 4; have hxf5 := hxf 5; have hxf6 := hxf 6; clear hxf hb6))
    refine bodyPost_ret (v := fp 106 n) (by unfold fp; simp [results, Tryz.results17, go_sem, f0, f1, f2, f3, f4, f5, f6]) rfl ?_
    exact ⟨rfl, below_set7 HO6.out.bel (Nat.le_succ _) _ _ _ _ _ _ _⟩
  · go_upto_region 5 with (first | (go_at_call 23; refine HSV1.out.mono ?_; rintro e w2 ⟨rfl, hb2⟩; have HO2 := Lib.hid (HO.out.step hb2); obtain ⟨y0, y1, y2, y3, y4, y5, y6, y7, _⟩ := box8_in _ _ _ _ _ _ _ _ _ _ _ HO2.out.nod; clear hb2) | (go_at_call 24; refine (HRI.out _ HO2.out.bel).mono ?_; rintro e w3 ⟨rfl, hb3⟩; have HO2 := Lib.hid (HO2.out.step hb3); obtain ⟨z0, z1, z2, z3, z4, z5, z6, z7, _⟩ := box8_in _ _ _ _ _ _ _ _ _ _ _ HO2.out.nod; clear hb3) | (go_at_call 25; refine (HNM.out _).mono ?_; rintro e w4 ⟨rfl, hb4⟩; have HO4 := Lib.hid (HO2.out.step hb4); obtain ⟨t0, t1, t2, t3, t4, t5, t6, t7, _⟩ := box8_in _ _ _ _ _ _ _ _ _ _ _ HO4.out.nod; clear hb4))
    clear HSV1 HRI HNM
    first | clear HO2 | skip
    rename World => w4
    go_cut [9] from 42 to 53 (fun c9 wx => c9 = .bool false ∧ wx = w4)
    case first =>
      rcases hA3 with ⟨h5, h6⟩ | ⟨h5, h6, h7⟩ | ⟨h5, h6⟩
      · subst h6; go_wp2; go_meet; exact ⟨rfl, rfl⟩
      · subst h7; go_wp2; go_meet; exact ⟨rfl, rfl⟩
      · go_wp2; go_meet; exact ⟨rfl, rfl⟩
    obtain ⟨rfl, rfl⟩ := hcut
    go_wp2_with (first | (go_at_call 26; refine (HST.out _).mono ?_; rintro e w5 ⟨rfl, rfl⟩) | (go_at_call 27; refine (HEN.out _).mono ?_; rintro e w5 ⟨rfl, rfl⟩) | (go_at_call 28; refine (placed_any 106 n (by decide) _).mono ?_; unfold fp; rintro e w6 ⟨rfl, hb6⟩; have HO6 := Lib.hid (HO4.out.step hb6); obtain ⟨f0, f1, f2, f3, f4, f5, f6, hxf⟩ := box7_in _ _ _ _ _ _ _ _ _ _ HO6.out.flt; have hxf0 := hxf 0; have hxf1 := hxf 1; have hxf2 := hxf 2; have hxf3 := hxf 3; have hxf4 := hxf 4; have hxf5 := hxf 5; have hxf6 := hxf 6; clear hxf hb6))
    refine bodyPost_ret (v := fp 106 n) (by unfold fp; simp [results, Tryz.results17, go_sem, f0, f1, f2, f3, f4, f5, f6]) rfl ?_
    exact ⟨rfl, below_set7 HO6.out.bel (Nat.le_succ _) _ _ _ _ _ _ _⟩
end Go.Proofs.YtemkikjcjhmlaaaGreatDoor
