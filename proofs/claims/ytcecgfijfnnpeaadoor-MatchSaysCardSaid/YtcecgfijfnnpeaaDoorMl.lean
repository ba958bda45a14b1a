/- Letters turned into the other case: the document's Lower and Upper. -/
import Derived.Test.YtcecgfijfnnpeaaDoorMo
import Derived.Lib.ConvBytes
import Derived.Laws.IdiomStrings
import Derived.Laws.BitsLemmas
namespace Go.Proofs.YtcecgfijfnnpeaaDoor.Mt
open Go.RowKit
set_option maxRecDepth 100000

/-- Block g holds the bytes l, and may be written. -/
def BRow (w : World) (g : Nat) (l : Ls) : Prop := ∀ i (h : i < l.length), w.cell? ⟨g, i, none⟩ = some (.int .u8 (l[i].toNat : Int)) ∧ w.frozen? ⟨g, i, none⟩ = false
theorem BRow.lt {w : World} {g : Nat} {l : Ls} (h : BRow w g l) (hl : l ≠ []) : g < w.heap.size :=
  World.block_lt_of_cell? w (a := ⟨g, 0, none⟩) (h 0 (by cases l; exact absurd rfl hl; simp)).1
theorem BRow.set {w : World} {g : Nat} {l : Ls} (h : BRow w g l) (j : Nat) (hj : j < l.length) (x : UInt8) (d : Int) (hd : (x.toNat : Int) = d) :
    BRow (w.setCell ⟨g, j, none⟩ (.int .u8 d)) g (l.set j x) := by
  subst hd
  intro i hi
  have hi' : i < l.length := by simpa using hi
  obtain ⟨h1, h2⟩ := h i hi'
  refine ⟨?_, by simpa using h2⟩
  by_cases e : i = j
  · subst e
    rw [List.getElem_set_self]
    exact World.cell?_setCell_same w _ _ h1
  · rw [List.getElem_set_ne (Ne.symm e), World.cell?_setCell_other w _ _ _ (fun h => e (congrArg Addr.off h).symm)]
    exact h1

/-- The first k letters turned. -/
def turned (f : UInt8 → UInt8) (l : Ls) (k : Nat) : Ls := (l.take k).map f ++ l.drop k
theorem turned_zero (f : UInt8 → UInt8) (l : Ls) : turned f l 0 = l := by simp [turned]
theorem turned_all (f : UInt8 → UInt8) (l : Ls) : turned f l l.length = l.map f := by simp [turned]
theorem turned_len (f : UInt8 → UInt8) (l : Ls) (k : Nat) : (turned f l k).length = l.length := by simp [turned]; omega
theorem turned_at (f : UInt8 → UInt8) (l : Ls) (k : Nat) (h : k < l.length) : (turned f l k)[k]'(by rw [turned_len]; exact h) = l[k] := by
  simp [turned, Nat.min_eq_left (Nat.le_of_lt h)]
theorem turned_step (f : UInt8 → UInt8) (l : Ls) (k : Nat) (h : k < l.length) : (turned f l k).set k (f l[k]) = turned f l (k + 1) := by
  apply List.ext_getElem
  · simp [turned_len]
  · intro i h1 h2
    simp only [List.getElem_set, turned, List.getElem_append, List.getElem_map, List.getElem_take, List.getElem_drop, List.length_map, List.length_take]
    simp [turned_len] at h1
    by_cases e : k = i
    · subst e; simp; omega
    · rw [if_neg e]
      split <;> split
      · rfl
      · omega
      · omega
      · congr 1; omega
theorem turned_same (f : UInt8 → UInt8) (l : Ls) (k : Nat) (h : k < l.length) (hf : f l[k] = l[k]) : turned f l (k + 1) = turned f l k := by
  rw [← turned_step f l k h, hf]
  have e := turned_at f l k h
  conv => lhs; rw [← e]
  exact List.set_getElem_self _

theorem brow_bytes (w : World) (s : ByteArray) : BRow (Lib.bytesWorld w 5 s) w.heap.size s.data.toList := by
  intro i hi
  have hi' : i < s.size := by simpa using hi
  refine ⟨?_, ?_⟩
  · rw [Lib.bytesWorld_cell w 5 s i hi']
    simp [List.getD, hi']
  · have hn := Lib.bytesWorld_at_new w 5 s
    have hz : i < (Lib.bytesCells w 5 s).size := by simp [Lib.bytesCells]; omega
    simp [World.frozen?, hn]; omega
theorem below_bytes (w : World) (s : ByteArray) : Below w.heap.size w (Lib.bytesWorld w 5 s) :=
  ⟨rfl, rfl, rfl, by rw [Lib.bytesWorld_size]; omega, fun k hk => Lib.bytesWorld_at_old w _ s k hk⟩
theorem BRow.back {w : World} {g : Nat} {l : Ls} (h : BRow w g l) (cap : Nat) : (convert 82 9 (.slice (some ⟨g, 0, none⟩) l.length cap)).run Tryd.prog w = .ok (.string ⟨l.toArray⟩) w :=
  run_convert_bytes_back w _ _ 5 ⟨g, 0, none⟩ cap l Tryd.underlying82 Tryd.underlying5 Tryd.underlying9 (fun j hj => by
    have e : (⟨g, 0, none⟩ : Addr).add j = ⟨g, j, none⟩ := by unfold Addr.add; split <;> simp_all
    rw [e]; exact (h j hj).1)

set_option maxHeartbeats 2000000 in
theorem refTurn_any (f : UInt8 → UInt8) (lo tt : Int) (h0 : 0 ≤ lo) (h1 : lo ≤ 200) (h2 : 0 ≤ tt) (h3 : tt ≤ 200) (hf : ∀ c : UInt8, ((f c).toNat : Int) = if lo ≤ (c.toNat : Int) ∧ (c.toNat : Int) ≤ lo + 25 then (c.toNat : Int) - lo + tt else c.toNat) (s : ByteArray) (w : World) (hs : s.size ≤ 9223372036854775807) :
    Calls Tryd.prog 45 #[.string s, .int .u8 lo, .int .u8 tt] w fun e w' => e = .returned (.string ⟨(s.data.toList.map f).toArray⟩) ∧ Below w.heap.size w w' := by
  have HF := Lib.hid hf; clear hf
  have hconv := fun w => Lib.run_convert_string_bytes (P := Tryd.prog) w 9 82 5 s Tryd.underlying9 Tryd.underlying82 Tryd.underlying5
  have HR0 := Lib.hid (brow_bytes w s)
  have HB0 := Lib.hid (below_bytes w s)
  go_enter Tryd.func45, Tryd.ntmps45
  go_wp2
  clear hconv
  generalize Lib.bytesWorld w 5 s = W0 at *
  generalize hcap : grownCap w s.size 0 5 = cap
  clear hcap
  generalize hg : w.heap.size = g at *
  have HG := Lib.hid hg; clear hg
  go_loopw [8] (fun i wr => ∃ k : Nat, k ≤ s.size ∧ i = .int .i64 k ∧ Hid (BRow wr g (turned f s.data.toList k)) ∧ Hid (Below g w wr)) (fun i _ => s.size - (intOf i).toNat)
  case atStart => exact ⟨0, Nat.zero_le _, rfl, by rw [turned_zero]; exact HR0, HB0⟩
  case round =>
    obtain ⟨k, hk, rfl, hrow, hbel⟩ := hrel
    by_cases hlt : k < s.size
    · have hl : k < s.data.toList.length := by simpa using hlt
      have hr := hrow.out k (by rw [turned_len]; exact hl)
      rw [turned_at f _ k hl] at hr
      obtain ⟨hc, hfz⟩ := hr
      have hfc := HF.out s.data.toList[k]
      have HS := Lib.hid (turned_step f s.data.toList k hl)
      have HE := Lib.hid (turned_same f s.data.toList k hl)
      have hset := hrow.out.set k (by rw [turned_len]; exact hl) (f s.data.toList[k])
      rw [HS.out] at hset
      have hc255 : ((s.data.toList[k]).toNat : Int) ≤ 255 := by have := s.data.toList[k].toNat_lt; omega
      generalize s.data.toList[k] = c at *
      by_cases ha : lo ≤ (c.toNat : Int)
      · by_cases hb : (c.toNat : Int) ≤ lo + 25
        · rw [if_pos ⟨ha, hb⟩] at hfc
          have HFC := Lib.hid hfc; clear hfc
          have HSET := Lib.hid hset; clear hset
          go_wp2
          go_roundw
          case measure => simp [intOf]; omega
          case rel => exact ⟨k + 1, by omega, by go_num, HSET.out _ HFC.out, hbel.out.setCell (p := ⟨g, k, none⟩) (Nat.le_refl _) _⟩
        · have hb' : decide ((c.toNat : Int) ≤ lo + 25) = false := by simpa using hb
          rw [if_neg (by omega)] at hfc
          have HE2 := Lib.hid (HE.out (UInt8.toNat_inj.1 (by omega)))
          clear hfc hset
          go_wp2
          go_roundw
          case measure => simp [intOf]; omega
          case rel => exact ⟨k + 1, by omega, by go_num, by rw [HE2.out]; exact hrow, hbel⟩
      · have ha' : decide (lo ≤ (c.toNat : Int)) = false := by simpa using ha
        rw [if_neg (by omega)] at hfc
        have HE2 := Lib.hid (HE.out (UInt8.toNat_inj.1 (by omega)))
        clear hfc hset
        go_wp2
        go_roundw
        case measure => simp [intOf]; omega
        case rel => exact ⟨k + 1, by omega, by go_num, by rw [HE2.out]; exact hrow, hbel⟩
    · have hk' : k = s.size := by omega
      subst hk'
      have hback := hrow.out.back cap
      rw [turned_len, show s.data.toList.length = s.size from by simp, show turned f s.data.toList s.size = s.data.toList.map f from by rw [← turned_all]; simp] at hback
      go_wp2
      go_ret
      exact ⟨rfl, by rw [HG.out]; exact hbel⟩

def upB (c : UInt8) : UInt8 := if 97 ≤ c.toNat ∧ c.toNat ≤ 122 then c - 32 else c
def upL (l : Ls) : Ls := l.map upB
theorem cases_fin : ∀ n : Fin 256, ((upB (UInt8.ofNat n.val)).toNat : Int) = (if (97 : Int) ≤ n.val ∧ (n.val : Int) ≤ 97 + 25 then (n.val : Int) - 97 + 65 else n.val) ∧ ((loB (UInt8.ofNat n.val)).toNat : Int) = (if (65 : Int) ≤ n.val ∧ (n.val : Int) ≤ 65 + 25 then (n.val : Int) - 65 + 97 else n.val) ∧ loB (upB (UInt8.ofNat n.val)) = loB (UInt8.ofNat n.val) ∧ loB (loB (UInt8.ofNat n.val)) = loB (UInt8.ofNat n.val) := by decide +kernel
theorem cases_at (c : UInt8) : ((upB c).toNat : Int) = (if (97 : Int) ≤ c.toNat ∧ (c.toNat : Int) ≤ 97 + 25 then (c.toNat : Int) - 97 + 65 else c.toNat) ∧ ((loB c).toNat : Int) = (if (65 : Int) ≤ c.toNat ∧ (c.toNat : Int) ≤ 65 + 25 then (c.toNat : Int) - 65 + 97 else c.toNat) ∧ loB (upB c) = loB c ∧ loB (loB c) = loB c := by
  have := cases_fin ⟨c.toNat, c.toNat_lt⟩
  simpa using this
theorem low_up (l : Ls) : lowL (upL l) = lowL l := by unfold lowL upL; rw [List.map_map]; exact List.map_congr_left (fun c _ => (cases_at c).2.2.1)
theorem low_low (l : Ls) : lowL (lowL l) = lowL l := by unfold lowL; rw [List.map_map]; exact List.map_congr_left (fun c _ => (cases_at c).2.2.2)
theorem alike_low (n w : Ls) : alikeB n w = (lowL n == lowL w) := rfl
set_option maxHeartbeats 1000000 in
theorem refUpper_any (s : ByteArray) (w : World) (hs : s.size ≤ 9223372036854775807) :
    Calls Tryd.prog 25 #[.string s] w fun e w' => e = .returned (.string ⟨(upL s.data.toList).toArray⟩) ∧ Below w.heap.size w w' := by
  go_enter Tryd.func25, Tryd.ntmps25
  go_wp2_with (go_at_call 45; refine (refTurn_any upB 97 65 (by omega) (by omega) (by omega) (by omega) (fun c => (cases_at c).1) s _ hs).mono ?_; rintro e w1 ⟨rfl, hb1⟩; have HB1 := Lib.hid hb1; clear hb1)
  go_ret
  exact ⟨rfl, HB1.out⟩
set_option maxHeartbeats 1000000 in
theorem refLower_any (s : ByteArray) (w : World) (hs : s.size ≤ 9223372036854775807) :
    Calls Tryd.prog 27 #[.string s] w fun e w' => e = .returned (.string ⟨(lowL s.data.toList).toArray⟩) ∧ Below w.heap.size w w' := by
  go_enter Tryd.func27, Tryd.ntmps27
  go_wp2_with (go_at_call 45; refine (refTurn_any loB 65 97 (by omega) (by omega) (by omega) (by omega) (fun c => (cases_at c).2.1) s _ hs).mono ?_; rintro e w1 ⟨rfl, hb1⟩; have HB1 := Lib.hid hb1; clear hb1)
  go_ret
  exact ⟨rfl, HB1.out⟩
end Go.Proofs.YtcecgfijfnnpeaaDoor.Mt
