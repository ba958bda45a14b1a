/- str.Words, str.Trim, and two slices of texts held against each other. -/
import Derived.Test.YtnlbibfjhobmjaaDoorStrs
import Derived.Test.YtnlbibfjhobmjaaDoorWordM
import Derived.Test.YtnlbibfjhobmjaaDoorShelf
import Derived.Test.YtnlbibfjhobmjaaDoorFind
import Derived.Shelf.Strings.FieldsFuncAny
namespace Go.Proofs.YtnlbibfjhobmjaaDoor
open Go.RowKit
set_option maxRecDepth 100000

def wordsS (s : ByteArray) : List ByteArray := Lib.goFieldsP (fun r => r == 32) s
theorem wordsS_list (s : ByteArray) : (wordsS s).map (fun x => x.data.toList) = words s.data.toList := fields_words s

theorem clo_pays (w : World) : PredAt Tryd.prog 29 #[] encR (fun r => r == 32) w := by
  intro W x _
  show Calls Tryd.prog 29 (#[_] ++ #[]) W _
  go_enter Tryd.func29, Tryd.ntmps29
  go_wp2
  go_ret
  exact ⟨ret_bool (by show (((x : Nat) : Int) == 32) = (x == 32); rw [Bool.eq_iff_iff]; simp only [beq_iff_eq]; omega), 0, rfl⟩

theorem SRow.own {w : World} {B : Nat} {A n : Nat} {ss : List ByteArray} (h : w.ownsRow B 9 1 (.slice (some ⟨A, 0, none⟩) n n) n (ss.map Value.string)) : SRow w w.heap.size (some ⟨A, 0, none⟩) ss := by
  right
  have hlt := (h.lt A rfl).2
  refine ⟨⟨A, 0, none⟩, rfl, hlt, fun i hi => ?_⟩
  have := h.cells (g := A) rfl i (.string ss[i]) (by simp [hi])
  exact this
def WordsPost (s : ByteArray) (w : World) (e : Ending) (w' : World) : Prop :=
  ∃ p cap, e = .returned (.slice p (wordsS s).length cap) ∧ SRow w' w'.heap.size p (wordsS s) ∧ Below w.heap.size w w'
set_option maxHeartbeats 1000000 in
theorem words_any (s : ByteArray) (w : World) (hs : s.size ≤ 1000000) :
    Calls Tryd.prog 19 #[.string s] w (WordsPost s w) := by
  have cF := Tryd.strings_FieldsFunc 29 #[] (enters_of Tryd.func29 (by kernel_rfl) rfl) (fun r => r == 32) s w (by omega) (clo_pays w)
  have CF := Lib.hid cF; clear cF
  go_enter Tryd.func19, Tryd.ntmps19
  go_wp2_with (go_at_call 28; refine CF.out.mono ?_; rintro e w1 ⟨A, rfl, _, hown, hb1⟩; have HO := Lib.hid hown; have HB1 := Lib.hid hb1; clear hown hb1)
  go_ret
  exact ⟨_, _, rfl, SRow.own HO.out, HB1.out⟩
set_option maxHeartbeats 1000000 in
theorem trim_any (s : ByteArray) (w : World) (hs : s.size ≤ 9223372036854775807) :
    Calls Tryd.prog 16 #[.string s] w fun e w' => e = .returned (.string ⟨(Lib.trimB s.data.toList 32).toArray⟩) ∧ Below w.heap.size w w' := by
  go_enter Tryd.func16, Tryd.ntmps16
  go_wp2_with (go_at_call 27; refine (Tryd.strings_Trim_one s 32 (by decide) _ hs).mono ?_; rintro e w1 ⟨rfl, hw⟩; have HB1 : Hid (Below w.heap.size w w1) := (by rcases hw with rfl | rfl; exact Below.refl _ _; exact (Below.refl _ _).drew); clear hw)
  go_ret
  exact ⟨rfl, HB1.out⟩

set_option maxHeartbeats 1000000 in
theorem sameTexts_any (ss : List ByteArray) (p q : Option Addr) (cp cq B C : Nat) (w : World) (hp : SRow w B p ss) (hq : SRow w C q ss) (hl : ss.length ≤ 1000000) :
    Calls Tryd.prog 18 #[.slice p ss.length cp, .slice q ss.length cq] w fun e w' => e = .returned (.bool true) ∧ Below w.heap.size w w' := by
  have HP := Lib.hid hp; have HQ := Lib.hid hq; clear hp hq
  have hB : Hid (∀ j (h : j < ss.length) w', Hid (Below w.heap.size w w') → ∃ a b : Addr, p = some a ∧ q = some b ∧ w'.cell? (a.add j) = some (.string ss[j]) ∧ w'.cell? (b.add j) = some (.string ss[j])) := by
    intro j h w' hb
    obtain ⟨a, ha, hca⟩ := HP.out.at_ j h
    obtain ⟨b, hb', hcb⟩ := HQ.out.at_ j h
    refine ⟨a, b, ha, hb', ?_, ?_⟩
    · rw [hb.out.cell (p := a.add j) (World.block_lt_of_cell? w (a := a.add j) hca)]; exact hca
    · rw [hb.out.cell (p := b.add j) (World.block_lt_of_cell? w (a := b.add j) hcb)]; exact hcb
  have HB0 := Lib.hid (Below.refl w.heap.size w)
  go_enter Tryd.func18, Tryd.ntmps18
  go_wp2
  go_loopw [5] (fun i wr => ∃ j : Nat, j ≤ ss.length ∧ i = .int .i64 j ∧ Hid (Below w.heap.size w wr)) (fun i _ => ss.length - (intOf i).toNat)
  case atStart => exact ⟨0, Nat.zero_le _, rfl, HB0⟩
  case round =>
    obtain ⟨j, hj, rfl, hbel⟩ := hrel
    by_cases hlt : j < ss.length
    · obtain ⟨a, b, rfl, rfl, ha, hb⟩ := hB.out j hlt wr hbel
      have hq : ∀ nq, Hid (Below w.heap.size w (wr.drewN nq)) := fun nq => below_drewN hbel.out nq
      generalize ss[j] = s at *
      go_wp2
      go_quiet (fail)
      go_wp2
      go_roundw
      case measure => simp [intOf]; omega
      case rel => exact ⟨j + 1, by omega, by go_num, hq _⟩
    · go_wp2
      go_ret
      exact ⟨rfl, hbel.out⟩
end Go.Proofs.YtnlbibfjhobmjaaDoor
