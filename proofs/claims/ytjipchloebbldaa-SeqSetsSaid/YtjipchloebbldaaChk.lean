/- seq's inner functions: has, clone, checked; what the calls that make a list answer, as plain words. -/
import Derived.Test.YtjipchloebbldaaCat
import Derived.Test.YtjipchloebbldaaDeep
namespace Go.Proofs.Ytjipchloebbldaa
open Go.RowKit
set_option maxRecDepth 100000

theorem Try.field_L (a b : Int) (c : ByteArray) (p : Option Addr) (n m : Nat) (W : World) : (Instr.field 24 (.agg #[.int .i64 a, .int .i64 b, .string c, .slice p n m]) 3).run Try.prog W = .ok (.slice p n m) W := by kernel_rfl
attribute [local go_sem] Try.field_L

mutual
theorem vdp_le_sz : ∀ t, vdp t ≤ sz t
  | .mk k n s l => by have h := vdpAll_le_sz l; have := szAll_nonneg l; simp only [vdp, sz]; split <;> omega
theorem vdpAll_le_sz : ∀ l, vdpAll l ≤ szAll l
  | [] => by simp [vdpAll, szAll]
  | x :: r => by have h := vdp_le_sz x; have h2 := vdpAll_le_sz r; have := szAll_nonneg r; have := sz_pos x; simp only [vdpAll, szAll]; omega
end
/-- The code of a list that is made, as the program reckons it. -/
def vfit (l : List T) : Int := if 40 < 1 + vdpAll l then 9 else if 4096 < 1 + szAll l then 14 else 0
/-- A list that is made, or why not. -/
def madeS (c : Int) (l : List T) : List T × Int := if c = 0 then (l, 0) else ([], c)
/-- The answer is this list, in blocks from lo on, and this code. -/
def Ans (lo : Nat) (w : World) (r : List T × Int) (e : Ending) (w' : World) : Prop :=
  ∃ p cap, e = .returned (.tuple #[.slice p r.1.length cap, .int .i64 r.2]) ∧ r.1.length ≤ cap ∧ RepAll w' lo w'.heap.size r.1 p ∧ Below w.heap.size w w'
theorem ans_none {lo : Nat} {w w' : World} (c : Int) (h : Below w.heap.size w w') : Ans lo w ([], c) (.returned (.tuple #[.slice none 0 0, .int .i64 c])) w' :=
  ⟨none, 0, rfl, Nat.le_refl _, by unfold RepAll; trivial, h⟩

def hasB (n : Nat) (i : Int) : Bool := decide (1 ≤ i ∧ i ≤ (n : Int))
set_option maxHeartbeats 400000 in
theorem has_any (l : List T) (p : Option Addr) (cap : Nat) (i : Int) (w : World) (_hl : l.length ≤ 1000000) :
    Calls Try.prog 43 #[.slice p l.length cap, .int .i64 i] w fun e w' => e = .returned (.bool (hasB l.length i)) ∧ w' = w := by
  by_cases h1 : 1 ≤ i
  · by_cases h2 : i ≤ (l.length : Int)
    · have hd : hasB l.length i = true := by unfold hasB; simp; omega
      have HD := Lib.hid hd; clear hd
      go_enter Try.func43, Try.ntmps43
      go_wp2
      go_ret
      exact ⟨ret_bool HD.out.symm, rfl⟩
    · have hd : hasB l.length i = false := by unfold hasB; simp; omega
      have HD := Lib.hid hd; clear hd
      go_enter Try.func43, Try.ntmps43
      go_wp2
      go_ret
      exact ⟨ret_bool HD.out.symm, rfl⟩
  · have hd : hasB l.length i = false := by unfold hasB; simp; omega
    have HD := Lib.hid hd; clear hd
    go_enter Try.func43, Try.ntmps43
    go_wp2
    go_ret
    exact ⟨ret_bool HD.out.symm, rfl⟩

set_option maxHeartbeats 1000000 in
theorem sclone_any (l : List T) (w : World) (lo hi : Nat) (p : Option Addr) (cap : Nat) (hall : RepAll w lo hi l p) (hlc : l.length ≤ cap) (hcap : l.length * 56 ≤ 140737488355328) (hhi : hi ≤ w.heap.size) :
    Calls Try.prog 49 #[.slice p l.length cap] w (NewListF w l) := by
  have HL := Lib.hid (vL_any l w lo hi p cap hall hlc hcap hhi)
  go_enter Try.func49, Try.ntmps49
  go_wp2_with (go_at_call 40; refine HL.out.mono ?_; rintro e w2 ⟨⟨v, rfl, hv, hb2⟩, hnf2, hce2⟩; unfold mkList Rep at hv; obtain ⟨p2, cap2, rfl, _, _, _, hlc2, hcap2, hall2⟩ := hv; have HA2 := Lib.hid hall2; clear hall2; have HCE := Lib.hid (hce2 _ _ _ _ _ _ rfl); clear hce2; have HNF := Lib.hid hnf2; clear hnf2)
  go_ret
  exact ⟨⟨p2, cap2, rfl, hlc2, hcap, HA2.out, hb2⟩, HNF.out, fun _ _ _ h => by cases h; exact HCE.out⟩

set_option maxHeartbeats 2000000 in
theorem checked_any (l : List T) (w : World) (lo hi : Nat) (p : Option Addr) (cap : Nat) (hall : RepAll w lo hi l p) (hlc : l.length ≤ cap) (hcap : l.length * 56 ≤ 140737488355328) (hhi : hi ≤ w.heap.size) (hsz : szAll l ≤ 900000) :
    Calls Try.prog 45 #[.slice p l.length cap] w (Ans w.heap.size w (madeS (vfit l) l)) := by
  have hr : Rep w lo hi (.mk 4 0 ByteArray.empty l) (.agg #[.int .i64 4, .int .i64 0, .string ByteArray.empty, .slice p l.length cap]) := Rep.mk_ (by unfold I64; omega) (by unfold I64; omega) (by simp) hlc hcap hall
  have HR := Lib.hid hr; clear hr
  have hv1 : vdp (.mk 4 0 ByteArray.empty l) = 1 + vdpAll l := by rw [vdp]
  have hs1 : sz (.mk 4 0 ByteArray.empty l) = 1 + szAll l := by rw [sz]; simp
  have hle := vdpAll_le_sz l
  have HALL := Lib.hid hall; clear hall
  have HV := Lib.hid (vdeep_any (.mk 4 0 ByteArray.empty l) (w.alloc (.cells #[.int .i64 4, .int .i64 0, .string ⟨#[]⟩, .slice p l.length cap] 24)) lo hi _ (HR.out.alloc hhi _) (by simp; omega) (by omega))
  rw [hv1] at HV
  by_cases hd : 40 < 1 + vdpAll l
  · have HM : Hid (madeS (vfit l) l = ([], 9)) := by show _ = _; unfold madeS vfit; rw [if_pos hd]; rfl
    go_enter Try.func45, Try.ntmps45
    go_wp2_with (go_at_call 61; refine HV.out.mono ?_; rintro e w2 ⟨rfl, hb2⟩)
    go_ret2
    rw [HM.out]
    exact ans_none 9 (((Below.refl _ _).alloc (Nat.le_refl _) _).trans (hb2.mono (by simp)))
  · have HV2 : ∀ W, Below (w.heap.size + 1) (w.alloc (.cells #[.int .i64 4, .int .i64 0, .string ⟨#[]⟩, .slice p l.length cap] 24)) W → Calls Try.prog 62 #[.agg #[.int .i64 4, .int .i64 0, .string ⟨#[]⟩, .slice p l.length cap]] W fun e w' => e = .returned (.int .i64 (1 + szAll l)) ∧ Below W.heap.size W w' := fun W hW => by
      have h := size_any (.mk 4 0 ByteArray.empty l) W lo hi _ ((HR.out.alloc hhi _).below hW (by omega)) (by have := hW.size; simp at this; omega) (by omega)
      rw [hs1] at h
      exact h
    have HVS := Lib.hid HV2; clear HV2
    by_cases hz : 4096 < 1 + szAll l
    · have HM : Hid (madeS (vfit l) l = ([], 14)) := by show _ = _; unfold madeS vfit; rw [if_neg hd, if_pos hz]; rfl
      go_enter Try.func45, Try.ntmps45
      go_wp2_with (first
        | (go_at_call 61; refine HV.out.mono ?_; rintro e w2 ⟨rfl, hb2⟩; rw [World.size_alloc] at hb2; have HB2 := Lib.hid hb2; clear hb2; obtain ⟨hx0, hx1, hx2, hx3, hxf⟩ := box4_in w2 w.heap.size _ _ _ _ _ (heap_old (heap_alloc_new w _) (by rw [World.size_alloc]; exact HB2.out)); clear hxf)
        | (go_at_call 62; refine (HVS.out _ HB2.out).mono ?_; rintro e w3 ⟨rfl, hb3⟩; have HB3 := Lib.hid hb3; clear hb3))
      go_ret2
      rw [HM.out]
      exact ans_none 14 ((((Below.refl _ _).alloc (Nat.le_refl _) _).trans (HB2.out.mono (by omega))).trans (HB3.out.mono (by have := HB2.out.size; simp at this; omega)))
    · have HM : Hid (madeS (vfit l) l = (l, 0)) := by show _ = _; unfold madeS vfit; rw [if_neg hd, if_neg hz]; rfl
      go_enter Try.func45, Try.ntmps45
      go_wp2_with (first
        | (go_at_call 61; refine HV.out.mono ?_; rintro e w2 ⟨rfl, hb2⟩; rw [World.size_alloc] at hb2; have HB2 := Lib.hid hb2; clear hb2; obtain ⟨hx0, hx1, hx2, hx3, hxf⟩ := box4_in w2 w.heap.size _ _ _ _ _ (heap_old (heap_alloc_new w _) (by rw [World.size_alloc]; exact HB2.out)); clear hxf)
        | (go_at_call 62; refine (HVS.out _ HB2.out).mono ?_; rintro e w3 ⟨rfl, hb3⟩; have HB3 := Lib.hid (((Below.refl w.heap.size w).alloc (Nat.le_refl _) (.cells #[.int .i64 4, .int .i64 0, .string ⟨#[]⟩, .slice p l.length cap] 24)).trans (HB2.out.mono (by omega)) |>.trans (hb3.mono (by have := HB2.out.size; simp at this; omega))); clear hb3)
        | (go_at_call 49; refine (sclone_any l _ lo hi p cap (HALL.out.below HB3.out hhi) hlc hcap (by have := HB3.out.size; omega)).mono ?_; rintro e w4 ⟨⟨p4, cap4, rfl, h41, h42, h43, hb4⟩, _, _⟩; have H43 := Lib.hid h43; have HB4 := Lib.hid hb4; clear h43 hb4))
      go_ret2
      rw [HM.out]
      have hz3 := HB3.out.size
      exact ⟨p4, cap4, rfl, h41, H43.out.keep hz3 (Nat.le_refl _) (fun _ _ _ => rfl), HB3.out.trans (HB4.out.mono hz3)⟩
end Go.Proofs.Ytjipchloebbldaa
