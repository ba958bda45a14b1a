/- seq.Sort. -/
import Derived.Test.YtjipchloebbldaaSortC
import Derived.Test.YtjipchloebbldaaTurn
namespace Go.Proofs.Ytjipchloebbldaa
open Go.RowKit Go.Sort
set_option maxRecDepth 100000

/-- The items at the places d. -/
def itemsAt (l : List T) (d : Array Nat) : List T := d.toList.map (fun x => l.getD x zeroT)
theorem itemsAt_range (l : List T) : itemsAt l (Array.range l.length) = l := by
  unfold itemsAt
  refine List.ext_getElem (by simp) (fun i h1 h2 => ?_)
  simp [h2]
theorem itemsAt_perm (l : List T) (d : Array Nat) (h : PermIn 0 l.length (Array.range l.length) d) : (itemsAt l d).Perm l := by
  have hs : d.size = l.length := by rw [h.1, Array.size_range]
  have hp := h.2.2
  rw [Array.extract_eq_self_of_le (by omega), Array.extract_eq_self_of_le (by simp)] at hp
  have := hp.map (fun x => l.getD x zeroT)
  have e := itemsAt_range l
  unfold itemsAt at e ⊢
  rw [e] at this
  exact this
theorem itemsAt_sorted (l : List T) (d : Array Nat) (hs : d.size = l.length) (h : SortedIn (ltP l) 0 l.length d) : (itemsAt l d).Pairwise (fun a b => ¬ ord b a < 0) := by
  rw [List.pairwise_iff_getElem]
  intro i j h1 h2 hij
  unfold itemsAt at h1 h2 ⊢
  simp only [List.length_map, Array.length_toList] at h1 h2
  have := h i j (Nat.zero_le _) hij (by omega)
  rw [getElem!_pos d i h1, getElem!_pos d j h2] at this
  unfold ltP at this
  simpa using this
theorem SortS.all_rep {l : List T} {enc : Nat → List Value} {bo gx : Nat} {d : Array Nat} {W : World} (h : SortS l enc bo gx d W) : RepAll W bo W.heap.size (itemsAt l d) (some ⟨bo, 0, none⟩) := by
  refine Lies.all h.lies h.row h.bo_lt (by unfold itemsAt; simp) (fun i hi => ?_)
  have h1 := h.all i (by rw [← h.size]; exact hi)
  rw [getElem!_pos d i hi] at h1
  exact ⟨h1, by unfold itemsAt; simp [List.getD, h1]⟩

def Sorted (lo : Nat) (w : World) (l : List T) (e : Ending) (w' : World) : Prop := ∃ l', l'.Perm l ∧ l'.Pairwise (fun a b => ¬ ord b a < 0) ∧ Glued lo w l' e w'

set_option maxHeartbeats 2000000 in
theorem sort_any (l : List T) (p : Option Addr) (cap : Nat) (w : World) (lo hi : Nat) (hO : SWO (ltP l)) (hall : RepAll w lo hi l p) (hlc : l.length ≤ cap) (hlen : l.length ≤ 1000000) (hhi : hi ≤ w.heap.size) :
    Calls Try.prog 33 #[.slice p l.length cap] w (Sorted w.heap.size w l) := by
  have HK := Lib.hid (sclone_row l w lo hi p cap hall hlc (by omega) hhi)
  by_cases h0 : l = []
  · have HE : Hid (∀ (a : Option Addr) (lb : Array Value) (W : World), Calls Try.prog 53 #[.iface 22 (.slice a l.length l.length), .func (.func 54) #[] lb] W fun e w' => e = .returned (.tuple #[]) ∧ Below W.heap.size W w') := by
      show ∀ _ _ _, _
      rw [h0]
      exact fun a lb W => sliceStable_none a W lb
    have H0 := Lib.hid h0
    clear h0
    go_enter Try.func33, Try.ntmps33
    go_wp2_with (first
      | (go_at_call 49; (with_reducible refine HK.out.mono ?_); rintro e w2 ⟨p2, rfl, hr, hb⟩; clear hr; have HB := Lib.hid hb; clear hb)
      | (go_at_call 53; (refine (HE.out _ _ _).mono ?_); rintro e w3 ⟨rfl, hb3⟩; have hc3 := (hb3.cell (p := ⟨w2.heap.size, 0, none⟩) (by simp)); have HB3 := Lib.hid hb3; clear hb3; have hx : (w2.alloc (.cells #[.slice p2 l.length l.length] 22)).cell? ⟨w2.heap.size, 0, none⟩ = some (.slice p2 l.length l.length) := (by simp); rw [hx] at hc3; clear hx))
    go_ret
    exact ⟨l, List.Perm.refl _, by rw [H0.out]; exact List.Pairwise.nil, p2, l.length, rfl, Nat.le_refl _, by rw [H0.out]; unfold RepAll; trivial, HB.out.trans ((((Below.refl w2.heap.size w2).alloc (Nat.le_refl _) _).trans (HB3.out.mono (by simp))).mono HB.out.size)⟩
  · have HC := Lib.hid (fun enc bo gx d W h => sliceStable_any l enc bo gx hO h0 hlen d W h)
    go_enter Try.func33, Try.ntmps33
    go_wp2_with (first
      | (go_at_call 49; (with_reducible refine HK.out.mono ?_); rintro e w2 ⟨p2, rfl, hr, hb⟩; rcases hr with ⟨h, _⟩ | ⟨bo, hbo, rfl, hp⟩; (exact absurd h h0); obtain ⟨enc, hL, hH⟩ := hp.lies; have hlt := hp.lt; have HL := Lib.hid hL; have HH := Lib.hid hH; have HB := Lib.hid hb; clear hL hH hp hb; have hBx : Below w2.heap.size w2 (w2.alloc (.cells #[.slice (some ⟨bo, 0, none⟩) l.length l.length] 22)) := ((Below.refl w2.heap.size w2).alloc (Nat.le_refl _) _); have HSo : Hid (SortS l enc bo w2.heap.size (Array.range l.length) (w2.alloc (.cells #[.slice (some ⟨bo, 0, none⟩) l.length l.length] 22))) := (⟨HoldsK.below HH.out hBx hlt, by simp, fun i hi => (by rw [getElem!_pos _ _ (by simpa using hi)]; simpa using hi), HL.out.keep hBx.size (fun k _ h2 => hBx.block k h2), by simp, by simp; omega, by simp, by omega⟩); have HBx := Lib.hid hBx; clear hBx)
      | (go_at_call 53; (refine (HC.out _ _ _ _ _ HSo.out).mono ?_); rintro e w3 ⟨rfl, d', hs3, hk3, hp3, hq3⟩; have hc3 := hs3.box; have HS3 := Lib.hid hs3; have HK3 := Lib.hid hk3; have HP3 := Lib.hid hp3; have HQ3 := Lib.hid hq3; clear hs3 hk3 hp3 hq3))
    go_ret
    have hle := (itemsAt_perm l d' HP3.out).length_eq
    exact ⟨itemsAt l d', itemsAt_perm l d' HP3.out, itemsAt_sorted l d' HS3.out.size HQ3.out, some ⟨bo, 0, none⟩, l.length, by rw [hle]; rfl, by omega, HS3.out.all_rep.keep hbo (Nat.le_refl _) (fun _ _ _ => rfl), HB.out.trans ((HBx.out.mono HB.out.size).trans (HK3.out.below hbo (by have := HB.out.size; simp; omega)))⟩
end Go.Proofs.Ytjipchloebbldaa
