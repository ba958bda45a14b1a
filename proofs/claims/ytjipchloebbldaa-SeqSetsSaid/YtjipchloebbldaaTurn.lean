/- seq.Turn: a copy, turned round. -/
import Derived.Test.YtjipchloebbldaaRow
import Derived.Test.YtjipchloebbldaaLay
import Derived.Test.YtjipchloebbldaaMade
namespace Go.Proofs.Ytjipchloebbldaa
open Go.RowKit Go.Sort
set_option maxRecDepth 100000

/-- The row laid with other places: what the library's word says of the world. -/
theorem heap_mapBlock_other (w : World) (b : Nat) (f : Array Value → Array Value) (k : Nat) (h : k ≠ b) : (mapBlock w b f).heap[k]? = w.heap[k]? := by
  unfold mapBlock; simp only [Array.getElem?_modify]; rw [if_neg (fun e => h e.symm)]
theorem below_putRowK (enc : Nat → List Value) (w : World) (n bo : Nat) (d : Array Nat) {B : Nat} (hB : B ≤ bo) : Below B w (putRowK enc 4 (Sort.ahead w n) bo 0 d) := by
  unfold putRowK putRow
  exact ⟨rfl, rfl, rfl, by simp [mapBlock, Sort.ahead], fun k hk => (heap_mapBlock_other _ _ _ k (by omega)).trans rfl⟩
theorem reverse_any (l : List T) (W : World) (bo : Nat) (enc : Nat → List Value) (hL : Lies W bo l enc) (hH : HoldsK enc 4 W bo 0 (Array.range l.length)) (hbo : bo < W.heap.size) (hlen : l.length ≤ 1000000) :
    Calls Try.prog 56 #[.slice (some ⟨bo, 0, none⟩) l.length l.length] W fun e w' => e = .returned (.tuple #[]) ∧ RepAll w' bo w'.heap.size l.reverse (some ⟨bo, 0, none⟩) ∧ Below bo W w' := by
  have h := AnyQ.slices_Reverse Try.laysRev 4 Try.isAgg24 Try.sizeOf24 enc hL.len hL.one bo 0 l.length (Array.range l.length) W hH (by rw [Array.size_range]; omega)
  rw [Array.size_range] at h
  refine h.mono ?_
  rintro e w' ⟨rfl, n, rfl⟩
  have hb := below_putRowK enc W n bo (Array.range l.length).reverse (Nat.le_refl bo)
  refine ⟨rfl, ?_, hb⟩
  have hs : (putRowK enc 4 (Sort.ahead W n) bo 0 (Array.range l.length).reverse).heap.size = W.heap.size := by unfold putRowK putRow; simp [mapBlock, Sort.ahead]
  refine Lies.all (hL.keep (by omega) (fun k h1 h2 => ?_)) (holdsK_putRowK enc 4 _ bo 0 (Array.range l.length) _ (holdsK_ahead _ _ _ _ _ _ _ hH) (by simp)) (by omega) (by simp) (fun i hi => ?_)
  · unfold putRowK putRow; exact (heap_mapBlock_other _ _ _ k (by omega)).trans rfl
  · simp only [Array.size_reverse, Array.size_range] at hi
    refine ⟨by simp; omega, ?_⟩
    simp [List.getElem_reverse]

set_option maxHeartbeats 1000000 in
theorem turn_any (l : List T) (p : Option Addr) (cap : Nat) (w : World) (lo hi : Nat) (hall : RepAll w lo hi l p) (hlc : l.length ≤ cap) (hlen : l.length ≤ 1000000) (hhi : hi ≤ w.heap.size) :
    Calls Try.prog 36 #[.slice p l.length cap] w (Glued w.heap.size w l.reverse) := by
  have HK := Lib.hid (sclone_row l w lo hi p cap hall hlc (by omega) hhi)
  by_cases h0 : l = []
  · have HE : Hid (∀ (a : Option Addr) (W : World), Calls Try.prog 56 #[.slice a l.length l.length] W fun e w' => e = .returned (.tuple #[]) ∧ w' = W) := by
      show ∀ _ _, _
      rw [h0]
      exact fun a W => AnyQ.slices_Reverse_empty Try.laysRev a 0 W
    have H0 := Lib.hid h0
    clear h0
    go_enter Try.func36, Try.ntmps36
    go_wp2_with (first
      | (go_at_call 49; (with_reducible refine HK.out.mono ?_); rintro e w2 ⟨p2, rfl, hr, hb⟩; clear hr)
      | (go_at_call 56; (refine (HE.out _ _).mono ?_); rintro e w3 ⟨rfl, rfl⟩))
    go_ret
    exact ⟨p2, l.length, by rw [List.length_reverse]; rfl, by rw [List.length_reverse]; exact Nat.le_refl _, by rw [H0.out]; unfold List.reverse List.reverseAux RepAll; trivial, hb⟩
  · have HR := Lib.hid (fun W bo enc h1 h2 h3 => reverse_any l W bo enc h1 h2 h3 hlen)
    go_enter Try.func36, Try.ntmps36
    go_wp2_with (first
      | (go_at_call 49; (with_reducible refine HK.out.mono ?_); rintro e w2 ⟨p2, rfl, hr, hb⟩; rcases hr with ⟨h, _⟩ | ⟨bo, hbo, rfl, hp⟩; (exact absurd h h0); obtain ⟨enc, hL, hH⟩ := hp.lies; have hlt := hp.lt; have HL := Lib.hid hL; have HH := Lib.hid hH; clear hL hH hp)
      | (go_at_call 56; (refine (HR.out _ _ _ HL.out HH.out hlt).mono ?_); rintro e w3 ⟨rfl, hall3, hb3⟩; have H3 := Lib.hid hall3; clear hall3))
    go_ret
    exact ⟨some ⟨bo, 0, none⟩, l.length, by rw [List.length_reverse]; rfl, by rw [List.length_reverse]; exact Nat.le_refl _, H3.out.keep hbo (Nat.le_refl _) (fun _ _ _ => rfl), hb.trans (hb3.mono hbo)⟩
end Go.Proofs.Ytjipchloebbldaa
