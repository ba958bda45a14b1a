/- seq.Each: what its walks hand out. -/
import Derived.Test.YtjipchloebbldaaLawSeqSays
import Derived.Test.YtjipchloebbldaaHands
import Derived.OwnWalkIn
import Derived.TacticsInMore
import Derived.LoopNIn
import Derived.LoopIn
import Derived.Shelf.Abstract
import Derived.Shelf.RegionOpen
namespace Go.Proofs.Ytjipchloebbldaa
open Go.RowKit
set_option maxRecDepth 100000
attribute [local go_sem] Oper.semAt_some

/-- Where the list lies that is gone through: the box B holds it. -/
structure KwE (L : List T) (B lo hi : Nat) (p : Option Addr) (cap : Nat) (X : World) : Prop where
  box : X.heap[B]? = some (.cells #[.slice p L.length cap] 22 (0, 0))
  all : RepAll X lo hi L p
  le : hi ≤ X.heap.size
/-- What a round is handed: its place, and a copy in new memory. -/
structure HdE (L : List T) (j : Nat) (xs : Array Value) (b : Nat) (X : World) : Prop where
  is_ : ∃ (h : j < L.length) (k n : Int) (s : ByteArray) (q : Option Addr) (len : Nat), xs = #[.int .i64 ((j : Int) + 1), .agg #[.int .i64 k, .int .i64 n, .string s, .slice q len len]] ∧ Rep X b X.heap.size L[j] (.agg #[.int .i64 k, .int .i64 n, .string s, .slice q len len])
  frz : NoFrz X b X.heap.size
  le : b ≤ X.heap.size
theorem cell_one (w : World) (g : Nat) (v : Value) (t : TypeId) (h : w.heap[g]? = some (.cells #[v] t (0, 0))) : w.cell? ⟨g, 0, none⟩ = some v ∧ w.frozen? ⟨g, 0, none⟩ = false :=
  ⟨(cell_of_row _ _ 0 _ _ _ h).trans rfl, by simp [World.frozen?, h]⟩

set_option maxHeartbeats 2000000 in
theorem each_hands (n : Nat) (hn : 1 ≤ n) (L : List T) (B lo hi : Nat) (p : Option Addr) (cap : Nat) (hL : L.length ≤ 1000000) :
    Hands Fence.wide n Try.prog 50 #[.pointer (some ⟨B, 0, none⟩)] (HdE L) L.length (KwE L B lo hi p cap) := by
  intro l J Jx W hJ hK hY h0
  have HJ := Lib.hid hJ
  have HK := Lib.hid hK
  have HY := Lib.hid hY
  have H0 := Lib.hid h0
  have hk := hK 0 W h0
  have hlt := heap_lt hk.box
  obtain ⟨hc, hf⟩ := cell_one _ _ _ _ hk.box
  clear hJ hK hY h0 hk
  refine callsIn_of_wp Try.func50 rfl trivial ?_ rfl
  simp only [Try.ntmps50, List.size_toArray, List.length_cons, List.length_nil, Nat.reduceAdd, Nat.reduceSub, Array.replicate_succ, Array.replicate_zero, List.push_toArray, List.append_toArray, List.nil_append, List.cons_append]
  gi_wp2
  gi_loopw [7] (fun i wr => ∃ j : Nat, j ≤ L.length ∧ i = .int .i64 j ∧ Hid (J j wr)) (fun i _ => L.length - (intOf i).toNat)
  case atStart => exact ⟨0, Nat.zero_le _, rfl, H0⟩
  case round =>
    obtain ⟨j, hj, rfl, HJj⟩ := hrel
    by_cases hlj : j < L.length
    · have hkj := HK.out j wr HJj.out
      obtain ⟨b, off, k1, n1, s1, l1, q1, cc1, hp, _, hbhi, hli, h0, h1, h2, h3, hrep⟩ := hkj.all.item j hlj
      have hle := hkj.le
      have HR := Lib.hid (hrep.alloc hle (.cells #[.int .i64 k1, .int .i64 n1, .string s1, .slice q1 l1.length cc1] 24))
      have hbw : b < wr.heap.size := by omega
      subst hp
      clear hkj hrep hli hc hf
      gi_wp2
      refine ⟨trivial, ?_⟩
      refine (callsIn_wide.2 (clone_any L[j] _ lo hi _ HR.out (by simp; omega))).mono ?_
      rintro e w2 ⟨⟨v, rfl, hv, hb2⟩, hnf, hcp⟩
      obtain ⟨k2, n2, s2, q2, len2, cap2, rfl⟩ := rep_form hv
      obtain rfl : cap2 = len2 := hcp _ _ _ _ _ _ rfl
      have hbw2 : Below wr.heap.size wr w2 := ((Below.refl wr.heap.size wr).alloc (Nat.le_refl _) _).trans (hb2.mono (by simp))
      rw [World.size_alloc] at hv hnf
      have hz2 := hb2.size
      rw [World.size_alloc] at hz2
      obtain ⟨fn, tmps, assign, body, hy, hR⟩ := HY.out j #[.int .i64 ((j : Int) + 1), .agg #[.int .i64 k2, .int .i64 n2, .string s2, .slice q2 cap2 cap2]] wr.heap.size w2 (HJ.out j wr w2 HJj.out hbw2) ⟨wr, HJj.out, rfl⟩ hlj
        ⟨⟨hlj, k2, n2, s2, q2, cap2, rfl, hv.keep (by omega) (Nat.le_refl _) (fun _ _ _ => rfl)⟩, fun b' o h1 h2 => by
          by_cases e : b' = wr.heap.size
          · subst e
            exact (box4_in w2 wr.heap.size _ _ _ _ _ (heap_old (heap_alloc_new wr _) hb2)).2.2.2.2 o
          · exact hnf b' o (by omega) h2, hbw2.size⟩
      clear hv hnf hb2 hcp
      gi_wp2
      refine hR.mono ?_
      rintro e W3 (⟨rfl, hJ3⟩ | ⟨rfl, hJx3⟩)
      · have HJ3 := Lib.hid hJ3
        clear hJ3
        gi_wp2
        go_roundw
        case rel => exact ⟨j + 1, by omega, by simp, HJ3⟩
        case measure => simp [intOf]; omega
      · gi_wp2
        refine bodyPost_ret (results_none rfl _ _ _) rfl ?_
        exact ⟨⟨_, rfl⟩, .inr hJx3⟩
    · have hje : j = L.length := by omega
      subst hje
      gi_wp2
      go_end0
      exact ⟨⟨_, rfl⟩, .inl HJj.out⟩
end Go.Proofs.Ytjipchloebbldaa
