/- SeqQuota: what would be too great, or too deep, is refused. -/
import Derived.Test.YtjipchloebbldaaFind
namespace Go.Proofs.Ytjipchloebbldaa
open Go.RowKit
set_option maxRecDepth 100000

/-- A row of zeros, as a list. -/
theorem zeros_all {W : World} {g n N : Nat} (h : W.heap[g]? = some (.cells (madeCells #[.int .i64 0, .int .i64 0, .string ⟨#[]⟩, .slice none 0 0] (n * 4)) 24 (0, 0))) (hN : N ≤ n) : RepAll W 0 W.heap.size (List.replicate N zeroT) (some ⟨g, 0, none⟩) := by
  have hc : ∀ o, W.cell? ⟨g, o, none⟩ = (madeCells #[.int .i64 0, .int .i64 0, .string ⟨#[]⟩, .slice none 0 0] (n * 4))[o]? := fun o => cell_of_row _ _ o _ _ _ h
  have hm : ∀ i r : Nat, i < n → r < 4 → (madeCells #[.int .i64 0, .int .i64 0, .string ⟨#[]⟩, .slice none 0 0] (n * 4))[i * 4 + r]? = some ((#[.int .i64 0, .int .i64 0, .string ⟨#[]⟩, .slice none 0 0] : Array Value)[r]!) := fun i r hi hr => by
    have e : (i * 4 + r) % 4 = r := by omega
    have hlt : i * 4 + r < n * 4 := by omega
    simp [madeCells, hlt, e]
  refine RepAll.of (Nat.zero_le _) (heap_lt h) _ 0 (fun i hi => ?_)
  have hi' : i < N := by simpa using hi
  rw [Nat.zero_add, List.getElem_replicate]
  have h0 := hm i 0 (by omega) (by omega)
  rw [Nat.add_zero] at h0
  exact ⟨_, _, _, _, (hc _).trans h0, (hc _).trans (hm i 1 (by omega) (by omega)), (hc _).trans (hm i 2 (by omega) (by omega)), (hc _).trans (hm i 3 (by omega) (by omega)), rep_zero⟩
theorem zeros_sz : ∀ N, szAll (List.replicate N zeroT) = N
  | 0 => by simp [szAll]
  | N + 1 => by rw [List.replicate_succ, szAll, zeros_sz N]; simp [zeroT, sz, szAll]; omega
theorem zeroT_vdp : vdp zeroT = 1 := by simp [zeroT, vdp, vdpAll]
theorem zeros_vdp : ∀ N, vdpAll (List.replicate N zeroT) ≤ 1
  | 0 => by simp [vdpAll]
  | N + 1 => by rw [List.replicate_succ, vdpAll]; have := zeros_vdp N; have := zeroT_vdp; omega
theorem quota_ins (N : Nat) : insS vfit (List.replicate N zeroT) (tI 1) 1 = if N ≤ 4094 then (tI 1 :: List.replicate N zeroT, 0) else ([], 14) := by
  have h : insAt (List.replicate N zeroT).length 1 = 0 := by unfold insAt; simp; omega
  unfold insS; rw [h]
  have e : ((List.replicate N zeroT).take 0 ++ [tI 1] ++ (List.replicate N zeroT).drop 0) = tI 1 :: List.replicate N zeroT := by simp
  rw [e]
  have h1 : vdpAll (tI 1 :: List.replicate N zeroT) ≤ 1 := by rw [vdpAll]; have := zeros_vdp N; simp [tI, vdp, vdpAll]; omega
  have h2 : szAll (tI 1 :: List.replicate N zeroT) = N + 1 := by rw [szAll, zeros_sz, tI_sz]; omega
  have hv : vfit (tI 1 :: List.replicate N zeroT) = if N ≤ 4094 then 0 else 14 := by
    unfold vfit
    rw [if_neg (by omega), h2]
    by_cases hN : N ≤ 4094
    · rw [if_neg (by omega), if_pos hN]
    · rw [if_pos (by omega), if_neg hN]
  rw [hv]
  by_cases hN : N ≤ 4094
  · rw [if_pos hN, if_pos hN]; rfl
  · rw [if_neg hN, if_neg hN]; rfl
/-- So many lists, one in the other, round the Int 1. -/
def nst : Nat → T
  | 0 => tI 1
  | n + 1 => mkList [nst n]
theorem nst_sz : ∀ n, sz (nst n) = n + 1
  | 0 => by rw [nst, tI_sz]; rfl
  | n + 1 => by rw [nst, mkList, sz, szAll, szAll, nst_sz n]; simp; omega
theorem nst_vdp : ∀ n, vdp (nst n) = n + 1
  | 0 => by simp [nst, tI, vdp, vdpAll]
  | n + 1 => by rw [nst, mkList, vdp, vdpAll, vdpAll, nst_vdp n]; omega
def fitD (D : Int) : Int := if D + 1 ≤ 40 then 0 else 9
theorem quota_one (n : Nat) (hn : n ≤ 100) : madeS (vfit [nst n]) [nst n] = (if (n : Int) + 2 ≤ 40 then [nst n] else [], fitD ((n : Int) + 1)) := by
  have h1 : vdpAll [nst n] = n + 1 := by rw [vdpAll, nst_vdp, vdpAll]; omega
  have h2 : szAll [nst n] = n + 1 := by rw [szAll, nst_sz, szAll]; omega
  have hv : vfit [nst n] = fitD ((n : Int) + 1) := by
    unfold vfit fitD
    rw [h1, h2]
    by_cases h : (n : Int) + 2 ≤ 40
    · rw [if_neg (by omega), if_neg (by omega), if_pos (by omega)]
    · rw [if_pos (by omega), if_neg (by omega)]
  rw [hv]
  unfold madeS fitD
  by_cases h : (n : Int) + 2 ≤ 40
  · rw [if_pos (by omega : (n : Int) + 1 + 1 ≤ 40), if_pos rfl, if_pos h]
  · rw [if_neg (by omega : ¬ (n : Int) + 1 + 1 ≤ 40), if_neg (by omega), if_neg h]
theorem quota_insD (n : Nat) (hn : n ≤ 100) : insS vfit [] (nst n) 1 = (if (n : Int) + 2 ≤ 40 then [nst n] else [], fitD ((n : Int) + 1)) := by
  rw [← quota_one n hn]; rfl
theorem quota_withD (n : Nat) (hn : n ≤ 100) : withS vfit [] (nst n) = (if (n : Int) + 2 ≤ 40 then [nst n] else [], fitD ((n : Int) + 1)) := by
  rw [← quota_one n hn]; rfl
theorem quota_putD (n : Nat) (hn : n ≤ 100) : putS vfit [tI 1] 1 (nst n) = (if (n : Int) + 2 ≤ 40 then [nst n] else [], fitD ((n : Int) + 1)) := by
  rw [← quota_one n hn]; rfl
theorem quota_two : madeS (vfit ([tI 1] ++ [tI 1])) ([tI 1] ++ [tI 1]) = ([tI 1, tI 1], 0) := by
  have h1 : vdpAll [tI 1, tI 1] = 1 := by simp [tI, vdpAll, vdp]; omega
  have h2 : szAll [tI 1, tI 1] = 2 := by simp [tI, szAll, sz]
  have hv : vfit [tI 1, tI 1] = 0 := by unfold vfit; rw [h1, h2]; rfl
  show madeS (vfit [tI 1, tI 1]) [tI 1, tI 1] = _
  rw [hv]; rfl

/-- Where the nesting stands: the box g holds so many lists; all that lay below it is as it was. -/
structure NAt (g : Nat) (W0 : World) (n : Nat) (W : World) : Prop where
  bel : Below g W0 W
  val : ∃ k m s p len cap, W.heap[g]? = some (bx k m s p len cap) ∧ Rep W (g + 1) W.heap.size (nst n) (.agg #[.int .i64 k, .int .i64 m, .string s, .slice p len cap])
end Go.Proofs.Ytjipchloebbldaa
