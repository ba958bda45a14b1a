/- A region's operations are free of one another, checked off three short tables: for a region of a hundred operations. No program is named. -/
import Derived.NoCompilerSame
import Derived.Still
namespace Go.Proofs.Ytemkikjcjhmlaaa

def apt (d : Nat) (l : List Nat) (d' : Nat) (l' : List Nat) : Bool :=
  (match d with | x + 1 => !(l'.any (Nat.beq x)) && !(Nat.beq d' (x + 1)) | 0 => true) && (match d' with | x + 1 => !(l.any (Nat.beq x)) | 0 => true)
def pairs (k d : Nat) (l : List Nat) : List (List Nat) → List Nat → List (List Nat) → Bool
  | a :: A, d' :: D, l' :: L => (a.any (Nat.beq k) || apt d l d' l') && pairs k d l A D L
  | _, _, _ => true
def chkFrom : Nat → List (List Nat) → List Nat → List (List Nat) → Bool
  | k, a :: A, d :: D, l :: L => a.all (fun x => Nat.blt x k) && (pairs k d l A D L && chkFrom (k + 1) A D L)
  | _, _, _, _ => true

theorem pairs_spec {k d : Nat} {l : List Nat} : ∀ (A : List (List Nat)) (D : List Nat) (L : List (List Nat)), pairs k d l A D L = true → ∀ (j : Nat) (a : List Nat) (d' : Nat) (l' : List Nat), A[j]? = some a → D[j]? = some d' → L[j]? = some l' → (a.any (Nat.beq k) || apt d l d' l') = true
  | a :: A, d' :: D, l' :: L, h, 0, _, _, _, e1, e2, e3 => by
    simp only [pairs, Bool.and_eq_true] at h
    simp only [List.getElem?_cons_zero, Option.some.injEq] at e1 e2 e3
    subst e1 e2 e3
    exact h.1
  | a :: A, d' :: D, l' :: L, h, j + 1, _, _, _, e1, e2, e3 => by
    simp only [pairs, Bool.and_eq_true] at h
    exact pairs_spec A D L h.2 j _ _ _ (by simpa using e1) (by simpa using e2) (by simpa using e3)
  | [], _, _, _, _, _, _, _, e1, _, _ => by simp at e1
  | _ :: _, [], _, _, _, _, _, _, _, e2, _ => by simp at e2
  | _ :: _, _ :: _, [], _, _, _, _, _, _, _, e3 => by simp at e3

theorem chkFrom_spec : ∀ (A : List (List Nat)) (D : List Nat) (L : List (List Nat)) (k : Nat), chkFrom k A D L = true → ∀ (i : Nat) (a : List Nat) (d : Nat) (l : List Nat), A[i]? = some a → D[i]? = some d → L[i]? = some l →
    (a.all (fun x => Nat.blt x (k + i)) = true ∧ ∀ (j : Nat) (a' : List Nat) (d' : Nat) (l' : List Nat), i < j → A[j]? = some a' → D[j]? = some d' → L[j]? = some l' → (a'.any (Nat.beq (k + i)) || apt d l d' l') = true)
  | a :: A, d :: D, l :: L, k, h, 0, _, _, _, e1, e2, e3 => by
    simp only [chkFrom, Bool.and_eq_true] at h
    simp only [List.getElem?_cons_zero, Option.some.injEq] at e1 e2 e3
    subst e1 e2 e3
    refine ⟨h.1, fun j a' d' l' hj f1 f2 f3 => ?_⟩
    obtain ⟨j, rfl⟩ : ∃ i, j = i + 1 := ⟨j - 1, by omega⟩
    exact pairs_spec A D L h.2.1 j a' d' l' (by simpa using f1) (by simpa using f2) (by simpa using f3)
  | a :: A, d :: D, l :: L, k, h, i + 1, _, _, _, e1, e2, e3 => by
    simp only [chkFrom, Bool.and_eq_true] at h
    have ih := chkFrom_spec A D L (k + 1) h.2.2 i _ _ _ (by simpa using e1) (by simpa using e2) (by simpa using e3)
    rw [show k + 1 + i = k + (i + 1) by omega] at ih
    refine ⟨ih.1, fun j a' d' l' hj f1 f2 f3 => ?_⟩
    obtain ⟨j, rfl⟩ : ∃ i, j = i + 1 := ⟨j - 1, by omega⟩
    exact ih.2 j a' d' l' (by omega) (by simpa using f1) (by simpa using f2) (by simpa using f3)
  | [], _, _, _, _, _, _, _, _, e1, _, _ => by simp at e1
  | _ :: _, [], _, _, _, _, _, _, _, _, e2, _ => by simp at e2
  | _ :: _, _ :: _, [], _, _, _, _, _, _, _, _, e3 => by simp at e3

theorem nbeq (a b : Nat) : Nat.beq a b = (a == b) := by
  rw [Bool.eq_iff_iff, Nat.beq_eq, beq_iff_eq]
theorem any_beq (l : List Nat) (k : Nat) : l.any (Nat.beq k) = l.contains k := by
  rw [List.contains_eq_any_beq]
  congr 1
  funext x
  exact nbeq k x
theorem apt_eq (T : RegionTabs) (x y : Nat) : T.apart x y = apt (T.dst.getD x 0) (T.looks.getD x []) (T.dst.getD y 0) (T.looks.getD y []) := by
  unfold RegionTabs.apart apt
  cases T.dst.getD x 0 <;> cases T.dst.getD y 0 <;> simp only [any_beq, nbeq] <;> rfl

theorem getD_irrel {l : Array Bool} {i : Nat} (h : i < l.size) (a b : Bool) : l.getD i a = l.getD i b := by
  simp [Array.getD, h]

theorem lexFrom_of (ops : Array Oper) (H1 : ∀ i, i < ops.size → ((RegionTabs.of .any ops).after.getD i []).all (fun x => Nat.blt x i) = true)
    (H2 : ∀ i j, i < j → j < ops.size → (((RegionTabs.of .any ops).after.getD j []).contains i || (RegionTabs.of .any ops).apart i j) = true) :
    ∀ (fuel k : Nat) (listed : Array Bool), k + fuel = ops.size → listed.size = ops.size → (∀ i, i < ops.size → listed.getD i true = decide (i < k)) → Region.lexFrom .any ops fuel k listed = true
  | 0, k, listed, hk, hs, hl => by
    have hsz : (RegionTabs.of .any ops).after.size = ops.size := by simp [RegionTabs.of, Region.tabAfter]
    unfold Region.lexFrom
    rw [← RegionTabs.ready_eq, List.isEmpty_iff]
    unfold RegionTabs.ready
    rw [hsz, List.filter_eq_nil_iff]
    intro i hi
    rw [List.mem_range] at hi
    rw [hl i hi, decide_eq_true (by omega)]
    simp
  | fuel + 1, k, listed, hk, hs, hl => by
    have hsz : (RegionTabs.of .any ops).after.size = ops.size := by simp [RegionTabs.of, Region.tabAfter]
    have hkn : k < ops.size := by omega
    unfold Region.lexFrom
    rw [Bool.and_eq_true, Bool.and_eq_true]
    refine ⟨⟨?_, ?_⟩, ?_⟩
    · rw [← RegionTabs.ready_eq, List.contains_iff_mem]
      unfold RegionTabs.ready
      rw [hsz, List.mem_filter, List.mem_range]
      refine ⟨hkn, ?_⟩
      have h1 := H1 k hkn
      have hat : (RegionTabs.of .any ops).after[k]? = some ((RegionTabs.of .any ops).after.getD k []) := by
        rw [Array.getD_eq_getD_getElem?, Array.getElem?_eq_getElem (by omega)]; rfl
      rw [hl k hkn, decide_eq_false (by omega), hat]
      simp only [Bool.not_false, Bool.true_and, Option.map_some, Option.getD_some]
      rw [List.all_eq_true] at h1 ⊢
      intro x hx
      have hxk : x < k := by have := h1 x hx; rw [Nat.blt_eq] at this; exact this
      rw [getD_irrel (by omega) false true, hl x (by omega), decide_eq_true hxk]
    · rw [← RegionTabs.free_eq]
      unfold RegionTabs.free
      rw [hsz, decide_eq_true hkn, Bool.true_and, List.all_eq_true]
      intro j hj
      rw [List.mem_range] at hj
      rw [hl j hj]
      by_cases h1 : j < k
      · rw [decide_eq_true h1]; simp
      · by_cases h2 : j = k
        · subst h2; simp
        · have := H2 k j (by omega) hj
          rw [Bool.or_assoc, this]; simp
    · refine lexFrom_of ops H1 H2 fuel (k + 1) _ (by omega) (by simpa using hs) (fun i hi => ?_)
      by_cases hik : k = i
      · subst hik
        rw [decide_eq_true (by omega)]
        simp [Array.getD, hs, hi]
      · have h := hl i hi
        have e : decide (i < k + 1) = decide (i < k) := by
          by_cases h1 : i < k
          · rw [decide_eq_true h1, decide_eq_true (by omega)]
          · rw [decide_eq_false h1, decide_eq_false (by omega)]
        rw [e, ← h]
        simp only [Array.getD_eq_getD_getElem?]
        rw [Array.getElem?_setIfInBounds_ne hik]

theorem lexB_fast {ops : Array Oper} {A : List (List Nat)} {D : List Nat} {L : List (List Nat)} (hA : Region.tabAfter .any ops = A) (hD : Region.tabDst ops = D) (hL : Region.tabLooks ops = L) (hn : Region.noSelect ops = true) (hc : chkFrom 0 A D L = true) : Region.lexB .any ops = true := by
  subst hA hD hL
  have hs := chkFrom_spec _ _ _ 0 hc
  have hlA : (Region.tabAfter .any ops).length = ops.size := by simp [Region.tabAfter]
  have hlD : (Region.tabDst ops).length = ops.size := by simp [Region.tabDst]
  have hlL : (Region.tabLooks ops).length = ops.size := by simp [Region.tabLooks]
  have gA : ∀ i, i < ops.size → (Region.tabAfter .any ops)[i]? = some ((RegionTabs.of .any ops).after.getD i []) := fun i hi => by
    simp [RegionTabs.of, Array.getD_eq_getD_getElem?, List.getElem?_eq_getElem (show i < (Region.tabAfter .any ops).length by omega)]
  have gD : ∀ i, i < ops.size → (Region.tabDst ops)[i]? = some ((RegionTabs.of .any ops).dst.getD i 0) := fun i hi => by
    simp [RegionTabs.of, Array.getD_eq_getD_getElem?, List.getElem?_eq_getElem (show i < (Region.tabDst ops).length by omega)]
  have gL : ∀ i, i < ops.size → (Region.tabLooks ops)[i]? = some ((RegionTabs.of .any ops).looks.getD i []) := fun i hi => by
    simp [RegionTabs.of, Array.getD_eq_getD_getElem?, List.getElem?_eq_getElem (show i < (Region.tabLooks ops).length by omega)]
  unfold Region.lexB
  rw [Bool.and_eq_true]
  refine ⟨hn, lexFrom_of ops (fun i hi => ?_) (fun i j hij hj => ?_) _ 0 _ (by omega) (by simp) (fun i hi => by simp [Array.getD, hi])⟩
  · have := (hs i _ _ _ (gA i hi) (gD i hi) (gL i hi)).1
    rw [Nat.zero_add] at this; exact this
  · have := (hs i _ _ _ (gA i (by omega)) (gD i (by omega)) (gL i (by omega))).2 j _ _ _ hij (gA j hj) (gD j hj) (gL j hj)
    rw [Nat.zero_add, any_beq, ← apt_eq] at this
    exact this

end Go.Proofs.Ytemkikjcjhmlaaa
