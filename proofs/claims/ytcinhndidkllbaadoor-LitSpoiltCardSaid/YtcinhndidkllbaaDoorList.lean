/- Lists of right items: what the statements on lists' texts lean on. -/
import Derived.Test.YtcinhndidkllbaaDoorLaw2
import Derived.Test.YtcinhndidkllbaaDoorRight
import Derived.Test.YtcinhndidkllbaaDoorFits
import Derived.Test.YtcinhndidkllbaaDoorCopy
namespace Go.Proofs.YtcinhndidkllbaaDoor
open Go.RowKit

theorem catL (a b : ByteArray) : (a ++ b).data.toList = a.data.toList ++ b.data.toList := by simp
theorem catS (a b : ByteArray) : (a ++ b).size = a.size + b.size := by simp

theorem rsz_eq : ∀ (t : T), okT t → rsz t = sz t := by
  refine T.ind_ (fun k n s l ih => ?_)
  intro h
  have hall : ∀ (l : List T), (∀ t ∈ l, okT t → rsz t = sz t) → okA l → rszAll l = szAll l := by
    intro l
    induction l with
    | nil => intro _ _; simp [rszAll, szAll]
    | cons x r ihr =>
      intro hx hk
      rw [okA] at hk
      rw [rszAll, szAll, hx x (by simp) hk.1, ihr (fun t ht => hx t (by simp [ht])) hk.2]
  rw [okT] at h
  rcases h with ⟨rfl, _, rfl, rfl⟩ | ⟨rfl, _, _, rfl, rfl⟩ | ⟨rfl, _, rfl, _⟩ | ⟨rfl, _, _, rfl, rfl⟩ | ⟨rfl, _, _, h⟩
  · simp [rsz, sz, szAll]
  · simp [rsz, sz, szAll]
  · simp [rsz, sz, szAll]
  · simp [rsz, sz, szAll]
  · simp only [rsz, sz, hall l ih h]; simp
theorem few_items {l : List T} {m : Int} (h : fewRight l m = true) : (l.length : Int) ≤ m ∧ ∀ t ∈ l, (odd t 1 0).1 = 0 := by
  unfold fewRight at h
  rw [Bool.and_eq_true] at h
  obtain ⟨h1, h2⟩ := h
  refine ⟨by simpa using h1, fun t ht => ?_⟩
  unfold allRight at h2
  have := List.all_eq_true.1 h2 t ht
  simpa [rightB, oddCode] using this
theorem few_sz {l : List T} (h : fewRight l 12 = true) : sz (mkList l) ≤ 1000000 := by
  obtain ⟨h1, h2⟩ := few_items h
  have hb : ∀ (l : List T), (∀ t ∈ l, (odd t 1 0).1 = 0) → szAll l ≤ 4096 * l.length := by
    intro l
    induction l with
    | nil => intro _; simp [szAll]
    | cons x r ih =>
      intro h
      have h1 := odd_sz (h x (by simp))
      have h2 := ih (fun t ht => h t (by simp [ht]))
      simp only [szAll, List.length_cons]; omega
  have := hb l h2
  rw [mkList, sz, if_neg (by omega)]
  omega
theorem list_ok {w : World} {lo hi : Nat} {l : List T} {p : Option Addr} {m : Int} (hra : RepAll w lo hi l p) (h : fewRight l m = true) (hf : fits (mkList l) = 0) :
    okT (mkList l) ∧ (odd (mkList l) 1 0).1 = 0 ∧ sz (mkList l) ≤ 4096 ∧ ∀ t ∈ l, okT t ∧ (odd t 1 0).1 = 0 := by
  obtain ⟨_, h2⟩ := few_items h
  have hok : ∀ t ∈ l, okT t := fun t ht => by
    obtain ⟨v, hv⟩ := hra.mem t ht
    exact Rep.ok t hv (h2 t ht)
  have hokL : okT (mkList l) := by
    unfold mkList; rw [okT]
    exact .inr (.inr (.inr (.inr ⟨rfl, rfl, rfl, okA_of hok⟩)))
  have hd : dp (mkList l) ≤ 40 ∧ rsz (mkList l) ≤ 4096 := by
    unfold fits at hf; split at hf; omega; split at hf; omega; omega
  have hs : sz (mkList l) ≤ 4096 := by rw [← rsz_eq _ hokL]; exact hd.2
  exact ⟨hokL, (odd_of_ok _ 1 0 hokL (by omega) (by omega)).1, hs, fun t ht => ⟨hok t ht, h2 t ht⟩⟩
theorem cut_list {l : List T} (h : okT (mkList l)) {k : Nat} (hk : k < (tx (mkList l)).length) : Go .val ((tx (mkList l)).take k) (.bad []) := by
  obtain ⟨R, h1, h2⟩ := Go.cut _ h k hk
  rcases h2 with rfl | ⟨h2, _⟩
  · exact h1
  · unfold mkList T.k at h2; simp at h2

end Go.Proofs.YtcinhndidkllbaaDoor
