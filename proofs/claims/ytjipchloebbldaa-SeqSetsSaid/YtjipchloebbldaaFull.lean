/- What is right has the depth and the size that the document reckons; the chapter's example; which lists the statements take. -/
import Derived.Test.YtjipchloebbldaaMade3
import Derived.Test.YtjipchloebbldaaRight
import Derived.Test.YtjipchloebbldaaFits
import Derived.Test.YtjipchloebbldaaOrd
namespace Go.Proofs.Ytjipchloebbldaa
open Go.RowKit
set_option maxRecDepth 100000

/-- What is right: its depth and its size. -/
structure Full (t : T) (d : Int) : Prop where
  dp_ : vdp t = dp t
  sz_ : rsz t = sz t
  deep : dp t ≤ 41 - d
structure FullAll (l : List T) (d : Int) : Prop where
  dp_ : vdpAll l = dpAll l
  sz_ : rszAll l = szAll l
  deep : dpAll l ≤ 41 - d ∨ l = []
theorem odd_full : ∀ (t : T) (d z : Int), (odd t d z).1 = 0 → Full t d ∧ (odd t d z).2 = z + sz t := by
  refine T.ind_ (fun k n s l ih d z h => ?_)
  have hall : ∀ (l : List T), (∀ t ∈ l, ∀ (d z : Int), (odd t d z).1 = 0 → Full t d ∧ (odd t d z).2 = z + sz t) → ∀ (d z : Int), (oddAll l d z).1 = 0 → FullAll l d ∧ (oddAll l d z).2 = z + szAll l := by
    intro l
    induction l with
    | nil => intro _ d z _; rw [oddAll, szAll]; exact ⟨⟨by simp [vdpAll, dpAll], by simp [rszAll, szAll], .inr rfl⟩, by simp⟩
    | cons x r ihr =>
      intro hx d z h
      rw [oddAll] at h ⊢
      by_cases hc : (odd x d z).1 ≠ 0
      · rw [if_pos hc] at h; exact absurd h hc
      · rw [if_neg hc] at h ⊢
        obtain ⟨⟨h1, h2, h3⟩, h4⟩ := hx x (by simp) d z (by omega)
        obtain ⟨⟨k1, k2, k3⟩, k4⟩ := ihr (fun t ht => hx t (by simp [ht])) d _ h
        refine ⟨⟨?_, ?_, .inl ?_⟩, ?_⟩
        · rw [vdpAll, dpAll, h1, k1]
        · rw [rszAll, szAll, h2, k2]
        · rw [dpAll]
          have := dp_pos x
          rcases k3 with k3 | rfl
          · omega
          · simp only [dpAll]; omega
        · rw [k4, h4, szAll]; omega
  by_cases hd : 40 < d
  · rw [odd] at h; simp [hd] at h
  by_cases h4 : 4096 < zz k s z
  · rw [odd_104 (by omega) h4] at h; simp at h
  cases hr : badRange k n with
  | true => rw [odd_105 (by omega) (by omega) hr] at h; simp at h
  | false =>
    cases hs : badShape k n s l.length with
    | true => rw [odd_103 (by omega) (by omega) hr hs] at h; simp at h
    | false =>
      rw [odd_fine (by omega) (by omega) hr hs] at h ⊢
      obtain ⟨⟨k1, k2, k3⟩, k4⟩ := hall l ih (d + 1) _ h
      have hl : k ≠ 4 → l = [] := fun hk => by
        have a : (k != 4) = true := by simpa using hk
        unfold badShape at hs
        rw [a] at hs
        simp at hs
        exact hs.1.2
      refine ⟨⟨?_, ?_, ?_⟩, ?_⟩
      · rw [vdp, dp, k1]
        by_cases hk : k = 4
        · rw [if_pos hk]; omega
        · rw [hl hk, if_neg hk]; simp [dpAll]
      · rw [rsz, sz, k2.symm]
        by_cases hk2 : k = 2
        · rw [if_pos hk2, if_pos hk2, hl (by omega)]; simp [rszAll]
        · rw [if_neg hk2, if_neg hk2]
          by_cases hk : k = 4
          · rw [if_pos hk]
          · rw [if_neg hk, hl hk]; simp [rszAll]
      · rw [dp]
        by_cases hk : k = 4
        · rw [if_pos hk]
          rcases k3 with k3 | rfl
          · omega
          · simp only [dpAll]; omega
        · rw [if_neg hk]; omega
      · rw [k4, sz]
        unfold zz
        split <;> omega
def okR (t : T) : Prop := rightB t = true
theorem okR.full {t : T} (h : okR t) : Full t 1 ∧ sz t ≤ 4096 := by
  have h0 : (odd t 1 0).1 = 0 := by simpa [okR, rightB, oddCode] using h
  have h1 := odd_full t 1 0 h0
  have h2 := odd_bound t 1 0 h0
  exact ⟨h1.1, by omega⟩
/-- A list of which all is right. -/
theorem fullAll {l : List T} (h : allRight l = true) : vdpAll l = dpAll l ∧ rszAll l = szAll l := by
  induction l with
  | nil => exact ⟨by simp [vdpAll, dpAll], by simp [rszAll, szAll]⟩
  | cons x r ih =>
    have hx : okR x ∧ allRight r = true := by simpa [allRight, okR] using h
    have h1 := (okR.full hx.1).1
    have h2 := ih hx.2
    exact ⟨by rw [vdpAll, dpAll, h1.dp_, h2.1], by rw [rszAll, szAll, h1.sz_, h2.2]⟩
/-- The code of a list that is made, as the document reckons it. -/
def rfit (l : List T) : Int := fits (.mk 4 0 ByteArray.empty l)
theorem rfit_eq {l : List T} (h : allRight l = true) : rfit l = vfit l := by
  obtain ⟨h1, h2⟩ := fullAll h
  have e1 : dp (.mk 4 0 ByteArray.empty l) = dpAll l + 1 := by rw [dp]; simp
  have e2 : rsz (.mk 4 0 ByteArray.empty l) = 1 + rszAll l := by rw [rsz]; simp
  unfold rfit fits vfit
  rw [e1, e2, h1, h2, Int.add_comm]
theorem allRight_app {a b : List T} : allRight (a ++ b) = (allRight a && allRight b) := by unfold allRight; rw [List.all_append]
theorem allRight_take {l : List T} (h : allRight l = true) (k : Nat) : allRight (l.take k) = true := by
  have := allRight_app (a := l.take k) (b := l.drop k)
  rw [List.take_append_drop, h] at this
  simp at this; exact this.1
theorem allRight_dropk {l : List T} (h : allRight l = true) (k : Nat) : allRight (l.drop k) = true := by
  have := allRight_app (a := l.take k) (b := l.drop k)
  rw [List.take_append_drop, h] at this
  simp at this; exact this.2
theorem cutS_eq {l : List T} (h : allRight l = true) (i j : Int) : cutS rfit l i j = cutS vfit l i j := by
  unfold cutS; rw [rfit_eq (allRight_dropk (allRight_take h _) _)]
theorem delS_eq {l : List T} (h : allRight l = true) (i : Int) : delS rfit l i = delS vfit l i := by
  unfold delS; rw [rfit_eq (by rw [allRight_app, allRight_take h, allRight_dropk h]; rfl)]
theorem putS_eq {l : List T} {v : T} (h : allRight l = true) (hv : okR v) (i : Int) : putS rfit l i v = putS vfit l i v := by
  unfold putS; rw [rfit_eq (by rw [allRight_app, allRight_app, allRight_take h, allRight_dropk h]; simpa [allRight, okR] using hv)]
theorem insS_eq {l : List T} {v : T} (h : allRight l = true) (hv : okR v) (i : Int) : insS rfit l v i = insS vfit l v i := by
  unfold insS; rw [rfit_eq (by rw [allRight_app, allRight_app, allRight_take h, allRight_dropk h]; simpa [allRight, okR] using hv)]
theorem catS_eq {a b : List T} (h : allRight a = true) (hb : allRight b = true) : catS rfit a b = catS vfit a b := by
  unfold catS; rw [rfit_eq (by rw [allRight_app, h, hb]; rfl)]

/-- Which lists the statements take. -/
def rightL (l : List T) : Bool := fewRight l 5000 && rightB (.mk 4 0 ByteArray.empty l)
theorem rightL_facts {l : List T} (h : rightL l = true) : allRight l = true ∧ vfit l = 0 ∧ szAll l ≤ 4095 ∧ (l.length : Int) ≤ 4095 := by
  unfold rightL fewRight at h
  simp only [Bool.and_eq_true, decide_eq_true_eq] at h
  obtain ⟨⟨h1, h2⟩, h3⟩ := h
  obtain ⟨h4, h5⟩ := okR.full h3
  have e1 : dp (.mk 4 0 ByteArray.empty l) = dpAll l + 1 := by rw [dp]; simp
  have e2 : sz (.mk 4 0 ByteArray.empty l) = 1 + szAll l := by rw [sz]; simp
  have h6 := h4.deep
  have h7 := fullAll h2
  have h8 := len_le_sz l
  rw [e1] at h6; rw [e2] at h5
  refine ⟨h2, ?_, by omega, by omega⟩
  unfold vfit
  rw [if_neg (by omega), if_neg (by omega)]
set_option maxHeartbeats 1000000 in
theorem rightL_any (l : List T) (w : World) (lo hi : Nat) (p : Option Addr) (cap : Nat) (hall : RepAll w lo hi l p) (hhi : hi ≤ w.heap.size) (hlc : l.length ≤ cap) (hcap : l.length * 56 ≤ 140737488355328) :
    Calls Try.prog 9 #[.slice p l.length cap] w fun e w' => e = .returned (.bool (rightL l)) ∧ Below w.heap.size w w' := by
  have hr : Rep w lo hi (.mk 4 0 ByteArray.empty l) (.agg #[.int .i64 4, .int .i64 0, .string ByteArray.empty, .slice p l.length cap]) := Rep.mk_ (by unfold I64; omega) (by unfold I64; omega) (by simp) hlc hcap hall
  have HR := Lib.hid hr; clear hr
  have HALL := Lib.hid hall; clear hall
  cases hf : fewRight l 5000 with
  | false =>
    have HE : Hid (rightL l = false) := by show _ = _; unfold rightL; rw [hf]; rfl
    go_enter Try.func9, Try.ntmps9
    go_wp2_with (go_at_call 26; refine (wvalues_any l w lo hi p cap 5000 HALL.out hhi (by omega)).mono ?_; rintro e w2 ⟨rfl, hb2⟩; rw [hf])
    go_ret
    exact ⟨ret_bool HE.out.symm, hb2⟩
  | true =>
    have HE : Hid (rightL l = rightB (.mk 4 0 ByteArray.empty l)) := by show _ = _; unfold rightL; rw [hf]; rfl
    go_enter Try.func9, Try.ntmps9
    go_wp2_with (first
      | (go_at_call 26; refine (wvalues_any l w lo hi p cap 5000 HALL.out hhi (by omega)).mono ?_; rintro e w2 ⟨rfl, hb2⟩; rw [hf])
      | (go_at_call 10; refine (right_any _ w2 lo hi _ (HR.out.below hb2 hhi) (by have := hb2.size; omega)).mono ?_; rintro e w3 ⟨rfl, hb3⟩))
    go_ret
    exact ⟨ret_bool HE.out.symm, hb2.trans (hb3.mono hb2.size)⟩
end Go.Proofs.Ytjipchloebbldaa
