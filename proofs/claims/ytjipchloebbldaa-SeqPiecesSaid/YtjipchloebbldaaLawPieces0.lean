/- What SeqPieces leans on: a list cut in two, an item laid in and taken away, as plain data; the document's copy with an item behind it. -/
import Derived.Test.YtjipchloebbldaaLawSeqSays
import Derived.Deep.RegionHeldLaw
namespace Go.Proofs.Ytjipchloebbldaa
open Go.RowKit
set_option maxRecDepth 100000

theorem vfit_le {a l : List T} (h : vfit l = 0) (h1 : vdpAll a ≤ vdpAll l) (h2 : szAll a ≤ szAll l) : vfit a = 0 := by
  unfold vfit at h ⊢
  by_cases c1 : 40 < 1 + vdpAll l
  · rw [if_pos c1] at h; simp at h
  · rw [if_neg c1] at h
    by_cases c2 : 4096 < 1 + szAll l
    · rw [if_pos c2] at h; simp at h
    · rw [if_neg (by omega), if_neg (by omega)]
theorem vdpAll_drop_le (l : List T) (i : Nat) : vdpAll (l.drop i) ≤ vdpAll l := by
  have h := vdpAll_append (l.take i) (l.drop i)
  rw [List.take_append_drop] at h; omega
theorem vfit_take {l : List T} (h : vfit l = 0) (k : Nat) : vfit (l.take k) = 0 := vfit_le h (vdpAll_take_le l k) (szAll_take_le l k)
theorem vfit_drop {l : List T} (h : vfit l = 0) (k : Nat) : vfit (l.drop k) = 0 := vfit_le h (vdpAll_drop_le l k) (szAll_drop_le l k)
theorem cut_head {l : List T} (h : vfit l = 0) (k : Nat) (hk : k ≤ l.length) : cutS vfit l 1 (k : Int) = (l.take k, 0) := by
  unfold cutS
  rcases Nat.eq_zero_or_pos k with rfl | hp
  · rw [if_pos (by omega)]; simp
  · rw [if_neg (by omega), if_pos ⟨hasB_iff.2 (by omega), hasB_iff.2 (by omega)⟩]
    have e : (l.take ((k : Int).toNat)).drop ((1 : Int).toNat - 1) = l.take k := by simp
    rw [e, vfit_take h k]; rfl
theorem cut_tail {l : List T} (h : vfit l = 0) (k : Nat) (hk : k ≤ l.length) : cutS vfit l ((k : Int) + 1) (l.length : Int) = (l.drop k, 0) := by
  unfold cutS
  by_cases he : k = l.length
  · rw [if_pos (by omega), he, List.drop_length]
  · rw [if_neg (by omega), if_pos ⟨hasB_iff.2 (by omega), hasB_iff.2 (by omega)⟩]
    have e : (l.take ((l.length : Int).toNat)).drop (((k : Int) + 1).toNat - 1) = l.drop k := by
      rw [show ((l.length : Int)).toNat = l.length by omega, show ((k : Int) + 1).toNat - 1 = k by omega, List.take_length]
    rw [e, vfit_drop h k]; rfl
def laidIn (l : List T) (k : Nat) (t : T) : List T := l.take k ++ [t] ++ l.drop k
theorem ins_at {l : List T} (t : T) (k : Nat) (hk : k ≤ l.length) : insS vfit l t ((k : Int) + 1) = madeS (vfit (laidIn l k t)) (laidIn l k t) := by
  have e : insAt l.length ((k : Int) + 1) = k := by unfold insAt; split <;> (try split) <;> omega
  unfold insS; rw [e]; rfl
theorem laidIn_len (l : List T) (k : Nat) (t : T) (hk : k ≤ l.length) : (laidIn l k t).length = l.length + 1 := by unfold laidIn; simp; omega
theorem laidIn_get (l : List T) (k : Nat) (t : T) (hk : k ≤ l.length) : getS (laidIn l k t) ((k : Int) + 1) = (t, 0) := by
  have hl := laidIn_len l k t hk
  rw [getS_at (by omega : k < (laidIn l k t).length)]
  have : (laidIn l k t)[k]'(by omega) = t := by
    unfold laidIn
    rw [List.getElem_append_left (by simp; omega), List.getElem_append_right (by simp; omega)]; simp
  rw [this]
theorem laidIn_del {l : List T} (h : vfit l = 0) (k : Nat) (t : T) (hk : k ≤ l.length) : delS vfit (laidIn l k t) ((k : Int) + 1) = (l, 0) := by
  have hl := laidIn_len l k t hk
  unfold delS
  rw [if_pos (hasB_iff.2 ⟨by omega, by omega⟩), show ((k : Int) + 1).toNat = k + 1 by omega, Nat.add_sub_cancel]
  have hk1 : (l.take k).length = k := by rw [List.length_take]; omega
  have e : (laidIn l k t).take k ++ (laidIn l k t).drop (k + 1) = l := by
    unfold laidIn
    rw [List.append_assoc, List.take_left' hk1]
    have : (l.take k ++ ([t] ++ l.drop k)).drop (k + 1) = l.drop k := by
      rw [← List.append_assoc]
      exact List.drop_left' (by simp; omega)
    rw [this, List.take_append_drop]
  rw [e, h]; rfl
theorem laidIn_fit {l : List T} {t : T} (h : allRight l = true) (ht : okR t) (k : Nat) : vfit (laidIn l k t) = rfit (l ++ [t]) := by
  rw [rfit_eq (by rw [allRight_app, h]; simpa [allRight, okR] using ht)]
  have h1 : vdpAll (laidIn l k t) = vdpAll (l ++ [t]) := by
    have e := vdpAll_append (l.take k) (l.drop k)
    rw [List.take_append_drop] at e
    unfold laidIn
    rw [vdpAll_append, vdpAll_append, vdpAll_append]; omega
  have h2 : szAll (laidIn l k t) = szAll (l ++ [t]) := by
    have e := szAll_append (l.take k) (l.drop k)
    rw [List.take_append_drop] at e
    unfold laidIn
    rw [szAll_append, szAll_append, szAll_append]; omega
  unfold vfit; rw [h1, h2]

/-- Copies in one new block, or nil. -/
def NP (B : Nat) (w : World) (l : List T) (p : Option Addr) (c : Nat) : Prop := (l = [] ∧ p = none ∧ c = 0) ∨ ∃ bo, B ≤ bo ∧ p = some ⟨bo, 0, none⟩ ∧ c = l.length ∧ Part w bo l l.length
theorem NP.below {B : Nat} {w w' : World} {l : List T} {p : Option Addr} {c : Nat} (h : NP B w l p c) (hb : Below w.heap.size w w') : NP B w' l p c := by
  rcases h with h | ⟨bo, h1, h2, h3, h4⟩
  · exact .inl h
  · exact .inr ⟨bo, h1, h2, h3, h4.below hb⟩
theorem values_np (l : List T) (w : World) (p : Option Addr) (cap : Nat) (hall : RepAll w 0 w.heap.size l p) (hlc : l.length ≤ cap) (hcap : l.length * 56 ≤ 140737488355328) :
    Calls Try.prog 11 #[.slice p l.length cap] w fun e w' => ∃ q c, e = .returned (.slice q l.length c) ∧ NP w.heap.size w' l q c ∧ Below w.heap.size w w' := by
  refine (values_part l w 0 w.heap.size p cap hall hlc hcap (Nat.le_refl _)).mono fun e w' h => ?_
  rcases h with ⟨rfl, rfl, hb⟩ | ⟨bo, h1, rfl, h3, hb⟩
  · exact ⟨none, 0, rfl, .inl ⟨rfl, rfl, rfl⟩, hb⟩
  · exact ⟨_, _, rfl, .inr ⟨bo, h1, rfl, rfl, h3⟩, hb⟩
theorem Cs.of_at {w : World} {lo hi : Nat} : ∀ (l : List T) (cs : List Value), cs.length = l.length * 4 → (∀ i (hi' : i < l.length), ∃ c0 c1 c2 c3, cs[i * 4]? = some c0 ∧ cs[i * 4 + 1]? = some c1 ∧ cs[i * 4 + 2]? = some c2 ∧ cs[i * 4 + 3]? = some c3 ∧ Rep w lo hi l[i] (.agg #[c0, c1, c2, c3])) → Cs w lo hi l cs
  | [], cs, h, _ => List.eq_nil_of_length_eq_zero (by simpa using h)
  | t :: r, cs, h, hx => by
    match cs, h, hx with
    | c0 :: c1 :: c2 :: c3 :: q, h, hx =>
      obtain ⟨d0, d1, d2, d3, e0, e1, e2, e3, hr⟩ := hx 0 (by simp)
      simp only [Nat.zero_mul, Nat.zero_add, List.getElem?_cons_zero, List.getElem?_cons_succ, Option.some.injEq] at e0 e1 e2 e3
      subst e0; subst e1; subst e2; subst e3
      refine ⟨c0, c1, c2, c3, q, rfl, hr, Cs.of_at r q (by simp at h; omega) (fun i hi => ?_)⟩
      obtain ⟨f0, f1, f2, f3, g0, g1, g2, g3, hs⟩ := hx (i + 1) (by simpa using hi)
      refine ⟨f0, f1, f2, f3, ?_, ?_, ?_, ?_, hs⟩
      · rw [← g0, show (i + 1) * 4 = i * 4 + 4 by omega]; rfl
      · rw [← g1, show (i + 1) * 4 + 1 = i * 4 + 1 + 4 by omega]; rfl
      · rw [← g2, show (i + 1) * 4 + 2 = i * 4 + 2 + 4 by omega]; rfl
      · rw [← g3, show (i + 1) * 4 + 3 = i * 4 + 3 + 4 by omega]; rfl
    | [], h, _ => simp at h
    | [_], h, _ => simp at h; omega
    | [_, _], h, _ => simp at h; omega
    | [_, _, _], h, _ => simp at h; omega
/-- An item behind the copies. -/
theorem append_np {B : Nat} {w : World} {l : List T} {p : Option Addr} {c : Nat} (h : NP B w l p c) (hB : B ≤ w.heap.size) {t : T} {c0 c1 c2 c3 : Value} (hv : Rep w 0 B t (.agg #[c0, c1, c2, c3])) {g : Nat} (hg : w.heap[g]? = some (.cells #[c0, c1, c2, c3] 24 (0, 0))) (hl : l.length ≤ 1000000) (N : Nat) (hN : N = (l ++ [t]).length) (ty : TypeId) :
    ∃ q cap w', (Builtin.append_ #[22, 22] ty #[.slice p l.length c, .slice (some ⟨g, 0, none⟩) 1 1]).run Try.prog w = .ok (.slice q N cap) w' ∧ N ≤ cap ∧ RepAll w' 0 w'.heap.size (l ++ [t]) q ∧ Below B w w' := by
  obtain ⟨i0, hi0, hz0, hz1, hz2⟩ := info_parts Try.info_V
  have hcs1 : Cs w 0 B [t] [c0, c1, c2, c3] := ⟨c0, c1, c2, c3, [], rfl, hv, rfl⟩
  have hNl : N = l.length + 1 := by rw [hN]; simp
  rcases h with ⟨rfl, rfl, rfl⟩ | ⟨bo, hbo, rfl, rfl, hP⟩
  · obtain ⟨g', cap, w', hr, ho', hgr, hat, hlt⟩ := run_append_lies (P := Try.prog) w 22 ty B 24 i0 _ 4 56 Try.underlying22 hi0 hz0 hz1 hz2 rfl (by decide) (.slice none 0 0) 0 [] (World.ownsRow_nil _ _ _ _) ⟨g, 0, none⟩ 1 1 [c0, c1, c2, c3] rfl (World.news_of_block (cs := #[c0, c1, c2, c3]) (t := 24) (fr := (0, 0)) hg) hcs1.one (by omega) (by unfold maxLen; omega) (by omega) hB w.heap.size rfl
    have hb2 : Below B w w' := below_grown (Below.refl B w) hgr (fun k hk => by cases hk) hB
    obtain ⟨q, cap', e, h1, h2⟩ := all_of_row (l := [t]) (lo := 0) (hi := w'.heap.size) ho' ((hcs1.below hb2 (Nat.le_refl _)).keep (Nat.le_refl _) (Nat.le_trans hB hb2.size) (fun _ _ _ => rfl)) (Nat.zero_le _) (Nat.le_refl _)
    simp only [Value.slice.injEq] at e
    obtain ⟨rfl, -, rfl⟩ := e
    subst hNl
    exact ⟨_, cap, w', hr, h1, h2, hb2⟩
  · have hPlt := hP.lt
    obtain ⟨cs, k1, k2, k3⟩ := hP
    have hcsl : Cs w (bo + 1) w.heap.size l cs.toList := Cs.of_at l cs.toList (by simpa using k2) (fun i hi => by
      obtain ⟨d0, d1, d2, d3, e0, e1, e2, e3, hr⟩ := k3 i hi hi
      exact ⟨d0, d1, d2, d3, by simpa using e0, by simpa using e1, by simpa using e2, by simpa using e3, hr⟩)
    have hown : w.ownsRow B 24 4 (.slice (some ⟨bo, 0, none⟩) l.length l.length) l.length cs.toList :=
      ⟨by simpa using k2, .inr ⟨bo, l.length, cs, rfl, hbo, k1, Nat.le_refl _, by unfold maxLen; omega, k2, List.take_of_length_le (by simp; omega)⟩⟩
    obtain ⟨g', cap, w', hr, ho', hgr, hat, hlt⟩ := run_append_lies (P := Try.prog) w 22 ty B 24 i0 _ 4 56 Try.underlying22 hi0 hz0 hz1 hz2 rfl (by decide) _ l.length cs.toList hown ⟨g, 0, none⟩ 1 1 [c0, c1, c2, c3] rfl (World.news_of_block (cs := #[c0, c1, c2, c3]) (t := 24) (fr := (0, 0)) hg) hcs1.one (by omega) (by unfold maxLen; omega) (by omega) hB w.heap.size rfl
    have hb2 : Below B w w' := below_grown (Below.refl B w) hgr (fun k hk => by simp [Value.ownBlock] at hk; omega) hB
    have hkeep : ∀ p : Addr, bo + 1 ≤ p.block → p.block < w.heap.size → w'.cell? p = w.cell? p := fun p h1 h2 => World.cell?_of_block (hgr.block p.block h2 (fun e => by simp [Value.ownBlock] at e; omega))
    have hlen : l.length + 1 = (l ++ [t]).length := by simp
    rw [hlen] at ho'
    obtain ⟨q, cap', e, h1, h2⟩ := all_of_row (l := l ++ [t]) (lo := 0) (hi := w'.heap.size) ho' ((hcsl.keep (Nat.zero_le _) hgr.size hkeep).app ((hcs1.below hb2 (Nat.le_refl _)).keep (Nat.le_refl _) (Nat.le_trans hB hb2.size) (fun _ _ _ => rfl))) (Nat.zero_le _) (Nat.le_refl _)
    simp only [Value.slice.injEq] at e
    obtain ⟨rfl, -, rfl⟩ := e
    subst hNl
    exact ⟨_, cap, w', hr, by rw [hlen]; exact h1, h2, hb2⟩
end Go.Proofs.Ytjipchloebbldaa
