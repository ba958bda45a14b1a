/- The reader's lists, as contracts: beginning one, laying a value in, ending one, with what would be open if there were room. -/
import Derived.Test.YtlinclbodbbemaaDoorY19
import Derived.Test.YtlinclbodbbemaaDoorY21
import Derived.Test.YtlinclbodbbemaaDoorY02
namespace Go.Proofs.YtlinclbodbbemaaDoor
open Go.RowKit
set_option maxRecDepth 100000

/-- Ahead of a value: the lists sa would be open. -/
def InV (w : World) (g : Nat) (s : ByteArray) (x : Rd) (sa : List (List T)) : Prop := ∃ st frs, Stk w g s x st.reverse frs ∧ SimV sa st x.sk x.md
/-- Behind a value; behind all lists it is the whole. -/
def InA (w : World) (g : Nat) (s : ByteArray) (x : Rd) (sa : List (List T)) (wa : T) : Prop :=
  ∃ st frs wr, Stk w g s x st.reverse frs ∧ SimA sa st wa wr x.sk x.md ∧ (st = [] → RepP w (Fr w g (live x.ov frs)) wr (.agg #[x.c0, x.c1, x.c2, x.c3]))

theorem but_below {g : Nat} {w w' : World} (h : But g w w') (hg : g < w.heap.size) : Below g w w' := ⟨h.os, h.tape, h.output, h.size, fun k hk => h.block k (Nat.lt_trans hk hg) (by omega)⟩
theorem Fr.but {g : Nat} {w w' : World} {A : List Nat} (h : But g w w') {b : Nat} (hf : Fr w g A b) : Fr w' g A b := ⟨hf.1, Nat.lt_of_lt_of_le hf.2.1 h.size, hf.2.2⟩
theorem repP_but {g : Nat} {w w' : World} {A : List Nat} (h : But g w w') {t : T} {v : Value} (hr : RepP w (Fr w g A) t v) : RepP w' (Fr w' g A) t v :=
  RepP.keep (fun _ hf => Fr.but h hf) (fun p hf => h.cell hf.2.1 (by have := hf.1; omega)) _ _ hr

theorem cntS_len : ∀ st, st.length ≤ cntS st
  | [] => Nat.zero_le _
  | l :: st => by have := cntS_len st; simp only [List.length_cons, cntS]; omega
theorem cntA_len : ∀ l, l.length ≤ cntA l
  | [] => Nat.zero_le _
  | .mk k n s l :: r => by have := cntA_len r; simp only [List.length_cons, cntA, cnt]; omega

theorem InV.rd {w : World} {g : Nat} {s : ByteArray} {x : Rd} {sa : List (List T)} (h : InV w g s x sa) : RdIs w g s x := by obtain ⟨st, frs, h1, _⟩ := h; exact h1.rd
theorem InA.rd {w : World} {g : Nat} {s : ByteArray} {x : Rd} {sa : List (List T)} {wa : T} (h : InA w g s x sa wa) : RdIs w g s x := by obtain ⟨st, frs, wr, h1, _⟩ := h; exact h1.rd
theorem InV.but {w w' : World} {g : Nat} {s : ByteArray} {x : Rd} {sa : List (List T)} {p : Nat} (h : InV w g s x sa) (hb : But g w w') (hr : RdIs w' g s { x with pos := p }) : InV w' g s { x with pos := p } sa := by
  obtain ⟨st, frs, h1, h2⟩ := h
  exact ⟨st, frs, h1.but hb hr rfl, h2⟩
theorem InA.but {w w' : World} {g : Nat} {s : ByteArray} {x : Rd} {sa : List (List T)} {wa : T} {p : Nat} (h : InA w g s x sa wa) (hb : But g w w') (hr : RdIs w' g s { x with pos := p }) : InA w' g s { x with pos := p } sa wa := by
  obtain ⟨st, frs, wr, h1, h2, h3⟩ := h
  exact ⟨st, frs, wr, h1.but hb hr rfl, h2, fun e => repP_but hb (h3 e)⟩
theorem SimV.le4097 {sa st : List (List T)} {sk md : Nat} (h : SimV sa st sk md) : cntS st ≤ 4097 ∧ md ≤ 4097 := by
  have := h.c
  rcases h.r with ⟨r, _⟩ | ⟨r, _⟩ <;> omega
theorem SimV.sk_le {sa st : List (List T)} {sk md : Nat} (h : SimV sa st sk md) : sk ≤ sa.length := by
  rcases h.r with ⟨_, r, _⟩ | ⟨_, r, _⟩ <;> omega
theorem SimA.sk_le {sa st : List (List T)} {wa wr : T} {sk md : Nat} (h : SimA sa st wa wr sk md) : sk ≤ sa.length := by
  rcases h.r with ⟨_, r, _⟩ | ⟨_, r, _⟩ <;> omega
theorem SimA.le4097 {sa st : List (List T)} {wa wr : T} {sk md : Nat} (h : SimA sa st wa wr sk md) : cA st wr ≤ 4097 := by
  have := h.c
  rcases h.r with ⟨r, _⟩ | ⟨r, _⟩ <;> omega

/-- The open lists' slice, written out. -/
theorem Stk.ov {w : World} {g : Nat} {s : ByteArray} {x : Rd} {st : List (List T)} {frs : List (Value × List Value)} (h : Stk w g s x st frs) : ∃ lp lc, x.ov = .slice lp frs.length lc := by
  rcases h.own.2 with ⟨e, e0⟩ | ⟨gl, cl, _, e, _⟩
  · exact ⟨none, 0, by rw [e, e0]⟩
  · exact ⟨_, _, e⟩

/-- What beginning a list comes to. -/
def BeginPost (s : ByteArray) (x : Rd) (g : Nat) (w : World) (sa : List (List T)) (e : Ending) (w' : World) : Prop :=
  e = .returned (.tuple #[]) ∧ ∃ x', x'.pos = x.pos ∧ InV w' g s x' ([] :: sa) ∧ Below g w w'
theorem begin_any (s : ByteArray) (x : Rd) (g : Nat) (w : World) (sa : List (List T)) (hin : InV w g s x sa) (hsa : sa.length ≤ 140737488355328) :
    Calls Tryd.prog 157 #[.pointer (some ⟨g, 0, none⟩)] w (BeginPost s x g w sa) := by
  obtain ⟨st, frs, hst, hsim⟩ := hin
  have hlen := hst.lev.length
  rw [List.length_reverse] at hlen
  by_cases hm : x.md ≤ 4096
  · obtain ⟨lp, lc, hov⟩ := hst.ov
    have hown := hst.own
    rw [hov] at hown
    have h1 := cntS_len st
    have h2 := hsim.le4097.1
    refine (begin_new s x g w hst.rd hm lp frs.length lc hov _ hown (by omega)).mono fun e w' hp => ?_
    obtain ⟨he, x', hx1, hx2, hx3, hs, hb⟩ := hst.begun hp
    refine ⟨he, x', hx1, ⟨[] :: st, _, by rw [List.reverse_cons]; exact hs, ?_⟩, hb⟩
    rw [hx2, hx3]
    exact hsim.begin hm
  · obtain ⟨hs, hne⟩ := hsim.skip hm
    have := hsim.sk_le
    refine (begin_skip s x g w hst.rd hm (by omega)).mono fun e w' hp => ?_
    obtain ⟨he, hr, hb⟩ := hp
    exact ⟨he, { x with sk := x.sk + 1 }, rfl, ⟨st, frs, hst.but hb hr rfl, hs⟩, but_below hb hst.rd.lt⟩

/-- What laying a value in comes to. -/
def LayPost (s : ByteArray) (x : Rd) (g : Nat) (w : World) (st : List (List T)) (t : T) (w' : World) : Prop :=
  ∃ x' frs', x'.pos = x.pos ∧ x'.sk = x.sk ∧ x'.md = x.md ∧ Stk w' g s x' (addT st t).reverse frs' ∧ (addT st t = [] → RepP w' (Fr w' g (live x'.ov frs')) t (.agg #[x'.c0, x'.c1, x'.c2, x'.c3])) ∧ Below g w w'
theorem add_any (s : ByteArray) (x : Rd) (g : Nat) (w : World) (st : List (List T)) (frs : List (Value × List Value)) (hst : Stk w g s x st.reverse frs) (hle : cntS st ≤ 4097) (t : T) (k n : Int) (u : ByteArray) (p : Option Addr) (len cap : Nat)
    (ht : RepP w (Fr w g (live x.ov frs)) t (.agg #[.int .i64 k, .int .i64 n, .string u, .slice p len cap])) :
    Calls Tryd.prog 160 #[.pointer (some ⟨g, 0, none⟩), .agg #[.int .i64 k, .int .i64 n, .string u, .slice p len cap]] w fun e w' => e = .returned (.tuple #[]) ∧ LayPost s x g w st t w' := by
  have hlen := hst.lev.length
  rw [List.length_reverse] at hlen
  cases st with
  | nil =>
    have hf : frs = [] := List.eq_nil_of_length_eq_zero hlen.symm
    subst hf
    obtain ⟨lp, lc, hov⟩ := hst.ov
    refine (add_top s x g w hst.rd lp lc hov k n u p len cap).mono fun e w' hp => ?_
    obtain ⟨he, hr, hb⟩ := hp
    exact ⟨he, { x with c0 := .int .i64 k, c1 := .int .i64 n, c2 := .string u, c3 := .slice p len cap }, [], rfl, rfl, rfl, hst.but hb hr rfl, fun _ => repP_but hb ht, but_below hb hst.rd.lt⟩
  | cons l st =>
    rw [List.reverse_cons] at hst
    obtain ⟨q, f, rfl, hlev, hrow, hitm⟩ := hst.lev.unsnoc
    have ho := hst.own
    have hn : 0 < (q ++ [f]).length := by simp
    have hql : (q ++ [f]).length = q.length + 1 := by simp
    obtain ⟨lp, lc, hov⟩ := hst.ov
    have hown := ho
    rw [hov, hql] at hown
    obtain ⟨bo, rfl, hbl⟩ : ∃ bo, lp = some ⟨bo, 0, none⟩ ∧ bo < w.heap.size := by
      rcases hown.2 with ⟨_, e0⟩ | ⟨gl, cl, _, e, _, hh, _⟩
      · omega
      · injection e with e1 _ _
        exact ⟨gl, e1, (Array.getElem?_eq_some_iff.1 hh).1⟩
    rw [hql] at hov
    have hmap : (q ++ [f]).map (·.1) = q.map (·.1) ++ [f.1] := by simp
    rw [hmap] at hown
    have hql2 : (q.map (·.1)).length = q.length := by simp
    have hcell := World.ownsRow.cellAt hown (q.length * 4 + 3) (by omega)
    rw [← hql2, (ocs_last _ _).2.2.2, hql2] at hcell
    obtain ⟨_, hlast⟩ := live_last hst.nd
    have hbo : bo ∈ live x.ov q := live_mem.2 (.inl (by rw [hov]; rfl))
    have hgbo := (hst.live_lt (by rw [live_snoc]; simp [hbo]) : g < bo ∧ _).1
    have h1 := cntA_len l
    simp only [cntS] at hle
    have hll := hst.lev.length
    refine (add_in s x g w hst.rd bo (q.length + 1) lc hov (by omega) (by
        have := cntS_len st
        simp at hlen
        omega) f.1 hbl hcell (World.ownsRow.frozenAt hown _) l.length f.2 hrow (fun b hb e => hlast b hb (e ▸ hbo)) (by omega) k n u p len cap (by omega)).mono fun e w' hp => ?_
    obtain ⟨he, f', hs, hb⟩ := hst.added hov hp ht
    refine ⟨he, x, q ++ [f'], rfl, rfl, rfl, ?_, fun e => by simp [addT] at e, hb⟩
    simp only [addT, List.reverse_cons]
    exact hs

/-- What ending a list comes to. -/
def EndPost (s : ByteArray) (x : Rd) (g : Nat) (w : World) (sa : List (List T)) (la : List T) (e : Ending) (w' : World) : Prop :=
  e = .returned (.tuple #[]) ∧ ∃ x', x'.pos = x.pos ∧ InA w' g s x' (addT sa (.mk 4 0 ByteArray.empty la)) (.mk 4 0 ByteArray.empty la) ∧ Below g w w'
theorem end_any (s : ByteArray) (x : Rd) (g : Nat) (w : World) (sa : List (List T)) (la : List T) (wa : T) (st : List (List T)) (frs : List (Value × List Value)) (wr : T) (hst : Stk w g s x st.reverse frs) (hsim : SimA (la :: sa) st wa wr x.sk x.md) (hne : st ≠ [])
    (hsa : sa.length ≤ 140737488355328) :
    Calls Tryd.prog 133 #[.pointer (some ⟨g, 0, none⟩)] w (EndPost s x g w sa la) := by
  have hle := hsim.le4097
  have hskl := hsim.sk_le
  cases hsk : x.sk with
  | succ sk =>
    rw [hsk] at hsim hskl
    have h2 := hsim.skip
    simp at hskl
    refine (end_skip s x g w hst.rd sk hsk (by omega)).mono fun e w' hp => ?_
    obtain ⟨he, hr, hb⟩ := hp
    exact ⟨he, { x with sk := sk }, rfl, ⟨st, frs, wr, hst.but hb hr rfl, h2, fun e => absurd e hne⟩, but_below hb hst.rd.lt⟩
  | zero =>
    rw [hsk] at hsim
    cases st with
    | nil => exact absurd rfl hne
    | cons l st =>
      rw [List.reverse_cons] at hst
      obtain ⟨q, f, rfl, hlev, hrow, hitm⟩ := hst.lev.unsnoc
      have ho := hst.own
      have hql : (q ++ [f]).length = q.length + 1 := by simp
      obtain ⟨lp, lc, hov⟩ := hst.ov
      have hown := ho
      rw [hov, hql] at hown
      obtain ⟨bo, rfl, hcap⟩ : ∃ bo, lp = some ⟨bo, 0, none⟩ ∧ q.length + 1 ≤ lc := by
        rcases hown.2 with ⟨_, e0⟩ | ⟨gl, cl, _, e, _, hh, hnc, _⟩
        · omega
        · injection e with e1 _ e3
          exact ⟨gl, e1, by omega⟩
      rw [hql] at hov
      have hmap : (q ++ [f]).map (·.1) = q.map (·.1) ++ [f.1] := by simp
      rw [hmap] at hown
      have hql2 : (q.map (·.1)).length = q.length := by simp
      have hc := fun j (hj : j < (q.length + 1) * 4) => World.ownsRow.cellAt hown j hj
      obtain ⟨o0, o1, o2, o3⟩ := ocs_last (q.map (·.1)) f.1
      rw [hql2] at o0 o1 o2 o3
      have hlv : ∃ lp L lc, f.1 = .slice lp L lc := by
        rcases hrow.2 with ⟨e, _⟩ | ⟨gl, cl, _, e, _⟩
        · exact ⟨_, _, _, e⟩
        · exact ⟨_, _, _, e⟩
      rw [cA_cons] at hle
      simp only [cntS] at hle
      have h1 := cntA_len l
      have h2 := cntS_len st
      have hlen := hst.lev.length
      simp at hlen
      refine (end_pop s x g w hst.rd hsk bo q.length lc hov (by omega) hcap f.1 hlv ((hc _ (by omega)).trans o0) ((hc _ (by omega)).trans o1) ((hc _ (by omega)).trans o2) ((hc _ (by omega)).trans o3)
        (fun W _ w' => LayPost s { x with ov := .slice (some ⟨bo, 0, none⟩) q.length lc } g W st (.mk 4 0 ByteArray.empty l) w') (fun W hr hb => ?_)).mono fun e w' hp => ?_
      · obtain ⟨hs, ht⟩ := hst.popped hov (by omega) hr hb
        obtain ⟨lp, L, lc2, hf⟩ := hlv
        rw [hf] at ht ⊢
        exact add_any s _ g W st q hs (by omega) _ 4 0 ⟨#[]⟩ lp L lc2 ht
      · obtain ⟨he, W, hb, hr, x', frs', hx1, hx2, hx3, hs, hrep, hbw⟩ := hp
        refine ⟨he, x', hx1, ⟨addT st (.mk 4 0 ByteArray.empty l), frs', .mk 4 0 ByteArray.empty l, hs, ?_, hrep⟩, (but_below hb hst.rd.lt).trans (hbw.mono (Nat.le_refl _))⟩
        rw [hx2, hx3]
        show SimA _ _ _ _ x.sk x.md
        rw [hsk]
        exact hsim.end_

end Go.Proofs.YtlinclbodbbemaaDoor
