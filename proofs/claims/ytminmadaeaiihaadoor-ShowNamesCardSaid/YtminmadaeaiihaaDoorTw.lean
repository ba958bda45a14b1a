/- tree.walk, tree.all: all nodes, each ahead of what it has. -/
import Derived.Test.YtminmadaeaiihaaDoorNt
import Derived.Test.YtminmadaeaiihaaDoorHandsK
import Derived.Test.YtminmadaeaiihaaDoorProg
import Derived.WalkKit
import Derived.ProofKit
import Derived.OwnWalkIn
import Derived.TacticsInMore
import Derived.LoopNIn
import Derived.LoopIn
import Derived.Shelf.Abstract
import Derived.Shelf.RegionOpen
namespace Go.Proofs.YtminmadaeaiihaaDoor
open Go.RowKit
set_option maxRecDepth 100000
attribute [local go_sem] Oper.semAt_some

theorem heap_ltN {w : World} {g : Nat} {o : Obj} (h : w.heap[g]? = some o) : g < w.heap.size := by
  rcases Nat.lt_or_ge g w.heap.size with h1 | h1
  · exact h1
  · rw [Array.getElem?_eq_none h1] at h; cases h
/-- The cells from lo on, below hi, are as in W0. -/
def KeepC (W0 : World) (lo hi : Nat) (X : World) : Prop := hi ≤ X.heap.size ∧ ∀ a : Addr, lo ≤ a.block → a.block < hi → X.cell? a = W0.cell? a
theorem roundAny {m m' : Nat} {P : Program} {l : Nat} {f : FuncId} {tmps : Array Value} {assign body : Code} {w : World} {R : Ending → World → Prop}
    (h : RoundIn Fence.wide m P l f tmps assign body w R) : RoundIn Fence.wide m' P l f tmps assign body w R := ⟨h.1, fun c cs _ => h.2 c cs (fun d h => by cases h)⟩
theorem yieldAny {m : Nat} (m' : Nat) {P : Program} {l : Nat} {args : Array Value} {W : World} {R : Ending → World → Prop} (h : YieldAt Fence.wide m P l args W R) : YieldAt Fence.wide m' P l args W R := by
  obtain ⟨fn, tmps, assign, body, hy, hR⟩ := h
  exact ⟨fn, tmps, assign, body, hy, roundAny hR⟩
/-- What a walk may ask of its yield: it is handed the nodes of Fl in their order. -/
structure YOk (W0 : World) (lo hi l b0 : Nat) (Fl : List Nd) (J : Nat → World → Prop) (Jx : World → Prop) : Prop where
  st : ∀ j X Y, J j X → Below X.heap.size X Y → J j Y
  kc : ∀ j X, J j X → KeepC W0 lo hi X
  y : ∀ (m j : Nat) (hj : j < Fl.length) (v : Value) (X : World), J j X → NRep X lo hi Fl[j] v → YieldAt Fence.wide m Tryd.prog l #[v] X fun e Y => (e = .returned (.bool true) ∧ J (j + 1) Y ∧ KeptK b0 X Y) ∨ (e = .returned (.bool false) ∧ Jx Y)
def WalkOk (L : List Nd) : Prop := ∀ (W0 : World) (lo hi l b0 : Nat) (Fl : List Nd) (J : Nat → World → Prop) (Jx : World → Prop), YOk W0 lo hi l b0 Fl J Jx → ∀ (pre rest : List Nd) (p : Option Addr) (cap : Nat) (X : World),
  NAll W0 lo hi L p → Fl = pre ++ (flatL L ++ rest) → b0 ≤ X.heap.size → L.length ≤ cap → L.length * 112 ≤ 140737488355328 → J pre.length X →
  Calls Tryd.prog 54 #[.slice p L.length cap, .func (.yield l) #[] #[]] X fun e Y => (e = .returned (.bool true) ∧ J (pre.length + cntAll L) Y ∧ KeptK b0 X Y) ∨ (e = .returned (.bool false) ∧ Jx Y)

theorem box8_in (w2 : World) (g : Nat) (c0 c1 c2 c3 c4 c5 c6 c7 : Value) (t : TypeId) (h : w2.heap[g]? = some (.cells #[c0, c1, c2, c3, c4, c5, c6, c7] t (0, 0))) : w2.cell? ⟨g, 0, none⟩ = some c0 ∧ w2.cell? ⟨g, 1, none⟩ = some c1 ∧
    w2.cell? ⟨g, 2, none⟩ = some c2 ∧ w2.cell? ⟨g, 3, none⟩ = some c3 ∧ w2.cell? ⟨g, 4, none⟩ = some c4 ∧ w2.cell? ⟨g, 5, none⟩ = some c5 ∧ w2.cell? ⟨g, 6, none⟩ = some c6 ∧ w2.cell? ⟨g, 7, none⟩ = some c7 ∧ ∀ o, w2.frozen? ⟨g, o, none⟩ = false :=
  ⟨(cell_of_row _ _ 0 _ _ _ h).trans rfl, (cell_of_row _ _ 1 _ _ _ h).trans rfl, (cell_of_row _ _ 2 _ _ _ h).trans rfl, (cell_of_row _ _ 3 _ _ _ h).trans rfl, (cell_of_row _ _ 4 _ _ _ h).trans rfl, (cell_of_row _ _ 5 _ _ _ h).trans rfl, (cell_of_row _ _ 6 _ _ _ h).trans rfl, (cell_of_row _ _ 7 _ _ _ h).trans rfl, fun o => by simp [World.frozen?, h]⟩

set_option maxHeartbeats 2000000 in
theorem walk_of (L : List Nd) (ih : ∀ t ∈ L, WalkOk t.l) : WalkOk L := by
  intro W0 lo hi l b0 Fl J Jx hYO pre rest p cap X hall hFl hb0 hlc hcap hJ0
  have HIH := Lib.hid ih
  have HY := Lib.hid hYO
  have HA := Lib.hid hall
  have HF := Lib.hid hFl
  have H0 := Lib.hid hJ0
  clear ih hYO hall hFl hJ0
  refine (callsIn_wide (n := 8)).1 ?_
  refine callsIn_of_wp Tryd.func54 rfl trivial ?_ rfl
  simp only [Tryd.ntmps54, List.size_toArray, List.length_cons, List.length_nil, Nat.reduceAdd, Nat.reduceSub, Array.replicate_succ, Array.replicate_zero, List.push_toArray, List.append_toArray, List.nil_append, List.cons_append]
  gi_wp2
  gi_loopw [9] (fun i wr => ∃ j : Nat, j ≤ L.length ∧ i = .int .i64 j ∧ Hid (J (pre.length + cntAll (L.take j)) wr) ∧ Hid (KeptK b0 X wr)) (fun i _ => L.length - (intOf i).toNat)
  case atStart => exact ⟨0, Nat.zero_le _, rfl, by simpa [cntAll] using H0, Lib.hid (KeptK.refl _ _)⟩
  case round =>
    obtain ⟨j, hj, rfl, HJj, HKj⟩ := hrel
    by_cases hlj : j < L.length
    · have hkc := HY.out.kc _ _ HJj.out
      have hallr : NAll wr lo hi L p := HA.out.keep (Nat.le_refl _) (Nat.le_refl _) hkc.2
      obtain ⟨b, off, o, n, s, v, ll, k, m, z, q, ql, qc, r, c, hp, _, hbhi, hli, h0, h1, h2, h3, h4, h5, h6, h7, hrep⟩ := hallr.item j hlj
      have hle := hkc.1
      have hbw : b < wr.heap.size := by omega
      have hmem : L[j] ∈ L := List.getElem_mem hlj
      have hih := HIH.out _ hmem
      have hsp := cntAll_split L j hlj
      rw [hli] at hih hsp
      -- where the nodes lie in the row of all
      obtain ⟨pr2, hpr2⟩ : ∃ pr2, pr2 = pre ++ flatL (L.take j) := ⟨_, rfl⟩
      obtain ⟨re2, hre2⟩ : ∃ re2, re2 = flatL (L.drop (j + 1)) ++ rest := ⟨_, rfl⟩
      have hF2 : Fl = pr2 ++ (.mk o n s v ll :: (flatL ll ++ re2)) := by
        rw [HF.out, hpr2, hre2]
        conv => lhs; rw [← List.take_append_drop j L, List.drop_eq_getElem_cons hlj, hli]
        rw [flatL_app, flatL, flatN]
        simp
      have hp2 : pr2.length = pre.length + cntAll (L.take j) := by rw [hpr2, List.length_append, flatL_len]
      have hjl : pr2.length < Fl.length := by rw [hF2]; simp
      have hget : Fl[pr2.length] = .mk o n s v ll := by simp [hF2]
      rw [← hp2] at HJj
      subst hp
      obtain ⟨b0g, hb0g⟩ : ∃ g, g = wr.heap.size := ⟨_, rfl⟩
      have HBW := Lib.hid ((Below.refl wr.heap.size wr).alloc (Nat.le_refl _) (.cells #[.int .i64 o, .int .i64 n, .string s, .int .i64 k, .int .i64 m, .string z, .slice q ql qc, .slice r ll.length c] 40))
      have HX1 := Lib.hid (heap_alloc_new wr (.cells #[.int .i64 o, .int .i64 n, .string s, .int .i64 k, .int .i64 m, .string z, .slice q ql qc, .slice r ll.length c] 40))
      have hJ1 := HY.out.st _ _ _ HJj.out HBW.out
      have hr1 : NRep (wr.alloc (.cells #[.int .i64 o, .int .i64 n, .string s, .int .i64 k, .int .i64 m, .string z, .slice q ql qc, .slice r ll.length c] 40)) lo hi Fl[pr2.length] (.agg #[.int .i64 o, .int .i64 n, .string s, .int .i64 k, .int .i64 m, .string z, .slice q ql qc, .slice r ll.length c]) := by
        rw [hget, ← hli]; exact hrep.alloc hle _
      obtain ⟨fn, tmps, assign, body, hy, hR⟩ := HY.out.y (8 - 1) pr2.length hjl _ _ hJ1 hr1
      have HLL : Hid (NAll W0 lo hi ll r ∧ ll.length ≤ c ∧ ll.length * 112 ≤ 140737488355328) := by
        have := hrep
        rw [hli] at this
        obtain ⟨k', m', z', q', ql', qc', r', c', hx, _, _, _, _, e1, e2, e3⟩ := this.open
        simp only [Value.agg.injEq, Array.mk.injEq, List.cons.injEq, and_true, Value.slice.injEq] at hx
        obtain ⟨_, _, _, _, _, _, _, rfl, _, rfl⟩ := hx
        exact Lib.hid ⟨e3.keep (Nat.le_refl _) (Nat.le_refl _) (fun a h1 h2 => (hkc.2 a h1 h2).symm), e1, e2⟩
      have HSP := Lib.hid (show pre.length + cntAll (L.take (j + 1)) = pr2.length + cnt (.mk o n s v ll) from by omega)
      have HF2 := Lib.hid hF2
      have hbs : b0 ≤ wr.heap.size := Nat.le_trans hb0 HKj.out.1
      clear hkc hallr hrep hli hJ1 hr1 hget hpr2 hre2 hp2 hsp hF2 hb0g hmem
      gi_wp2
      refine hR.mono ?_
      rintro e W3 (⟨rfl, hJ3, hk3⟩ | ⟨rfl, hJx3⟩)
      · have HJ3 := Lib.hid hJ3
        have HK3 := Lib.hid hk3
        have HX3 := Lib.hid ((hk3.2 wr.heap.size hbs (by simp)).trans HX1.out)
        obtain ⟨x0, x1, x2, x3, x4, x5, x6, x7, _⟩ := box8_in _ _ _ _ _ _ _ _ _ _ _ HX3.out
        have hw3 : wr.heap.size < W3.heap.size := by have := hk3.1; simp at this; omega
        have HC := Lib.hid (hih W0 lo hi l b0 Fl J Jx HY.out (pr2 ++ [.mk o n s v ll]) re2 r c W3 HLL.out.1 (by rw [HF2.out]; simp [Nd.l]) (by omega) HLL.out.2.1 HLL.out.2.2 (by simpa using HJ3.out))
        clear hJ3 hk3 hih hR hy
        gi_wp2_with (refine ⟨trivial, ?_⟩; gi_at_call 54; refine (callsIn_wide.2 HC.out).mono ?_; rintro e W4 (⟨rfl, hJ4, hk4⟩ | ⟨rfl, hJx4⟩))
        · have HJ4 := Lib.hid hJ4
          have HK4 := Lib.hid hk4
          clear hJ4 hk4
          gi_wp2
          go_roundw
          case rel =>
            refine ⟨j + 1, by omega, by simp, Lib.hid ?_, Lib.hid (HKj.out.trans ((KeptK.of_below HBW.out).trans (HK3.out.trans HK4.out)))⟩
            have e : pre.length + cntAll (L.take (j + 1)) = (pr2 ++ [Nd.mk o n s v ll]).length + cntAll ll := by
              have := HSP.out
              simp only [cnt] at this
              simp; omega
            rw [e]; exact HJ4.out
          case measure => simp [intOf]; omega
        · gi_wp2
          go_ret
          exact .inr ⟨rfl, hJx4⟩
      · gi_wp2
        refine ⟨trivial, ?_⟩
        gi_wp2
        go_ret
        exact .inr ⟨rfl, hJx3⟩
    · have hje : j = L.length := by omega
      subst hje
      gi_wp2
      go_ret
      exact .inl ⟨rfl, by simpa using HJj.out, HKj.out⟩
theorem walk_any (L : List Nd) : WalkOk L := by
  have key : ∀ t : Nd, WalkOk t.l := Nd.ind_ (fun o n s v l ih => walk_of l ih)
  exact walk_of L (fun t _ => key t)

/-- tree.all: a function that goes through all nodes. -/
theorem all_any (p : Option Addr) (len cap : Nat) (w : World) :
    Calls Tryd.prog 32 #[.slice p len cap] w fun e w' => e = .returned (.func (.func 53) #[] #[.pointer (some ⟨w.heap.size, 0, none⟩)]) ∧ w' = w.alloc (.cells #[.slice p len cap] 22) := by
  go_enter Tryd.func32, Tryd.ntmps32
  go_wp2
  go_ret
  exact ⟨rfl, rfl⟩

/-- What a round over all nodes is handed: the node, in blocks from lo on, below hi. -/
def HdA (Fl : List Nd) (lo hi : Nat) (j : Nat) (xs : Array Value) (_ : Nat) (X : World) : Prop := ∃ (h : j < Fl.length) (v : Value), xs = #[v] ∧ NRep X lo hi Fl[j] v
/-- What the walk wants to find: its box, and the nodes. -/
def KwA (W0 : World) (lo hi B : Nat) (p : Option Addr) (len cap : Nat) (X : World) : Prop := KeepC W0 lo hi X ∧ X.heap[B]? = some (.cells #[.slice p len cap] 22 (0, 0))

theorem cell_oneN (w : World) (g : Nat) (v : Value) (t : TypeId) (h : w.heap[g]? = some (.cells #[v] t (0, 0))) : w.cell? ⟨g, 0, none⟩ = some v ∧ w.frozen? ⟨g, 0, none⟩ = false :=
  ⟨(cell_of_row _ _ 0 _ _ _ h).trans rfl, by simp [World.frozen?, h]⟩

set_option maxHeartbeats 1000000 in
theorem all_hands (n : Nat) (L : List Nd) (W0 : World) (B lo hi : Nat) (p : Option Addr) (cap : Nat) (hall : NAll W0 lo hi L p) (hlc : L.length ≤ cap) (hcap : L.length * 112 ≤ 140737488355328) :
    HandsK Fence.wide n Tryd.prog 53 #[.pointer (some ⟨B, 0, none⟩)] (HdA (flatL L) lo hi) (cntAll L) (KwA W0 lo hi B p L.length cap) := by
  intro l J Jx W hJ hK hY h0
  have hYO : YOk W0 lo hi l W.heap.size (flatL L) J Jx := ⟨hJ, fun j X h => (hK j X h).1, fun m j hj v X hx hr => yieldAny m (hY j #[v] X.heap.size X hx ⟨X, hx, rfl⟩ (by rw [← flatL_len]; exact hj) ⟨hj, v, rfl, hr⟩)⟩
  have HC := Lib.hid (walk_any L W0 lo hi l W.heap.size (flatL L) J Jx hYO [] [] p cap W hall (by simp) (Nat.le_refl _) hlc hcap h0)
  obtain ⟨hc, hf⟩ := cell_oneN _ _ _ _ (hK 0 W h0).2
  have hlt := heap_ltN (hK 0 W h0).2
  clear hYO hY hJ hK h0 hall
  refine callsIn_of_wp Tryd.func53 rfl trivial ?_ rfl
  simp only [Tryd.ntmps53, List.size_toArray, List.length_cons, List.length_nil, Nat.reduceAdd, Nat.reduceSub, Array.replicate_succ, Array.replicate_zero, List.push_toArray, List.append_toArray, List.nil_append, List.cons_append]
  gi_wp2_with (refine ⟨trivial, (fun h => by cases h), ?_⟩; gi_at_call 54; refine (callsIn_wide.2 HC.out).mono ?_; rintro e W4 h4; obtain ⟨bb, rfl, HE4⟩ : ∃ bb, e = .returned (.bool bb) ∧ Hid (J (cntAll L) W4 ∨ Jx W4) := (by rcases h4 with ⟨rfl, h5, _⟩ | ⟨rfl, h5⟩; exact ⟨_, rfl, Lib.hid (.inl (by simpa using h5))⟩; exact ⟨_, rfl, Lib.hid (.inr h5)⟩); clear h4)
  go_end0
  exact ⟨⟨_, rfl⟩, HE4.out⟩
end Go.Proofs.YtminmadaeaiihaaDoor
