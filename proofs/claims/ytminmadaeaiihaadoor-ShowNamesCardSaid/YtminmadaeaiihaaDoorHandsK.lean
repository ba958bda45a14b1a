/- A range over a function whose iterator reads, behind a round, what it laid itself: XHandsK's law, with a word that a round keeps all that lay there since the loop began. No program is named. -/
import Derived.RangeFuncNested
import Derived.RangeFuncCalls
import Derived.RangeFuncLeaves
import Derived.Below
namespace Go.Proofs.YtminmadaeaiihaaDoor
open Go.RowKit

/-- What lay from s on lies as it lay. -/
def KeptK (s : Nat) (X Y : World) : Prop := X.heap.size ≤ Y.heap.size ∧ ∀ b, s ≤ b → b < X.heap.size → Y.heap[b]? = X.heap[b]?
theorem KeptK.refl (s : Nat) (X : World) : KeptK s X X := ⟨Nat.le_refl _, fun _ _ _ => rfl⟩
theorem KeptK.trans {s : Nat} {X Y Z : World} (h : KeptK s X Y) (h2 : KeptK s Y Z) : KeptK s X Z := ⟨Nat.le_trans h.1 h2.1, fun b h3 h4 => (h2.2 b h3 (Nat.lt_of_lt_of_le h4 h.1)).trans (h.2 b h3 h4)⟩
theorem KeptK.of_below {s : Nat} {X Y : World} (h : Below X.heap.size X Y) : KeptK s X Y := ⟨h.size, fun b _ h4 => h.block b h4⟩
theorem KeptK.setCell (s : Nat) (X : World) {p : Addr} (hp : p.block < s) (v : Value) : KeptK s X (X.setCell p v) := ⟨by simp, fun b h3 _ => Below.heap_setCell _ _ _ _ (by omega)⟩
theorem KeptK.alloc (s : Nat) (X : World) (o : Obj) : KeptK s X (X.alloc o) := .of_below ((Below.refl _ X).alloc (Nat.le_refl _) o)
theorem KeptK.drew (s : Nat) (X : World) : KeptK s X X.drew := ⟨Nat.le_refl _, fun _ _ _ => rfl⟩

/-- What an iterator promises: round j (of N) is handed values of which H speaks, in the world in which it is called, made in blocks from b on, which were new behind a state of the caller's; J tells what the caller keeps from round to round, Kw what the iterator wants to find of it. A round that goes on keeps what lies beyond the loop's start. -/
def HandsK (F : Fence) (n : Nat) (P : Program) (gf : Nat) (lb : Array Value) (H : Nat → Array Value → Nat → World → Prop) (N : Nat) (Kw : World → Prop) : Prop :=
  ∀ (l : Nat) (J : Nat → World → Prop) (Jx : World → Prop) (W : World), (∀ j X Y, J j X → Below X.heap.size X Y → J j Y) → (∀ j X, J j X → Kw X) →
    (∀ j xs b X, J j X → (∃ X0, J j X0 ∧ X0.heap.size = b) → j < N → H j xs b X → YieldAt F (n - 1) P l xs X fun e Y => (e = .returned (.bool true) ∧ J (j + 1) Y ∧ KeptK W.heap.size X Y) ∨ (e = .returned (.bool false) ∧ Jx Y)) →
    J 0 W → CallsIn F n P gf (#[.func (.yield l) #[] #[]] ++ lb) W fun e Y => (∃ v, e = .returned v) ∧ (J N Y ∨ Jx Y)

/-- How a round's body may be left. -/
def RoundPostK (s : Nat) (I : World → Prop) (Ix : Code → World → Prop) (X : World) : Exit → Act → World → Prop
  | .normal, _, Y => KeptK s X Y ∧ I Y
  | .ret, _, Y => KeptK s X Y ∧ Ix .ret Y
  | .exit id, _, Y => KeptK s X Y ∧ Ix (.exit id) Y
  | _, _, _ => False
/-- What is asked behind the assignments to the loop's variables: the body, from whatever the record is turned to. -/
def AssignPostK (F : Fence) (n : Nat) (P : Program) (s : Nat) (body : Code) (I : World → Prop) (Ix : Code → World → Prop) (X : World) (a : Act) (Y : World) : Prop :=
  KeptK s X Y ∧ ∀ r : Loop, body.wpIn (F.inRound (s + 1)) n P (RoundPostK s I Ix (Y.putObj (s + 1) (.loop r))) a (Y.putObj (s + 1) (.loop r))

theorem putObj_belowK (W : World) {B l : Nat} (h : B ≤ l) (_hl : l < W.heap.size) (o : Obj) : Below B W (W.putObj l o) :=
  ⟨rfl, rfl, rfl, by simp, fun k hk => World.putObj_heap_other (by omega)⟩

theorem range_keeps {F : Fence} {n : Nat} {P : Program} {g : Operand} {ps : Array Tmp} {assign body : Code} {Q : Exit → Act → World → Prop} {a : Act} {w : World}
    (hro : F.round = none) (h1 : 1 ≤ n) {gf : Nat} {lb : Array Value} (hg : a.eval g = .func (.func gf) #[] lb) (hFg : F.fn gf) (eg : ∀ args w, (callFunc gf args).run P w = .ok (.enter gf args) w)
    {H : Nat → Array Value → Nat → World → Prop} {N : Nat} {Kw : World → Prop} (hseq : HandsK F (n - 1) P gf lb H N Kw) (hps : ∀ j xs b X, H j xs b X → xs.size = ps.size)
    (I : Nat → World → Prop) (Ix : Code → World → Prop) (hI : ∀ j X Y, I j X → Below w.heap.size X Y → I j Y) (hIx : ∀ c X Y, Ix c X → Below w.heap.size X Y → Ix c Y) (hKw : ∀ j X, I j X → Kw X) (h0 : I 0 w)
    (hround : ∀ j xs b X, j < N → I j X → H j xs b X → w.heap.size + 1 < b → w.heap.size + 1 < X.heap.size →
      assign.wpIn (F.inRound (w.heap.size + 1)) (n - 1 - 1) P (Exit.then (AssignPostK F (n - 1 - 1) P w.heap.size body (I (j + 1)) Ix X) (fun _ _ _ => False)) { tmps := (ps.zip xs).foldl (fun t (p, v) => t.setIfInBounds p v) a.tmps, defers := [] } X)
    (hdone : ∀ Y, I N Y → Y.heap[w.heap.size]? = some (.deferred (some [])) → Q .normal { a with defers := { target := .collected w.heap.size, args := #[] } :: a.defers } Y)
    (hstop : ∀ c Y, Ix c Y → Y.heap[w.heap.size]? = some (.deferred (some [])) → c.wpIn F n P Q { a with defers := { target := .collected w.heap.size, args := #[] } :: a.defers } Y) :
    (Code.rangeFunc g ps assign body).wpIn F n P Q a w := by
  refine wpIn_rangeFunc ?_
  intro fn hfn
  rw [hro]
  obtain ⟨rc, hrc⟩ : ∃ rc : LoopState → Option Code → Loop, rc = fun st pe => { state := st, pending := pe, fn, tmps := a.tmps, params := ps, assign, body, defers := w.heap.size } := ⟨_, rfl⟩
  obtain ⟨W1, hW1⟩ : ∃ W1, (w.alloc (.deferred (some []))).alloc (.loop (rc .ready none)) = W1 := ⟨_, rfl⟩
  have hb1 : Below w.heap.size w W1 := by rw [← hW1]; exact ((Below.refl _ w).alloc (Nat.le_refl _) _).alloc (by simp) _
  have hs1 : W1.heap.size = w.heap.size + 2 := by rw [← hW1]; simp
  have hL1 : W1.heap[w.heap.size + 1]? = some (.loop (rc .ready none)) := by
    rw [← hW1]; have := World.alloc_heap_new (w.alloc (.deferred (some []))) (.loop (rc .ready none)); rwa [World.size_alloc] at this
  have hD1 : W1.heap[w.heap.size]? = some (.deferred (some [])) := by
    rw [← hW1]; exact (Below.heap_alloc _ _ _ (by simp)).trans (World.alloc_heap_new w _)
  refine ⟨w.heap.size + 1, [{ target := .collected w.heap.size, args := #[] }], W1, { target := .fn (.func gf) lb, args := #[.func (.yield (w.heap.size + 1)) #[] #[]] }, W1, gf, #[.func (.yield (w.heap.size + 1)) #[] #[]] ++ lb, W1, ?_, ?_, ?_, ?_, fun _ => h1, ?_⟩
  · rw [← hW1, hrc]; exact run_enterLoop_outer _ _ _ _ _
  · simp only [resolve, hg]
    simp [go_sem]
  · intro f' hf'; simp [Target.leads] at hf'; subst hf'; exact hFg
  · simp [invoke, go_sem, eg]
  generalize hsd : w.heap.size = s at *
  refine (hseq (s + 1) (fun j X => I j X ∧ X.heap[s + 1]? = some (.loop (rc .ready none)) ∧ X.heap[s]? = some (.deferred (some [])) ∧ s + 1 < X.heap.size)
    (fun X => ∃ c, Ix c X ∧ X.heap[s + 1]? = some (.loop (rc .done (some c))) ∧ X.heap[s]? = some (.deferred (some [])) ∧ s + 1 < X.heap.size) W1
    (fun j X Y h hb => ⟨hI j X Y h.1 (hb.mono (by have := h.2.2.2; omega)), (hb.block _ h.2.2.2).trans h.2.1, (hb.block _ (by have := h.2.2.2; omega)).trans h.2.2.1, Nat.lt_of_lt_of_le h.2.2.2 hb.size⟩)
    (fun j X h => hKw j X h.1) ?_ ⟨hI 0 _ _ h0 hb1, hL1, hD1, by omega⟩).mono ?_
  · rintro j xs b X ⟨hi, hl, hd, hlt⟩ ⟨X0, ⟨_, _, _, hlt0⟩, hX0⟩ hj hx
    have hy := run_yield (P := P) (args := xs) hl (by rw [hrc]; exact hps j xs b X hx)
    rw [hrc] at hy
    refine ⟨fn, _, assign, body, hy, roundIn_of_wpIn hfn (wpIn_mono (hround j xs b X hj hi hx (hX0 ▸ hlt0) hlt) ?_)⟩
    clear hy
    intro e a₁ Y hpost
    cases e with
    | normal =>
      obtain ⟨hk, hbody⟩ := hpost
      have hkA := hk
      have hk1 := hk.1
      have hk2 := hk.2 s (Nat.le_refl _) (by omega)
      have hk3 := hk.2 (s + 1) (by omega) hlt
      have hlY := hk3.trans hl
      have hdY := hk2.trans hd
      have hltY : s + 1 < Y.heap.size := by omega
      refine ⟨_, run_beginRound hlY (by rw [hrc]), ?_⟩
      have hl2 : (Y.putObj (s + 1) (.loop { rc .ready none with state := .busy })).heap[s + 1]? = some (.loop { rc .ready none with state := .busy }) := World.putObj_heap_same hltY
      have hd2 : (Y.putObj (s + 1) (.loop { rc .ready none with state := .busy })).heap[s]? = some (.deferred (some [])) := (World.putObj_heap_other (by omega)).trans hdY
      have hz2 : (Y.putObj (s + 1) (.loop { rc .ready none with state := .busy })).heap.size = Y.heap.size := by simp
      refine wpIn_mono (hbody _) ?_
      have fin : ∀ (jump : Option Code) (Z : World), KeptK s (Y.putObj (s + 1) (.loop { rc .ready none with state := .busy })) Z →
          (Instr.endRound (s + 1) jump).run P Z = .ok (.bool jump.isNone) (Z.putObj (s + 1) (.loop (rc (if jump.isNone then .ready else .done) jump))) ∧ s + 1 < Z.heap.size ∧ Z.heap[s]? = some (.deferred (some [])) := fun jump Z hz => by
        have hl3 := (hz.2 (s + 1) (by omega) (by omega)).trans hl2
        have hr := run_endRound (P := P) jump hl3
        rw [hrc] at hr ⊢
        exact ⟨hr, by have := hz.1; omega, (hz.2 s (Nat.le_refl _) (by omega)).trans hd2⟩
      have back : ∀ (jump : Option Code) (Z : World), s + 1 < Z.heap.size → Z.heap[s]? = some (.deferred (some [])) → ∀ st,
          Below s Z (Z.putObj (s + 1) (.loop (rc st jump))) ∧ (Z.putObj (s + 1) (.loop (rc st jump))).heap[s + 1]? = some (.loop (rc st jump)) ∧ (Z.putObj (s + 1) (.loop (rc st jump))).heap[s]? = some (.deferred (some [])) ∧ s + 1 < (Z.putObj (s + 1) (.loop (rc st jump))).heap.size :=
        fun jump Z hz hd3 st => ⟨putObj_belowK Z (by omega) hz _, World.putObj_heap_same hz, (World.putObj_heap_other (by omega)).trans hd3, by simpa using hz⟩
      rintro e a3 Z hp
      cases e with
      | normal =>
        obtain ⟨hk, hi3⟩ := hp
        obtain ⟨hr, hz, hd3⟩ := fin none Z hk
        obtain ⟨b1, b2, b3, b4⟩ := back none Z hz hd3 .ready
        exact ⟨_, _, hr, .inl ⟨rfl, ⟨hI _ _ _ hi3 b1, b2, b3, b4⟩, by
          rw [hs1]
          refine ⟨by have := hk.1; simp at this ⊢; omega, fun b h3 h4 => ?_⟩
          exact (World.putObj_heap_other (by omega)).trans ((hk.2 b (by omega) (by simp; omega)).trans ((World.putObj_heap_other (by omega)).trans (hkA.2 b (by omega) h4)))⟩⟩
      | ret =>
        obtain ⟨hk, hi3⟩ := hp
        obtain ⟨hr, hz, hd3⟩ := fin (some .ret) Z hk
        obtain ⟨b1, b2, b3, b4⟩ := back (some .ret) Z hz hd3 .done
        exact ⟨_, _, hr, .inr ⟨rfl, .ret, hIx _ _ _ hi3 b1, b2, b3, b4⟩⟩
      | exit id =>
        obtain ⟨hk, hi3⟩ := hp
        obtain ⟨hr, hz, hd3⟩ := fin (some (.exit id)) Z hk
        obtain ⟨b1, b2, b3, b4⟩ := back (some (.exit id)) Z hz hd3 .done
        exact ⟨_, _, hr, .inr ⟨rfl, .exit id, hIx _ _ _ hi3 b1, b2, b3, b4⟩⟩
      | goto t => exact hp.elim
      | panic ch => exact hp.elim
      | outgrown => exact hp.elim
    | exit id => exact hpost.elim
    | goto t => exact hpost.elim
    | ret => exact hpost.elim
    | panic ch => exact hpost.elim
    | outgrown => exact hpost.elim
  · rintro e Y ⟨⟨v, rfl⟩, (⟨hi, hl, hd, hlt⟩ | ⟨c, hi, hl, hd, hlt⟩)⟩
    · refine ⟨none, _, by have := run_endLoop (P := P) hl (by rw [hrc]; simp); rw [hrc] at this; exact this, hdone _ (hI _ _ _ hi (putObj_belowK Y (by omega) hlt _)) ((World.putObj_heap_other (by omega)).trans hd)⟩
    · refine ⟨some c, _, by have := run_endLoop (P := P) hl (by rw [hrc]; simp); rw [hrc] at this; exact this, hstop c _ (hIx _ _ _ hi (putObj_belowK Y (by omega) hlt _)) ((World.putObj_heap_other (by omega)).trans hd)⟩
end Go.Proofs.YtminmadaeaiihaaDoor
