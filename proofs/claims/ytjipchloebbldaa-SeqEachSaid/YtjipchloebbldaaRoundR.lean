/- A region that draws its order, in a round of a range over a function: walked once, in the order of its text, its worlds all of one class. No program is named. -/
import Derived.RangeFuncCalls
import Derived.OrdersIn
import Derived.OwnWalkIn
import Derived.BigQuiet
import Derived.Deep.QuietTactic
namespace Go.Proofs.Ytjipchloebbldaa
open Go.RowKit

theorem calls_round {l n : Nat} {P : Program} {f : FuncId} {args : Array Value} {w : World} {R : Ending → World → Prop} (h : Calls P f args w R) : CallsIn (Fence.wide.inRound l) n P f args w R :=
  CallsIn.inRound l (callsIn_wide.2 h)
theorem wide_deep (l : Nat) : (Fence.wide.inRound l).depth.isSome = true → False := fun h => by simp [go_sem, Fence.wide] at h
theorem oper_round {l n : Nat} {P : Program} {o : Oper} {a : Act} {K : Act → World → Prop} {Q : Exit → Act → World → Prop} : ∀ {r : Result Next}, o.upon P a K Q r → o.uponIn (Fence.wide.inRound l) n P a K Q r
  | .ok (.value _) _, h => h
  | .ok .skip _, h => h
  | .ok (.defer _) _, h => h
  | .ok (.enter _ _) _, h => ⟨fun hd => (wide_deep l hd).elim, calls_round h⟩
  | .ok (.row _ _) _, h => ⟨fun hd => (wide_deep l hd).elim, fun c cs _ => let ⟨v, w', r, s⟩ := h c cs; ⟨v, w', r, stepsIn_wide.2 s⟩⟩
  | .halt (.panic _) _, h => h
theorem any_round {l n : Nat} {P : Program} {ops : Array Oper} {md : Region.Mode} {Q : Exit → Act → World → Prop} (hd : ∀ (i : Nat) (o : Oper), ops[i]? = some o → ∀ c, o.op ≠ .defer c) (hno : ¬ LetsOut Q) : ∀ (fuel : Nat) (listed : Array Bool) (a : Act) (w : World),
    wpAny P md ops Q fuel listed a w → wpAnyIn (Fence.wide.inRound l) n P md ops Q fuel listed a w
  | 0, _, _, _, h => h
  | fuel + 1, listed, a, w, h => ⟨h.1, fun i hi => by
    have h2 := h.2 i hi
    have ih := fun (a' : Act) (w' : World) => any_round (l := l) (n := n) (P := P) (md := md) hd hno fuel (listed.setIfInBounds i true) a' w'
    unfold wpOp at h2
    unfold wpOpIn
    cases ho : ops[i]? with
    | none => rw [ho] at h2; exact ih _ _ h2
    | some o =>
      rw [ho] at h2
      dsimp only at h2 ⊢
      by_cases hw : Region.wanted o (yielded ops a.tmps) = true
      · rw [if_pos hw] at h2 ⊢
        rcases h2 with h2 | ⟨_, h2⟩
        · refine Oper.wpIn_mono ih ⟨fun _ _ => trivial, ?_⟩
          rw [Oper.semAt_plain _ _ _ (hd i o ho)]
          exact oper_round h2
        · exact absurd h2 hno
      · rw [if_neg hw] at h2 ⊢
        exact ⟨fun _ _ => trivial, ih _ _ h2⟩⟩
/-- The region's law: C the class of worlds; each operation yields one value in every world of the class, and leaves one of the class. -/
theorem region_round {ro n : Nat} {P : Program} {C : World → Prop} {id : Nat} {Q : Exit → Act → World → Prop} {a : Act} {w : World} {l : List Oper} (hm : P.follows .mixedOrders = true) (hB : Region.lexB .any l.toArray = true) (hC : C w.drew)
    (hd : ∀ o ∈ l, ∀ c, o.op ≠ .defer c) (h : wpQuiet P l.toArray C (fun a' => ∀ w', C w' → Q .normal a' w') l a) : (Code.region id l.toArray true).wpIn (Fence.wide.inRound ro) n P Q a w := by
  have hno : ¬ LetsOut (fun (e : Exit) (a' : Act) (w' : World) => e = .normal ∧ Q .normal a' w') := fun ⟨_, _, h, _⟩ => by cases h
  have hB2 := hB
  simp only [Region.lexB, Bool.and_eq_true] at hB2
  have h1 := wpAnyQ_lex (C := C) (md := .any) hB2.1 l.toArray.toList 0 (Array.replicate l.toArray.size false) a (by simp) (by simpa using hB2.2) (by simpa using h)
  have h2 : wpAny P .any l.toArray (fun (e : Exit) (a' : Act) (w' : World) => e = .normal ∧ Q .normal a' w') l.toArray.size (Array.replicate l.toArray.size false) a w.drew :=
    wpAny_of_quiet (C := C) (Q := fun a' => ∀ w', C w' → Q .normal a' w') (fun _ w' hw' h => ⟨rfl, h w' hw'⟩) _ _ _ _ hC (by simpa using h1)
  exact wpIn_mono (wpIn_region_any hm (any_round (fun i o ho => hd o (by simpa using Array.mem_of_getElem? ho)) hno _ _ _ _ h2)) (fun e a' w' h => h.1 ▸ h.2)
end Go.Proofs.Ytjipchloebbldaa
