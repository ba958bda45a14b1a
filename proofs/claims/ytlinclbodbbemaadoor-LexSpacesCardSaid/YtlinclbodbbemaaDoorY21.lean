/- What laying a value into the innermost open list, and ending that list, make of the open lists. -/
import Derived.Test.YtlinclbodbbemaaDoorY20
namespace Go.Proofs.YtlinclbodbbemaaDoor
open Go.RowKit
set_option maxRecDepth 100000

theorem live_last {ov : Value} {frs : List (Value × List Value)} {f : Value × List Value} (h : (live ov (frs ++ [f])).Nodup) : (live ov frs).Nodup ∧ ∀ b, f.1.ownBlock = some b → b ∉ live ov frs := by
  rw [live_snoc, List.nodup_append] at h
  exact ⟨h.1, fun b hb hm => h.2.2 b hm b (mem_bk.2 hb) rfl⟩
theorem live_first {ov : Value} {frs : List (Value × List Value)} (h : (live ov frs).Nodup) {f : Value × List Value} (hf : f ∈ frs) {b : Nat} (hb : f.1.ownBlock = some b) : ov.ownBlock ≠ some b := by
  unfold live at h
  rw [List.nodup_append] at h
  exact fun e => h.2.2 b (mem_bk.2 e) b (List.mem_flatMap.2 ⟨f, hf, mem_bk.2 hb⟩) rfl

/-- Behind laying a value into the innermost list. -/
theorem Stk.added {w w' : World} {g : Nat} {s : ByteArray} {x : Rd} {st : List (List T)} {frs : List (Value × List Value)} {l : List T} {f : Value × List Value} {t : T} {bo capo : Nat} {c0 c1 c2 c3 : Value} {e : Ending}
    (h : Stk w g s x (st ++ [l]) (frs ++ [f])) (hov : x.ov = .slice (some ⟨bo, 0, none⟩) (frs.length + 1) capo)
    (hp : AddPost s x g w bo (frs.length + 1) f.1 l.length f.2 [c0, c1, c2, c3] e w') (ht : RepP w (Fr w g (live x.ov (frs ++ [f]))) t (.agg #[c0, c1, c2, c3])) :
    e = .returned (.tuple #[]) ∧ ∃ f', Stk w' g s x (st ++ [l ++ [t]]) (frs ++ [f']) ∧ Below g w w' := by
  obtain ⟨he, gb, cb, hr, hbo, hown, hat, hne, h1, h2, h3, h4, h5⟩ := hp
  obtain ⟨q, f0, e0, hlev, hrow, hitm⟩ := h.lev.unsnoc
  obtain ⟨rfl, e1⟩ := List.append_inj' e0 rfl
  obtain rfl : f = f0 := by simpa using e1
  clear e0 e1
  have hA := h.nd
  obtain ⟨hnd, hlast⟩ := live_last hA
  have hovb : x.ov.ownBlock = some bo := by rw [hov]; rfl
  have hboA : bo ∈ live x.ov frs := live_mem.2 (.inl hovb)
  have hlt := fun b hb => h.live_lt (b := b) hb
  have hsub : ∀ b, b ∈ live x.ov frs → b ∈ live x.ov (frs ++ [f]) := fun b hb => by rw [live_snoc]; simp [hb]
  have hlvA : ∀ b, f.1.ownBlock = some b → b ∈ live x.ov (frs ++ [f]) := fun b hb => live_mem.2 (.inr ⟨f, by simp, hb⟩)
  have hgb : gb ∉ live x.ov frs := fun hm => by
    rcases hat with e | e
    · exact hlast gb e hm
    · have := (hlt gb (hsub gb hm)).2; omega
  have hA' : ∀ c, live x.ov (frs ++ [(Value.slice (some ⟨gb, 0, none⟩) (l.length + 1) cb, c)]) = live x.ov frs ++ [gb] := fun c => by rw [live_snoc]; rfl
  have hP : ∀ b, Fr w g (live x.ov (frs ++ [f])) b → Fr w' g (live x.ov frs ++ [gb]) b := fun b hf => ⟨hf.1, Nat.lt_of_lt_of_le hf.2.1 h4, fun hm => by
    rcases List.mem_append.1 hm with hm | hm
    · exact hf.2.2 (hsub b hm)
    · obtain rfl : b = gb := by simpa using hm
      rcases hat with e | e
      · exact hf.2.2 (hlvA b e)
      · have := hf.2.1; omega⟩
  have hk : ∀ p : Addr, Fr w g (live x.ov (frs ++ [f])) p.block → w'.cell? p = w.cell? p := fun p hf =>
    World.cell?_of_block (h5 p.block hf.2.1 (fun e => hf.2.2 (by rw [e]; exact hsub _ hboA)) (fun e => hf.2.2 (hlvA _ e.symm)))
  refine ⟨he, (.slice (some ⟨gb, 0, none⟩) (l.length + 1) cb, f.2 ++ [c0, c1, c2, c3]), ⟨hr, ?_, ?_, ?_⟩, ⟨h1, h2, h3, h4, fun k hk => ?_⟩⟩
  · have e : (frs ++ [((Value.slice (some ⟨gb, 0, none⟩) (l.length + 1) cb : Value), f.2 ++ [c0, c1, c2, c3])]).map (·.1) = frs.map (·.1) ++ [.slice (some ⟨gb, 0, none⟩) (l.length + 1) cb] := by simp
    rw [e, List.length_append]
    have ho := h.own
    have e2 : (frs ++ [f]).map (·.1) = frs.map (·.1) ++ [f.1] := by simp
    rw [e2, List.length_append, hov] at ho
    have ho2 := (World.ownsRow.stored ho (frs.length * 4 + 3) (.slice (some ⟨gb, 0, none⟩) (l.length + 1) cb)).1
    have e3 : frs.length = (frs.map (·.1)).length := by simp
    have e4 := ocs_set (frs.map (·.1)) f.1 (.slice (some ⟨gb, 0, none⟩) (l.length + 1) cb)
    rw [← e3] at e4
    rw [e4] at ho2
    rw [hov]
    refine owns_same ho2 (fun b hb => ?_)
    obtain rfl : bo = b := by simpa [Value.ownBlock] using hb
    exact hbo
  · rw [hA']
    refine Lev.snoc (by rw [List.length_append]; exact hown) (Itm.snoc (RepP.keep hP hk _ _ ht) (hitm.keep hP hk)) (hlev.keep hP hk (fun f0 hf0 b hb => ?_))
    have hm : b ∈ live x.ov frs := live_mem.2 (.inr ⟨f0, hf0, hb⟩)
    refine h5 b (hlt b (hsub b hm)).2 (fun e => ?_) (fun e => hlast b e.symm hm)
    subst e
    exact live_first hnd hf0 hb hovb
  · rw [hA', List.nodup_append]
    exact ⟨hnd, by simp, fun a ha b hb e => by
      obtain rfl : b = gb := by simpa using hb
      exact hgb (e ▸ ha)⟩
  · refine h5 k (Nat.lt_trans hk h.rd.lt) (fun e => ?_) (fun e => ?_)
    · subst e; have := (hlt k (hsub k hboA)).1; omega
    · have := (hlt k (hlvA k e.symm)).1; omega

theorem owns_pop {w : World} {B : Nat} {e : TypeId} {a : Option Addr} {n cap : Nat} {xs ys : List Value} (h : w.ownsRow B e 4 (.slice a (n + 1) cap) (n + 1) (xs ++ ys)) (hl : xs.length = n * 4) : w.ownsRow B e 4 (.slice a n cap) n xs := by
  obtain ⟨_, ⟨_, h0⟩ | ⟨g, cap', cur, e1, h2, h3, h4, h5, h6, h7⟩⟩ := h
  · omega
  · injection e1 with e1 e2 e3
    subst e1 e3
    refine ⟨hl, .inr ⟨g, cap, cur, rfl, h2, h3, by omega, h5, h6, ?_⟩⟩
    have : (cur.toList.take ((n + 1) * 4)).take (n * 4) = (xs ++ ys).take (n * 4) := by rw [h7]
    rw [List.take_take, show min (n * 4) ((n + 1) * 4) = n * 4 by omega, ← hl, List.take_left' rfl] at this
    rw [← hl]; exact this

/-- Behind taking the innermost list away from the open ones. -/
theorem Stk.popped {w w' : World} {g : Nat} {s : ByteArray} {x : Rd} {st : List (List T)} {frs : List (Value × List Value)} {l : List T} {f : Value × List Value} {bo capo : Nat}
    (h : Stk w g s x (st ++ [l]) (frs ++ [f])) (hov : x.ov = .slice (some ⟨bo, 0, none⟩) (frs.length + 1) capo) (hl : l.length ≤ 4097)
    (hr : RdIs w' g s { x with ov := .slice (some ⟨bo, 0, none⟩) frs.length capo }) (hb : But g w w') :
    Stk w' g s { x with ov := .slice (some ⟨bo, 0, none⟩) frs.length capo } st frs ∧ RepP w' (Fr w' g (live (.slice (some ⟨bo, 0, none⟩) frs.length capo) frs)) (.mk 4 0 ByteArray.empty l) (.agg #[.int .i64 4, .int .i64 0, .string ⟨#[]⟩, f.1]) := by
  obtain ⟨q, f0, e0, hlev, hrow, hitm⟩ := h.lev.unsnoc
  obtain ⟨rfl, e1⟩ := List.append_inj' e0 rfl
  obtain rfl : f = f0 := by simpa using e1
  clear e0 e1
  have hA := h.nd
  have elive : live (.slice (some ⟨bo, 0, none⟩) frs.length capo) frs = live x.ov frs := by unfold live bk; rw [hov]; rfl
  obtain ⟨hnd, hlast⟩ := live_last hA
  have hlt := fun b hb => h.live_lt (b := b) hb
  have hsub : ∀ b, b ∈ live x.ov frs → b ∈ live x.ov (frs ++ [f]) := fun b hb => by rw [live_snoc]; simp [hb]
  have hP : ∀ b, Fr w g (live x.ov (frs ++ [f])) b → Fr w' g (live x.ov frs) b := fun b hf => ⟨hf.1, Nat.lt_of_lt_of_le hf.2.1 hb.size, fun hm => hf.2.2 (hsub b hm)⟩
  have hk : ∀ p : Addr, Fr w g (live x.ov (frs ++ [f])) p.block → w'.cell? p = w.cell? p := fun p hf => hb.cell hf.2.1 (by have := hf.1; omega)
  have hold : ∀ b, b ∈ live x.ov (frs ++ [f]) → w'.heap[b]? = w.heap[b]? := fun b hm => hb.block b (hlt b hm).2 (by have := (hlt b hm).1; omega)
  have hrow' := owns_same hrow (fun b hbb => hold b (live_mem.2 (.inr ⟨f, by simp, hbb⟩)))
  refine ⟨⟨hr, ?_, ?_, ?_⟩, ?_⟩
  · have ho := h.own
    have e2 : (frs ++ [f]).map (·.1) = frs.map (·.1) ++ [f.1] := by simp
    rw [e2, List.length_append, ocs_append, hov] at ho
    have ho2 := owns_pop (n := frs.length) ho (by rw [ocs_length]; simp)
    refine owns_same ho2 (fun b hbb => ?_)
    obtain rfl : bo = b := by simpa [Value.ownBlock] using hbb
    exact hold bo (live_mem.2 (.inl (by rw [hov]; rfl)))
  · rw [elive]
    exact hlev.keep hP hk (fun f0 hf0 b hbb => hold b (live_mem.2 (.inr ⟨f0, by simp [hf0], hbb⟩)))
  · show (live (.slice (some ⟨bo, 0, none⟩) frs.length capo) frs).Nodup
    rw [elive]; exact hnd
  · rw [elive]
    obtain ⟨p, cap, e1, e2, e3⟩ := list_of_row hrow' (hitm.keep hP hk) (fun b hbb => by
      have hm := live_mem.2 (.inr ⟨f, by simp, hbb⟩ : x.ov.ownBlock = some b ∨ ∃ f0 ∈ frs ++ [f], f0.1.ownBlock = some b)
      exact ⟨(hlt b hm).1, Nat.lt_of_lt_of_le (hlt b hm).2 hb.size, hlast b hbb⟩)
    unfold RepP
    exact ⟨p, cap, by rw [e1]; rfl, by unfold I64; omega, by unfold I64; omega, by simp, e2, by omega, e3⟩

/-- A value's own cells, in whatever blocks. -/
theorem RepP.form {w : World} {P : Nat → Prop} : {t : T} → {v : Value} → RepP w P t v → ∃ (k n : Int) (u : ByteArray) (p : Option Addr) (len cap : Nat), v = .agg #[.int .i64 k, .int .i64 n, .string u, .slice p len cap]
  | .mk k n u l, v, h => by
    unfold RepP at h
    obtain ⟨p, cap, hv, _⟩ := h
    exact ⟨k, n, u, p, l.length, cap, hv⟩
theorem RepP.bare {w : World} {P : Nat → Prop} (k n : Int) (u : ByteArray) (hk : I64 k) (hn : I64 n) (hu : u.size ≤ 140737488355328) : RepP w P (.mk k n u []) (.agg #[.int .i64 k, .int .i64 n, .string u, .slice none 0 0]) := by
  unfold RepP
  exact ⟨none, 0, rfl, hk, hn, hu, Nat.le_refl _, by simp, by unfold RepPA; trivial⟩

end Go.Proofs.YtlinclbodbbemaaDoor
