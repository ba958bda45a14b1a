/- Plain words on what spaces part in a text: by runes, by bytes, as lists. No program is named. -/
import Derived.Test.YtnlbibfjhobmjaaDoorRepM
import Derived.Lib.FieldsP
import Derived.Lib.SpaceUEq
import Derived.Lib.TrimByte
namespace Go.Proofs.YtnlbibfjhobmjaaDoor
open Go.Lib

/-- What is open, and what follows. -/
def wl : Bl → Bl → List Bl
  | cur, [] => if cur = [] then [] else [cur]
  | cur, c :: r => if c = 32 then (if cur = [] then wl [] r else cur :: wl [] r) else wl (cur ++ [c]) r
def words (l : Bl) : List Bl := wl [] l

theorem wl_skip : ∀ (x cur r : Bl), (∀ c ∈ x, c ≠ 32) → wl cur (x ++ r) = wl (cur ++ x) r
  | [], cur, r, _ => by simp
  | c :: x, cur, r, h => by
    have hc : c ≠ 32 := h c (by simp)
    rw [List.cons_append, wl, if_neg hc, wl_skip x (cur ++ [c]) r (fun d hd => h d (by simp [hd]))]
    simp

/-- By runes: what Go's text finds is what is found by bytes. -/
theorem dec_facts (s : ByteArray) (pos : Nat) (h : pos < s.size) :
    1 ≤ (Utf8.decode s pos).2 ∧ pos + (Utf8.decode s pos).2 ≤ s.data.toList.length ∧
    (((Utf8.decode s pos).1 = 32 ∧ (Utf8.decode s pos).2 = 1 ∧ (s.data.toList.getD pos 0).toNat = 32) ∨
     ((Utf8.decode s pos).1 ≠ 32 ∧ ∀ j, j < (Utf8.decode s pos).2 → (s.data.toList.getD (pos + j) 0).toNat ≠ 32)) := by
  have hl : s.data.toList.length = s.size := by simp
  obtain ⟨n, hn⟩ : ∃ n, s.data.toList.length - pos = n := ⟨_, rfl⟩
  rw [decode_N, hn]
  generalize hb0 : (s.data.toList.getD pos 0).toNat = b0 at *
  generalize hb1 : (s.data.toList.getD (pos + 1) 0).toNat = b1
  generalize hb2 : (s.data.toList.getD (pos + 2) 0).toNat = b2
  generalize hb3 : (s.data.toList.getD (pos + 3) 0).toNat = b3
  obtain ⟨c1, c2, c3, c4⟩ := decodeN_conts n b0 b1 b2 b3
  have hge := decodeN_ge1 n b0 b1 b2 b3
  have hasc := decodeN_ascii n b0 b1 b2 b3
  refine ⟨hge, by omega, ?_⟩
  by_cases h32 : b0 = 32
  · have e := hasc (by omega)
    rw [e]
    exact .inl ⟨h32, rfl, h32⟩
  · right
    constructor
    · intro hr
      rcases decodeN_cases n b0 b1 b2 b3 with ⟨_, e⟩ | ⟨_, _, _, _, e⟩ | ⟨_, _, _, _, _, e⟩ | ⟨e, _⟩ | e
      · rw [e] at hr; exact h32 hr
      · rw [e] at hr; dsimp only at hr; omega
      · rw [e] at hr; dsimp only at hr; omega
      · omega
      · rw [e] at hr; dsimp only at hr; omega
    · intro j hlt
      generalize (decodeN n b0 b1 b2 b3).2 = k at *
      match j, hlt with
      | 0, _ => rw [Nat.add_zero, hb0]; exact h32
      | 1, h => rw [hb1]; have := c1 (by omega); omega
      | 2, h => rw [hb2]; have := c2 (by omega); omega
      | 3, h => rw [hb3]; have := c3 (by omega); omega
      | j + 4, h => omega

theorem getD_at (l : Bl) (i : Nat) (h : i < l.length) : l.getD i 0 = l[i] := by rw [List.getD, List.getElem?_eq_getElem h]; rfl
def piece (l : Bl) (a b : Nat) : Bl := (l.drop a).take (b - a)
theorem piece_grow (l : Bl) (a b k : Nat) (h : a ≤ b) : piece l a (b + k) = piece l a b ++ (l.drop b).take k := by
  unfold piece
  rw [show b + k - a = (b - a) + k by omega, List.take_add, List.drop_drop, show a + (b - a) = b by omega]
def openW (l : Bl) (st : Option Nat) (pos : Nat) : Bl := match st with | some a => piece l a pos | none => []
theorem piece_ne (l : Bl) (a b : Nat) (h : a < b) (hb : b ≤ l.length) : piece l a b ≠ [] := by
  intro e
  have := congrArg List.length e
  unfold piece at this
  simp at this
  omega

theorem spans_words (s : ByteArray) : ∀ (f pos : Nat) (st : Option Nat) (acc : List (Nat × Nat)), s.size ≤ pos + f → pos ≤ s.size → (∀ a, st = some a → a < pos) →
    (closeSpans s (spansFromP (fun r => r == 32) s f pos st acc)).map (fun x => piece s.data.toList x.1 x.2) = acc.map (fun x => piece s.data.toList x.1 x.2) ++ wl (openW s.data.toList st pos) (s.data.toList.drop pos)
  | 0, pos, st, acc, hf, hp, hst => by
    have hl : s.data.toList.length = s.size := by simp
    have hps : pos = s.size := by omega
    rw [List.drop_of_length_le (by omega)]
    show (closeSpans s (acc, st)).map _ = _
    cases st with
    | none => simp [closeSpans, openW, wl]
    | some a =>
      have := piece_ne s.data.toList a pos (hst a rfl) (by omega)
      simp [closeSpans, openW, wl, hps] at this ⊢
      exact this
  | f + 1, pos, st, acc, hf, hp, hst => by
    have hl : s.data.toList.length = s.size := by simp
    by_cases h : pos < s.size
    · obtain ⟨d1, d2, d3⟩ := dec_facts s pos h
      unfold spansFromP
      rw [if_pos h]
      rcases d3 with ⟨e1, e2, e3⟩ | ⟨e1, e3⟩
      · rw [e1, e2]
        have hlt : pos < s.data.toList.length := by omega
        have hc : s.data.toList[pos] = 32 := by
          apply UInt8.toNat_inj.1
          have e4 := getD_at s.data.toList pos hlt
          rw [e4] at e3
          exact e3
        rw [List.drop_eq_getElem_cons hlt, hc]
        rw [if_pos (by rfl)]
        cases st with
        | none =>
          show (closeSpans s (spansFromP _ s f (pos + 1) none acc)).map _ = _
          rw [spans_words s f (pos + 1) none acc (by omega) (by omega) (by simp)]
          simp [openW, wl]
        | some a =>
          show (closeSpans s (spansFromP _ s f (pos + 1) none (acc ++ [(a, pos)]))).map _ = _
          rw [spans_words s f (pos + 1) none _ (by omega) (by omega) (by simp)]
          have := piece_ne s.data.toList a pos (hst a rfl) (by omega)
          simp [openW, wl, this]
      · rw [if_neg (by simpa using e1)]
        generalize (Utf8.decode s pos).2 = k at *
        have hsk : ∀ c ∈ (s.data.toList.drop pos).take k, c ≠ 32 := by
          intro c hc hc32
          obtain ⟨j, hj, rfl⟩ := List.getElem_of_mem hc
          rw [List.length_take, List.length_drop] at hj
          rw [List.getElem_take, List.getElem_drop] at hc32
          apply e3 j (by omega)
          have hlt : pos + j < s.data.toList.length := by omega
          have e4 := getD_at s.data.toList (pos + j) hlt
          rw [e4, hc32]; rfl
        have hdr : s.data.toList.drop pos = (s.data.toList.drop pos).take k ++ s.data.toList.drop (pos + k) := by
          rw [← List.drop_drop, List.take_append_drop]
        rw [hdr, wl_skip _ _ _ hsk]
        cases st with
        | none =>
          show (closeSpans s (spansFromP _ s f (pos + k) (some pos) acc)).map _ = _
          rw [spans_words s f (pos + k) (some pos) acc (by omega) (by omega) (by intro a ha; injection ha; omega)]
          simp [openW, piece]
        | some a =>
          show (closeSpans s (spansFromP _ s f (pos + k) (some a) acc)).map _ = _
          rw [spans_words s f (pos + k) (some a) acc (by omega) (by omega) (by intro b hb; injection hb with hb; have := hst a rfl; omega)]
          show _ ++ wl (piece _ a (pos + k)) _ = _
          rw [piece_grow _ a pos k (by have := hst a rfl; omega)]
          rfl
    · have hps : pos = s.size := by omega
      rw [spansFromP_end _ _ _ _ _ _ h, List.drop_of_length_le (by omega)]
      cases st with
      | none => simp [closeSpans, openW, wl]
      | some a =>
        have := piece_ne s.data.toList a pos (hst a rfl) (by omega)
        simp [closeSpans, openW, wl, hps] at this ⊢
        exact this

/-- strings.FieldsFunc at the space: the words. -/
theorem fields_words (s : ByteArray) : (goFieldsP (fun r => r == 32) s).map (fun x => x.data.toList) = words s.data.toList := by
  have h := spans_words s s.size 0 none [] (by omega) (Nat.zero_le _) (by simp)
  unfold goFieldsP spansOfP
  rw [List.map_map]
  simp only [openW, List.drop_zero, List.map_nil, List.nil_append] at h
  unfold words
  rw [← h]
  apply List.map_congr_left
  intro x _
  show (s.extract x.1 x.2).data.toList = _
  simp [piece]

/-- A word is not empty, and has no space. -/
def Word (x : Bl) : Prop := x ≠ [] ∧ ∀ c ∈ x, c ≠ 32
theorem wl_good : ∀ (l cur : Bl), (∀ c ∈ cur, c ≠ 32) → ∀ x ∈ wl cur l, Word x
  | [], cur, hc, x, hx => by
    rw [wl] at hx
    split at hx
    · simp at hx
    · rename_i h; simp at hx; subst hx; exact ⟨h, hc⟩
  | c :: r, cur, hc, x, hx => by
    rw [wl] at hx
    split at hx
    · split at hx
      · exact wl_good r [] (by simp) x hx
      · rename_i h
        rcases List.mem_cons.1 hx with rfl | hx
        · exact ⟨h, hc⟩
        · exact wl_good r [] (by simp) x hx
    · rename_i h
      exact wl_good r (cur ++ [c]) (by intro d hd; rcases List.mem_append.1 hd with hd | hd; exact hc d hd; simp at hd; subst hd; exact h) x hx
theorem words_good (l : Bl) : ∀ x ∈ words l, Word x := wl_good l [] (by simp)
theorem wl_len : ∀ (l cur : Bl), (joinT [32] (wl cur l)).length ≤ cur.length + l.length
  | [], cur => by
    rw [wl]; split
    · simp [joinT]
    · simp [joinT]
  | c :: r, cur => by
    rw [wl]; split
    · split
      · have := wl_len r []; simp at this ⊢; omega
      · have h := wl_len r []
        cases hw : wl [] r with
        | nil => simp [joinT]
        | cons y q =>
          rw [hw] at h
          simp [joinT] at h ⊢
          omega
    · have := wl_len r (cur ++ [c]); simp at this ⊢; omega
theorem words_join : ∀ ws : List Bl, (∀ x ∈ ws, Word x) → words (joinT [32] ws) = ws
  | [], _ => rfl
  | [x], h => by
    obtain ⟨h1, h2⟩ := h x (by simp)
    rw [joinT_one]
    have := wl_skip x [] [] h2
    rw [List.append_nil] at this
    unfold words
    rw [this]
    simp [wl, h1]
  | x :: y :: q, h => by
    obtain ⟨h1, h2⟩ := h x (by simp)
    have e : joinT [32] (x :: y :: q) = x ++ (32 :: joinT [32] (y :: q)) := by simp [joinT]
    have ih := words_join (y :: q) (fun z hz => h z (by simp [hz]))
    unfold words at ih ⊢
    rw [e, wl_skip x [] _ h2, List.nil_append, wl, if_pos rfl, if_neg h1, ih]
theorem joinT_ends : ∀ ws : List Bl, (∀ x ∈ ws, Word x) → ws ≠ [] → (∃ a t, joinT [32] ws = a :: t ∧ a ≠ 32) ∧ (∃ t b, joinT [32] ws = t ++ [b] ∧ b ≠ 32)
  | [], _, h => absurd rfl h
  | [x], h, _ => by
    obtain ⟨h1, h2⟩ := h x (by simp)
    rw [joinT_one]
    constructor
    · cases x with
      | nil => exact absurd rfl h1
      | cons a t => exact ⟨a, t, rfl, h2 a (by simp)⟩
    · refine ⟨x.dropLast, x.getLast h1, (List.dropLast_concat_getLast h1).symm, h2 _ (List.getLast_mem h1)⟩
  | x :: y :: q, h, _ => by
    obtain ⟨h1, h2⟩ := h x (by simp)
    have e : joinT [32] (x :: y :: q) = x ++ (32 :: joinT [32] (y :: q)) := by simp [joinT]
    obtain ⟨_, t, b, ht, hb⟩ := joinT_ends (y :: q) (fun z hz => h z (by simp [hz])) (by simp)
    rw [e]
    constructor
    · cases x with
      | nil => exact absurd rfl h1
      | cons a t => exact ⟨a, _, rfl, h2 a (by simp)⟩
    · exact ⟨x ++ 32 :: t, b, by rw [ht]; simp, hb⟩
theorem trim_same (l : Bl) (h : l = [] ∨ (∃ a t, l = a :: t ∧ a ≠ 32) ∧ (∃ t b, l = t ++ [b] ∧ b ≠ 32)) : trimB l 32 = l := by
  rcases h with rfl | ⟨⟨a, t, h1, ha⟩, ⟨u, b, h2, hb⟩⟩
  · rfl
  · have e1 : trimRightB l 32 = l := by
      unfold trimRightB
      rw [h2, List.reverse_append]
      simp [hb]
    unfold trimB
    rw [e1, h1]
    unfold trimLeftB
    simp [ha]
theorem trim_words (l : Bl) : trimB (joinT [32] (words l)) 32 = joinT [32] (words l) := by
  apply trim_same
  by_cases h : words l = []
  · left; rw [h]; rfl
  · exact .inr (joinT_ends _ (words_good l) h)
theorem sep_bounds (sep : Bl) (hs : sep.length = 1) : ∀ r : List Bl, r.length ≤ ((r.map (sep ++ ·)).flatten).length ∧ ∀ y ∈ r, y.length ≤ ((r.map (sep ++ ·)).flatten).length
  | [] => ⟨by simp, by simp⟩
  | y :: q => by
    obtain ⟨i1, i2⟩ := sep_bounds sep hs q
    rw [List.map_cons, List.flatten_cons, List.length_append, List.length_append]
    refine ⟨by simp only [List.length_cons]; omega, fun z hz => ?_⟩
    rcases List.mem_cons.1 hz with rfl | hz
    · omega
    · have := i2 z hz; omega
theorem joinT_bounds : ∀ ws : List Bl, (∀ x ∈ ws, Word x) → ws.length ≤ (joinT [32] ws).length ∧ ∀ x ∈ ws, x.length ≤ (joinT [32] ws).length
  | [], _ => ⟨by simp, by simp⟩
  | x :: r, h => by
    have hx1 : 0 < x.length := List.length_pos_iff.2 (h x (by simp)).1
    obtain ⟨r1, r2⟩ := sep_bounds [32] rfl r
    rw [joinT, List.length_append]
    refine ⟨by simp only [List.length_cons]; omega, fun z hz => ?_⟩
    rcases List.mem_cons.1 hz with rfl | hz
    · omega
    · have := r2 z hz; omega
end Go.Proofs.YtnlbibfjhobmjaaDoor
