/- Plain words on a text in which another one is replaced, and on texts joined. No program is named. -/
import Derived.Lib.IndexMore
import Derived.Lib.LastIndexLaws
namespace Go.Proofs.YtnlbibfjhobmjaaDoor
open Go.Lib
abbrev Bl := List UInt8

def rep (wh wi : Bl) : Bl → Bl
  | [] => []
  | c :: l => if _h : wh ≠ [] ∧ wh.isPrefixOf (c :: l) = true then wi ++ rep wh wi ((c :: l).drop wh.length) else c :: rep wh wi l
termination_by l => l.length
decreasing_by
  · have : 0 < wh.length := List.length_pos_iff.2 (by first | exact _h.1 | (rename_i h; exact h.1))
    simp; omega
  · simp

theorem rep_nil (wh wi : Bl) : rep wh wi [] = [] := by rw [rep]
theorem rep_hit (wh wi : Bl) (hw : wh ≠ []) (l : Bl) (h : wh.isPrefixOf l = true) : rep wh wi l = wi ++ rep wh wi (l.drop wh.length) := by
  cases l with
  | nil => cases wh with
    | nil => exact absurd rfl hw
    | cons a t => simp at h
  | cons c r => rw [rep, dif_pos ⟨hw, h⟩]
theorem rep_miss (wh wi : Bl) (c : UInt8) (l : Bl) (h : wh.isPrefixOf (c :: l) = false) : rep wh wi (c :: l) = c :: rep wh wi l := by
  rw [rep, dif_neg (by rw [h]; simp)]
theorem rep_at (wh wi : Bl) (hw : wh ≠ []) : ∀ (i : Nat) (l : Bl), i ≤ l.length → NoOcc l wh i → occAt l wh i = true → rep wh wi l = l.take i ++ (wi ++ rep wh wi (l.drop (i + wh.length)))
  | 0, l, _, _, ho => by
    have h : wh.isPrefixOf l = true := ho
    rw [rep_hit wh wi hw l h]; simp
  | i + 1, l, hi, hn, ho => by
    cases l with
    | nil => simp at hi
    | cons c r =>
      have h0 : wh.isPrefixOf (c :: r) = false := hn 0 (Nat.succ_pos _)
      rw [rep_miss wh wi c r h0, rep_at wh wi hw i r (by simpa using hi) (fun j hj => hn (j + 1) (by omega)) ho]
      simp [Nat.add_right_comm]
theorem rep_never (wh wi : Bl) : ∀ (l : Bl), (∀ j, j ≤ l.length → occAt l wh j = false) → rep wh wi l = l
  | [], _ => rep_nil _ _
  | c :: r, h => by
    rw [rep_miss wh wi c r (h 0 (Nat.zero_le _)), rep_never wh wi r (fun j hj => h (j + 1) (by simpa using hj))]

/-- What a text that may not be too long comes to. -/
def topS (l : Bl) : ByteArray := if l.length < 4096 then ⟨l.toArray⟩ else ⟨#[]⟩
def topC (l : Bl) : Int := if l.length < 4096 then 0 else 14
def repS (s wh wi : ByteArray) : ByteArray := if wh.size = 0 then ⟨#[]⟩ else topS (rep wh.data.toList wi.data.toList s.data.toList)
def repC (s wh wi : ByteArray) : Int := if wh.size = 0 then 13 else topC (rep wh.data.toList wi.data.toList s.data.toList)

/-- Texts joined. -/
def joinT (sep : Bl) : List Bl → Bl
  | [] => []
  | x :: r => x ++ (r.map (sep ++ ·)).flatten
theorem joinT_one (sep x : Bl) : joinT sep [x] = x := by simp [joinT]
theorem joinT_app (sep : Bl) (l r : List Bl) (h : l ≠ []) : joinT sep (l ++ r) = joinT sep l ++ (r.map (sep ++ ·)).flatten := by
  cases l with
  | nil => exact absurd rfl h
  | cons x q => simp [joinT, List.map_append, List.flatten_append]
theorem joinT_snoc (sep : Bl) (l : List Bl) (x : Bl) (h : l ≠ []) : joinT sep (l ++ [x]) = (joinT sep l ++ sep) ++ x := by
  rw [joinT_app sep l [x] h]; simp
theorem joinT_take_le (sep : Bl) (l : List Bl) (j : Nat) (h : 0 < j) : (joinT sep (l.take j)).length ≤ (joinT sep l).length := by
  rcases Nat.eq_zero_or_pos l.length with h0 | h0
  · rw [List.eq_nil_of_length_eq_zero h0]; simp
  · have e := joinT_app sep (l.take j) (l.drop j) (by intro h2; have := congrArg List.length h2; rw [List.length_take, List.length_nil] at this; omega)
    rw [List.take_append_drop] at e
    rw [e]; simp
theorem rep_len (wh wi : Bl) : ∀ (n : Nat) (l : Bl), l.length ≤ n → (rep wh wi l).length ≤ l.length * (wi.length + 1)
  | _, [], _ => by rw [rep_nil]; simp
  | 0, c :: r, h => by simp at h
  | n + 1, c :: r, h => by
    rw [rep]
    split
    · rename_i hp
      have h0 : 0 < wh.length := List.length_pos_iff.2 hp.1
      have h1 := rep_len wh wi n ((c :: r).drop wh.length) (by simp at h ⊢; omega)
      have h2 : ((c :: r).drop wh.length).length ≤ r.length := by simp; omega
      have h3 := Nat.mul_le_mul_right (wi.length + 1) h2
      simp only [List.length_append, List.length_cons, Nat.add_mul, Nat.one_mul]
      omega
    · have h1 := rep_len wh wi n r (by simpa using h)
      simp only [List.length_cons, Nat.add_mul, Nat.one_mul]
      omega
end Go.Proofs.YtnlbibfjhobmjaaDoor
