/- The walk of the statement on spaces. -/
import Derived.Test.YtlinclbodbbemaaDoorY36
import Derived.Test.YtlinclbodbbemaaDoorY27
import Derived.Test.YtlinclbodbbemaaDoorY02
import Derived.Deep.DeepCutAuto
import Derived.BigQuiet
namespace Go.Proofs.YtlinclbodbbemaaDoor
open Go.RowKit
set_option maxRecDepth 100000

theorem esc_geS (l : Bs) : l.length ≤ (esc l).length := by
  induction l with
  | nil => simp [esc]
  | cons c r ih => rw [esc]; split <;> simp <;> omega
theorem Row.take {w : World} {B : Nat} {l : List Tok} {g cap : Nat} (h : Row w B l g cap) (k : Nat) : Row w B (l.take k) g cap := by
  refine ⟨h.lo, h.hi, by have := h.cap; simp; omega, fun i hi => ?_⟩
  have hi' : i < l.length := by simp at hi; omega
  rw [List.getElem_take]
  exact h.at_ i hi'
theorem Row.keep0 {w w' : World} {B : Nat} {l : List Tok} {g cap : Nat} (h : Row w B l g cap) (hb : Below w.heap.size w w') : Row w' 0 l g cap := h.below hb (Nat.zero_le _)
theorem tx_le {l : List Tok} (hs : txSum l ≤ 500) {t : Tok} (ht : t ∈ l) : (txTok t).length ≤ 500 := by
  have : ∀ l : List Tok, t ∈ l → (txTok t).length ≤ txSum l := by
    intro l
    induction l with
    | nil => intro h; cases h
    | cons x r ih =>
      intro h
      simp only [txSum]
      rcases List.mem_cons.1 h with rfl | h
      · omega
      · have := ih h; omega
  have := this l ht; omega
theorem val_ok {t : Tok} (hk : KindT t.k t.v) (hle : (txTok t).length ≤ 500) : t.v.l = [] ∧ I64 t.v.k ∧ I64 t.v.n ∧ t.v.s.size ≤ 4095 := by
  obtain ⟨k, n, s, v⟩ := t
  rcases hk with ⟨h3, hl⟩ | ⟨h3, rfl⟩
  · simp only at h3 hl
    subst h3
    have e : txTok ⟨3, n, s, v⟩ = tx v := by unfold txTok; exact if_pos rfl
    rw [e] at hle
    obtain ⟨a, b, c', d⟩ := v
    rcases hl with ⟨rfl, h1, h2, rfl, rfl⟩ | ⟨rfl, h1, h2, rfl, rfl⟩ | ⟨rfl, rfl, rfl, _⟩ | ⟨rfl, h1, h2, rfl, rfl⟩
    · exact ⟨rfl, by unfold I64; simp only [T.k]; omega, by unfold I64; simp only [T.n]; omega, by show (0 : Nat) ≤ 4095; omega⟩
    · exact ⟨rfl, by unfold I64; simp only [T.k]; omega, by unfold I64; simp only [T.n]; omega, by show (0 : Nat) ≤ 4095; omega⟩
    · refine ⟨rfl, by unfold I64; simp only [T.k]; omega, by unfold I64; simp only [T.n]; omega, ?_⟩
      rw [tx2] at hle
      have h1 := esc_geS c'.data.toList
      have h2 : c'.data.toList.length = c'.size := by simp
      simp at hle h1
      show c'.size ≤ 4095
      omega
    · exact ⟨rfl, by unfold I64; simp only [T.k]; omega, by unfold I64; simp only [T.n]; omega, by show (0 : Nat) ≤ 4095; omega⟩
  · exact ⟨rfl, by unfold I64; simp only [T.k]; omega, by unfold I64; simp only [T.n]; omega, by show (0 : Nat) ≤ 4095; omega⟩
theorem cells8 {P0 P1 P2 P3 P4 P5 P6 Q0 Q1 Q2 Q3 Q4 Q5 Q6 : Prop} (h : P0 ∧ P1 ∧ P2 ∧ P3 ∧ P4 ∧ P5 ∧ P6 ∧ Q0 ∧ Q1 ∧ Q2 ∧ Q3 ∧ Q4 ∧ Q5 ∧ Q6) : P3 ∧ P4 ∧ P5 ∧ P6 ∧ Q3 ∧ Q4 ∧ Q5 ∧ Q6 := by
  obtain ⟨_, _, _, h3, h4, h5, h6, _, _, _, k3, k4, k5, k6⟩ := h
  exact ⟨h3, h4, h5, h6, k3, k4, k5, k6⟩
/-- Each word's text, as the program makes it. -/
theorem texts_of (eD eM eR eS : Value) (aY : Addr) (hP : Ptrs eD eM eR eS) {l : List Tok} (hk : ∀ t ∈ l, KindT t.k t.v) (hn : ∀ t ∈ l, t.n ≤ 1000) (hs : txSum l ≤ 500) : Texts (fun W => Env W eD eM eR eS aY) l := by
  intro t ht
  refine ⟨hn t ht, fun W q c hE => ?_⟩
  have hle : (txTok t).length ≤ 500 := by
    have : ∀ l : List Tok, t ∈ l → (txTok t).length ≤ txSum l := by
      intro l
      induction l with
      | nil => intro h; cases h
      | cons x r ih =>
        intro h
        simp only [txSum]
        rcases List.mem_cons.1 h with rfl | h
        · omega
        · have := ih h; omega
    have := this l ht; omega
  obtain ⟨k, n, s, v⟩ := t
  rcases hk _ ht with ⟨h3, hl⟩ | ⟨h3, rfl⟩
  · simp only at h3 hl
    subst h3
    have e : txTok ⟨3, n, s, v⟩ = tx v := by unfold txTok; exact if_pos rfl
    rw [e] at hle ⊢
    obtain ⟨a, b, c', d⟩ := v
    have hd : d = [] := by rcases hl with h | h | h | h <;> first | exact h.2.2.2.2 | exact h.2.2.1
    subst hd
    have hsz : c'.size < 4095 := by
      rcases hl with ⟨_, _, _, rfl, _⟩ | ⟨_, _, _, rfl, _⟩ | ⟨rfl, rfl, _, _⟩ | ⟨_, _, _, rfl, _⟩
      · decide
      · decide
      · rw [tx2] at hle
        have h1 := esc_geS c'.data.toList
        have h2 : c'.data.toList.length = c'.size := by simp
        simp at hle h1; omega
      · decide
    exact ltext_v eD eM eR eS aY hP n _ a b c' q c W hE hl hsz
  · have e : txTok ⟨k, n, s, zT⟩ = s := by unfold txTok; exact if_neg h3
    rw [e]
    exact ltext_s k n _ 0 0 ⟨#[]⟩ q c W h3

theorem rep2_snoc : ∀ n, rep2 (n + 1) = rep2 n ++ [32, 10]
  | 0 => rfl
  | n + 1 => by
    show 32 :: 10 :: rep2 (n + 1) = (32 :: 10 :: rep2 n) ++ [32, 10]
    rw [rep2_snoc n]; rfl
/-- The cells of the words from the k-th on, as a row of values. -/
theorem Row.news {w : World} {B : Nat} {l : List Tok} {g cap : Nat} (h : Row w B l g cap) (k : Nat) (hk : k ≤ l.length) : ∃ news : List Value, news.length = (l.length - k) * 7 ∧ (∀ j u, news[j]? = some u → w.cell? ⟨g, k * 7 + j, none⟩ = some u) ∧ (∀ u ∈ news, u.oneCell' = true) ∧
    ∀ i (hi : k + i < l.length), ∃ q c, news[i * 7]? = some (.int .i64 (l[k + i]).k) ∧ news[i * 7 + 1]? = some (.int .i64 (l[k + i]).n) ∧ news[i * 7 + 2]? = some (.string ⟨(l[k + i]).s.toArray⟩) ∧
      news[i * 7 + 3]? = some (.int .i64 (l[k + i]).v.k) ∧ news[i * 7 + 4]? = some (.int .i64 (l[k + i]).v.n) ∧ news[i * 7 + 5]? = some (.string (l[k + i]).v.s) ∧ news[i * 7 + 6]? = some (.slice q 0 c) := by
  have hget : ∀ j, j < (l.length - k) * 7 → ∀ v, w.cell? ⟨g, k * 7 + j, none⟩ = some v → ((List.range ((l.length - k) * 7)).map (fun j => (w.cell? ⟨g, k * 7 + j, none⟩).getD .nilIface))[j]? = some v := fun j hj v hv => by
    rw [List.getElem?_map, List.getElem?_range hj, Option.map_some, hv]; rfl
  have hcell : ∀ i (hi : k + i < l.length), ∃ q c, w.cell? ⟨g, k * 7 + i * 7, none⟩ = some (.int .i64 (l[k + i]).k) ∧ w.cell? ⟨g, k * 7 + (i * 7 + 1), none⟩ = some (.int .i64 (l[k + i]).n) ∧ w.cell? ⟨g, k * 7 + (i * 7 + 2), none⟩ = some (.string ⟨(l[k + i]).s.toArray⟩) ∧
      w.cell? ⟨g, k * 7 + (i * 7 + 3), none⟩ = some (.int .i64 (l[k + i]).v.k) ∧ w.cell? ⟨g, k * 7 + (i * 7 + 4), none⟩ = some (.int .i64 (l[k + i]).v.n) ∧ w.cell? ⟨g, k * 7 + (i * 7 + 5), none⟩ = some (.string (l[k + i]).v.s) ∧ w.cell? ⟨g, k * 7 + (i * 7 + 6), none⟩ = some (.slice q 0 c) := fun i hi => by
    obtain ⟨q, c, e0, e1, e2, e3, e4, e5, e6⟩ := h.at_ (k + i) hi
    have e : (k + i) * 7 = k * 7 + i * 7 := by omega
    simp only [e, Nat.add_assoc] at e0 e1 e2 e3 e4 e5 e6
    exact ⟨q, c, e0, e1, e2, e3, e4, e5, e6⟩
  have hone : ∀ j, j < (l.length - k) * 7 → ∃ v, w.cell? ⟨g, k * 7 + j, none⟩ = some v ∧ v.oneCell' = true := fun j hj => by
    obtain ⟨q, c, e0, e1, e2, e3, e4, e5, e6⟩ := hcell (j / 7) (by omega)
    have hm : j % 7 = 0 ∨ j % 7 = 1 ∨ j % 7 = 2 ∨ j % 7 = 3 ∨ j % 7 = 4 ∨ j % 7 = 5 ∨ j % 7 = 6 := by omega
    rcases hm with h0 | h0 | h0 | h0 | h0 | h0 | h0
    · exact ⟨_, by rw [show j = j / 7 * 7 by omega]; exact e0, rfl⟩
    · exact ⟨_, by rw [show j = j / 7 * 7 + 1 by omega]; exact e1, rfl⟩
    · exact ⟨_, by rw [show j = j / 7 * 7 + 2 by omega]; exact e2, rfl⟩
    · exact ⟨_, by rw [show j = j / 7 * 7 + 3 by omega]; exact e3, rfl⟩
    · exact ⟨_, by rw [show j = j / 7 * 7 + 4 by omega]; exact e4, rfl⟩
    · exact ⟨_, by rw [show j = j / 7 * 7 + 5 by omega]; exact e5, rfl⟩
    · exact ⟨_, by rw [show j = j / 7 * 7 + 6 by omega]; exact e6, rfl⟩
  refine ⟨(List.range ((l.length - k) * 7)).map (fun j => (w.cell? ⟨g, k * 7 + j, none⟩).getD .nilIface), by simp, fun j u hj => ?_, fun u hu => ?_, fun i hi => ?_⟩
  · have hlt : j < (l.length - k) * 7 := by have := (List.getElem?_eq_some_iff.1 hj).1; simpa using this
    obtain ⟨v, hv, _⟩ := hone j hlt
    rw [hget j hlt v hv] at hj
    rw [hv]; exact hj
  · obtain ⟨j, hj, rfl⟩ := List.mem_map.1 hu
    obtain ⟨v, hv, h1⟩ := hone j (by simpa using hj)
    rw [hv]; exact h1
  · obtain ⟨q, c, e0, e1, e2, e3, e4, e5, e6⟩ := hcell i hi
    exact ⟨q, c, hget _ (by omega) _ e0, hget _ (by omega) _ e1, hget _ (by omega) _ e2, hget _ (by omega) _ e3, hget _ (by omega) _ e4, hget _ (by omega) _ e5, hget _ (by omega) _ e6⟩
/-- Words in a row of one's own, the first i of them taken d lines back. -/
structure RowB (w : World) (g : Nat) (l : List Tok) (d : Int) (i : Nat) : Prop where
  blk : ∃ cs t, w.heap[g]? = some (.cells cs t (0, 0)) ∧ l.length * 7 ≤ cs.size ∧ ∀ j (hj : j < l.length), ∃ q c, cs[j * 7]? = some (.int .i64 (l[j]).k) ∧ cs[j * 7 + 1]? = some (.int .i64 (if j < i then ((l[j]).n : Int) - d + 1 else (l[j]).n)) ∧ cs[j * 7 + 2]? = some (.string ⟨(l[j]).s.toArray⟩) ∧
    cs[j * 7 + 3]? = some (.int .i64 (l[j]).v.k) ∧ cs[j * 7 + 4]? = some (.int .i64 (l[j]).v.n) ∧ cs[j * 7 + 5]? = some (.string (l[j]).v.s) ∧ cs[j * 7 + 6]? = some (.slice q 0 c)
theorem RowB.of {w : World} {l : List Tok} {k : Nat} {news : List Value} {B : Nat} {v : Value} {m : Nat} (d : Int) (hm : m = l.length - k) (hk : k < l.length) (h : w.ownsRow B 34 7 v m news)
    (hn : ∀ i (hi : k + i < l.length), ∃ q c, news[i * 7]? = some (.int .i64 (l[k + i]).k) ∧ news[i * 7 + 1]? = some (.int .i64 (l[k + i]).n) ∧ news[i * 7 + 2]? = some (.string ⟨(l[k + i]).s.toArray⟩) ∧
      news[i * 7 + 3]? = some (.int .i64 (l[k + i]).v.k) ∧ news[i * 7 + 4]? = some (.int .i64 (l[k + i]).v.n) ∧ news[i * 7 + 5]? = some (.string (l[k + i]).v.s) ∧ news[i * 7 + 6]? = some (.slice q 0 c)) :
    ∃ g2 cap2, v = .slice (some ⟨g2, 0, none⟩) m cap2 ∧ m ≤ cap2 ∧ B ≤ g2 ∧ RowB w g2 (l.drop k) d 0 := by
  rcases h.2 with ⟨_, h0⟩ | ⟨g2, cap2, cur, rfl, hb, hg, hnc, _, hsz, htake⟩
  · omega
  · refine ⟨g2, cap2, rfl, hnc, hb, ⟨cur, _, hg, by rw [hsz, List.length_drop]; omega, fun j hj => ?_⟩⟩
    have hj' : k + j < l.length := by simp at hj; omega
    obtain ⟨q, c, e0, e1, e2, e3, e4, e5, e6⟩ := hn j hj'
    have key : ∀ o u, news[o]? = some u → cur[o]? = some u := fun o u hu => by
      rw [← htake, List.getElem?_take] at hu
      split at hu
      · rw [← hu, Array.getElem?_toList]
      · cases hu
    have hd : (l.drop k)[j] = l[k + j] := by simp
    rw [hd, if_neg (by omega)]
    exact ⟨q, c, key _ _ e0, key _ _ e1, key _ _ e2, key _ _ e3, key _ _ e4, key _ _ e5, key _ _ e6⟩
theorem RowB.lt {w : World} {g : Nat} {l : List Tok} {d : Int} {i : Nat} (h : RowB w g l d i) : g < w.heap.size := by
  obtain ⟨_, _, h1, _⟩ := h.blk; exact heap_lt' h1
theorem RowB.cell {w : World} {g : Nat} {l : List Tok} {d : Int} {i : Nat} (h : RowB w g l d i) (j : Nat) (hj : j < l.length) : w.cell? ⟨g, j * 7 + 1, none⟩ = some (.int .i64 (if j < i then ((l[j]).n : Int) - d + 1 else (l[j]).n)) ∧ w.frozen? ⟨g, j * 7 + 1, none⟩ = false := by
  obtain ⟨cs, t, h1, _, h3⟩ := h.blk
  obtain ⟨_, _, _, e1, _⟩ := h3 j hj
  exact ⟨(cell_of_row _ _ _ _ _ _ h1).trans e1, by simp [World.frozen?, h1]⟩
theorem RowB.step {w : World} {g : Nat} {l : List Tok} {d : Int} {i : Nat} (h : RowB w g l d i) (hi : i < l.length) : RowB (w.setCell ⟨g, i * 7 + 1, none⟩ (.int .i64 (((l[i]).n : Int) - d + 1))) g l d (i + 1) := by
  obtain ⟨cs, t, h1, h2, h3⟩ := h.blk
  refine ⟨cs.setIfInBounds (i * 7 + 1) (.int .i64 (((l[i]).n : Int) - d + 1)), t, heap_setCell_same _ _ _ _ _ _ h1, by simpa using h2, fun j hj => ?_⟩
  obtain ⟨q, c, e0, e1, e2, e3, e4, e5, e6⟩ := h3 j hj
  have ne : ∀ o u, o ≠ i * 7 + 1 → cs[o]? = some u → (cs.setIfInBounds (i * 7 + 1) (.int .i64 (((l[i]).n : Int) - d + 1)))[o]? = some u := fun o u ho hu => by
    rw [Array.getElem?_setIfInBounds_ne (by omega)]; exact hu
  refine ⟨q, c, ne _ _ (by omega) e0, ?_, ne _ _ (by omega) e2, ne _ _ (by omega) e3, ne _ _ (by omega) e4, ne _ _ (by omega) e5, ne _ _ (by omega) e6⟩
  by_cases e : j = i
  · subst e
    rw [if_pos (by omega), Array.getElem?_setIfInBounds, if_pos rfl, if_pos (by omega)]
  · rw [ne _ _ (by omega) e1]
    by_cases hji : j < i
    · rw [if_pos hji, if_pos (by omega)]
    · rw [if_neg hji, if_neg (by omega)]
theorem RowB.below {w w' : World} {g : Nat} {l : List Tok} {d : Int} {i : Nat} (h : RowB w g l d i) (hb : Below w.heap.size w w') : RowB w' g l d i := by
  obtain ⟨cs, t, h1, h2, h3⟩ := h.blk
  exact ⟨cs, t, heap_old h1 hb, h2, h3⟩
theorem RowB.row {w : World} {g cap : Nat} {l : List Tok} {D : Nat} (h : RowB w g l (D : Int) l.length) (hc : l.length ≤ cap) (hD : ∀ t ∈ l, D ≤ t.n) (hD1 : 1 ≤ D) : Row w 0 (backT (D - 1) l) g cap := by
  refine ⟨Nat.zero_le _, h.lt, by simpa [backT] using hc, fun i hi => ?_⟩
  have hi' : i < l.length := by simpa [backT] using hi
  obtain ⟨cs, t, h1, h2, h3⟩ := h.blk
  obtain ⟨q, c, e0, e1, e2, e3, e4, e5, e6⟩ := h3 i hi'
  have hc : ∀ o, w.cell? ⟨g, o, none⟩ = cs[o]? := fun o => cell_of_row _ _ o _ _ _ h1
  have hb : (backT (D - 1) l)[i] = ⟨(l[i]).k, (l[i]).n - (D - 1), (l[i]).s, (l[i]).v⟩ := by simp [backT]
  rw [hb, hc, hc, hc, hc, hc, hc, hc]
  have hn := hD _ (List.getElem_mem hi')
  refine ⟨q, c, e0, ?_, e2, e3, e4, e5, e6⟩
  rw [e1, if_pos hi']
  have e : ((l[i]).n : Int) - (D : Int) + 1 = (((l[i]).n - (D - 1) : Nat) : Int) := by omega
  rw [e]

set_option maxHeartbeats 4000000 in
theorem spaces_main (eD eM eR eS : Value) (aY : Addr) (hP : Ptrs eD eM eR eS) (x y : Int) (s : ByteArray) (hx : I64 x) (hy : I64 y) (w : World) (hEn : Env w eD eM eR eS aY) (hTb : LexT w) (hs : s.size ≤ 500)
    (l : List Tok) (hl : l ≠ []) (hlx : Lx 1 s.data.toList (.ok l)) :
    Calls Tryd.prog 3 #[.string s, .int .i64 x, .int .i64 y] w fun e w' => e = .returned (.bool true) ∧ Below w.heap.size w w' := by
  have he : LEnv w eD eM eR eS aY := ⟨⟨hEn.errs, hEn.names, hEn.syn⟩, hTb⟩
  have HEn := Lib.hid hEn
  clear hEn hTb
  have hsl : s.data.toList.length = s.size := by simp
  obtain ⟨hg0, hu0, ht0, hn0, hm0⟩ := lx_facts hlx l rfl
  have HK := Lib.hid (lx_kinds hlx l rfl)
  have HG := Lib.hid hg0
  have HU := Lib.hid hu0
  have HTS := Lib.hid (show txSum l ≤ 500 from by omega)
  have hlen : l.length ≤ 500 := by omega
  have HMX := Lib.hid (show ∀ t ∈ l, t.n ≤ 501 from fun t ht => by have := hm0 t ht; omega)
  have hpos : 0 < l.length := List.length_pos_iff.2 hl
  have HE := Lib.hid (fun W (hb : Below w.heap.size w W) => he.below hb)
  have HA := Lib.hid (fun W (hb : Below w.heap.size w W) => all_ok eD eM eR eS aY hP s W (he.below hb) (by omega) hl hlx)
  have HF1 := Lib.hid (first6_any _ _ _ _ _ hP _ he)
  obtain ⟨L, hL⟩ : ∃ L : Nat, x % 10 = (L : Int) := ⟨(x % 10).toNat, by omega⟩
  have hL2 : L < 10 := by omega
  have HNM := Lib.hid (fun w => number6_any x 10 w hx (by omega) (by omega))
  rw [hL] at HNM
  obtain ⟨k, hk⟩ : ∃ k : Nat, y % (l.length : Int) = (k : Int) := ⟨(y % (l.length : Int)).toNat, by have := Int.emod_nonneg y (b := (l.length : Int)) (by omega); omega⟩
  have hkl : k < l.length := by have := Int.emod_lt_of_pos y (b := (l.length : Int)) (by omega); omega
  have HNK := Lib.hid (fun w => number6_any y (l.length : Int) w hy (by omega) (by omega))
  rw [hk] at HNK
  have hl0 : ((l.length : Int) == 0) = false := by simp; omega
  have hss : ¬ (500 : Int) < (s.size : Int) := by omega
  clear hx hL hy hk hg0 hu0 ht0 hn0 hm0 he hl hlx hsl
  go_enter Tryd.func3, Tryd.ntmps3
  go_wp2_with (first
    | (go_at_call 10; refine HF1.out.mono ?_; rintro e w1 ⟨rfl, hb1⟩; have HB1 := Lib.hid hb1; clear hb1)
    | (go_at_call 11; (with_reducible refine (HA.out _ HB1.out).mono ?_); rintro e w2 ⟨⟨g, cap, rfl, hr2⟩, hb2⟩; have HB2 := Lib.hid (HB1.out.trans (hb2.mono HB1.out.size)); have HR2 := Lib.hid hr2; clear hb2 hr2)
    | (go_at_call 12; first
        | ((with_reducible refine (HNM.out _).mono ?_); rintro e w3 ⟨rfl, rfl⟩)
        | ((with_reducible refine (HNK.out _).mono ?_); rintro e w4 ⟨rfl, rfl⟩)))
  have HEv := Lib.hid (fun W (hb : Below w2.heap.size w2 W) => HEn.out.below (HB2.out.trans (hb.mono HB2.out.size)))
  have hgw := HR2.out.hi
  have hlc := HR2.out.cap
  clear HA HNM HNK HF1 HB1 hl0 hss
  go_loop [11, 12] (fun q i => ∃ (j : Nat) (P : ByteArray), q = .string P ∧ i = .int .i64 j ∧ j ≤ L ∧ Hid (P.data.toList = List.replicate j 10) ∧ P.size = j) (fun _ i => L - (intOf i).toNat)
  case atStart => exact ⟨0, _, rfl, rfl, by omega, Lib.hid rfl, rfl⟩
  case round =>
    obtain ⟨j, P, rfl, rfl, hj, hPl, hPs⟩ := hrel
    by_cases hjL : j < L
    · go_wp2
      go_round
      case measure => simp [intOf]; omega
      case rel => exact ⟨j + 1, _, rfl, by go_num, by omega, Lib.hid (by rw [show (P ++ (⟨#[10]⟩ : ByteArray)).data.toList = P.data.toList ++ [10] from by simp, hPl.out, List.replicate_succ']), by rw [show (P ++ (⟨#[10]⟩ : ByteArray)).size = P.size + 1 from by simp; rfl, hPs]⟩
    · have hje : j = L := by omega
      subst hje
      clear hjL hj
      have HPL := hPl
      clear hPl
      have htl : (l.take k).length = k := by rw [List.length_take]; omega
      obtain ⟨hUt, _⟩ := up_app (l.take k) (l.drop k) 1 (by rw [List.take_append_drop]; exact HU.out)
      have hts1 : txSum (l.take k) ≤ 500 := by
        have := txSum_app (l.take k) (l.drop k)
        rw [List.take_append_drop] at this
        have := HTS.out; omega
      have hla : lastN 1 (l.take k) ≤ 501 := by
        rcases lastN_mem (l.take k) 1 with h | ⟨t, ht, h⟩
        · omega
        · have := HMX.out t (List.mem_of_mem_take ht); omega
      have hJlen : (joinL (l.take k)).length ≤ 1600 := by have := joinL_len hUt; rw [htl] at this; omega
      obtain ⟨J1, hJ1⟩ : ∃ J1 : ByteArray, J1 = ⟨(joinL (l.take k)).toArray⟩ := ⟨_, rfl⟩
      have HJL1 := Lib.hid (show J1.data.toList = joinL (l.take k) from by rw [hJ1])
      have hJs : (J1.size : Int) ≤ 1600 := by
        have e : J1.data.toList.length = J1.size := by simp
        have e2 := HJL1.out
        rw [e2] at e; omega
      have HJ1 := Lib.hid (show Calls Tryd.prog 13 #[.slice (some ⟨g, 0, none⟩) k cap] w2 fun e w' => e = .returned (.string J1) ∧ Below w2.heap.size w2 w' from by
        have := join_any (fun W => Env W eD eM eR eS aY) (l.take k) g cap w2 ((HR2.out.take k).keep0 (Below.refl _ _)) (fun W hb => HEv.out W hb) (texts_of _ _ _ _ _ hP (fun t ht => HK.out t (List.mem_of_mem_take ht)) (fun t ht => by have := HMX.out t (List.mem_of_mem_take ht); omega) hts1) (by omega) (by omega)
        rw [htl, ← hJ1] at this
        exact this)
      have hP9 : (P.size : Int) ≤ 10 := by omega
      have hk0 : (0 : Int) ≤ (k : Int) := by omega
      have hkc : k ≤ cap := by omega
      clear hUt hts1 hJlen hJ1 htl
      go_upto_if 66 with (go_at_call 13; (with_reducible refine HJ1.out.mono ?_); rintro e w3 ⟨rfl, hb3⟩; have HB3 := Lib.hid hb3; clear hb3)
      obtain ⟨M, hM⟩ : ∃ M, M = lastN 1 (l.take k) := ⟨_, rfl⟩
      have HM := Lib.hid hM
      have hM5 : (M : Int) ≤ 501 := by omega
      have HR3 := Lib.hid (HR2.out.below HB3.out (Nat.le_refl _))
      have hgw3 := HR3.out.hi
      go_cut [13] (fun v wx => v = .int .i64 ((M : Int) + (j : Int)) ∧ wx = w3)
      case first =>
        by_cases hk00 : k = 0
        · have hM1 : (M : Int) = 1 := by rw [hM, hk00]; rfl
          have hkz : ¬ (0 : Int) < (k : Int) := by omega
          clear hM hk0 hk00
          go_wp2
          go_meet
          exact ⟨by rw [hM1], rfl⟩
        · have hkz : (0 : Int) < (k : Int) := by omega
          obtain ⟨q1, c1, _, e1, _⟩ := HR3.out.at_ (k - 1) (by omega)
          have hM1 : (l[k - 1]'(by omega)).n = M := by rw [hM, lastN_take (by omega) (by omega)]
          rw [hM1] at e1
          clear hM hk0
          go_wp2
          go_meet
          exact ⟨rfl, rfl⟩
      case rest =>
        obtain ⟨rfl, rfl⟩ := hcut
        obtain ⟨N, hN⟩ : ∃ N, N = l[k].n := ⟨_, rfl⟩
        have hMN : M ≤ N := by
          have h1 := (up_app (l.take k) (l.drop k) 1 (by rw [List.take_append_drop]; exact HU.out)).2
          rw [List.drop_eq_getElem_cons hkl] at h1
          rw [hM, hN]; exact h1.1
        have hN5 : N ≤ 501 := by rw [hN]; exact HMX.out _ (List.getElem_mem hkl)
        obtain ⟨qk, ck, _, ek, _⟩ := HR3.out.at_ k hkl
        rw [← hN] at ek
        have HNE := Lib.hid hN
        have HA0 : Hid ((P ++ (⟨#[32, 32]⟩ : ByteArray) ++ J1).data.toList = List.replicate j 10 ++ [32, 32] ++ joinL (l.take k)) := Lib.hid (by
          rw [show (P ++ (⟨#[32, 32]⟩ : ByteArray) ++ J1).data.toList = P.data.toList ++ [32, 32] ++ J1.data.toList from by simp, HPL.out, HJL1.out])
        have hA0s : (P ++ (⟨#[32, 32]⟩ : ByteArray) ++ J1).size ≤ 1700 := by
          rw [show (P ++ (⟨#[32, 32]⟩ : ByteArray) ++ J1).size = P.size + 2 + J1.size from by simp; rfl]; omega
        generalize P ++ (⟨#[32, 32]⟩ : ByteArray) ++ J1 = A0 at *
        clear hM hN HPL HJL1 HJ1 hP9 hJs
        go_wp2
        go_loop [11, 13] (fun q ln => ∃ (i : Nat) (Q : ByteArray), q = .string Q ∧ ln = .int .i64 ((M : Int) + (i : Int) + (j : Int)) ∧ M + i ≤ N ∧ Hid (Q.data.toList = A0.data.toList ++ rep2 i) ∧ Q.size ≤ 1700 + 2 * i) (fun _ ln => N + j - (intOf ln).toNat)
        case atStart => exact ⟨0, A0, rfl, by simp, by omega, Lib.hid (by simp [rep2]), by omega⟩
        case round =>
          obtain ⟨i, Q, rfl, rfl, hi, hQ, hQs⟩ := hrel
          have hQ9 : (Q.size : Int) ≤ 4000 := by omega
          by_cases hiN : M + i < N
          · have hlt : (M : Int) + (i : Int) + (j : Int) < (N : Int) + (j : Int) := by omega
            go_wp2
            go_round
            case measure => simp [intOf]; omega
            case rel => exact ⟨i + 1, _, rfl, by go_num, by omega, Lib.hid (by rw [show (Q ++ (⟨#[32, 10]⟩ : ByteArray)).data.toList = Q.data.toList ++ [32, 10] from by simp, hQ.out, rep2_snoc, List.append_assoc]), by rw [show (Q ++ (⟨#[32, 10]⟩ : ByteArray)).size = Q.size + 2 from by simp; rfl]; omega⟩
          · have hlt : ¬ (M : Int) + (i : Int) + (j : Int) < (N : Int) + (j : Int) := by omega
            have HQ := Lib.hid (show Q.data.toList = List.replicate j 10 ++ [32, 32] ++ joinL (l.take k) ++ rep2 (N - lastN 1 (l.take k)) from by
              rw [hQ.out, HA0.out, ← HM.out, show N - M = i from by omega])
            clear hiN hQ
            have hck : ¬ cap = k := by omega
            have hgwc := HR3.out.hi
            obtain ⟨news, hnl, hnc, hn1, hn2⟩ := HR3.out.news k (by omega)
            have HN2 := Lib.hid hn2
            have HN1 := Lib.hid hn1
            have hN5' : (l.length - k) * 88 ≤ 140737488355328 := by omega
            have HNC : Hid (∀ (t : TypeId) jj u, news[jj]? = some u → (wc.alloc (.cells #[] t)).cell? ((⟨g, k * 7, none⟩ : Addr).add jj) = some u) := Lib.hid fun t jj u hu => by
              have hadd : (⟨g, k * 7, none⟩ : Addr).add jj = ⟨g, k * 7 + jj, none⟩ := by unfold Addr.add; split <;> simp_all
              rw [hadd, World.cell?_alloc_lt _ _ _ hgwc]; exact hnc jj u hu
            have HO0 : Hid ((wc.alloc (.cells #[] 34)).ownsRow wc.heap.size 34 7 (.slice (some ⟨wc.heap.size, 0, none⟩) 0 0) 0 []) := Lib.hid ⟨rfl, .inr ⟨wc.heap.size, 0, #[], rfl, Nat.le_refl _, heap_alloc_new wc _, Nat.le_refl _, by unfold maxLen; omega, rfl, rfl⟩⟩
            obtain ⟨i0, hi0, hz0, hz1, hz2⟩ := info_parts Tryd.info_tok
            clear hn2 hn1 hnc
            go_upto_region 24 with (at_builtin; refine wpList_append_own _ rfl (.tmp 88) (.tmp 91) 23 rfl wc.heap.size 34 i0 _ 7 88 Tryd.underlying23 hi0 hz0 hz1 hz2 rfl (by decide) _ 0 [] rfl HO0.out ⟨g, k * 7, none⟩ (l.length - k) (cap - k) news rfl hnl (HNC.out _) HN1.out (by unfold maxLen; omega) (by omega) (by simp) ?_; intro v' w5 hown5 hgr5 _; have hvB : ∀ kk, (Value.slice (some ⟨wc.heap.size, 0, none⟩) 0 0).ownBlock = some kk → wc.heap.size ≤ kk := (fun kk hk => by simp [Value.ownBlock] at hk; omega); have HB5 := Lib.hid (below_grown ((Below.refl wc.heap.size wc).alloc (Nat.le_refl _) _) hgr5 hvB (by simp)); obtain ⟨g2, cap2, rfl, hc2, hg2, hrb⟩ := RowB.of (N : Int) (by omega) hkl hown5 HN2.out; have HRB := Lib.hid hrb; clear hrb hown5 hgr5 hvB)
            have htl2 : (l.drop k).length = l.length - k := List.length_drop
            have hw5 := HB5.out.size
            have HNl := Lib.hid (show ∀ jj (h : jj < (l.drop k).length), (l.drop k)[jj].n ≤ 501 from fun jj h => HMX.out _ (List.mem_of_mem_drop (List.getElem_mem h)))
            clear HO0 HNC HN1 HN2 hnl hN5' hi0 hz0 hz1 hz2 ek hck
            go_wp2_with fail
            go_loopw [15] (fun ii wr => ∃ i' : Nat, ii = .int .i64 i' ∧ i' ≤ l.length - k ∧ Hid (RowB wr g2 (l.drop k) (N : Int) i') ∧ Hid (Below wc.heap.size wc wr)) (fun ii _ => l.length - k - (intOf ii).toNat)
            case atStart => exact ⟨0, rfl, Nat.zero_le _, HRB, HB5⟩
            case round =>
              obtain ⟨i', rfl, hi', HRw, HBw⟩ := hrel
              have hg2w := HRw.out.lt
              have hgww := Nat.lt_of_lt_of_le hgwc HBw.out.size
              by_cases hil : i' < l.length - k
              · have hil2 : i' < (l.drop k).length := by omega
                obtain ⟨r1, r2⟩ := HRw.out.cell i' hil2
                rw [if_neg (Nat.lt_irrefl i')] at r1
                obtain ⟨qk, ck, _, ek, _⟩ := (HR3.out.below HBw.out (Nat.le_refl _)).at_ k hkl
                rw [← HNE.out] at ek
                have HST := Lib.hid (HRw.out.step hil2)
                have hn5 := HNl.out i' hil2
                obtain ⟨nn, hnn⟩ : ∃ nn, nn = ((l.drop k)[i']).n := ⟨_, rfl⟩
                rw [← hnn] at r1 HST hn5
                have hili : (i' : Int) < ((l.length - k : Nat) : Int) := by omega
                clear hnn
                go_upto_region 27 with fail
                go_region
                go_wp2_with fail
                go_roundw
                case rel => exact ⟨i' + 1, by go_num, by omega, Lib.hid ⟨HST.out.blk⟩, Lib.hid ((HBw.out.setCell hg2 _).drew)⟩
                case measure => simp [intOf]; omega
              · have hie : i' = (l.drop k).length := by omega
                have HRr := Lib.hid (show Row wr 0 (backT (N - 1) (l.drop k)) g2 cap2 from by
                  have h1 := HRw.out
                  rw [hie] at h1
                  have hup := (up_app (l.take k) (l.drop k) 1 (by rw [List.take_append_drop]; exact HU.out)).2
                  rw [List.drop_eq_getElem_cons hkl] at hup
                  have hall := up_all (l[k] :: l.drop (k + 1)) N ⟨by rw [HNE.out]; exact Nat.le_refl _, hup.2⟩
                  rw [← List.drop_eq_getElem_cons hkl] at hall
                  have h1N : 1 ≤ N := by
                    have hM1 : 1 ≤ M := by
                      rw [HM.out]
                      exact lastN_ge _ 1 (up_app (l.take k) (l.drop k) 1 (by rw [List.take_append_drop]; exact HU.out)).1
                    omega
                  exact h1.row (by omega) hall h1N)
                obtain ⟨hUt, hUd⟩ := up_app (l.take k) (l.drop k) 1 (by rw [List.take_append_drop]; exact HU.out)
                have hNl : N = l[k].n := HNE.out
                have hUx : Up l[k].n (l[k] :: l.drop (k + 1)) := by
                  rw [List.drop_eq_getElem_cons hkl] at hUd
                  exact ⟨Nat.le_refl _, hUd.2⟩
                have h1N : 1 ≤ N := by
                  have hM1 : 1 ≤ M := by rw [HM.out]; exact lastN_ge _ 1 hUt
                  omega
                have hdk : l[k] :: l.drop (k + 1) = l.drop k := (List.drop_eq_getElem_cons hkl).symm
                have hUb : Up 1 (backT (N - 1) (l.drop k)) := by
                  have := back_up _ l[k].n (N - 1) (by omega) hUx
                  rw [hdk, show l[k].n - (N - 1) = 1 by omega] at this
                  exact this
                have hbl : (backT (N - 1) (l.drop k)).length = l.length - k := by simp [backT]
                have hts2 : txSum (backT (N - 1) (l.drop k)) ≤ 500 := by
                  rw [txSum_back]
                  have := txSum_app (l.take k) (l.drop k)
                  rw [List.take_append_drop] at this
                  have := HTS.out; omega
                have hbn : ∀ t ∈ backT (N - 1) (l.drop k), t.n ≤ 501 ∧ KindT t.k t.v := fun t ht => by
                  obtain ⟨t0, h0, rfl⟩ := List.mem_map.1 ht
                  have := HMX.out t0 (List.mem_of_mem_drop h0)
                  exact ⟨by show t0.n - (N - 1) ≤ 501; omega, HK.out t0 (List.mem_of_mem_drop h0)⟩
                have hlb : lastN 1 (backT (N - 1) (l.drop k)) ≤ 501 := by
                  rcases lastN_mem (backT (N - 1) (l.drop k)) 1 with h | ⟨t, ht, h⟩
                  · omega
                  · have := (hbn t ht).1; omega
                have hJlen2 : (joinL (backT (N - 1) (l.drop k))).length ≤ 1600 := by have := joinL_len hUb; omega
                obtain ⟨J2, hJ2⟩ : ∃ J2 : ByteArray, J2 = ⟨(joinL (backT (N - 1) (l.drop k))).toArray⟩ := ⟨_, rfl⟩
                have hJl2 : J2.data.toList = joinL (backT (N - 1) (l.drop k)) := by rw [hJ2]
                have hJs2 : (J2.size : Int) ≤ 1600 := by
                  have e : J2.data.toList.length = J2.size := by simp
                  rw [hJl2] at e; omega
                have HBv := Lib.hid (fun W (hb : Below wr.heap.size wr W) => HB3.out.trans ((HBw.out.trans (hb.mono HBw.out.size)).mono HB3.out.size))
                have HJ2 := Lib.hid (show Calls Tryd.prog 13 #[.slice (some ⟨g2, 0, none⟩) (l.length - k) cap2] wr fun e w' => e = .returned (.string J2) ∧ Below wr.heap.size wr w' from by
                  have := join_any (fun W => Env W eD eM eR eS aY) (backT (N - 1) (l.drop k)) g2 cap2 wr HRr.out (fun W hb => HEv.out W (HBv.out W hb)) (texts_of _ _ _ _ _ hP (fun t ht => (hbn t ht).2) (fun t ht => by have := (hbn t ht).1; omega) hts2) (by omega) (by omega)
                  rw [hbl, ← hJ2] at this
                  exact this)
                obtain ⟨X, hX⟩ : ∃ X : ByteArray, X = Q ++ (⟨#[32, 32, 32]⟩ : ByteArray) ++ J2 := ⟨_, rfl⟩
                have hXs : X.size ≤ 32768 := by
                  rw [hX, show (Q ++ (⟨#[32, 32, 32]⟩ : ByteArray) ++ J2).size = Q.size + 3 + J2.size from by simp; rfl]; omega
                have hXl : Lx 1 X.data.toList (.ok (shiftT j l)) := by
                  rw [hX, show (Q ++ (⟨#[32, 32, 32]⟩ : ByteArray) ++ J2).data.toList = Q.data.toList ++ [32, 32, 32] ++ J2.data.toList from by simp, HQ.out, hJl2]
                  have hsp := spaces_lx (l1 := l.take k) (l2 := l.drop (k + 1)) (x := l[k]) j (by rw [hdk, List.take_append_drop]; exact HG.out) (by rw [hdk, List.take_append_drop]; exact HU.out)
                  rw [hdk, List.take_append_drop, ← hNl] at hsp
                  exact hsp
                have hsn : shiftT j l ≠ [] := by
                  intro h
                  have := congrArg List.length h
                  simp [shiftT] at this
                  rw [this] at hpos; simp at hpos
                have hsl : (shiftT j l).length = l.length := by simp [shiftT]
                have HA3 := Lib.hid (fun (W : World) (hb : Below w2.heap.size w2 W) => all_ok eD eM eR eS aY hP X W (HE.out W (HB2.out.trans (hb.mono HB2.out.size))) hXs hsn hXl)
                have hll : (((shiftT j l).length : Int) != (l.length : Int)) = false := by rw [hsl]; simp
                rw [hX] at HA3
                clear hX hXs hXl hsn hJl2 hJ2 hJlen2 hlb hbn hts2 hUb hUx hUd hUt hdk hNl h1N hbl hie htl2 hsl HNl HRB
                go_wp2_with (first
                  | (go_at_call 13; (with_reducible refine HJ2.out.mono ?_); rintro e w6 ⟨rfl, hb6⟩; have HB6 := Lib.hid hb6; have HC6 := Lib.hid (HBv.out _ hb6); clear hb6)
                  | (go_at_call 11; (with_reducible refine (HA3.out _ HC6.out).mono ?_); rintro e w7 ⟨⟨g7, cap7, rfl, hr7⟩, hb7⟩; have HR7 := Lib.hid hr7; have HB7c := Lib.hid (HB6.out.trans (hb7.mono HB6.out.size)); have HC7 := Lib.hid (HC6.out.trans (hb7.mono HC6.out.size)); clear hr7 hb7))
                clear HA3 HJ2 HBv HRr HRw HQ hJs2 HA0 hA0s hgw hgw3 HM HEv hQ9 hll hlt hk0 hkc
                have HBc := Lib.hid (HBw.out.trans (HB7c.out.mono HBw.out.size))
                have hcap7 := HR7.out.cap
                have hsl7 : (shiftT j l).length = l.length := by simp [shiftT]
                rw [hsl7] at hcap7
                have HSL7 := Lib.hid hsl7
                clear hsl7
                go_loopw [18] (fun ii wq => ∃ i4 : Nat, ii = .int .i64 i4 ∧ i4 ≤ l.length ∧ Hid (Below w7.heap.size w7 wq)) (fun ii _ => l.length - (intOf ii).toNat)
                case atStart => exact ⟨0, rfl, Nat.zero_le _, Lib.hid (Below.refl _ _)⟩
                case round =>
                  obtain ⟨i4, rfl, hi4, HBq⟩ := hrel
                  by_cases hi4l : i4 < l.length
                  · obtain ⟨q7, c7, e0, e1, e2, e3, e4, e5, e6⟩ := (HR7.out.below HBq.out (Nat.le_refl _)).at_ i4 (by rw [HSL7.out]; exact hi4l)
                    obtain ⟨q0, c0, f0, f1, f2, f3, f4, f5, f6⟩ := (HR3.out.below (HBc.out.trans (HBq.out.mono HBc.out.size)) (Nat.le_refl _)).at_ i4 hi4l
                    have hsg : ∀ (h : i4 < (shiftT j l).length), (shiftT j l)[i4]'h = ⟨(l[i4]).k, (l[i4]).n + j, (l[i4]).s, (l[i4]).v⟩ := fun h => by simp [shiftT]
                    rw [hsg] at e0 e1 e2 e3 e4 e5
                    have hmem : l[i4] ∈ l := List.getElem_mem hi4l
                    obtain ⟨v1, v2, v3, v4⟩ := val_ok (HK.out _ hmem) (tx_le HTS.out hmem)
                    have hn5 := HMX.out _ hmem
                    have hg7w := Nat.lt_of_lt_of_le HR7.out.hi HBq.out.size
                    have hg0w := Nat.lt_of_lt_of_le hgwc (HBc.out.trans (HBq.out.mono HBc.out.size)).size
                    clear hsg hmem
                    generalize l[i4] = xx at *
                    obtain ⟨tk, tn, ts, ⟨va, vb, vs, vl⟩⟩ := xx
                    simp only [T.k, T.n, T.s, T.l] at e0 e1 e2 e3 e4 e5 e6 f0 f1 f2 f3 f4 f5 f6 v1 v2 v3 v4 hn5
                    rw [show ((tn + j : Nat) : Int) = (tn : Int) + (j : Int) from by omega] at e1
                    have SV := Lib.hid (fun (W : World) (q q' : Option Addr) (c c' : Nat) => by
                      have h : ∀ q c, Rep W 0 0 (.mk va vb vs []) (.agg #[.int .i64 va, .int .i64 vb, .string vs, .slice q 0 c]) := fun q c => by
                        unfold Rep
                        exact ⟨q, c, rfl, v2, v3, by omega, Nat.zero_le _, by simp, by unfold RepAll; trivial⟩
                      have := sameValue_any _ _ W 0 0 0 0 _ _ (h q c) (Nat.zero_le _) (h q' c') (Nat.zero_le _)
                      rw [eqV_self] at this; exact this)
                    have HSF : Hid (∀ W', Below wr.heap.size wr W' → W'.cell? ⟨g7, i4 * 7, none⟩ = some (.int .i64 tk) ∧ W'.cell? ⟨g7, i4 * 7 + 1, none⟩ = some (.int .i64 ((tn : Int) + (j : Int))) ∧ W'.cell? ⟨g7, i4 * 7 + 2, none⟩ = some (.string ⟨ts.toArray⟩) ∧ W'.cell? ⟨g7, i4 * 7 + 3, none⟩ = some (.int .i64 va) ∧ W'.cell? ⟨g7, i4 * 7 + 4, none⟩ = some (.int .i64 vb) ∧ W'.cell? ⟨g7, i4 * 7 + 5, none⟩ = some (.string vs) ∧ W'.cell? ⟨g7, i4 * 7 + 6, none⟩ = some (.slice q7 0 c7) ∧
                        W'.cell? ⟨g, i4 * 7, none⟩ = some (.int .i64 tk) ∧ W'.cell? ⟨g, i4 * 7 + 1, none⟩ = some (.int .i64 (tn : Int)) ∧ W'.cell? ⟨g, i4 * 7 + 2, none⟩ = some (.string ⟨ts.toArray⟩) ∧ W'.cell? ⟨g, i4 * 7 + 3, none⟩ = some (.int .i64 va) ∧ W'.cell? ⟨g, i4 * 7 + 4, none⟩ = some (.int .i64 vb) ∧ W'.cell? ⟨g, i4 * 7 + 5, none⟩ = some (.string vs) ∧ W'.cell? ⟨g, i4 * 7 + 6, none⟩ = some (.slice q0 0 c0)) := Lib.hid fun W' hb =>
                      ⟨(hb.cell (p := ⟨g7, i4 * 7, none⟩) hg7w).trans e0, (hb.cell (p := ⟨g7, i4 * 7 + 1, none⟩) hg7w).trans e1, (hb.cell (p := ⟨g7, i4 * 7 + 2, none⟩) hg7w).trans e2, (hb.cell (p := ⟨g7, i4 * 7 + 3, none⟩) hg7w).trans e3, (hb.cell (p := ⟨g7, i4 * 7 + 4, none⟩) hg7w).trans e4, (hb.cell (p := ⟨g7, i4 * 7 + 5, none⟩) hg7w).trans e5, (hb.cell (p := ⟨g7, i4 * 7 + 6, none⟩) hg7w).trans e6,
                       (hb.cell (p := ⟨g, i4 * 7, none⟩) hg0w).trans f0, (hb.cell (p := ⟨g, i4 * 7 + 1, none⟩) hg0w).trans f1, (hb.cell (p := ⟨g, i4 * 7 + 2, none⟩) hg0w).trans f2, (hb.cell (p := ⟨g, i4 * 7 + 3, none⟩) hg0w).trans f3, (hb.cell (p := ⟨g, i4 * 7 + 4, none⟩) hg0w).trans f4, (hb.cell (p := ⟨g, i4 * 7 + 5, none⟩) hg0w).trans f5, (hb.cell (p := ⟨g, i4 * 7 + 6, none⟩) hg0w).trans f6⟩
                    have HD4 := Lib.hid (Below.refl wr.heap.size wr)
                    have HD5 := Lib.hid ((Below.refl wr.heap.size wr).drew)
                    have hi4i : (i4 : Int) < (l.length : Int) := by omega
                    have hi4s : i4 < (shiftT j l).length := by rw [HSL7.out]; exact hi4l
                    have hi4si : (i4 : Int) < ((shiftT j l).length : Int) := by omega
                    clear e0 e1 e2 e3 e4 e5 e6 f0 f1 f2 f3 f4 f5 f6 v1 v2 v3 v4
                    go_upto_region 35 with fail
                    obtain ⟨e0, e1, e2, e3, e4, e5, e6, f0, f1, f2, f3, f4, f5, f6⟩ := HSF.out _ HD5.out
                    go_cut [19] from 138 to 193 (fun c wx => c = .bool true ∧ Hid (Below wr.heap.size wr wx))
                    case first =>
                      go_region_held3 (fun W' => W'.cell? ⟨g7, i4 * 7 + 3, none⟩ = some (.int .i64 va) ∧ W'.cell? ⟨g7, i4 * 7 + 4, none⟩ = some (.int .i64 vb) ∧ W'.cell? ⟨g7, i4 * 7 + 5, none⟩ = some (.string vs) ∧ W'.cell? ⟨g7, i4 * 7 + 6, none⟩ = some (.slice q7 0 c7) ∧
                        W'.cell? ⟨g, i4 * 7 + 3, none⟩ = some (.int .i64 va) ∧ W'.cell? ⟨g, i4 * 7 + 4, none⟩ = some (.int .i64 vb) ∧ W'.cell? ⟨g, i4 * 7 + 5, none⟩ = some (.string vs) ∧ W'.cell? ⟨g, i4 * 7 + 6, none⟩ = some (.slice q0 0 c0)) (first | (with_reducible exact cells8 (HSF.out _ HD5.out)) | (with_reducible exact cells8 (HSF.out _ HD6.out)) | (with_reducible exact cells8 (HSF.out _ HD4.out)) | (go_show; fail)) (first | (go_at_call 14; (with_reducible refine (SV.out _ _ _ _ _).mono ?_); rintro e w8 ⟨rfl, hb8⟩; have HD6 := Lib.hid (HD5.out.trans (hb8.mono HD5.out.size)); obtain ⟨a0, a1, a2, a3, a4, a5, a6, b0, b1, b2, b3, b4, b5, b6⟩ := HSF.out _ HD6.out; clear hb8))
                      all_goals go_wp2_with fail
                      all_goals go_meet
                      all_goals exact ⟨rfl, HD6⟩
                    case rest =>
                      obtain ⟨rfl, HDc⟩ := hcut
                      clear e0 e1 e2 e3 e4 e5 e6 f0 f1 f2 f3 f4 f5 f6
                      obtain ⟨e0, e1, e2, e3, e4, e5, e6, f0, f1, f2, f3, f4, f5, f6⟩ := HSF.out _ HDc.out
                      go_upto_region 36 with fail
                      clear e3 e4 e5 e6 f3 f4 f5 f6
                      go_wp2_with (go_quiet (fail))
                      go_roundw
                      case rel => exact ⟨i4 + 1, by go_num, by omega, Lib.hid (below_drewN (HBq.out.trans (HDc.out.mono HBq.out.size)) _)⟩
                      case measure => simp [intOf]; omega
                  · go_wp2
                    go_ret
                    exact ⟨rfl, HB2.out.trans ((HB3.out.trans ((HBc.out.trans (HBq.out.mono HBc.out.size)).mono HB3.out.size)).mono HB2.out.size)⟩
end Go.Proofs.YtlinclbodbbemaaDoor
