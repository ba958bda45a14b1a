/- The reader of words: any word; what stands between. lex.All: what it answers of any text. What the listed variables give the walks over words. lex.All: the walk. lex.All where its words are known; the chapter's example. lex.text: a word as text. lex.Join: what it makes of words in memory. -/
import Derived.Test.YtlinclbodbbemaaDoorY28
import Derived.Test.YtlinclbodbbemaaDoorY29
import Derived.Test.YtlinclbodbbemaaDoorY30
import Derived.Test.YtlinclbodbbemaaDoorY31
import Derived.Test.YtlinclbodbbemaaDoorY32
import Derived.Test.YtlinclbodbbemaaDoorY33
import Derived.Test.YtlinclbodbbemaaDoorY34
import Derived.Test.YtlinclbodbbemaaDoorY09
import Derived.OwnWalk
import Derived.RegionTactic
import Derived.Test.YtlinclbodbbemaaDoorY17
import Derived.Test.YtlinclbodbbemaaDoorY02
import Derived.Deep.DeepCutAuto
import Derived.Test.YtlinclbodbbemaaDoorY27
namespace Go.Proofs.YtlinclbodbbemaaDoor
open Go.RowKit
set_option maxRecDepth 100000

theorem hd_nx {r : Bs} {n : Nat} (hr : r ≠ []) : hd n r = ((nx r).toNat == n) := by
  cases r with
  | nil => exact absurd rfl hr
  | cons c q => rfl
theorem wordL_eq (r : Bs) : wordL r = if hd 34 r then strWord (strOf (r.drop 1)) else if hd 35 r then objWord (r.drop 1) else if hdD r then numWord 9223372036854775807 0 false (runB r) (runB r) (r.drop (runB r).length)
    else if isC (nx r) then errWord r (codeL (runB r)) else if isS (nx r) || hd 95 r then nameWord r (kindL (runB r)) else signWord r (signL r) := by
  cases r <;> rfl

theorem word_any (eD eM eR eS : Value) (aY : Addr) (hP : Ptrs eD eM eR eS) (s : ByteArray) (p n g : Nat) (w : World) (hx : LR w g s p n) (hp : p < s.size) (hs : s.size ≤ 140737488355328) (hE : ∀ W, But g w W → REnv W eD eM eR eS aY ∧ LexT W) :
    Calls Tryd.prog 41 #[.pointer (some ⟨g, 0, none⟩)] w (WordPost eR aY s n g w (wordL (s.data.toList.drop p))) := by
  obtain ⟨c, hc⟩ : ∃ c : Int, ((nx (s.data.toList.drop p)).toNat : Int) = c := ⟨_, rfl⟩
  have hne : s.data.toList.drop p ≠ [] := by
    intro e
    have := congrArg List.length e
    simp at this
    omega
  rw [wordL_eq]
  by_cases h34 : c = 34
  · rw [hd_nx hne, if_pos (by simp; omega)]
    have hd1 : (s.data.toList.drop p).drop 1 = s.data.toList.drop (p + 1) := List.drop_drop
    rw [hd1]
    rcases hq : strOf (s.data.toList.drop (p + 1)) with ⟨o, r⟩
    cases o with
    | some l => exact word_quote_ok eD eM eR eS aY s p n g w hx hp hs hE c hc h34 l r hq
    | none => exact word_quote_bad eD eM eR eS aY s p n g w hx hp hs hE c hc h34 r hq
  rw [hd_nx hne, if_neg (by simp; omega)]
  by_cases h35 : c = 35
  · rw [hd_nx hne, if_pos (by simp; omega)]
    have hd1 : (s.data.toList.drop p).drop 1 = s.data.toList.drop (p + 1) := List.drop_drop
    have hd2 : (s.data.toList.drop (p + 1)).drop 1 = s.data.toList.drop (p + 1 + 1) := List.drop_drop
    rw [hd1]
    unfold objWord
    obtain ⟨d2, hd2v⟩ : ∃ d : Int, ((nx (s.data.toList.drop (p + 1))).toNat : Int) = d := ⟨_, rfl⟩
    by_cases h45 : d2 = 45
    · subst h45
      have hps1 : p + 1 < s.size := nx_drop (by omega)
      have hne1 : s.data.toList.drop (p + 1) ≠ [] := by
        intro e
        have := congrArg List.length e
        simp at this
        omega
      rw [hd_nx hne1, if_pos (by simp; omega), hd2]
      obtain ⟨d, hrun⟩ : ∃ d, runB (s.data.toList.drop (p + 1 + 1)) = d := ⟨_, rfl⟩
      rw [hrun]
      have hdr : (s.data.toList.drop (p + 1)).drop (1 + d.length) = (s.data.toList.drop (p + 1 + 1)).drop d.length := by rw [List.drop_drop, List.drop_drop]; congr 1; omega
      rw [hdr]
      unfold numWord
      cases hA : areD d with
      | false => exact word_neg_syn eD eM eR eS aY s p n g w hx hp hs hE c hc h35 hd2v d hrun hA
      | true =>
        by_cases h48 : d = [48]
        · have e : (!true || (true && decide (d = [48]))) = true := by simp [h48]
          rw [if_pos e]
          exact word_neg_zero eD eM eR eS aY s p n g w hx hp hs hE c hc h35 hd2v d hrun h48
        · have e : (!true || (true && decide (d = [48]))) = false := by simp [h48]
          rw [if_neg (by rw [e]; decide)]
          cases hn : (numC 2147483647 (45 :: d)).1 with
          | some N => exact word_neg_ok eD eM eR eS aY hP s p n g w hx hp hs hE c hc h35 hd2v d hrun hA h48 N hn
          | none => exact word_neg_rng eD eM eR eS aY hP s p n g w hx hp hs hE c hc h35 hd2v d hrun hA h48 hn
    · have h45' : hd 45 (s.data.toList.drop (p + 1)) = false := by
        cases hr : s.data.toList.drop (p + 1) with
        | nil => rfl
        | cons a q => rw [hr] at hd2v; simp only [nx] at hd2v; simp [hd]; omega
      rw [h45']
      simp only [Bool.false_eq_true, if_false]
      obtain ⟨d, hrun⟩ : ∃ d, runB (s.data.toList.drop (p + 1)) = d := ⟨_, rfl⟩
      rw [hrun]
      unfold numWord
      cases hA : areD d with
      | false => exact word_obj_syn eD eM eR eS aY s p n g w hx hp hs hE c hc h35 d2 hd2v h45 d hrun hA
      | true =>
        rw [if_neg (by simp)]
        cases hn : (numC 2147483647 d).1 with
        | some N => exact word_obj_ok eD eM eR eS aY hP s p n g w hx hp hs hE c hc h35 d2 hd2v h45 d hrun hA N hn
        | none => exact word_obj_rng eD eM eR eS aY hP s p n g w hx hp hs hE c hc h35 d2 hd2v h45 d hrun hA hn
  rw [hd_nx hne, if_neg (by simp; omega)]
  obtain ⟨d, hrun⟩ : ∃ d, runB (s.data.toList.drop p) = d := ⟨_, rfl⟩
  rw [← nx_isD, hrun]
  cases hD : isD (nx (s.data.toList.drop p)) with
  | true =>
    rw [if_pos rfl]
    unfold numWord
    cases hA : areD d with
    | false => exact word_dig_syn eD eM eR eS aY s p n g w hx hp hs hE c hc h34 h35 hD d hrun hA
    | true =>
      rw [if_neg (by simp)]
      cases hn : (numC 9223372036854775807 d).1 with
      | some N => exact word_dig_ok eD eM eR eS aY hP s p n g w hx hp hs hE c hc h34 h35 hD d hrun hA N hn
      | none => exact word_dig_rng eD eM eR eS aY hP s p n g w hx hp hs hE c hc h34 h35 hD d hrun hA hn
  | false =>
    rw [if_neg (by decide)]
    cases hCa : isC (nx (s.data.toList.drop p)) with
    | true =>
      rw [if_pos rfl]
      rcases hq : codeL d with ⟨q, b⟩
      unfold errWord
      rw [hrun]
      cases b with
      | true => exact word_err_ok eD eM eR eS aY s p n g w hx hp hs hE c hc h34 h35 hD hCa d hrun q hq
      | false => exact word_err_bad eD eM eR eS aY s p n g w hx hp hs hE c hc h34 h35 hD hCa d hrun q hq
    | false =>
      rw [if_neg (by decide)]
      have h95e : hd 95 (s.data.toList.drop p) = decide (c = 95) := by rw [hd_nx hne, Bool.eq_iff_iff]; simp; omega
      cases hSm : isS (nx (s.data.toList.drop p)) with
      | true =>
        rw [if_pos (by simp)]
        rcases hq : kindL d with ⟨q, b⟩
        unfold nameWord
        rw [hrun]
        cases b with
        | true => exact word_name_ok eD eM eR eS aY s p n g w hx hp hs hE c hc h34 h35 hD hCa hSm d hrun q hq
        | false => exact word_name_bad eD eM eR eS aY s p n g w hx hp hs hE c hc h34 h35 hD hCa hSm d hrun q hq
      | false =>
        by_cases h95 : c = 95
        · rw [if_pos (by simp [h95e, h95])]
          rcases hq : kindL d with ⟨q, b⟩
          unfold nameWord
          rw [hrun]
          cases b with
          | true => exact word_name_ok_us eD eM eR eS aY s p n g w hx hp hs hE c hc h34 h35 hD hCa hSm h95 d hrun q hq
          | false => exact word_name_bad_us eD eM eR eS aY s p n g w hx hp hs hE c hc h34 h35 hD hCa hSm h95 d hrun q hq
        · rw [if_neg (by simp [h95e, h95])]
          unfold signWord
          by_cases hb : signL (s.data.toList.drop p) = []
          · rw [if_pos hb]
            exact word_sign_bad eD eM eR eS aY s p n g w hx hp hs hE c hc h34 h35 hD hCa hSm h95 _ rfl hb
          · rw [if_neg hb]
            exact word_sign_ok eD eM eR eS aY s p n g w hx hp hs hE c hc h34 h35 hD hCa hSm h95 _ rfl hb

end Go.Proofs.YtlinclbodbbemaaDoor

namespace Go.Proofs.YtlinclbodbbemaaDoor
open Go.RowKit
set_option maxRecDepth 100000

theorem Tryd.info_tok : (Tryd.prog.info? 34).map (fun i => (i.zero, i.size, i.bytes)) = some (some (.agg #[.int .i64 0, .int .i64 0, .string ⟨#[]⟩, .int .i64 0, .int .i64 0, .string ⟨#[]⟩, .slice none 0 0]), 7, 88) := by kernel_rfl

def tokCells (t : Tok) (q : Option Addr) (c : Nat) : List Value := [.int .i64 t.k, .int .i64 t.n, .string ⟨t.s.toArray⟩, .int .i64 t.v.k, .int .i64 t.v.n, .string t.v.s, .slice q 0 c]
/-- The cells of words in a row. -/
def TCs : List Tok → List Value → Prop
  | [], cs => cs = []
  | t :: r, cs => ∃ q c rest, cs = tokCells t q c ++ rest ∧ TCs r rest
theorem TCs.snoc : ∀ {l : List Tok} {cs : List Value} (t : Tok) (q : Option Addr) (c : Nat), TCs l cs → TCs (l ++ [t]) (cs ++ tokCells t q c)
  | [], cs, t, q, c, h => by cases h; exact ⟨q, c, [], by simp, rfl⟩
  | x :: r, cs, t, q, c, ⟨q', c', rest, e, h⟩ => ⟨q', c', rest ++ tokCells t q c, by rw [e, List.append_assoc], TCs.snoc t q c h⟩
theorem TCs.len : ∀ {l : List Tok} {cs : List Value}, TCs l cs → cs.length = l.length * 7
  | [], _, h => by cases h; rfl
  | _ :: _, _, ⟨_, _, _, e, h⟩ => by have := TCs.len h; rw [e]; simp [tokCells]; omega

theorem begins_yes (s : ByteArray) (p n g m : Nat) (j : Bs) (w : World) (hx : LR w g s p n) (hp : p ≤ s.size) (hs : s.size ≤ 140737488355328) (hn : n ≤ 140737488355328) (hsk : skipL n (s.data.toList.drop p) = (m, j)) (hj : j ≠ []) :
    Calls Tryd.prog 40 #[.pointer (some ⟨g, 0, none⟩)] w fun e w' => e = .returned (.bool true) ∧ ∃ p', p' < s.size ∧ p ≤ p' ∧ m ≤ n + (p' - p) ∧ s.data.toList.drop p' = j ∧ LR w' g s p' m ∧ But g w w' := by
  refine (begins_any s p n g w hx hp hs hn).mono fun e w' h => ?_
  obtain ⟨n', p', h1, h2, h3, h4, h5, h6, h7⟩ := h
  rw [hsk] at h4
  injection h4 with h8 h9
  subst h8
  have hlt : p' < s.size := by
    rcases Nat.lt_or_ge p' s.size with h | h
    · exact h
    · exact absurd (h9.trans (drop_end (by omega))) hj
  exact ⟨by rw [h5, decide_eq_true hlt], p', hlt, h3, h2, h9.symm, h6, h7⟩
theorem begins_no (s : ByteArray) (p n g m : Nat) (w : World) (hx : LR w g s p n) (hp : p ≤ s.size) (hs : s.size ≤ 140737488355328) (hn : n ≤ 140737488355328) (hsk : skipL n (s.data.toList.drop p) = (m, [])) :
    Calls Tryd.prog 40 #[.pointer (some ⟨g, 0, none⟩)] w fun e w' => e = .returned (.bool false) ∧ But g w w' := by
  refine (begins_any s p n g w hx hp hs hn).mono fun e w' h => ?_
  obtain ⟨n', p', h1, h2, h3, h4, h5, h6, h7⟩ := h
  rw [hsk] at h4
  injection h4 with h8 h9
  have hlt : ¬ p' < s.size := by
    intro h
    have := congrArg List.length h9
    simp at this
    omega
  exact ⟨by rw [h5, decide_eq_false hlt], h7⟩

def LAllAns (eR : Value) (aY : Addr) (w w' : World) (e : Ending) : AR → Prop
  | .ok l => ∃ v cs, e = .returned (.tuple #[v, .nilIface]) ∧ w'.ownsRow w.heap.size 34 7 v l.length cs ∧ TCs l cs
  | .bad n b => ∃ bk, e = .returned (.tuple #[.slice none 0 0, .iface 71 (.pointer (some ⟨bk, 0, none⟩))]) ∧ w.heap.size ≤ bk ∧ w'.heap[bk]? = some (.cells #[.int .i64 n, if b then eR else eY aY] 73 (0, 0))
def LAllPost (eM eR : Value) (aY : Addr) (s : ByteArray) (w : World) (e : Ending) (w' : World) : Prop :=
  Below w.heap.size w w' ∧ ((32768 < s.size ∧ e = .returned (.tuple #[.slice none 0 0, eM])) ∨ (s.size ≤ 32768 ∧ ∃ R, Lx 1 s.data.toList R ∧ LAllAns eR aY w w' e R))
/-- What the walk needs of the program's variables. -/
structure LEnv (w : World) (eD eM eR eS : Value) (aY : Addr) : Prop where
  env : REnv w eD eM eR eS aY
  tab : LexT w
theorem LEnv.below {w w' : World} {eD eM eR eS : Value} {aY : Addr} (h : LEnv w eD eM eR eS aY) (hb : Below w.heap.size w w') : LEnv w' eD eM eR eS aY := ⟨h.env.below hb, h.tab.below hb h.tab.lt.1 h.tab.lt.2⟩
theorem below_but {B g : Nat} {a w w' : World} (h : Below B a w) (hb : But g w w') (hB : B ≤ w.heap.size) (hg : B ≤ g) : Below B a w' := h.trans (hb.below hB hg)
theorem owns_lift {w : World} {B B' : Nat} {e : TypeId} {size n : Nat} {v : Value} {xs : List Value} (h : w.ownsRow B e size v n xs) (hB : B' ≤ B) : w.ownsRow B' e size v n xs := by
  obtain ⟨h1, h2⟩ := h
  refine ⟨h1, ?_⟩
  rcases h2 with h2 | ⟨g, cap, cur, h3, h4, h5⟩
  · exact .inl h2
  · exact .inr ⟨g, cap, cur, h3, by omega, h5⟩
theorem seven_row (w : World) (cs : List Value) (t : TypeId) : ∀ (j : Nat) (u : Value), cs[j]? = some u → (w.alloc (.cells cs.toArray t)).cell? ((⟨w.heap.size, 0, none⟩ : Addr).add j) = some u := by
  intro j u hj
  have hadd : (⟨w.heap.size, 0, none⟩ : Addr).add j = ⟨w.heap.size, j, none⟩ := by unfold Addr.add; split <;> simp_all
  rw [hadd, cell_of_row _ _ j _ _ _ (heap_alloc_new w (.cells cs.toArray t))]
  simpa using hj
theorem tok_one (t : Tok) (q : Option Addr) (c : Nat) : ∀ u ∈ tokCells t q c, u.oneCell' = true := by
  intro u hu
  simp only [tokCells, List.mem_cons, List.not_mem_nil, or_false] at hu
  rcases hu with rfl | rfl | rfl | rfl | rfl | rfl | rfl <;> rfl

end Go.Proofs.YtlinclbodbbemaaDoor

namespace Go.Proofs.YtlinclbodbbemaaDoor
open Go.RowKit
set_option maxRecDepth 100000

theorem row_of_var {W : World} {nm : String} {g : Nat} {cs : Array Value} (hg : Tryd.prog.globalNamed nm = some g) (hv : W.var? Tryd.prog nm = some cs) : ∃ t fr, W.heap[g]? = some (.cells cs t fr) := by
  unfold World.var? at hv
  rw [hg] at hv
  simp only [Option.bind_some] at hv
  split at hv
  · rename_i cs' t fr h
    injection hv with hv
    subst hv
    exact ⟨t, fr, h⟩
  · cases hv
theorem strs_of_laid {W : World} {L : List (String × DataW Unit)} (h : laidMet Tryd.prog L W) {nm : String} {zs : List (List UInt8)} {g t e n : Nat} (hm : (nm, DataW.agg (zs.map fun z => .lit (.string z))) ∈ L)
    (hg : Tryd.prog.globalNamed nm = some g) (hty : (Tryd.prog.globals[g]?).map (·.type) = some t) (ht : Tryd.prog.underlying t = some (.array n e)) (he : Tryd.prog.underlying e = some .string) (hce : Tryd.prog.cellsOf e = 1) (hct : Tryd.prog.cellsOf t = n) :
    ∃ t fr, W.heap[g]? = some (.cells ⟨zs.map fun z => Value.string ⟨z.toArray⟩⟩ t fr) := by
  obtain ⟨ps, hL, _, hrows⟩ := h
  obtain ⟨g', t', cs, fuel, p, h1, h2, h3, h4, h5⟩ := laid_get W L ps hL _ hm
  obtain rfl := Option.some.inj (hg.symm.trans h1)
  obtain rfl := Option.some.inj (hty.symm.trans h2)
  have hcs := cells_of_strs ht he hce hct h4
  obtain ⟨t2, fr, h6⟩ := row_of_var hg h3
  refine ⟨t2, fr, ?_⟩
  rw [h6, ← hcs]
theorem lexT_of_laid {W : World} {L : List (String × DataW Unit)} (h : laidMet Tryd.prog L W) (h1 : ("inglenook/lex.keys", Rows.laid_inglenook_lex_keys) ∈ L) (h2 : ("inglenook/lex.signs", Rows.laid_inglenook_lex_signs) ∈ L) : LexT W :=
  ⟨strs_of_laid (zs := keysB) (g := 5) (t := 130) (e := 9) (n := 19) h h1 (by kernel_rfl) (by kernel_rfl) Tryd.underlying130 Tryd.underlying9 Tryd.cellsSS (by kernel_rfl),
   strs_of_laid (zs := signsB) (g := 6) (t := 131) (e := 9) (n := 33) h h2 (by kernel_rfl) (by kernel_rfl) Tryd.underlying131 Tryd.underlying9 Tryd.cellsSS (by kernel_rfl)⟩
theorem env6_of_laid {W : World} {A B : List (String × DataW Unit)} (h : laidMet Tryd.prog (A ++ (sentRows.map datumOf ++ B)) W) (h0 : ("inglenook/lit.names", Rows.laid_inglenook_lit_names) ∈ A ++ (sentRows.map datumOf ++ B)) (h1 : ("inglenook/lex.keys", Rows.laid_inglenook_lex_keys) ∈ A ++ (sentRows.map datumOf ++ B)) (h2 : ("inglenook/lex.signs", Rows.laid_inglenook_lex_signs) ∈ A ++ (sentRows.map datumOf ++ B)) :
    ∃ ad : Nat → Addr, Ptrs (ev (ad 11)) (ev (ad 3)) (ev (ad 4)) (ev (ad 2)) ∧ LEnv W (ev (ad 11)) (ev (ad 3)) (ev (ad 4)) (ev (ad 2)) (ad 10) ∧ Sents W ad := by
  obtain ⟨ad, hS⟩ := sents_of_laid (laidMet_mid A (sentRows.map datumOf) B h)
  exact ⟨ad, ptrs_of (ad 11) (ad 3) (ad 4) (ad 2), ⟨⟨⟨hS.var 11 (by omega), hS.var 3 (by omega), hS.var 4 (by omega), hS.var 2 (by omega)⟩, names_of_laid h h0, hS.var 10 (by omega)⟩, lexT_of_laid h h1 h2⟩, hS⟩

end Go.Proofs.YtlinclbodbbemaaDoor

namespace Go.Proofs.YtlinclbodbbemaaDoor
open Go.RowKit
set_option maxRecDepth 100000

/-- What holds at the loop's head. -/
structure ALoop (s : ByteArray) (w : World) (v : Value) (wr : World) (l : List Tok) (p n : Nat) : Prop where
  row : ∃ cs, wr.ownsRow (w.heap.size + 1) 34 7 v l.length cs ∧ TCs l cs
  run : ∀ R, Lx n (s.data.toList.drop p) R → Lx 1 s.data.toList (R.pre l)
  rd : LR wr w.heap.size s p n
  bel : Below w.heap.size w wr

set_option maxHeartbeats 2000000 in
theorem lexAll_any (eD eM eR eS : Value) (aY : Addr) (hP : Ptrs eD eM eR eS) (s : ByteArray) (w : World) (hs : s.size ≤ 140737488355328) (he : LEnv w eD eM eR eS aY) :
    Calls Tryd.prog 11 #[.string s] w (LAllPost eM eR aY s w) := by
  obtain ⟨i0, hi, hz0, hz1, hz2⟩ := info_parts Tryd.info_tok
  have hmany := he.env.errs.many
  have HE := Lib.hid he; clear he
  by_cases hbig : 32768 < s.size
  · go_enter Tryd.func11, Tryd.ntmps11
    go_wp2_with (go_quiet (fail))
    go_ret2
    exact ⟨below_drewN (Below.refl _ _) _, .inl ⟨hbig, rfl⟩⟩
  · clear hmany
    have hle : s.size ≤ 32768 := by omega
    go_enter Tryd.func11, Tryd.ntmps11
    go_wp2_with fail
    have H0 : Hid (LR (w.alloc (.cells #[.string s, .int .i64 0, .int .i64 1] 68)) w.heap.size s 0 1) := heap_alloc_new w _
    have HB0 := Lib.hid ((Below.refl w.heap.size w).alloc (Nat.le_refl _) (.cells #[.string s, .int .i64 0, .int .i64 1] 68))
    have HEE : Hid (∀ W W', Below w.heap.size w W → But w.heap.size W W' → w.heap.size ≤ W.heap.size → REnv W' eD eM eR eS aY ∧ LexT W') := fun W W' h1 h2 h3 => by
      have := HE.out.below (below_but h1 h2 h3 (Nat.le_refl _))
      exact ⟨this.env, this.tab⟩
    go_loopw [4] (fun v wr => ∃ (l : List Tok) (p n : Nat), p ≤ s.size ∧ l.length ≤ p ∧ n ≤ 1 + p ∧ Hid (ALoop s w v wr l p n)) (fun _ wr => s.size - rdPos wr w.heap.size)
    case atStart => exact ⟨[], 0, 1, Nat.zero_le _, Nat.le_refl _, Nat.le_refl _, Lib.hid ⟨⟨[], World.ownsRow_nil _ _ _ _, rfl⟩, fun R h => by rw [AR.pre_nil]; exact h, H0.out, HB0.out⟩⟩
    case round =>
      obtain ⟨l, p, n, hp, hlp, hnp, hA⟩ := hrel
      have HRP := Lib.hid hA.out.rd.rdPos
      have hwr := hA.out.bel.size
      rcases hsk : skipL n (s.data.toList.drop p) with ⟨m, j⟩
      by_cases hj : j = []
      · subst hj
        have sB := Lib.hid (begins_no s p n w.heap.size m wr hA.out.rd hp hs (by omega) hsk)
        have HX := Lib.hid (Lx.done hsk)
        clear hsk
        go_wp2_with (go_at_call 40; refine sB.out.mono ?_; rintro e w2 ⟨rfl, hb2⟩)
        go_ret2
        obtain ⟨cs, hown, hcs⟩ := hA.out.row
        refine ⟨below_but hA.out.bel hb2 hwr (Nat.le_refl _), .inr ⟨hle, _, hA.out.run _ HX.out, ?_⟩⟩
        rw [AR.pre, List.append_nil]
        exact ⟨_, cs, rfl, owns_lift (owns_but hown hb2 (by omega)) (by omega), hcs⟩
      · have sB := Lib.hid (begins_yes s p n w.heap.size m j wr hA.out.rd hp hs (by omega) hsk hj)
        cases hw : wordL j with
        | bad b =>
          have HX := Lib.hid (Lx.bad hsk hj hw)
          have sW : Hid (∀ (p' : Nat) (W : World), LR W w.heap.size s p' m → p' < s.size → s.data.toList.drop p' = j → (∀ W', But w.heap.size W W' → REnv W' eD eM eR eS aY ∧ LexT W') → Calls Tryd.prog 41 #[.pointer (some ⟨w.heap.size, 0, none⟩)] W (WordPost eR aY s m w.heap.size W (.bad b))) := fun p' W h1 h2 h3 h4 => by
            have := word_any eD eM eR eS aY hP s p' m w.heap.size W h1 h2 hs h4
            rw [h3, hw] at this; exact this
          clear hsk hw
          obtain ⟨eV, heV⟩ : ∃ eV, eV = if b then eR else eY aY := ⟨_, rfl⟩
          have hev : ∃ a, eV = .iface 199 (.pointer (some a)) := by
            rw [heV]
            cases b with
            | true => exact hP 105
            | false => exact ⟨aY, rfl⟩
          obtain ⟨aV, rfl⟩ := hev
          have HEV := Lib.hid heV; clear heV
          go_wp2_with (first
            | (go_at_call 40; refine sB.out.mono ?_; rintro e w2 ⟨rfl, p', hp', hpp', hm', hd', hx2, hb2⟩; have HB2 := Lib.hid (below_but hA.out.bel hb2 hwr (Nat.le_refl _)); have hw2 := HB2.out.size; have HX2 := Lib.hid hx2; have HD2 := Lib.hid hd'; clear hx2 hb2 hd')
            | (go_at_call 41; refine (sW.out p' w2 HX2.out hp' HD2.out (fun W' h => HEE.out _ _ HB2.out h hw2)).mono ?_; rintro e w3 ⟨p3, he3, hx3, hb3⟩; rw [← HEV.out] at he3; subst he3; have HB3 := Lib.hid (below_but HB2.out hb3 hw2 (Nat.le_refl _)); have hw3 := HB3.out.size; obtain ⟨h0, h1, h2, hf, hlt⟩ := hx3.open; clear hf hx3 hb3))
          go_region
          all_goals
            go_wp2_with fail
            go_ret2
            refine ⟨?_, .inr ⟨hle, _, hA.out.run _ HX.out, ?_⟩⟩
            · first | exact ((HB3.out.alloc hw3 _).alloc (by simp; omega) _).drew | exact ((HB3.out.alloc hw3 _).drew.alloc (by simp; omega) _) | exact (HB3.out.alloc hw3 _).drew
            · rw [AR.pre]
              refine ⟨_, rfl, ?_, ?_⟩
              · omega
              · rw [← HEV.out]
                have hh := heap_alloc_new (w3.alloc (.cells #[.int .i64 0, .int .i64 0, .string ⟨#[]⟩, .int .i64 0, .int .i64 0, .string ⟨#[]⟩, .slice none 0 0] 34)) (.cells #[.int .i64 m, .iface 199 (.pointer (some aV))] 73)
                simp only [World.size_alloc] at hh
                exact hh
        | ok k t v r =>
          have HX := Lib.hid (fun R h => Lx.cons (R := R) hsk hj hw h)
          have sW : Hid (∀ (p' : Nat) (W : World), LR W w.heap.size s p' m → p' < s.size → s.data.toList.drop p' = j → (∀ W', But w.heap.size W W' → REnv W' eD eM eR eS aY ∧ LexT W') → Calls Tryd.prog 41 #[.pointer (some ⟨w.heap.size, 0, none⟩)] W (WordPost eR aY s m w.heap.size W (.ok k t v r))) := fun p' W h1 h2 h3 h4 => by
            have := word_any eD eM eR eS aY hP s p' m w.heap.size W h1 h2 hs h4
            rw [h3, hw] at this; exact this
          have hlen := wordL_len hj hw
          clear hsk hw
          go_upto_region 9 with (first
            | (go_at_call 40; refine sB.out.mono ?_; rintro e w2 ⟨rfl, p', hp', hpp', hm', hd', hx2, hb2⟩; have HB2 := Lib.hid (below_but hA.out.bel hb2 hwr (Nat.le_refl _)); have hw2 := HB2.out.size; have HX2 := Lib.hid hx2; have HD2 := Lib.hid hd'; have HBB2 := Lib.hid hb2; clear hx2 hb2 hd')
            | (go_at_call 41; refine (sW.out p' w2 HX2.out hp' HD2.out (fun W' h => HEE.out _ _ HB2.out h hw2)).mono ?_; rintro e w3 ⟨p3, q, c, hp3, hd3, rfl, hx3, hb3⟩; have HB3 := Lib.hid (below_but HB2.out hb3 hw2 (Nat.le_refl _)); have hw3 := HB3.out.size; have HX3 := Lib.hid hx3; have HBB3 := Lib.hid (HBB2.out.trans hb3); unfold tokVal; clear hb3 hx3))
          obtain ⟨cs, hown, hcs⟩ := hA.out.row
          have HO4 := Lib.hid ((owns_but hown HBB3.out (by omega)).alloc (.cells #[.int .i64 k, .int .i64 m, .string ⟨t.toArray⟩, .int .i64 v.k, .int .i64 v.n, .string v.s, .slice q 0 c] 34))
          have HCS := Lib.hid hcs
          have HT := Lib.hid (show tokCells ⟨k, m, t, v⟩ q c = [.int .i64 k, .int .i64 m, .string ⟨t.toArray⟩, .int .i64 v.k, .int .i64 v.n, .string v.s, .slice q 0 c] from rfl)
          have hp3' : p' < p3 := by
            have h1 := congrArg List.length hd3
            have h2 := congrArg List.length HD2.out
            simp at h1 h2
            omega
          have HD3 := Lib.hid hd3
          clear hown hcs hlen hd3
          have HX4 := Lib.hid (HX3.out.alloc (.cells #[.int .i64 k, .int .i64 m, .string ⟨t.toArray⟩, .int .i64 v.k, .int .i64 v.n, .string v.s, .slice q 0 c] 34))
          have HB4 := Lib.hid (HB3.out.alloc hw3 (.cells #[.int .i64 k, .int .i64 m, .string ⟨t.toArray⟩, .int .i64 v.k, .int .i64 v.n, .string v.s, .slice q 0 c] 34))
          obtain ⟨y0, y1, y2, y3, y4, y5, y6, _⟩ := box7_in _ w3.heap.size _ _ _ _ _ _ _ _ (heap_alloc_new w3 (.cells #[.int .i64 k, .int .i64 m, .string ⟨t.toArray⟩, .int .i64 v.k, .int .i64 v.n, .string v.s, .slice q 0 c] 34))
          have hw4 := HB4.out.size
          generalize w3.alloc (.cells #[.int .i64 k, .int .i64 m, .string ⟨t.toArray⟩, .int .i64 v.k, .int .i64 v.n, .string v.s, .slice q 0 c] 34) = w4 at *
          generalize w3.heap.size = g3 at *
          go_wp2_with (at_builtin; refine wpList_append_own _ rfl (.tmp 27) (.tmp 29) 23 rfl (w.heap.size + 1) 34 i0 _ 7 88 Tryd.underlying23 hi hz0 hz1 hz2 rfl (by decide) _ l.length cs rfl (HO4.out.alloc _) ⟨w4.heap.size, 0, none⟩ 1 1 (tokCells ⟨k, m, t, v⟩ q c) rfl rfl (seven_row w4 _ _) (tok_one _ _ _) (by unfold maxLen; omega) (by omega) (by simp; omega) ?_; intro v' w5 hown5 hgr5 _; have hvB := fun k hk => (HO4.out.lt k hk).1; have HX5 := Lib.hid (lr_grown (HX4.out.alloc _) hgr5 hvB (by omega)); have HB5 := Lib.hid (below_grown (HB4.out.alloc hw4 _) hgr5 (fun k hk => Nat.le_trans (Nat.le_succ _) (hvB k hk)) (by simp; omega)); have HO5 := Lib.hid hown5; clear hown5 hgr5 hvB)
          go_roundw
          case measure => rw [HRP.out, HX5.out.rdPos]; omega
          case rel =>
            refine ⟨l ++ [⟨k, m, t, v⟩], p3, m, hp3, by simp; omega, by omega, Lib.hid ⟨⟨_, by rw [List.length_append]; exact HO5.out, HCS.out.snoc _ q c⟩, fun R h => ?_, HX5.out, HB5.out⟩⟩
            rw [← AR.pre_pre]
            exact hA.out.run _ (HX.out R (by rw [← HD3.out]; exact h))

end Go.Proofs.YtlinclbodbbemaaDoor

namespace Go.Proofs.YtlinclbodbbemaaDoor
open Go.RowKit
set_option maxRecDepth 100000

theorem TCs.at_ : ∀ {l : List Tok} {cs : List Value}, TCs l cs → ∀ i (hi : i < l.length), ∃ q c, ∀ j u, (tokCells l[i] q c)[j]? = some u → cs[i * 7 + j]? = some u
  | t :: r, cs, ⟨q, c, rest, e, h⟩, 0, _ => ⟨q, c, fun j u hj => by
    rw [e, Nat.zero_mul, Nat.zero_add, List.getElem?_append_left]
    · exact hj
    · exact (List.getElem?_eq_some_iff.1 hj).1⟩
  | t :: r, cs, ⟨q, c, rest, e, h⟩, i + 1, hi => by
    obtain ⟨q', c', hq⟩ := TCs.at_ h i (by simpa using hi)
    refine ⟨q', c', fun j u hj => ?_⟩
    rw [e, List.getElem?_append_right (by simp [tokCells]; omega)]
    have := hq j u (by simpa using hj)
    rw [← this]; congr 1; simp [tokCells]; omega
/-- Words in a row in memory: word i, its cells. -/
structure Row (w : World) (B : Nat) (l : List Tok) (g cap : Nat) : Prop where
  lo : B ≤ g
  hi : g < w.heap.size
  cap : l.length ≤ cap
  at_ : ∀ i (hi : i < l.length), ∃ q c, w.cell? ⟨g, i * 7, none⟩ = some (.int .i64 (l[i]).k) ∧ w.cell? ⟨g, i * 7 + 1, none⟩ = some (.int .i64 (l[i]).n) ∧ w.cell? ⟨g, i * 7 + 2, none⟩ = some (.string ⟨(l[i]).s.toArray⟩) ∧
    w.cell? ⟨g, i * 7 + 3, none⟩ = some (.int .i64 (l[i]).v.k) ∧ w.cell? ⟨g, i * 7 + 4, none⟩ = some (.int .i64 (l[i]).v.n) ∧ w.cell? ⟨g, i * 7 + 5, none⟩ = some (.string (l[i]).v.s) ∧ w.cell? ⟨g, i * 7 + 6, none⟩ = some (.slice q 0 c)
theorem Row.of {w : World} {B : Nat} {v : Value} {l : List Tok} {cs : List Value} (h : w.ownsRow B 34 7 v l.length cs) (hc : TCs l cs) (hl : l ≠ []) : ∃ g cap, v = .slice (some ⟨g, 0, none⟩) l.length cap ∧ Row w B l g cap := by
  have hh := h
  rcases h.2 with ⟨rfl, h0⟩ | ⟨g, cap, cur, rfl, hb, hg, hnc, _⟩
  · exact absurd (List.eq_nil_of_length_eq_zero h0) hl
  · refine ⟨g, cap, rfl, hb, heap_lt hg, hnc, fun i hi => ?_⟩
    obtain ⟨q, c, hq⟩ := hc.at_ i hi
    have hcell := fun j (hj : j < l.length * 7) => World.ownsRow.cellAt hh j hj
    have hadd : ∀ j, (⟨g, 0, none⟩ : Addr).add j = ⟨g, j, none⟩ := fun j => by unfold Addr.add; split <;> simp_all
    have key : ∀ j u, (tokCells l[i] q c)[j]? = some u → w.cell? ⟨g, i * 7 + j, none⟩ = some u := fun j u hj => by
      have hj7 : j < 7 := by have := (List.getElem?_eq_some_iff.1 hj).1; simpa [tokCells] using this
      have h1 := hcell (i * 7 + j) (by omega)
      rw [← hq j u hj, ← h1]
    exact ⟨q, c, key 0 _ rfl, key 1 _ rfl, key 2 _ rfl, key 3 _ rfl, key 4 _ rfl, key 5 _ rfl, key 6 _ rfl⟩
theorem Row.below {w w' : World} {B B' : Nat} {l : List Tok} {g cap : Nat} (h : Row w B l g cap) (hb : Below w.heap.size w w') (hB : B' ≤ B) : Row w' B' l g cap := by
  have hk : ∀ o, w'.cell? ⟨g, o, none⟩ = w.cell? ⟨g, o, none⟩ := fun o => hb.cell (p := ⟨g, o, none⟩) h.hi
  refine ⟨Nat.le_trans hB h.lo, Nat.lt_of_lt_of_le h.hi hb.size, h.cap, fun i hi => ?_⟩
  obtain ⟨q, c, h0, h1, h2, h3, h4, h5, h6⟩ := h.at_ i hi
  exact ⟨q, c, (hk _).trans h0, (hk _).trans h1, (hk _).trans h2, (hk _).trans h3, (hk _).trans h4, (hk _).trans h5, (hk _).trans h6⟩

theorem all_ok (eD eM eR eS : Value) (aY : Addr) (hP : Ptrs eD eM eR eS) (s : ByteArray) (w : World) (he : LEnv w eD eM eR eS aY) (hs : s.size ≤ 32768) {l : List Tok} (hl : l ≠ []) (hx : Lx 1 s.data.toList (.ok l)) :
    Calls Tryd.prog 11 #[.string s] w fun e w' => (∃ g cap, e = .returned (.tuple #[.slice (some ⟨g, 0, none⟩) l.length cap, .nilIface]) ∧ Row w' w.heap.size l g cap) ∧ Below w.heap.size w w' := by
  refine (lexAll_any eD eM eR eS aY hP s w (by omega) he).mono fun e w' h => ?_
  obtain ⟨hb, ⟨h1, _⟩ | ⟨_, R, h1, h2⟩⟩ := h
  · omega
  · have := hx.det h1
    subst this
    obtain ⟨v, cs, rfl, hown, hcs⟩ := h2
    obtain ⟨g, cap, rfl, hr⟩ := Row.of hown hcs hl
    exact ⟨⟨g, cap, rfl, hr⟩, hb⟩
theorem all_none (eD eM eR eS : Value) (aY : Addr) (hP : Ptrs eD eM eR eS) (s : ByteArray) (w : World) (he : LEnv w eD eM eR eS aY) (hs : s.size ≤ 32768) (hx : Lx 1 s.data.toList (.ok [])) :
    Calls Tryd.prog 11 #[.string s] w fun e w' => (∃ p cap, e = .returned (.tuple #[.slice p 0 cap, .nilIface])) ∧ Below w.heap.size w w' := by
  refine (lexAll_any eD eM eR eS aY hP s w (by omega) he).mono fun e w' h => ?_
  obtain ⟨hb, ⟨h1, _⟩ | ⟨_, R, h1, h2⟩⟩ := h
  · omega
  · have := hx.det h1
    subst this
    obtain ⟨v, cs, rfl, hown, hcs⟩ := h2
    rcases hown.2 with ⟨rfl, _⟩ | ⟨g, cap, cur, rfl, _⟩
    · exact ⟨⟨none, 0, rfl⟩, hb⟩
    · exact ⟨⟨_, cap, rfl⟩, hb⟩
theorem all_bad (eD eM eR eS : Value) (aY : Addr) (hP : Ptrs eD eM eR eS) (s : ByteArray) (w : World) (he : LEnv w eD eM eR eS aY) (hs : s.size ≤ 32768) {n : Nat} {b : Bool} (hx : Lx 1 s.data.toList (.bad n b)) :
    Calls Tryd.prog 11 #[.string s] w fun e w' => (∃ bk, e = .returned (.tuple #[.slice none 0 0, .iface 71 (.pointer (some ⟨bk, 0, none⟩))]) ∧ w.heap.size ≤ bk ∧ w'.heap[bk]? = some (.cells #[.int .i64 n, if b then eR else eY aY] 73 (0, 0))) ∧ Below w.heap.size w w' := by
  refine (lexAll_any eD eM eR eS aY hP s w (by omega) he).mono fun e w' h => ?_
  obtain ⟨hb, ⟨h1, _⟩ | ⟨_, R, h1, h2⟩⟩ := h
  · omega
  · have := hx.det h1
    subst this
    obtain ⟨bk, h3, h4, h5⟩ := h2
    exact ⟨⟨bk, h3, h4, h5⟩, hb⟩
theorem all_many (eD eM eR eS : Value) (aY : Addr) (hP : Ptrs eD eM eR eS) (s : ByteArray) (w : World) (he : LEnv w eD eM eR eS aY) (hs0 : s.size ≤ 140737488355328) (hs : 32768 < s.size) :
    Calls Tryd.prog 11 #[.string s] w fun e w' => e = .returned (.tuple #[.slice none 0 0, eM]) ∧ Below w.heap.size w w' := by
  refine (lexAll_any eD eM eR eS aY hP s w hs0 he).mono fun e w' h => ?_
  obtain ⟨hb, ⟨_, h1⟩ | ⟨h1, _⟩⟩ := h
  · exact ⟨h1, hb⟩
  · omega

set_option maxHeartbeats 1000000 in
theorem first6_any (eD eM eR eS : Value) (aY : Addr) (hP : Ptrs eD eM eR eS) (w : World) (he : LEnv w eD eM eR eS aY) :
    Calls Tryd.prog 10 #[] w fun e w' => e = .returned (.bool true) ∧ Below w.heap.size w w' := by
  have sA := Lib.hid (all_ok eD eM eR eS aY hP ⟨#[120, 61, 61, 34, 97, 34]⟩ w he (by decide) (by simp) ex6)
  clear he
  go_enter Tryd.func10, Tryd.ntmps10
  go_wp2_with (go_at_call 11; refine sA.out.mono ?_; rintro e w2 ⟨⟨g, cap, rfl, hr⟩, hb2⟩; obtain ⟨q0, c0, x0, _⟩ := hr.at_ 0 (by simp); obtain ⟨q1, c1, x1, _⟩ := hr.at_ 1 (by simp); obtain ⟨q2, c2, x2, _⟩ := hr.at_ 2 (by simp); simp only [List.getElem_cons_zero, List.getElem_cons_succ, Nat.zero_mul, Nat.one_mul, Nat.reduceMul] at x0 x1 x2; have HB2 := Lib.hid hb2; clear hb2 hr)
  go_ret
  exact ⟨rfl, HB2.out⟩

end Go.Proofs.YtlinclbodbbemaaDoor

namespace Go.Proofs.YtlinclbodbbemaaDoor
open Go.RowKit
set_option maxRecDepth 100000

set_option maxHeartbeats 400000 in
theorem ltext_s (k n : Int) (u : ByteArray) (v0 v1 : Int) (v2 : ByteArray) (q : Option Addr) (c : Nat) (w : World) (hk : ¬ k = 3) :
    Calls Tryd.prog 44 #[.agg #[.int .i64 k, .int .i64 n, .string u, .int .i64 v0, .int .i64 v1, .string v2, .slice q 0 c]] w fun e w' => e = .returned (.string u) ∧ Below w.heap.size w w' := by
  have hkb : (k != 3) = true := by simpa using hk
  go_enter Tryd.func44, Tryd.ntmps44
  go_wp2
  go_ret
  exact ⟨rfl, (Below.refl _ _).alloc (Nat.le_refl _) _⟩
set_option maxHeartbeats 1000000 in
theorem ltext_v (eD eM eR eS : Value) (aY : Addr) (hP : Ptrs eD eM eR eS) (n : Int) (u : ByteArray) (v0 v1 : Int) (v2 : ByteArray) (q : Option Addr) (c : Nat) (w : World) (he : Env w eD eM eR eS aY) (hl : litT (.mk v0 v1 v2 [])) (hs : v2.size < 4095) :
    Calls Tryd.prog 44 #[.agg #[.int .i64 3, .int .i64 n, .string u, .int .i64 v0, .int .i64 v1, .string v2, .slice q 0 c]] w fun e w' => e = .returned (.string ⟨(tx (.mk v0 v1 v2 [])).toArray⟩) ∧ Below w.heap.size w w' := by
  have hok : okT (.mk v0 v1 v2 []) := by
    rw [okT]
    rcases hl with ⟨rfl, h1, h2, h3, h4⟩ | ⟨rfl, h1, h2, h3, h4⟩ | ⟨rfl, h1, h2, h3⟩ | ⟨rfl, h1, h2, h3, h4⟩
    · exact .inl ⟨rfl, by unfold I64; omega, h3, h4⟩
    · exact .inr (.inl ⟨rfl, h1, h2, h3, h4⟩)
    · exact .inr (.inr (.inl ⟨rfl, h1, h2, h3⟩))
    · exact .inr (.inr (.inr (.inl ⟨rfl, h1, h2, h3, h4⟩)))
  have hb : I64 v0 ∧ I64 v1 := by
    rcases hl with ⟨rfl, h1, h2, _⟩ | ⟨rfl, h1, h2, _⟩ | ⟨rfl, rfl, _⟩ | ⟨rfl, h1, h2, _⟩
    all_goals (unfold I64; omega)
  have hz : sz (.mk v0 v1 v2 []) ≤ 4096 := by rw [sz, szAll]; split <;> omega
  have h0 : (odd (.mk v0 v1 v2 []) 1 0).1 = 0 := (odd_of_ok _ 1 0 hok (by simp [dp, dpAll]) (by omega)).1
  have hr : ∀ W : World, Rep W 0 0 (.mk v0 v1 v2 []) (.agg #[.int .i64 v0, .int .i64 v1, .string v2, .slice q 0 c]) := fun W => by
    unfold Rep
    exact ⟨q, c, rfl, hb.1, hb.2, by omega, Nat.zero_le _, by simp, by unfold RepAll; trivial⟩
  have AT := Lib.hid (fun (W : World) (h : Env W eD eM eR eS aY) => text_any eD eM eR eS aY hP _ W 0 0 _ (hr W) (Nat.zero_le _) h h0)
  have HE := Lib.hid he
  have hsz : (v2.size : Int) < 4096 := by omega
  have H1 : ∀ o : Obj, Hid (Below w.heap.size w (w.alloc o)) := fun o => (Below.refl _ _).alloc (Nat.le_refl _) _
  clear hr hz h0 hok hb he hl
  by_cases h2 : v0 = 2
  · subst h2
    go_enter Tryd.func44, Tryd.ntmps44
    go_wp2_with (go_at_call 78; refine (AT.out _ (HE.out.below (H1 _).out)).mono ?_; rintro e w2 ⟨rfl, hb2⟩)
    go_ret
    exact ⟨rfl, (H1 _).out.trans (hb2.mono (by simp))⟩
  · have h2b : (v0 == 2) = false := by simpa using h2
    go_enter Tryd.func44, Tryd.ntmps44
    go_wp2_with (go_at_call 78; refine (AT.out _ (HE.out.below (H1 _).out)).mono ?_; rintro e w2 ⟨rfl, hb2⟩)
    go_ret
    exact ⟨rfl, (H1 _).out.trans (hb2.mono (by simp))⟩

end Go.Proofs.YtlinclbodbbemaaDoor

namespace Go.Proofs.YtlinclbodbbemaaDoor
open Go.RowKit
set_option maxRecDepth 100000

theorem strCells_byte (s : ByteArray) : Lib.strCells s = Lib.byteCells s.data.toList := by
  unfold Lib.strCells Lib.byteCells
  simp
theorem byteCells_cat (a b : Bs) : Lib.byteCells a ++ Lib.byteCells b = Lib.byteCells (a ++ b) := by simp [Lib.byteCells]
/-- The text in the making, b its block. -/
structure JL (w wr : World) (b : Nat) (acc : Bs) : Prop where
  mak : Bd.Mk b b (Lib.byteCells acc) wr
  bel : Below b w wr
theorem JL.alloc {w wr : World} {b : Nat} {acc : Bs} (h : JL w wr b acc) (hb : b < wr.heap.size) (o : Obj) : JL w (wr.alloc o) b acc := by
  refine ⟨?_, h.bel.alloc (by omega) o⟩
  have key : ∀ p, Lib.BuilderAt 77 5 b b p (Lib.byteCells acc) wr → Lib.BuilderAt 77 5 b b p (Lib.byteCells acc) (wr.alloc o) := fun p ⟨h1, v, h2, h3, h4⟩ =>
    ⟨h1, v, (Below.heap_alloc wr o b hb).trans h2, h3.alloc o, h4⟩
  rcases h.mak with k | k
  · exact .inl (key _ k)
  · exact .inr (key _ k)
theorem JL.lt {w wr : World} {b : Nat} {acc : Bs} (h : JL w wr b acc) : b < wr.heap.size := by
  rcases h.mak with ⟨_, v, h2, _⟩ | ⟨_, v, h2, _⟩ <;> exact heap_lt' h2
theorem JL.byte {w wr : World} {b : Nat} {acc : Bs} (h : JL w wr b acc) (hl : acc.length + 1 ≤ 140737488355328) (c : UInt8) (d : Int) (hd : (c.toNat : Int) = d) :
    Calls Tryd.prog 42 #[.pointer (some ⟨b, 0, none⟩), .int .u8 d] wr fun e w' => e = .returned .nilIface ∧ JL w w' b (acc ++ [c]) ∧ Bd.KeepT b wr w' := by
  have hlt := h.lt
  refine (Bd.wbyte_any b b _ d wr h.mak (by simpa [Lib.byteCells] using hl) (by omega)).mono fun e w' k => ?_
  obtain ⟨k1, k2, k3, k4⟩ := k
  rw [byteCells_snoc acc c hd] at k2
  exact ⟨k1, ⟨.inr k2, h.bel.trans k3⟩, k4⟩
theorem JL.text {w wr : World} {b : Nat} {acc : Bs} (h : JL w wr b acc) (s : ByteArray) (hl : acc.length + s.size ≤ 140737488355328) :
    Calls Tryd.prog 43 #[.pointer (some ⟨b, 0, none⟩), .string s] wr fun e w' => e = .returned (.tuple #[.int .i64 s.size, .nilIface]) ∧ JL w w' b (acc ++ s.data.toList) ∧ Bd.KeepT b wr w' := by
  have hlt := h.lt
  refine (Bd.write_any b b _ s wr h.mak (by simpa [Lib.byteCells] using hl) (by omega)).mono fun e w' k => ?_
  obtain ⟨k1, k2, k3, k4⟩ := k
  rw [strCells_byte, byteCells_cat] at k2
  exact ⟨k1, ⟨.inr k2, h.bel.trans k3⟩, k4⟩
theorem JL.below {w wr wq : World} {b : Nat} {acc : Bs} (h : JL w wr b acc) (hb : Below wr.heap.size wr wq) : JL w wq b acc := by
  have hlt := h.lt
  refine ⟨?_, h.bel.trans (hb.mono (by omega))⟩
  have key : ∀ p, Lib.BuilderAt 77 5 b b p (Lib.byteCells acc) wr → Lib.BuilderAt 77 5 b b p (Lib.byteCells acc) wq := fun p ⟨h1, v, h2, h3, h4⟩ =>
    ⟨h1, v, heap_old h2 hb, h3.kept (row := none) ⟨hb.os, hb.tape, hb.output, hb.size, fun k hk _ => hb.block k hk⟩ (by
      cases ho : v.ownBlock with
      | none => exact .inl rfl
      | some k => right; intro e; cases e), h4⟩
  rcases h.mak with k | k
  · exact .inl (key _ k)
  · exact .inr (key _ k)

end Go.Proofs.YtlinclbodbbemaaDoor
