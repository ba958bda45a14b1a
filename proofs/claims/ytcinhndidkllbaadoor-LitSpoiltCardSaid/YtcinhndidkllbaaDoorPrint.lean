/- The signs of a text; what a reading comes to, in two ways. -/
import Derived.Test.YtcinhndidkllbaaDoorList
import Derived.Test.YtcinhndidkllbaaDoorSameV
namespace Go.Proofs.YtcinhndidkllbaaDoor
open Go.RowKit

def prt (c : UInt8) : Prop := 32 ≤ c.toNat ∧ c.toNat ≤ 126
theorem prt_dec (u : Nat) : ∀ c ∈ Lib.decDigits u, prt c := by
  induction u using Nat.strongRecOn with
  | _ u ih =>
    by_cases h : u < 10
    · rw [dec_small h]
      intro c hc
      obtain rfl : c = UInt8.ofNat (48 + u) := by simpa using hc
      unfold prt; rw [ofNat_toNat_lt (by omega)]; omega
    · rw [dec_big h]
      intro c hc
      rcases List.mem_append.1 hc with hc | hc
      · exact ih (u / 10) (by omega) c hc
      · obtain rfl : c = UInt8.ofNat (48 + u % 10) := by simpa using hc
        unfold prt; rw [ofNat_toNat_lt (by omega)]; omega
theorem prt_itoa (n : Int) : ∀ c ∈ Lib.itoa n, prt c := by
  unfold Lib.itoa
  split
  · intro c hc
    rcases List.mem_cons.1 hc with rfl | hc
    · exact ⟨by decide, by decide⟩
    · exact prt_dec _ c hc
  · exact prt_dec _
theorem prt_esc : ∀ (l : Bs), (∀ c ∈ l, 32 ≤ c.toNat ∧ c.toNat ≤ 126) → ∀ c ∈ esc l, prt c
  | [], _, c, hc => by simp [esc] at hc
  | x :: r, h, c, hc => by
    have ih := prt_esc r (fun y hy => h y (by simp [hy]))
    rw [esc] at hc
    split at hc
    · rcases List.mem_cons.1 hc with rfl | hc
      · exact ⟨by decide, by decide⟩
      · rcases List.mem_cons.1 hc with rfl | hc
        · exact h c (by simp)
        · exact ih c hc
    · rcases List.mem_cons.1 hc with rfl | hc
      · exact h c (by simp)
      · exact ih c hc
theorem prt_name {n : Int} (h0 : 0 ≤ n) (h1 : n ≤ 14) : ∀ c ∈ nameOf n, prt c := by
  have h8 : ∀ i : Fin 15, ∀ c ∈ nameOf ((i : Nat) : Int), 32 ≤ c.toNat ∧ c.toNat ≤ 126 := by decide
  exact fifteen (P := fun n => ∀ c ∈ nameOf n, 32 ≤ c.toNat ∧ c.toNat ≤ 126) h8 h0 h1
theorem prt_tx : ∀ (t : T), okT t → ∀ c ∈ tx t, prt c := by
  refine T.ind_ (fun k n s l ih => ?_)
  intro h
  have hall : ∀ (l : List T), (∀ t ∈ l, okT t → ∀ c ∈ tx t, prt c) → okA l → (∀ c ∈ txr l, prt c) ∧ ∀ c ∈ txs l, prt c := by
    intro l
    induction l with
    | nil => intro _ _; simp [txr, txs]
    | cons x r ihr =>
      intro hx hk
      rw [okA] at hk
      have h1 := hx x (by simp) hk.1
      have h2 := (ihr (fun t ht => hx t (by simp [ht])) hk.2).1
      have hm : ∀ c ∈ tx x ++ txr r, prt c := fun c hc => by
        rcases List.mem_append.1 hc with hc | hc
        · exact h1 c hc
        · exact h2 c hc
      refine ⟨fun c hc => ?_, fun c hc => hm c (by simpa [txs] using hc)⟩
      rw [txr] at hc
      rcases List.mem_cons.1 hc with rfl | hc
      · exact ⟨by decide, by decide⟩
      · rcases List.mem_cons.1 hc with rfl | hc
        · exact ⟨by decide, by decide⟩
        · exact hm c hc
  rw [okT] at h
  rcases h with ⟨rfl, h, rfl, rfl⟩ | ⟨rfl, h0, h1, rfl, rfl⟩ | ⟨rfl, rfl, rfl, h⟩ | ⟨rfl, h0, h1, rfl, rfl⟩ | ⟨rfl, rfl, rfl, h⟩
  · rw [tx0]; exact prt_itoa n
  · rw [tx1]; intro c hc
    rcases List.mem_cons.1 hc with rfl | hc
    · exact ⟨by decide, by decide⟩
    · exact prt_itoa n c hc
  · rw [tx2]; intro c hc
    rcases List.mem_cons.1 hc with rfl | hc
    · exact ⟨by decide, by decide⟩
    · rcases List.mem_append.1 hc with hc | hc
      · exact prt_esc _ h c hc
      · obtain rfl : c = 34 := by simpa using hc
        exact ⟨by decide, by decide⟩
  · rw [tx3]; exact prt_name h0 h1
  · rw [tx4]; intro c hc
    rcases List.mem_cons.1 hc with rfl | hc
    · exact ⟨by decide, by decide⟩
    · rcases List.mem_append.1 hc with hc | hc
      · exact (hall l ih h).2 c hc
      · obtain rfl : c = 125 := by simpa using hc
        exact ⟨by decide, by decide⟩

theorem bytes_ext {a b : ByteArray} (h : a.toList = b.toList) : a = b := by
  rw [ByteArray.toList_eq, ByteArray.toList_eq] at h
  exact ByteArray.ext (Array.toList_inj.mp h)
theorem eqV_eq : ∀ (t u : T), eqV t u = true → t = u := by
  refine T.ind_ (fun k n s l ih => ?_)
  intro u h
  obtain ⟨k', n', s', l'⟩ := u
  have hall : ∀ (l : List T), (∀ t ∈ l, ∀ u, eqV t u = true → t = u) → ∀ l', eqAll l l' = true → l = l' := by
    intro l
    induction l with
    | nil =>
      intro _ l' h
      cases l' with
      | nil => rfl
      | cons y q => simp [eqAll] at h
    | cons x r ihr =>
      intro hx l' h
      cases l' with
      | nil => simp [eqAll] at h
      | cons y q =>
        rw [eqAll, Bool.and_eq_true] at h
        rw [hx x (by simp) y h.1, ihr (fun t ht => hx t (by simp [ht])) q h.2]
  rw [eqV] at h
  simp only [Bool.and_eq_true, beq_iff_eq] at h
  obtain ⟨⟨⟨h1, h2⟩, h3⟩, h4⟩ := h
  rw [hall l ih l' h1, h2, h3, bytes_ext h4]

/-- What a reading comes to: an error, or a right value whose text it is. -/
def ReadTwo (s : ByteArray) (w : World) (e : Ending) (w' : World) : Prop :=
  Below w.heap.size w w' ∧ ((∃ (y : TypeId) (a : Addr), e = .returned (.tuple #[zeroV, .iface y (.pointer (some a))]) ∧ (y = 63 ∨ y = 129)) ∨
    (∃ t v, s.data.toList = tx t ∧ okT t ∧ (odd t 1 0).1 = 0 ∧ e = .returned (.tuple #[v, .nilIface]) ∧ Rep w' w.heap.size w'.heap.size t v))
theorem read_two (eD eM eR eS : Value) (aY : Addr) (hP : Ptrs eD eM eR eS) (s : ByteArray) (w : World) (hs : s.size ≤ 140737488355328) (he : Env w eD eM eR eS aY) :
    Calls Tryd.prog 21 #[.string s] w (ReadTwo s w) := by
  refine (read_any eD eM eR eS aY hP s w hs he.errs he.syn he.names).mono fun e w' hp => ?_
  obtain ⟨hb, h⟩ := hp
  refine ⟨hb, ?_⟩
  rcases h with ⟨p, b, hp, h, h2, _⟩ | ⟨t1, t2, h1, h2, ⟨h0, v, h3, h4⟩ | ⟨h0, h3⟩⟩
  · exact .inl ⟨_, _, h2, .inl rfl⟩
  · have hc := cnt_le_sz t2
    have hz := odd_sz h0
    rcases h2 with ⟨_, rfl⟩ | ⟨_, h2⟩
    · obtain ⟨e1, e2⟩ := Go.sound h1
      rw [List.append_nil] at e1
      exact .inr ⟨t2, v, e1, e2, h0, h3, h4⟩
    · omega
  · obtain ⟨a, ha⟩ := hP (odd t2 1 0).1
    refine .inl ⟨129, a, ?_, .inr rfl⟩
    rw [h3]; unfold vRes; rw [if_neg h0, ha]

theorem read_box (eD eM eR eS : Value) (aY : Addr) (hP : Ptrs eD eM eR eS) (s : ByteArray) (w : World) (hs : s.size ≤ 140737488355328) (he : Env w eD eM eR eS aY) :
    Calls Tryd.prog 21 #[.string s] w fun e w' => Below w.heap.size w w' ∧ ∃ (k n : Int) (u : ByteArray) (lp : Option Addr) (ll lc : Nat) (f : Value), e = .returned (.tuple #[.agg #[.int .i64 k, .int .i64 n, .string u, .slice lp ll lc], f]) ∧
      Hid ((∃ (y : TypeId) (a : Addr), f = .iface y (.pointer (some a)) ∧ (y = 63 ∨ y = 129)) ∨ (f = .nilIface ∧ ∃ t, s.data.toList = tx t ∧ okT t ∧ (odd t 1 0).1 = 0 ∧ Rep w' w.heap.size w'.heap.size t (.agg #[.int .i64 k, .int .i64 n, .string u, .slice lp ll lc]))) := by
  refine (read_two eD eM eR eS aY hP s w hs he).mono fun e w' hp => ?_
  obtain ⟨hb, ⟨y, a, rfl, hy⟩ | ⟨t, v, h1, h2, h3, rfl, h4⟩⟩ := hp
  · exact ⟨hb, 0, 0, ByteArray.empty, none, 0, 0, _, rfl, Lib.hid (.inl ⟨y, a, rfl, hy⟩)⟩
  · obtain ⟨k, n, u, lp, ll, lc, rfl⟩ := rep_form h4
    exact ⟨hb, k, n, u, lp, ll, lc, _, rfl, Lib.hid (.inr ⟨rfl, t, h1, h2, h3, h4⟩)⟩

/-- With a sign in it that is none, a text is none. -/
theorem no_text {a b : Bs} {t : T} (h : a ++ (1 :: b) = tx t) (hk : okT t) : False := by
  have := prt_tx t hk 1 (by rw [← h]; simp)
  unfold prt at this
  exact absurd this.1 (by decide)
/-- With a sign taken away, a text is another value's. -/
theorem less_text {t u : T} {k : Nat} (hk : k < (tx u).length) (h : (tx u).take k ++ (tx u).drop (k + 1) = tx t) : eqV t u = false := by
  cases he : eqV t u with
  | false => rfl
  | true =>
    obtain rfl := eqV_eq t u he
    have := congrArg List.length h
    simp at this
    omega

/-- A box that holds what a reading answered, with its error beside it. -/
def BoxV (B : Nat) (w0 W : World) (g : Nat) (k n : Int) (u : ByteArray) (lp : Option Addr) (ll lc : Nat) (f : Value) (s : ByteArray) : Prop :=
  Below B w0 W ∧ W.heap[g]? = some (.cells #[.int .i64 k, .int .i64 n, .string u, .slice lp ll lc] 26 (0, 0)) ∧
    ((∃ (y : TypeId) (a : Addr), f = .iface y (.pointer (some a)) ∧ (y = 63 ∨ y = 129)) ∨ (f = .nilIface ∧ ∃ t, s.data.toList = tx t ∧ okT t ∧ (odd t 1 0).1 = 0 ∧ Rep W 0 W.heap.size t (.agg #[.int .i64 k, .int .i64 n, .string u, .slice lp ll lc])))
theorem heap_set_box (w : World) (g : Nat) (c0 c1 c2 c3 d0 d1 d2 d3 : Value) (t : TypeId) (h : w.heap[g]? = some (.cells #[d0, d1, d2, d3] t (0, 0))) :
    ((((w.setCell ⟨g, 0, none⟩ c0).setCell ⟨g, 1, none⟩ c1).setCell ⟨g, 2, none⟩ c2).setCell ⟨g, 3, none⟩ c3).heap[g]? = some (.cells #[c0, c1, c2, c3] t (0, 0)) := by
  simp [World.setCell, Array.getElem?_modify, h]
theorem box_alloc {B lo : Nat} {w0 w : World} {k n : Int} {u : ByteArray} {lp : Option Addr} {ll lc : Nat} {f : Value} {s : ByteArray} (hb : Below B w0 w) (hB : B ≤ w.heap.size)
    (h : (∃ (y : TypeId) (a : Addr), f = .iface y (.pointer (some a)) ∧ (y = 63 ∨ y = 129)) ∨ (f = .nilIface ∧ ∃ t, s.data.toList = tx t ∧ okT t ∧ (odd t 1 0).1 = 0 ∧ Rep w lo w.heap.size t (.agg #[.int .i64 k, .int .i64 n, .string u, .slice lp ll lc]))) :
    BoxV B w0 (w.alloc (.cells #[.int .i64 k, .int .i64 n, .string u, .slice lp ll lc] 26)) w.heap.size k n u lp ll lc f s := by
  refine ⟨hb.alloc hB _, heap_alloc_new w _, ?_⟩
  rcases h with h | ⟨h, t, h1, h2, h3, h4⟩
  · exact .inl h
  · exact .inr ⟨h, t, h1, h2, h3, (h4.alloc (Nat.le_refl _) _).keep (Nat.zero_le _) (by simp) (fun _ _ _ => rfl)⟩
theorem box_set {B lo g : Nat} {w0 w : World} {k n : Int} {u : ByteArray} {lp : Option Addr} {ll lc : Nat} {f : Value} {s : ByteArray} {d0 d1 d2 d3 : Value} (hb : Below B w0 w) (hB : B ≤ g) (hg : g < lo)
    (hh : w.heap[g]? = some (.cells #[d0, d1, d2, d3] 26 (0, 0)))
    (h : (∃ (y : TypeId) (a : Addr), f = .iface y (.pointer (some a)) ∧ (y = 63 ∨ y = 129)) ∨ (f = .nilIface ∧ ∃ t, s.data.toList = tx t ∧ okT t ∧ (odd t 1 0).1 = 0 ∧ Rep w lo w.heap.size t (.agg #[.int .i64 k, .int .i64 n, .string u, .slice lp ll lc]))) :
    BoxV B w0 ((((w.setCell ⟨g, 0, none⟩ (.int .i64 k)).setCell ⟨g, 1, none⟩ (.int .i64 n)).setCell ⟨g, 2, none⟩ (.string u)).setCell ⟨g, 3, none⟩ (.slice lp ll lc)) g k n u lp ll lc f s := by
  refine ⟨(((hb.setCell hB _).setCell hB _).setCell hB _).setCell hB _, heap_set_box _ _ _ _ _ _ _ _ _ _ _ hh, ?_⟩
  rcases h with h | ⟨h, t, h1, h2, h3, h4⟩
  · exact .inl h
  · refine .inr ⟨h, t, h1, h2, h3, Rep.keep (w := w) (lo := lo) (hi := w.heap.size) (Nat.zero_le _) (by simp only [World.size_setCell]; omega) (fun p hl _ => ?_) _ _ h4⟩
    have hne : p.block ≠ g := by omega
    exact World.cell?_of_block (heap_set4' _ _ _ _ _ _ _ _ _ _ _ hne)

end Go.Proofs.YtcinhndidkllbaaDoor
