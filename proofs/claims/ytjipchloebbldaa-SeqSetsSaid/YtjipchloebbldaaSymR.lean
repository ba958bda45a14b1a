/- sort.symMerge_func over a machine: both parts longer than one; and altogether. -/
import Derived.Test.YtjipchloebbldaaSymW
import Derived.Test.YtjipchloebbldaaRota
import Derived.Deep.DeepCutAuto
namespace Go.Proofs.Ytjipchloebbldaa
open Go.RowKit Go.Sort
set_option maxRecDepth 100000
variable {bo n : Nat} {lt : Nat → Nat → Bool} {g : Nat} {lb : Array Value} {sf : Nat} {sb : Array Value} {S : Array Nat → World → Prop}

theorem sorted_move {lt : Nat → Nat → Bool} {a c x y : Nat} {d d' : Array Nat} (h : SortedIn lt x y d) (hp : PermIn a c d d') (hx : c ≤ x) : SortedIn lt x y d' := fun i j h1 h2 h3 => by
  rw [hp.2.1 i (Or.inr (by omega)), hp.2.1 j (Or.inr (by omega))]; exact h i j h1 h2 h3

theorem rot_none {s m e : Nat} {d : Array Nat} (h1 : s ≤ m) (h2 : m ≤ e) (h : s = m ∨ m = e) : RotAt s m e d d := by
  refine ⟨rfl, fun k => ?_⟩
  by_cases c1 : s ≤ k ∧ k < s + (e - m)
  · rw [if_pos c1]; congr 1; omega
  · rw [if_neg c1]
    by_cases c2 : s + (e - m) ≤ k ∧ k < e
    · rw [if_pos c2]; congr 1; omega
    · rw [if_neg c2]

def SymOk (S : Array Nat → World → Prop) (bo n : Nat) (lt : Nat → Nat → Bool) (g : Nat) (lb : Array Value) (sf : Nat) (sb : Array Value) (N : Nat) : Prop :=
  ∀ (d : Array Nat) (W : World) (a m b : Nat), b - a ≤ N → S d W → a < m → m < b → b ≤ n → SortedIn lt a m d → SortedIn lt m b d →
    Calls Try.prog 84 #[.agg #[.func (.func g) #[] lb, .func (.func sf) #[] sb], .int .i64 a, .int .i64 m, .int .i64 b] W fun e w' =>
      e = .returned (.tuple #[]) ∧ ∃ d', S d' w' ∧ Keeps bo W w' ∧ PermIn a b d d' ∧ SortedIn lt a b d'

set_option maxHeartbeats 4000000 in
theorem sym_rec (hO : SWO lt) (M : Mach bo n lt g lb sf sb S) (N : Nat) (ih : SymOk S bo n lt g lb sf sb N) (d : Array Nat) (W : World) (hS : S d W) (a m b : Nat) (hN : b - a ≤ N + 1) (ham : a + 1 < m) (hmb : m + 1 < b) (hb : b ≤ n) (hX : SortedIn lt a m d) (hY : SortedIn lt m b d) :
    Calls Try.prog 84 #[.agg #[.func (.func g) #[] lb, .func (.func sf) #[] sb], .int .i64 a, .int .i64 m, .int .i64 b] W fun e w' =>
      e = .returned (.tuple #[]) ∧ ∃ d', S d' w' ∧ Keeps bo W w' ∧ PermIn a b d d' ∧ SortedIn lt a b d' := by
  have hbig := M.big
  have hlt := M.blk _ _ hS
  have hsz := M.size _ _ hS
  have H0 := Lib.hid (M.step _ _ _ hS ((Below.refl W.heap.size W).alloc (Nat.le_refl _) (.cells #[.func (.func g) #[] lb, .func (.func sf) #[] sb] 81)))
  have K0 := Lib.hid (Keeps.of_below (bo := bo) ((Below.refl W.heap.size W).alloc (Nat.le_refl _) (.cells #[.func (.func g) #[] lb, .func (.func sf) #[] sb] 81)))
  have heg := M.eg
  have HM := Lib.hid M; have IH := Lib.hid ih; clear M hS ih
  have CC : Hid (∀ wr, Keeps bo (W.alloc (.cells #[.func (.func g) #[] lb, .func (.func sf) #[] sb] 81)) wr → wr.cell? ⟨W.heap.size, 0, none⟩ = some (.func (.func g) #[] lb) ∧ wr.cell? ⟨W.heap.size, 1, none⟩ = some (.func (.func sf) #[] sb)) := fun wr hK =>
    ⟨(hK.cell (p := ⟨W.heap.size, 0, none⟩) (by rw [World.size_alloc]; exact Nat.lt_succ_self _) (by show W.heap.size ≠ bo; omega)).trans (by simp), (hK.cell (p := ⟨W.heap.size, 1, none⟩) (by rw [World.size_alloc]; exact Nat.lt_succ_self _) (by show W.heap.size ≠ bo; omega)).trans (by simp)⟩
  have HX := Lib.hid hX; have HY := Lib.hid hY; clear hX hY
  have h0 : ((m : Int) - a == 1) = false := by simp; omega
  have h1 : ((b : Int) - m == 1) = false := by simp; omega
  obtain ⟨mid, hmid, hm1, hm2⟩ : ∃ mid : Nat, ((a : Int) + b) / 2 = (mid : Int) ∧ 2 * mid ≤ a + b ∧ a + b ≤ 2 * mid + 1 := ⟨(a + b) / 2, by omega, by omega, by omega⟩
  go_enter Try.func84, Try.ntmps84
  go_upto_if 106 with fail
  go_cut [18, 19] (fun vs vr wx => wx = W.alloc (.cells #[.func (.func g) #[] lb, .func (.func sf) #[] sb] 81) ∧ ∃ s0 r0 : Nat, vs = .int .i64 s0 ∧ vr = .int .i64 r0 ∧ a ≤ s0 ∧ s0 ≤ r0 ∧ r0 ≤ m ∧ r0 ≤ mid ∧ mid + m ≤ b + s0 ∧ (a < s0 → mid + m = b + s0) ∧ (r0 < m → r0 = mid))
  case first =>
    go_wp2_with fail
    · go_meet
      exact ⟨rfl, mid + m - b, mid, by go_num, rfl, by omega, by omega, by omega, by omega, by omega, by omega, by omega⟩
    · go_meet
      exact ⟨rfl, a, m, rfl, rfl, by omega, by omega, by omega, by omega, by omega, by omega, by omega⟩
  case rest =>
    obtain ⟨rfl, s0, r0, rfl, rfl, hs1, hs2, hr1, hr2, hs3, hs4, hr3⟩ := hcut
    obtain ⟨p, hp, hp2⟩ : ∃ p : Nat, (mid : Int) + m - 1 = (p : Int) ∧ p + 1 = mid + m := ⟨mid + m - 1, by omega, by omega⟩
    go_wp2
    go_loopw [18, 19] (fun vs vr wr => ∃ (s r : Nat), vs = .int .i64 s ∧ vr = .int .i64 r ∧ s0 ≤ s ∧ s ≤ r ∧ r ≤ r0 ∧ Hid (S d wr) ∧ Keeps bo (W.alloc (.cells #[.func (.func g) #[] lb, .func (.func sf) #[] sb] 81)) wr ∧ Hid (s0 < s → lt d[p - (s - 1)]! d[s - 1]! = false) ∧ Hid (r < r0 → lt d[p - r]! d[r]! = true)) (fun vs vr _ => (intOf vr).toNat - (intOf vs).toNat)
    case atStart => exact ⟨s0, r0, rfl, rfl, Nat.le_refl _, hs2, Nat.le_refl _, H0, Keeps.refl _ _, fun h => absurd h (Nat.lt_irrefl _), fun h => absurd h (Nat.lt_irrefl _)⟩
    case round =>
      obtain ⟨s, r, rfl, rfl, hss, hsr, hrr, HS, hK, HA, HB⟩ := hrel
      obtain ⟨c0, c1⟩ := CC.out _ hK
      have HK := Lib.hid hK; clear hK
      by_cases hsr' : s < r
      · obtain ⟨c, hc1, hsc, hcr⟩ : ∃ c : Nat, ((s : Int) + r) / 2 = (c : Int) ∧ s ≤ c ∧ c < r := ⟨(s + r) / 2, by omega, by omega, by omega⟩
        obtain ⟨q, hq, hq2⟩ : ∃ q : Nat, (p : Int) - c = (q : Int) ∧ q = p - c := ⟨p - c, by omega, rfl⟩
        have hl := HM.out.less d wr q c HS.out (by omega) (by omega)
        cases hlv : lt d[q]! d[c]! with
        | false =>
          rw [hlv] at hl
          have HL := Lib.hid hl; clear hl
          rw [hq2] at hlv
          have HV := Lib.hid hlv; clear hlv hq2
          go_wp2_with (go_at_fn g; refine HL.out.mono ?_; rintro e w' ⟨rfl, hb'⟩; have HB' := Lib.hid hb'; clear hb')
          go_roundw
          case rel => exact ⟨c + 1, r, by go_num, rfl, by omega, by omega, hrr, HM.out.step _ _ _ HS.out HB'.out, HK.out.trans (Keeps.of_below HB'.out), fun _ => HV.out, HB⟩
          case measure => simp [intOf]; omega
        | true =>
          rw [hlv] at hl
          have HL := Lib.hid hl; clear hl
          rw [hq2] at hlv
          have HV := Lib.hid hlv; clear hlv hq2
          go_wp2_with (go_at_fn g; refine HL.out.mono ?_; rintro e w' ⟨rfl, hb'⟩; have HB' := Lib.hid hb'; clear hb')
          go_roundw
          case rel => exact ⟨s, c, rfl, rfl, hss, by omega, by omega, HM.out.step _ _ _ HS.out HB'.out, HK.out.trans (Keeps.of_below HB'.out), HA, fun _ => HV.out⟩
          case measure => simp [intOf]; omega
      · obtain rfl : s = r := by omega
        obtain ⟨e, he, he2⟩ : ∃ e : Nat, (mid : Int) + m - s = (e : Int) ∧ e + s = mid + m := ⟨mid + m - s, by omega, by omega⟩
        have hme : m ≤ e := by omega
        have heb : e ≤ b := by omega
        have HT1 : Hid (a < s → e < b → lt d[e]! d[s - 1]! = false) := fun h1 h2 => by
          have h := HA.out (by omega)
          rw [show p - (s - 1) = e by omega] at h; exact h
        have HT2 : Hid (s < m → m < e → lt d[e - 1]! d[s]! = true) := fun h1 h2 => by
          have h := HB.out (by omega)
          rw [show p - s = e - 1 by omega] at h; exact h
        clear h0 h1 hmid
        obtain ⟨B1, hB1⟩ : ∃ B : Bool, B = (decide (s < m) && decide (m < e)) := ⟨_, rfl⟩
        go_upto_region 40 with fail
        go_cut [145] (fun c wx => c = .bool B1 ∧ wx = wr)
        case first =>
          by_cases x1 : s < m
          · by_cases x2 : m < e
            · have hB : B1 = true := by rw [hB1]; simp [x1, x2]
              clear hB1
              go_wp2
              go_meet
              exact ⟨by rw [hB], rfl⟩
            · have hB : B1 = false := by rw [hB1]; simp [x2]
              clear hB1
              go_wp2
              go_meet
              exact ⟨by rw [hB], rfl⟩
          · have hB : B1 = false := by rw [hB1]; simp [x1]
            clear hB1
            go_wp2
            go_meet
            exact ⟨by rw [hB], rfl⟩
        case rest =>
          obtain ⟨rfl, rfl⟩ := hcut
          go_upto_if 145 with fail
          go_cut [] (fun wx => ∃ d2, Hid (S d2 wx) ∧ Keeps bo (W.alloc (.cells #[.func (.func g) #[] lb, .func (.func sf) #[] sb] 81)) wx ∧ Hid (RotAt s m e d d2) ∧ Hid (PermIn a b d d2))
          case first =>
            cases B1 with
            | true =>
              obtain ⟨x1, x2⟩ : s < m ∧ m < e := by simpa using hB1.symm
              have HC := Lib.hid (rotate_any HM.out d _ HS.out s m e x1 x2 (by omega))
              clear hB1
              go_wp2_with (go_at_call 88; (with_reducible refine HC.out.mono ?_); rintro e w2 ⟨rfl, d2, hs2, hk2, hr2, hp2⟩; have HS2 := Lib.hid hs2; have HK2 := Lib.hid hk2; have HR2 := Lib.hid hr2; have HP2 := Lib.hid hp2; clear hs2 hk2 hr2 hp2)
              go_meet
              exact ⟨d2, HS2, HK.out.trans HK2.out, HR2, permIn_mono _ _ _ _ _ _ (by omega) heb (by omega) HP2.out⟩
            | false =>
              have hx : s = m ∨ m = e := by
                have := hB1.symm
                simp only [Bool.and_eq_false_imp, decide_eq_true_eq, decide_eq_false_iff_not] at this
                by_cases h : s < m
                · have := this h; omega
                · omega
              clear hB1
              go_wp2
              go_meet
              exact ⟨d, HS, HK.out, rot_none (by omega) hme hx, permIn_refl _ _ _⟩
          case rest =>
            obtain ⟨d2, HS2, hK2, HR2, HP2⟩ := hcut
            have hsm : s + (e - m) = mid := by omega
            obtain ⟨t1, t2, t3, t4, t5⟩ := turned hO (by omega) (by omega) hme heb HX.out HY.out HT1.out HT2.out HR2.out
            rw [hsm] at t2 t3 t5
            have TT := Lib.hid (And.intro t1 (And.intro t2 (And.intro t3 (And.intro t4 t5))))
            have hz2 := Lib.hid (HM.out.size _ _ HS2.out)
            obtain ⟨c20, c21⟩ := CC.out _ hK2
            have HK2 := Lib.hid hK2
            clear t1 t2 t3 t4 t5 hK2 c0 c1
            obtain ⟨B2, hB2⟩ : ∃ B : Bool, B = (decide (a < s) && decide (s < mid)) := ⟨_, rfl⟩
            go_upto_region 42 with fail
            go_cut [158] (fun c wx => c = .bool B2 ∧ wx = wc)
            case first =>
              by_cases x1 : a < s
              · by_cases x2 : s < mid
                · have hB : B2 = true := by rw [hB2]; simp [x1, x2]
                  clear hB2
                  go_wp2
                  go_meet
                  exact ⟨by rw [hB], rfl⟩
                · have hB : B2 = false := by rw [hB2]; simp [x2]
                  clear hB2
                  go_wp2
                  go_meet
                  exact ⟨by rw [hB], rfl⟩
              · have hB : B2 = false := by rw [hB2]; simp [x1]
                clear hB2
                go_wp2
                go_meet
                exact ⟨by rw [hB], rfl⟩
            case rest =>
              obtain ⟨rfl, rfl⟩ := hcut
              go_upto_if 158 with fail
              go_cut [] (fun wx => ∃ d3, Hid (S d3 wx) ∧ Keeps bo (W.alloc (.cells #[.func (.func g) #[] lb, .func (.func sf) #[] sb] 81)) wx ∧ Hid (PermIn a mid d2 d3) ∧ Hid (SortedIn lt a mid d3))
              case first =>
                cases B2 with
                | true =>
                  obtain ⟨x1, x2⟩ : a < s ∧ s < mid := by simpa using hB2.symm
                  have HC := Lib.hid (IH.out d2 _ a s mid (by omega) HS2.out x1 x2 (by omega) TT.out.1 TT.out.2.1)
                  clear hB2
                  go_wp2_with (go_at_call 84; (with_reducible refine HC.out.mono ?_); rintro e w2 ⟨rfl, d3, hs3, hk3, hp3, hq3⟩; have HS3 := Lib.hid hs3; have HK3 := Lib.hid hk3; have HP3 := Lib.hid hp3; have HQ3 := Lib.hid hq3; clear hs3 hk3 hp3 hq3)
                  go_meet
                  exact ⟨d3, HS3, HK2.out.trans HK3.out, HP3, HQ3⟩
                | false =>
                  have hx : a = s ∨ s = mid := by
                    have := hB2.symm
                    simp only [Bool.and_eq_false_imp, decide_eq_true_eq, decide_eq_false_iff_not] at this
                    by_cases h : a < s
                    · have := this h; omega
                    · omega
                  clear hB2
                  go_wp2
                  go_meet
                  refine ⟨d2, HS2, HK2.out, permIn_refl _ _ _, ?_⟩
                  show SortedIn lt a mid d2
                  rcases hx with h | h
                  · rw [h]; exact TT.out.2.1
                  · rw [← h]; exact TT.out.1
              case rest =>
                obtain ⟨d3, HS3, hK3, HP3, HQ3⟩ := hcut
                obtain ⟨c30, c31⟩ := CC.out _ hK3
                have HK3 := Lib.hid hK3
                clear hK3 c20 c21
                obtain ⟨B3, hB3⟩ : ∃ B : Bool, B = (decide (mid < e) && decide (e < b)) := ⟨_, rfl⟩
                go_upto_region 44 with fail
                go_cut [171] (fun c wx => c = .bool B3 ∧ wx = wc)
                case first =>
                  by_cases x1 : mid < e
                  · by_cases x2 : e < b
                    · have hB : B3 = true := by rw [hB3]; simp [x1, x2]
                      clear hB3
                      go_wp2
                      go_meet
                      exact ⟨by rw [hB], rfl⟩
                    · have hB : B3 = false := by rw [hB3]; simp [x2]
                      clear hB3
                      go_wp2
                      go_meet
                      exact ⟨by rw [hB], rfl⟩
                  · have hB : B3 = false := by rw [hB3]; simp [x1]
                    clear hB3
                    go_wp2
                    go_meet
                    exact ⟨by rw [hB], rfl⟩
                case rest =>
                  obtain ⟨rfl, rfl⟩ := hcut
                  have T3 := Lib.hid (sorted_move TT.out.2.2.1 HP3.out (Nat.le_refl _))
                  have T4 := Lib.hid (sorted_move TT.out.2.2.2.1 HP3.out (show mid ≤ e by omega))
                  have HJ : Hid (∀ d4, PermIn mid b d3 d4 → SortedIn lt mid b d4 → PermIn a b d d4 ∧ SortedIn lt a b d4) := fun d4 h1 h2 => by
                    obtain ⟨j1, j2⟩ := joined (by omega) (by omega) (by have := hz2.out; omega) TT.out.2.2.2.2 HP3.out HQ3.out h1 h2
                    exact ⟨permIn_trans _ _ _ _ _ HP2.out j1, j2⟩
                  cases B3 with
                  | true =>
                    obtain ⟨x1, x2⟩ : mid < e ∧ e < b := by simpa using hB3.symm
                    have HC := Lib.hid (IH.out d3 _ mid e b (by omega) HS3.out x1 x2 hb T3.out T4.out)
                    clear hB3
                    go_wp2_with (go_at_call 84; (with_reducible refine HC.out.mono ?_); rintro e w2 ⟨rfl, d4, hs4, hk4, hp4, hq4⟩)
                    go_end0
                    obtain ⟨j1, j2⟩ := HJ.out d4 hp4 hq4
                    exact ⟨rfl, d4, hs4, K0.out.trans (HK3.out.trans hk4), j1, j2⟩
                  | false =>
                    have hx : mid = e ∨ e = b := by
                      have := hB3.symm
                      simp only [Bool.and_eq_false_imp, decide_eq_true_eq, decide_eq_false_iff_not] at this
                      by_cases h : mid < e
                      · have := this h; omega
                      · omega
                    clear hB3
                    go_wp2
                    go_end0
                    have hs : SortedIn lt mid b d3 := by
                      rcases hx with h | h
                      · rw [h]; exact T4.out
                      · rw [← h]; exact T3.out
                    obtain ⟨j1, j2⟩ := HJ.out d3 (permIn_refl _ _ _) hs
                    exact ⟨rfl, d3, HS3.out, K0.out.trans HK3.out, j1, j2⟩

theorem symMerge_any (hO : SWO lt) (M : Mach bo n lt g lb sf sb S) : ∀ N, SymOk S bo n lt g lb sf sb N
  | 0 => fun d W a m b h _ h1 h2 _ _ _ => absurd h (by omega)
  | N + 1 => fun d W a m b h hS h1 h2 hb hX hY => by
    by_cases c1 : m = a + 1
    · have r := sym_one hO M d W hS a b (by omega) hb (by rw [← c1]; exact hY)
      rw [c1, show (((a + 1 : Nat)) : Int) = (a : Int) + 1 by omega]
      exact r
    · by_cases c2 : b = m + 1
      · have r := sym_last hO M d W hS a m (by omega) (by omega) hX
        rw [c2, show (((m + 1 : Nat)) : Int) = (m : Int) + 1 by omega]
        exact r
      · exact sym_rec hO M N (symMerge_any hO M N) d W hS a m b h (by omega) (by omega) hb hX hY
end Go.Proofs.Ytjipchloebbldaa
