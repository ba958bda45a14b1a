/- sort.symMerge_func over a machine: a first part of one, a second part of one. -/
import Derived.Test.YtjipchloebbldaaMach
namespace Go.Proofs.Ytjipchloebbldaa
open Go.RowKit Go.Sort
set_option maxRecDepth 100000
variable {bo n : Nat} {lt : Nat → Nat → Bool} {g : Nat} {lb : Array Value} {sf : Nat} {sb : Array Value} {S : Array Nat → World → Prop}

theorem up_start (a : Nat) (d : Array Nat) (x : Nat) : d[x]! = if a ≤ x ∧ x < a then d[x + 1]! else if x = a then d[a]! else d[x]! := by
  rw [if_neg (by omega)]
  by_cases e : x = a
  · rw [if_pos e, e]
  · rw [if_neg e]
theorem down_start (m : Nat) (d : Array Nat) (x : Nat) : d[x]! = if x = m then d[m]! else if m < x ∧ x ≤ m then d[x - 1]! else d[x]! := by
  by_cases e : x = m
  · rw [if_pos e, e]
  · rw [if_neg e, if_neg (by omega)]
set_option maxHeartbeats 2000000 in
theorem sym_one (hO : SWO lt) (M : Mach bo n lt g lb sf sb S) (d : Array Nat) (W : World) (hS : S d W) (a b : Nat) (hab : a + 1 < b) (hb : b ≤ n) (hY : SortedIn lt (a + 1) b d) :
    Calls Try.prog 84 #[.agg #[.func (.func g) #[] lb, .func (.func sf) #[] sb], .int .i64 a, .int .i64 ((a : Int) + 1), .int .i64 b] W fun e w' =>
      e = .returned (.tuple #[]) ∧ ∃ d', S d' w' ∧ Keeps bo W w' ∧ PermIn a b d d' ∧ SortedIn lt a b d' := by
  have hbig := M.big
  have hlt := M.blk _ _ hS
  have hsz := M.size _ _ hS
  have H0 := Lib.hid (M.step _ _ _ hS ((Below.refl W.heap.size W).alloc (Nat.le_refl _) (.cells #[.func (.func g) #[] lb, .func (.func sf) #[] sb] 81)))
  have K0 := Lib.hid (Keeps.of_below (bo := bo) ((Below.refl W.heap.size W).alloc (Nat.le_refl _) (.cells #[.func (.func g) #[] lb, .func (.func sf) #[] sb] 81)))
  have heg := M.eg
  have HM := Lib.hid M; clear M hS
  have h1 : ((a : Int) + 1 - a == 1) = true := by simp; omega
  go_enter Try.func84, Try.ntmps84
  go_wp2
  go_loopw [8, 9] (fun vi vj wr => ∃ (i j : Nat), vi = .int .i64 i ∧ vj = .int .i64 j ∧ a + 1 ≤ i ∧ i ≤ j ∧ j ≤ b ∧ Hid (S d wr) ∧ Keeps bo (W.alloc (.cells #[.func (.func g) #[] lb, .func (.func sf) #[] sb] 81)) wr ∧ Hid (a + 1 < i → lt d[i - 1]! d[a]! = true) ∧ Hid (j < b → lt d[j]! d[a]! = false)) (fun vi vj _ => (intOf vj).toNat - (intOf vi).toNat)
  case atStart => exact ⟨a + 1, b, by go_num, rfl, Nat.le_refl _, by omega, Nat.le_refl _, H0, Keeps.refl _ _, fun h => absurd h (Nat.lt_irrefl _), fun h => absurd h (Nat.lt_irrefl _)⟩
  case round =>
    obtain ⟨i, j, rfl, rfl, hai, hij, hjb, HS, hK, HA, HB⟩ := hrel
    have hz := hK.size
    rw [World.size_alloc] at hz
    have cc : ∀ kk v, (W.alloc (.cells #[.func (.func g) #[] lb, .func (.func sf) #[] sb] 81)).cell? ⟨W.heap.size, kk, none⟩ = some v → wr.cell? ⟨W.heap.size, kk, none⟩ = some v := fun kk v h => (hK.cell (p := ⟨W.heap.size, kk, none⟩) (by rw [World.size_alloc]; exact Nat.lt_succ_self _) (by show W.heap.size ≠ bo; omega)).trans h
    have c0 := cc 0 (.func (.func g) #[] lb) (by simp)
    have HK := Lib.hid hK; clear cc hK
    by_cases hij' : i < j
    · obtain ⟨h, hh⟩ : ∃ h, h = (i + j) / 2 := ⟨_, rfl⟩
      have hh1 : ((i : Int) + j) / 2 = (h : Int) := by omega
      have hih : i ≤ h := by omega
      have hhj : h < j := by omega
      clear hh
      have hl := HM.out.less d wr h a HS.out (by omega) (by omega)
      cases hlv : lt d[h]! d[a]! with
      | true =>
        rw [hlv] at hl
        have HL := Lib.hid hl; clear hl
        go_wp2_with (go_at_fn g; refine HL.out.mono ?_; rintro e w' ⟨rfl, hb'⟩; have HB' := Lib.hid hb'; clear hb')
        go_roundw
        case rel => exact ⟨h + 1, j, by go_num, rfl, by omega, by omega, hjb, HM.out.step _ _ _ HS.out HB'.out, HK.out.trans (Keeps.of_below HB'.out), fun _ => hlv, HB⟩
        case measure => simp [intOf]; omega
      | false =>
        rw [hlv] at hl
        have HL := Lib.hid hl; clear hl
        go_wp2_with (go_at_fn g; refine HL.out.mono ?_; rintro e w' ⟨rfl, hb'⟩; have HB' := Lib.hid hb'; clear hb')
        go_roundw
        case rel => exact ⟨i, h, rfl, rfl, hai, hih, by omega, HM.out.step _ _ _ HS.out HB'.out, HK.out.trans (Keeps.of_below HB'.out), HA, fun _ => hlv⟩
        case measure => simp [intOf]; omega
    · obtain rfl : i = j := by omega
      clear c0
      go_wp2
      go_loopw [11] (fun vk wr2 => ∃ (k : Nat) (dk : Array Nat), vk = .int .i64 k ∧ a ≤ k ∧ k ≤ i - 1 ∧ Hid (S dk wr2) ∧ Keeps bo (W.alloc (.cells #[.func (.func g) #[] lb, .func (.func sf) #[] sb] 81)) wr2 ∧ Hid (∀ x, dk[x]! = if a ≤ x ∧ x < k then d[x + 1]! else if x = k then d[a]! else d[x]!) ∧ Hid (PermIn a b d dk)) (fun vk _ => i - (intOf vk).toNat)
      case atStart => exact ⟨a, d, rfl, Nat.le_refl _, by omega, HS, HK.out, up_start a d, permIn_refl _ _ _⟩
      case round =>
        obtain ⟨k, dk, rfl, hak, hki, HSk, hK2, HG, HP⟩ := hrel
        have hz2 := hK2.size
        rw [World.size_alloc] at hz2
        have c1 : ∀ v, (W.alloc (.cells #[.func (.func g) #[] lb, .func (.func sf) #[] sb] 81)).cell? ⟨W.heap.size, 1, none⟩ = some v → wr.cell? ⟨W.heap.size, 1, none⟩ = some v := fun v h => (hK2.cell (p := ⟨W.heap.size, 1, none⟩) (by rw [World.size_alloc]; exact Nat.lt_succ_self _) (by show W.heap.size ≠ bo; omega)).trans h
        have c1 := c1 (.func (.func sf) #[] sb) (by simp)
        have HK2 := Lib.hid hK2; clear hK2
        by_cases hki' : k < i - 1
        · obtain ⟨W', hs, hS', hK'⟩ := HM.out.swap _ _ k (k + 1) HSk.out (by omega) (by omega)
          rw [show (((k + 1 : Nat)) : Int) = (k : Int) + 1 by omega] at hs
          have HS' := Lib.hid hS'; have HK' := Lib.hid hK'; clear hS' hK'
          go_wp2
          go_roundw
          case rel =>
            have hsk := HM.out.size _ _ HSk.out
            refine ⟨k + 1, _, by go_num, by omega, by omega, HS', HK2.out.trans HK'.out, fun x => ?_, permIn_trans _ _ _ _ _ HP.out (swp_permIn _ _ _ _ _ (by omega) (by omega) (by omega) (by omega) (by omega))⟩
            have g1 := HG.out k
            have g2 := HG.out (k + 1)
            rw [if_neg (by omega), if_pos rfl] at g1
            rw [if_neg (by omega), if_neg (by omega)] at g2
            rw [swp_get dk (by omega) (by omega)]
            by_cases e1 : x = k + 1
            · rw [if_pos e1, if_neg (by omega), if_pos e1, g1]
            · rw [if_neg e1]
              by_cases e2 : x = k
              · rw [if_pos e2, if_pos (by omega), g2, e2]
              · rw [if_neg e2, HG.out x]
                by_cases e3 : a ≤ x ∧ x < k
                · rw [if_pos e3, if_pos (by omega)]
                · rw [if_neg e3, if_neg (by omega), if_neg (by omega), if_neg (by omega)]
          case measure => simp [intOf]; omega
        · have hk : k = i - 1 := by omega
          go_wp2
          (try simp only [Exit.inBlock, Exit.then]); refine bodyPost_ret (results_none rfl _ _ _) rfl ?_
          have hg := HG.out
          rw [hk] at hg
          exact ⟨rfl, dk, HSk.out, K0.out.trans HK2.out, HP.out, inserted_up hO (by omega) hjb hY HA.out HB.out hg⟩
set_option maxHeartbeats 2000000 in
theorem sym_last (hO : SWO lt) (M : Mach bo n lt g lb sf sb S) (d : Array Nat) (W : World) (hS : S d W) (a m : Nat) (ham : a + 1 < m) (hb : m + 1 ≤ n) (hX : SortedIn lt a m d) :
    Calls Try.prog 84 #[.agg #[.func (.func g) #[] lb, .func (.func sf) #[] sb], .int .i64 a, .int .i64 m, .int .i64 ((m : Int) + 1)] W fun e w' =>
      e = .returned (.tuple #[]) ∧ ∃ d', S d' w' ∧ Keeps bo W w' ∧ PermIn a (m + 1) d d' ∧ SortedIn lt a (m + 1) d' := by
  have hbig := M.big
  have hlt := M.blk _ _ hS
  have hsz := M.size _ _ hS
  have H0 := Lib.hid (M.step _ _ _ hS ((Below.refl W.heap.size W).alloc (Nat.le_refl _) (.cells #[.func (.func g) #[] lb, .func (.func sf) #[] sb] 81)))
  have K0 := Lib.hid (Keeps.of_below (bo := bo) ((Below.refl W.heap.size W).alloc (Nat.le_refl _) (.cells #[.func (.func g) #[] lb, .func (.func sf) #[] sb] 81)))
  have heg := M.eg
  have HM := Lib.hid M; clear M hS
  have h0 : ((m : Int) - a == 1) = false := by simp; omega
  have h1 : ((m : Int) + 1 - m == 1) = true := by simp; omega
  go_enter Try.func84, Try.ntmps84
  go_wp2
  go_loopw [12, 13] (fun vi vj wr => ∃ (i j : Nat), vi = .int .i64 i ∧ vj = .int .i64 j ∧ a ≤ i ∧ i ≤ j ∧ j ≤ m ∧ Hid (S d wr) ∧ Keeps bo (W.alloc (.cells #[.func (.func g) #[] lb, .func (.func sf) #[] sb] 81)) wr ∧ Hid (a < i → lt d[m]! d[i - 1]! = false) ∧ Hid (j < m → lt d[m]! d[j]! = true)) (fun vi vj _ => (intOf vj).toNat - (intOf vi).toNat)
  case atStart => exact ⟨a, m, rfl, rfl, Nat.le_refl _, by omega, Nat.le_refl _, H0, Keeps.refl _ _, fun h => absurd h (Nat.lt_irrefl _), fun h => absurd h (Nat.lt_irrefl _)⟩
  case round =>
    obtain ⟨i, j, rfl, rfl, hai, hij, hjb, HS, hK, HA, HB⟩ := hrel
    have hz := hK.size
    rw [World.size_alloc] at hz
    have cc : ∀ kk v, (W.alloc (.cells #[.func (.func g) #[] lb, .func (.func sf) #[] sb] 81)).cell? ⟨W.heap.size, kk, none⟩ = some v → wr.cell? ⟨W.heap.size, kk, none⟩ = some v := fun kk v h => (hK.cell (p := ⟨W.heap.size, kk, none⟩) (by rw [World.size_alloc]; exact Nat.lt_succ_self _) (by show W.heap.size ≠ bo; omega)).trans h
    have c0 := cc 0 (.func (.func g) #[] lb) (by simp)
    have HK := Lib.hid hK; clear cc hK
    by_cases hij' : i < j
    · obtain ⟨h, hh⟩ : ∃ h, h = (i + j) / 2 := ⟨_, rfl⟩
      have hh1 : ((i : Int) + j) / 2 = (h : Int) := by omega
      have hih : i ≤ h := by omega
      have hhj : h < j := by omega
      clear hh
      have hl := HM.out.less d wr m h HS.out (by omega) (by omega)
      cases hlv : lt d[m]! d[h]! with
      | false =>
        rw [hlv] at hl
        have HL := Lib.hid hl; clear hl
        go_wp2_with (go_at_fn g; refine HL.out.mono ?_; rintro e w' ⟨rfl, hb'⟩; have HB' := Lib.hid hb'; clear hb')
        go_roundw
        case rel => exact ⟨h + 1, j, by go_num, rfl, by omega, by omega, hjb, HM.out.step _ _ _ HS.out HB'.out, HK.out.trans (Keeps.of_below HB'.out), fun _ => hlv, HB⟩
        case measure => simp [intOf]; omega
      | true =>
        rw [hlv] at hl
        have HL := Lib.hid hl; clear hl
        go_wp2_with (go_at_fn g; refine HL.out.mono ?_; rintro e w' ⟨rfl, hb'⟩; have HB' := Lib.hid hb'; clear hb')
        go_roundw
        case rel => exact ⟨i, h, rfl, rfl, hai, hih, by omega, HM.out.step _ _ _ HS.out HB'.out, HK.out.trans (Keeps.of_below HB'.out), HA, fun _ => hlv⟩
        case measure => simp [intOf]; omega
    · obtain rfl : i = j := by omega
      clear c0
      go_wp2
      go_loopw [15] (fun vk wr2 => ∃ (k : Nat) (dk : Array Nat), vk = .int .i64 k ∧ i ≤ k ∧ k ≤ m ∧ Hid (S dk wr2) ∧ Keeps bo (W.alloc (.cells #[.func (.func g) #[] lb, .func (.func sf) #[] sb] 81)) wr2 ∧ Hid (∀ x, dk[x]! = if x = k then d[m]! else if k < x ∧ x ≤ m then d[x - 1]! else d[x]!) ∧ Hid (PermIn a (m + 1) d dk)) (fun vk _ => (intOf vk).toNat)
      case atStart => exact ⟨m, d, rfl, hjb, Nat.le_refl _, HS, HK.out, down_start m d, permIn_refl _ _ _⟩
      case round =>
        obtain ⟨k, dk, rfl, hak, hki, HSk, hK2, HG, HP⟩ := hrel
        have hz2 := hK2.size
        rw [World.size_alloc] at hz2
        have c1 : ∀ v, (W.alloc (.cells #[.func (.func g) #[] lb, .func (.func sf) #[] sb] 81)).cell? ⟨W.heap.size, 1, none⟩ = some v → wr.cell? ⟨W.heap.size, 1, none⟩ = some v := fun v h => (hK2.cell (p := ⟨W.heap.size, 1, none⟩) (by rw [World.size_alloc]; exact Nat.lt_succ_self _) (by show W.heap.size ≠ bo; omega)).trans h
        have c1 := c1 (.func (.func sf) #[] sb) (by simp)
        have HK2 := Lib.hid hK2; clear hK2
        by_cases hki' : i < k
        · obtain ⟨W', hs, hS', hK'⟩ := HM.out.swap _ _ k (k - 1) HSk.out (by omega) (by omega)
          rw [show (((k - 1 : Nat)) : Int) = (k : Int) - 1 by omega] at hs
          have HS' := Lib.hid hS'; have HK' := Lib.hid hK'; clear hS' hK'
          go_wp2
          go_roundw
          case rel =>
            have hsk := HM.out.size _ _ HSk.out
            refine ⟨k - 1, _, by go_num, by omega, by omega, HS', HK2.out.trans HK'.out, fun x => ?_, permIn_trans _ _ _ _ _ HP.out (swp_permIn _ _ _ _ _ (by omega) (by omega) (by omega) (by omega) (by omega))⟩
            have g1 := HG.out k
            have g2 := HG.out (k - 1)
            rw [if_pos rfl] at g1
            rw [if_neg (by omega), if_neg (by omega)] at g2
            rw [swp_get dk (by omega) (by omega)]
            by_cases e1 : x = k - 1
            · rw [if_pos e1, if_pos e1, g1]
            · rw [if_neg e1, if_neg e1]
              by_cases e2 : x = k
              · rw [if_pos e2, if_pos (by omega), g2, e2]
              · rw [if_neg e2, HG.out x, if_neg e2]
                by_cases e3 : k < x ∧ x ≤ m
                · rw [if_pos e3, if_pos (by omega)]
                · rw [if_neg e3, if_neg (by omega)]
          case measure => simp [intOf]; omega
        · have hk : k = i := by omega
          go_wp2
          (try simp only [Exit.inBlock, Exit.then]); refine bodyPost_ret (results_none rfl _ _ _) rfl ?_
          have hg := HG.out
          rw [hk] at hg
          exact ⟨rfl, dk, HSk.out, K0.out.trans HK2.out, HP.out, inserted_down hO hai hjb hX HA.out HB.out hg⟩
end Go.Proofs.Ytjipchloebbldaa
