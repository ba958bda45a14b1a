/- sort.stable_func over a machine. -/
import Derived.Test.YtjipchloebbldaaSymR
import Derived.Test.YtjipchloebbldaaIns
import Derived.Test.YtjipchloebbldaaRuns
namespace Go.Proofs.Ytjipchloebbldaa
open Go.RowKit Go.Sort
set_option maxRecDepth 100000
variable {bo n : Nat} {lt : Nat → Nat → Bool} {g : Nat} {lb : Array Value} {sf : Nat} {sb : Array Value} {S : Array Nat → World → Prop}

set_option maxHeartbeats 4000000 in
theorem stable_any (hO : SWO lt) (M : Mach bo n lt g lb sf sb S) (hn : n ≤ 1000000) (d : Array Nat) (W : World) (hS : S d W) :
    Calls Try.prog 66 #[.agg #[.func (.func g) #[] lb, .func (.func sf) #[] sb], .int .i64 n] W fun e w' =>
      e = .returned (.tuple #[]) ∧ ∃ d', S d' w' ∧ Keeps bo W w' ∧ PermIn 0 n d d' ∧ SortedIn lt 0 n d' := by
  have hlt := M.blk _ _ hS
  have H0 := Lib.hid (M.step _ _ _ hS ((Below.refl W.heap.size W).alloc (Nat.le_refl _) (.cells #[.func (.func g) #[] lb, .func (.func sf) #[] sb] 81)))
  have K0 := Lib.hid (Keeps.of_below (bo := bo) ((Below.refl W.heap.size W).alloc (Nat.le_refl _) (.cells #[.func (.func g) #[] lb, .func (.func sf) #[] sb] 81)))
  have HM := Lib.hid M; clear M hS
  have CC : Hid (∀ wr, Keeps bo (W.alloc (.cells #[.func (.func g) #[] lb, .func (.func sf) #[] sb] 81)) wr → wr.cell? ⟨W.heap.size, 0, none⟩ = some (.func (.func g) #[] lb) ∧ wr.cell? ⟨W.heap.size, 1, none⟩ = some (.func (.func sf) #[] sb)) := fun wr hK =>
    ⟨(hK.cell (p := ⟨W.heap.size, 0, none⟩) (by rw [World.size_alloc]; exact Nat.lt_succ_self _) (by show W.heap.size ≠ bo; omega)).trans (by simp), (hK.cell (p := ⟨W.heap.size, 1, none⟩) (by rw [World.size_alloc]; exact Nat.lt_succ_self _) (by show W.heap.size ≠ bo; omega)).trans (by simp)⟩
  -- an insertion sort of x..y
  have INS : Hid (∀ dk wr x y, S dk wr → x ≤ y → y ≤ n → Calls Try.prog 83 #[.agg #[.func (.func g) #[] lb, .func (.func sf) #[] sb], .int .i64 (x : Nat), .int .i64 (y : Nat)] wr fun e w' => e = .returned (.tuple #[]) ∧ ∃ d', S d' w' ∧ Keeps bo wr w' ∧ PermIn x y dk d' ∧ SortedIn lt x y d') := fun dk wr x y h1 h2 h3 => by
    refine (insSort_any HM.out dk wr h1 x y h2 h3).mono ?_
    rintro e w' ⟨rfl, h4, h5⟩
    have h6 := HM.out.size _ _ h1
    obtain ⟨h7, h8⟩ := insertionSort_holds hO dk x y h2 (by omega)
    exact ⟨rfl, _, h4, h5, h7, h8⟩
  have SYM := Lib.hid (symMerge_any hO HM.out n)
  have UP : Hid (∀ x y (dk d' : Array Nat), PermIn 0 n d dk → PermIn x y dk d' → y ≤ n → dk.size = n → PermIn 0 n d d') := fun x y dk d' h1 h2 h3 h4 => permIn_trans _ _ _ _ _ h1 (permIn_mono _ _ _ _ _ _ (Nat.zero_le _) h3 (by omega) h2)
  go_enter Try.func66, Try.ntmps66
  go_wp2
  go_loopw [5, 6] (fun va vb wr => ∃ (a : Nat) (dk : Array Nat), va = .int .i64 a ∧ vb = .int .i64 ((a : Int) + 20) ∧ a ≤ n ∧ Hid (S dk wr) ∧ Keeps bo (W.alloc (.cells #[.func (.func g) #[] lb, .func (.func sf) #[] sb] 81)) wr ∧ Hid (Done lt 20 dk a) ∧ Hid (PermIn 0 n d dk)) (fun va _ _ => n - (intOf va).toNat)
  case atStart => exact ⟨0, d, rfl, by go_num, Nat.zero_le _, H0, Keeps.refl _ _, Done.start, permIn_refl _ _ _⟩
  case round =>
    obtain ⟨a, dk, rfl, rfl, han, HS, hK, HD, HP⟩ := hrel
    obtain ⟨c0, c1⟩ := CC.out _ hK
    have HK := Lib.hid hK; clear hK
    have hsz := Lib.hid (HM.out.size _ _ HS.out)
    by_cases hb : a + 20 ≤ n
    · have hc := INS.out dk wr a (a + 20) HS.out (by omega) hb
      rw [show (((a + 20 : Nat)) : Int) = (a : Int) + 20 by omega] at hc
      have HC := Lib.hid hc; clear hc
      go_wp2_with (go_at_call 83; (with_reducible refine HC.out.mono ?_); rintro e w2 ⟨rfl, d2, hs2, hk2, hp2, hq2⟩; have HS2 := Lib.hid hs2; have HK2 := Lib.hid hk2; have HP2 := Lib.hid hp2; have HQ2 := Lib.hid hq2; clear hs2 hk2 hp2 hq2)
      go_roundw
      case rel => exact ⟨a + 20, d2, by go_num, by go_num, hb, HS2, HK.out.trans HK2.out, .step a (HD.out.move (Nat.le_refl _) HP2.out) HQ2.out, UP.out _ _ _ _ HP.out HP2.out hb hsz.out⟩
      case measure => simp [intOf]; omega
    · have HC := Lib.hid (INS.out dk wr a n HS.out han (Nat.le_refl _))
      go_wp2_with (go_at_call 83; (with_reducible refine HC.out.mono ?_); rintro e w2 ⟨rfl, d2, hs2, hk2, hp2, hq2⟩; have HS2 := Lib.hid hs2; have HK2 := Lib.hid (HK.out.trans hk2); have HR2 := Lib.hid (Done.runs (HD.out.move (Nat.le_refl _) hp2) han (.last a (by omega) hq2)); have HP2 := Lib.hid (UP.out _ _ _ _ HP.out hp2 (Nat.le_refl _) hsz.out); clear hs2 hk2 hp2 hq2)
      go_loopw [4] (fun vs wr => ∃ (bs : Nat) (dj : Array Nat), vs = .int .i64 bs ∧ 1 ≤ bs ∧ Hid (S dj wr) ∧ Keeps bo (W.alloc (.cells #[.func (.func g) #[] lb, .func (.func sf) #[] sb] 81)) wr ∧ Hid (Runs lt bs n dj 0) ∧ Hid (PermIn 0 n d dj)) (fun vs _ => n - (intOf vs).toNat)
      case atStart => exact ⟨20, d2, rfl, by omega, HS2, HK2.out, HR2, HP2⟩
      case round =>
        obtain ⟨bs, dj, rfl, hbs, HSj, hKj, HRj, HPj⟩ := hrel
        have HKj := Lib.hid hKj; clear hKj
        by_cases hbn : bs < n
        · go_wp2
          go_loopw [5, 6] (fun va vb wr => ∃ (a : Nat) (dk : Array Nat), va = .int .i64 a ∧ vb = .int .i64 ((a : Int) + 2 * bs) ∧ a ≤ n ∧ Hid (S dk wr) ∧ Keeps bo (W.alloc (.cells #[.func (.func g) #[] lb, .func (.func sf) #[] sb] 81)) wr ∧ Hid (Done lt (2 * bs) dk a) ∧ Hid (Runs lt bs n dk a) ∧ Hid (PermIn 0 n d dk)) (fun va _ _ => n - (intOf va).toNat)
          case atStart => exact ⟨0, dj, rfl, by go_num, Nat.zero_le _, HSj, HKj.out, Done.start, HRj, HPj⟩
          case round =>
            obtain ⟨a, dk, rfl, rfl, han, HS, hK, HD, HR, HP⟩ := hrel
            obtain ⟨c0, c1⟩ := CC.out _ hK
            have HK := Lib.hid hK; clear hK
            have hsz := Lib.hid (HM.out.size _ _ HS.out)
            by_cases hb : a + 2 * bs ≤ n
            · obtain ⟨s1, r1⟩ := HR.out.head (by omega)
              obtain ⟨s2, r2⟩ := r1.head (by omega)
              have hc := SYM.out dk wr a (a + bs) (a + 2 * bs) (by omega) HS.out (by omega) (by omega) hb s1 (by rw [show a + 2 * bs = a + bs + bs by omega]; exact s2)
              rw [show (((a + bs : Nat)) : Int) = (a : Int) + bs by omega, show (((a + 2 * bs : Nat)) : Int) = (a : Int) + 2 * bs by omega] at hc
              have HC := Lib.hid hc
              have HR2 := Lib.hid r2
              clear hc s1 s2 r1 r2
              go_wp2_with (go_at_call 84; (with_reducible refine HC.out.mono ?_); rintro e w2 ⟨rfl, d2, hs2, hk2, hp2, hq2⟩; have HS2 := Lib.hid hs2; have HK2 := Lib.hid hk2; have HP2 := Lib.hid hp2; have HQ2 := Lib.hid hq2; clear hs2 hk2 hp2 hq2)
              go_roundw
              case rel => exact ⟨a + 2 * bs, d2, by go_num, by go_num, hb, HS2, HK.out.trans HK2.out, .step a (HD.out.move (Nat.le_refl _) HP2.out) HQ2.out, Runs.move (by rw [show a + 2 * bs = a + bs + bs by omega]; exact HR2.out) (Nat.le_refl _) HP2.out, UP.out _ _ _ _ HP.out HP2.out hb hsz.out⟩
              case measure => simp [intOf]; omega
            · by_cases hm : a + bs < n
              · obtain ⟨s1, r1⟩ := HR.out.head (by omega)
                have hc := SYM.out dk wr a (a + bs) n (by omega) HS.out (by omega) hm (Nat.le_refl _) s1 (r1.tail (by omega))
                rw [show (((a + bs : Nat)) : Int) = (a : Int) + bs by omega] at hc
                have HC := Lib.hid hc
                clear hc s1 r1
                go_wp2_with (go_at_call 84; (with_reducible refine HC.out.mono ?_); rintro e w2 ⟨rfl, d2, hs2, hk2, hp2, hq2⟩; have HS2 := Lib.hid hs2; have HK2 := Lib.hid hk2; have HP2 := Lib.hid hp2; have HQ2 := Lib.hid hq2; clear hs2 hk2 hp2 hq2)
                go_roundw
                case rel => exact ⟨2 * bs, d2, by go_num, by omega, HS2, HK.out.trans HK2.out, Done.runs (HD.out.move (Nat.le_refl _) HP2.out) han (.last a (by omega) HQ2.out), UP.out _ _ _ _ HP.out HP2.out (Nat.le_refl _) hsz.out⟩
                case measure => simp [intOf]; omega
              · go_wp2
                go_roundw
                case rel => exact ⟨2 * bs, dk, by go_num, by omega, HS, HK.out, HD.out.runs han (.last a (by omega) (HR.out.tail (by omega))), HP⟩
                case measure => simp [intOf]; omega
        · go_wp2
          go_end0
          exact ⟨rfl, dj, HSj.out, K0.out.trans HKj.out, HPj.out, HRj.out.tail (by omega)⟩
end Go.Proofs.Ytjipchloebbldaa
