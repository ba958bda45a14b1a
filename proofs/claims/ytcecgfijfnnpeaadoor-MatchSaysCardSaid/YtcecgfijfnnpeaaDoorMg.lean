/- The document's Object. -/
import Derived.Test.YtcecgfijfnnpeaaDoorMe
import Derived.Test.YtcecgfijfnnpeaaDoorMr
import Derived.Test.YtcecgfijfnnpeaaDoorMa
namespace Go.Proofs.YtcecgfijfnnpeaaDoor.Mt
open Go.RowKit
set_option maxRecDepth 100000

/-- What is found within a thing, behind n of its names. -/
def Within (f : Ls → Ls → Bool) (s : Ls) (id : Int) (ss : List ByteArray) (ib : Bool) (x : Int) (n : Nat) (jb : Bool) (y : Int) : Prop :=
  ((ss.take n).any (fun m => f m.data.toList s) = true ∧ jb = true ∧ y = id ∧ (ib = true → x = id)) ∨ ((ss.take n).any (fun m => f m.data.toList s) = false ∧ jb = ib ∧ y = x)
theorem Within.start (f : Ls → Ls → Bool) (s : Ls) (id : Int) (ss : List ByteArray) (ib : Bool) (x : Int) : Within f s id ss ib x 0 ib x := .inr ⟨rfl, rfl, rfl⟩
theorem take_any {f : Ls → Ls → Bool} {s : Ls} {ss : List ByteArray} {n : Nat} (h : n < ss.length) : (ss.take (n + 1)).any (fun m => f m.data.toList s) = ((ss.take n).any (fun m => f m.data.toList s) || f ss[n].data.toList s) := by
  rw [List.take_succ_eq_append_getElem h, List.any_append]; simp
theorem Within.miss {f : Ls → Ls → Bool} {s : Ls} {id : Int} {ss : List ByteArray} {ib : Bool} {x : Int} {n : Nat} {jb : Bool} {y : Int} (h : Within f s id ss ib x n jb y) (hn : n < ss.length) (hf : f ss[n].data.toList s = false) : Within f s id ss ib x (n + 1) jb y := by
  unfold Within at h ⊢
  rw [take_any hn, hf, Bool.or_false]; exact h
theorem Within.hit {f : Ls → Ls → Bool} {s : Ls} {id : Int} {ss : List ByteArray} {ib : Bool} {x : Int} {n : Nat} {jb : Bool} {y : Int} (h : Within f s id ss ib x n jb y) (hn : n < ss.length) (hf : f ss[n].data.toList s = true) (hy : jb = true → y = id) : Within f s id ss ib x (n + 1) true id := by
  unfold Within at h ⊢
  rw [take_any hn, hf, Bool.or_true]
  refine .inl ⟨rfl, rfl, rfl, ?_⟩
  rcases h with ⟨_, _, _, h⟩ | ⟨_, h1, h2⟩
  · exact h
  · intro hi; rw [← h2]; exact hy (h1.trans hi)
theorem Within.two {f : Ls → Ls → Bool} {s : Ls} {id : Int} {ss : List ByteArray} {ib : Bool} {x : Int} {n : Nat} {jb : Bool} {y : Int} (h : Within f s id ss ib x n jb y) (hj : jb = true) (hy : y ≠ id) : ib = true ∧ x ≠ id := by
  rcases h with ⟨_, _, h, _⟩ | ⟨_, h1, h2⟩
  · exact absurd h hy
  · exact ⟨h1.symm.trans hj, h2 ▸ hy⟩
theorem named_any {f : Ls → Ls → Bool} {s : Ls} {id : Int} {ss : List ByteArray} {n : Nat} (hn : n < ss.length) (hf : f ss[n].data.toList s = true) : namedB f s (id, ss) = true := by
  unfold namedB; rw [List.any_eq_true]; exact ⟨_, List.getElem_mem hn, hf⟩
/-- Behind all names of a thing. -/
theorem Within.done {f : Ls → Ls → Bool} {s : Ls} {id : Int} {ss : List ByteArray} {ib : Bool} {x : Int} {n : Nat} {jb : Bool} {y : Int} {r : List Tg} (h : Within f s id ss ib x n jb y) (hn : n = ss.length) : onlyB f s ((id, ss) :: r) (if ib then some x else none) = onlyB f s r (if jb then some y else none) := by
  subst hn
  unfold Within at h
  rw [List.take_length] at h
  rcases h with ⟨h0, rfl, rfl, hx⟩ | ⟨h0, rfl, rfl⟩
  · rw [onlyB_hit _ (show namedB f s (y, ss) = true from h0)]
    cases ib with
    | false => rfl
    | true => simp only [if_true]; rw [if_pos (hx rfl).symm, hx rfl]
  · rw [onlyB_miss _ (show namedB f s (id, ss) = false from h0)]

set_option maxHeartbeats 4000000 in
theorem robject_any (s : ByteArray) (l : List Tg) (p : Option Addr) (cap : Nat) (w : World) (hs : s.size ≤ 100) (hG : GRow w w.heap.size p l) (hl : l.length ≤ 1000) :
    Calls Tryd.prog 18 #[.string s, .slice p l.length cap] w fun e w' => e = .returned (.int .i64 (objectB s.data.toList l)) ∧ Below w.heap.size w w' := by
  have he := empty_iff s
  by_cases h0 : s.size = 0
  · have HO : Hid (objectB s.data.toList l = -1) := Lib.hid (by unfold objectB; rw [if_pos (List.eq_nil_of_length_eq_zero (by rw [len_data]; exact h0))])
    have hse : s.toList.isEmpty = true := by rw [he, decide_eq_true h0]
    clear he
    go_enter Tryd.func18, Tryd.ntmps18
    go_wp2
    go_ret; exact ⟨by rw [HO.out]; rfl, Below.refl _ _⟩
  have hse : s.toList.isEmpty = false := by rw [he, decide_eq_false h0]
  have hne : s.data.toList ≠ [] := fun e => h0 (by rw [← len_data, e]; rfl)
  have HNB := Lib.hid (fun (W : World) => rnumber_any s (by omega) W)
  have HG := Lib.hid hG
  have hO : objectB s.data.toList l = (match numO s.data.toList with
    | some n => if l.any (fun t => t.1 == n) then n else -3
    | none => match onlyB alikeB s.data.toList l none with
      | some x => x
      | none => match onlyB beginsB s.data.toList l none with
        | some x => x
        | none => -3) := by unfold objectB; exact if_neg hne
  clear he hne hG h0
  cases hq : numO s.data.toList with
  | some n =>
    rw [hq] at hO HNB
    have HNB : Hid (∀ W : World, Calls Tryd.prog 42 #[.string s] W fun e w' => e = .returned (.tuple #[.int .i64 n, .bool true]) ∧ w' = W) := HNB
    have HO : Hid (objectB s.data.toList l = if l.any (fun t => t.1 == n) then n else -3) := Lib.hid hO
    clear hO hq
    go_enter Tryd.func18, Tryd.ntmps18
    go_wp2_with (go_at_call 42; refine (HNB.out _).mono ?_; rintro e w2 ⟨rfl, rfl⟩)
    go_loop [7] (fun i => ∃ j : Nat, j ≤ l.length ∧ i = .int .i64 j ∧ Hid (l.any (fun t => t.1 == n) = (l.drop j).any (fun t => t.1 == n))) (fun i => l.length - (intOf i).toNat)
    case atStart => exact ⟨0, Nat.zero_le _, rfl, Lib.hid rfl⟩
    case round =>
      obtain ⟨j, hj, rfl, HA⟩ := hrel
      by_cases hlt : j < l.length
      · obtain ⟨b, off, q, c, hp, hb, _, g0, g1, _, _, _⟩ := HG.out.at_ j hlt
        subst hp
        have HA1 := HA.out
        rw [List.drop_eq_getElem_cons hlt, List.any_cons] at HA1
        obtain ⟨id, hid⟩ : ∃ id, l[j].1 = id := ⟨_, rfl⟩
        rw [hid] at g0 HA1
        clear hid HA g1
        cases hx : (id == n) with
        | true =>
          have HF := Lib.hid (show objectB s.data.toList l = n from by rw [HO.out, if_pos (by rw [HA1, hx]; rfl)])
          clear HA1
          go_wp2
          go_ret; exact ⟨by rw [HF.out]; rfl, Below.refl _ _⟩
        | false =>
          rw [hx, Bool.false_or] at HA1
          have HA2 := Lib.hid HA1
          clear HA1
          go_wp2
          go_round
          case rel => exact ⟨j + 1, by omega, by go_num, HA2⟩
          case measure => simp [intOf]; omega
      · have hje : j = l.length := by omega
        have HF := Lib.hid (show objectB s.data.toList l = -3 from by rw [HO.out, HA.out, hje, List.drop_length]; rfl)
        clear HA
        go_wp2
        go_ret; exact ⟨by rw [HF.out]; rfl, Below.refl _ _⟩
  | none =>
    rw [hq] at hO HNB
    have HNB : Hid (∀ W : World, Calls Tryd.prog 42 #[.string s] W fun e w' => e = .returned (.tuple #[.int .i64 0, .bool false]) ∧ w' = W) := HNB
    have HOA : Hid (∀ x, onlyB alikeB s.data.toList l none = some x → objectB s.data.toList l = x) := Lib.hid (fun x h => hO.trans (by rw [h]))
    have HOB : Hid (∀ x, onlyB alikeB s.data.toList l none = none → onlyB beginsB s.data.toList l none = some x → objectB s.data.toList l = x) := Lib.hid (fun x h h2 => hO.trans (by rw [h, h2]))
    have HON : Hid (onlyB alikeB s.data.toList l none = none → onlyB beginsB s.data.toList l none = none → objectB s.data.toList l = -3) := Lib.hid (fun h h2 => hO.trans (by rw [h, h2]))
    have HLW := Lib.hid (fun (W : World) => refLower_any s W (by omega))
    obtain ⟨LO, hLO⟩ : ∃ X : ByteArray, (⟨(lowL s.data.toList).toArray⟩ : ByteArray) = X := ⟨_, rfl⟩
    have HLW : Hid (∀ W : World, Calls Tryd.prog 27 #[.string s] W fun e w' => e = .returned (.string LO) ∧ Below W.heap.size W w') := Lib.hid (fun W => by have := HLW.out W; rw [hLO] at this; exact this)
    have hLOd : LO.data.toList = lowL s.data.toList := by rw [← hLO]
    have HLD := Lib.hid hLOd
    clear hO hq hLO hLOd
    go_enter Tryd.func18, Tryd.ntmps18
    go_wp2_with (first
      | (go_at_call 42; refine (HNB.out _).mono ?_; rintro e w2 ⟨rfl, rfl⟩)
      | (go_at_call 27; refine (HLW.out _).mono ?_; rintro e w3 ⟨rfl, hb3⟩; have HB3 := Lib.hid hb3; clear hb3))
    go_loopw [9] (fun i wr => ∃ j : Nat, j ≤ 2 ∧ i = .int .i64 j ∧ Hid (1 ≤ j → onlyB alikeB s.data.toList l none = none) ∧ Hid (2 ≤ j → onlyB beginsB s.data.toList l none = none) ∧ Hid (Below w2.heap.size w2 wr)) (fun i _ => 2 - (intOf i).toNat)
    case atStart => exact ⟨0, by omega, rfl, Lib.hid (fun h => by omega), Lib.hid (fun h => by omega), HB3⟩
    case round =>
      obtain ⟨j, hj, rfl, HA, HAB, HBR⟩ := hrel
      rename World => wq
      have hbq := HBR.out.size
      have hj3 : j = 0 ∨ j = 1 ∨ j = 2 := by omega
      rcases hj3 with rfl | rfl | rfl
      · rw [show ((0 : Nat) : Int) = 0 from rfl]
        go_wp2
        go_loopw [10, 11, 12] (fun a b i wx => ∃ (m : Nat) (x : Int) (ib : Bool), m ≤ l.length ∧ i = .int .i64 m ∧ a = .int .i64 x ∧ b = .bool ib ∧ Hid (ib = false → x = -3) ∧ Hid (onlyB alikeB s.data.toList l none = onlyB alikeB s.data.toList (l.drop m) (if ib then some x else none)) ∧ Hid (Below w2.heap.size w2 wx)) (fun _ _ i _ => l.length - (intOf i).toNat)
        case atStart => exact ⟨0, -3, false, Nat.zero_le _, rfl, rfl, rfl, Lib.hid (fun _ => rfl), Lib.hid rfl, HBR⟩
        case round =>
          obtain ⟨m, x, ib, hm, rfl, rfl, rfl, HX, HO1, HBX⟩ := hrel
          rename World => wx
          have hbx := HBX.out.size
          by_cases hml : m < l.length
          · obtain ⟨b, off, q, c, hp, hb, _, g0, g1, hqr, hql, hqz⟩ := HG.out.at_ m hml
            subst hp
            have hO2 := HO1.out
            rw [List.drop_eq_getElem_cons hml] at hO2
            obtain ⟨⟨id, ss⟩, hlj⟩ : ∃ t, l[m] = t := ⟨_, rfl⟩
            rw [hlj] at g0 g1 hqr hql hqz hO2
            dsimp only at g0 g1 hqr hql hqz
            have G0 := Lib.hid g0
            have G1 := Lib.hid g1
            have HQ := Lib.hid hqr
            have HO2 := Lib.hid hO2
            clear hlj g0 g1 hqr hO2 HO1
            go_wp2
            go_loopw [10, 11, 13] (fun a b k wy => ∃ (n : Nat) (y : Int) (jb : Bool), n ≤ ss.length ∧ k = .int .i64 n ∧ a = .int .i64 y ∧ b = .bool jb ∧ Hid (jb = false → y = -3) ∧ Hid (Within alikeB s.data.toList id ss ib x n jb y) ∧ Hid (Below w2.heap.size w2 wy)) (fun _ _ k _ => ss.length - (intOf k).toNat)
            case atStart => exact ⟨0, x, ib, Nat.zero_le _, rfl, rfl, rfl, HX, Lib.hid (Within.start _ _ _ _ _ _), HBX⟩
            case round =>
              obtain ⟨n, y, jb, hn, rfl, rfl, rfl, HY, HW, HBY⟩ := hrel
              rename World => wy
              have hby := HBY.out.size
              have g0 := (HBY.out.cell (p := ⟨b, off + m * 2, none⟩) hb).trans G0.out
              have g1 := (HBY.out.cell (p := ⟨b, off + m * 2 + 1, none⟩) hb).trans G1.out
              by_cases hnl : n < ss.length
              · obtain ⟨b2, off2, hp2, hb2, t0⟩ := (HQ.out.below HBY.out).at_ n hnl
                subst hp2
                have HNM := Lib.hid (fun (W : World) => refLower_any ss[n] W (by have := hqz _ (List.getElem_mem hnl); omega))
                obtain ⟨NM, hNM⟩ : ∃ X : ByteArray, (⟨(lowL ss[n].data.toList).toArray⟩ : ByteArray) = X := ⟨_, rfl⟩
                have HNM : Hid (∀ W : World, Calls Tryd.prog 27 #[.string ss[n]] W fun e w' => e = .returned (.string NM) ∧ Below W.heap.size W w') := Lib.hid (fun W => by have := HNM.out W; rw [hNM] at this; exact this)
                have hNMd : NM.data.toList = lowL ss[n].data.toList := by rw [← hNM]
                have heq : (NM.toList == LO.toList) = alikeB ss[n].data.toList s.data.toList := by rw [bytes_beq, hNMd, HLD.out]; rfl
                have hbeg : Lib.hasPrefix NM.data.toList LO.data.toList = beginsB ss[n].data.toList s.data.toList := by rw [hNMd, HLD.out]; rfl
                have HBG := Lib.hid (fun (W : World) => rbegins_any NM LO W)
                rw [hbeg] at HBG
                have hWm := fun h => HW.out.miss hnl h
                have hWh := fun h => HW.out.hit hnl h
                have hnm := fun h => named_any (id := id) (s := s.data.toList) (f := alikeB) hnl h
                obtain ⟨fv, hfv⟩ : ∃ v, alikeB ss[n].data.toList s.data.toList = v := ⟨_, rfl⟩
                rw [hfv] at hWm hWh hnm
                rw [hfv] at heq
                clear hfv hbeg hNM hNMd
                have h00 : ((0 : Int) == 0) = true := rfl
                cases fv with
                | false =>
                  have HWN := Lib.hid (hWm rfl)
                  clear hWm hWh hnm HW
                  go_wp2_with (first | (go_at_call 27; refine (HNM.out _).mono ?_; rintro e w4 ⟨rfl, hb4⟩; have HB4 := Lib.hid (HBY.out.trans (hb4.mono hby)); have g0' := (hb4.cell (p := ⟨b, off + m * 2, none⟩) (Nat.lt_of_lt_of_le hb hby)).trans g0; clear hb4) | (go_at_call 43; refine (HBG.out _).mono ?_; rintro e w5 ⟨rfl, rfl⟩))
                  go_roundw
                  case rel => exact ⟨n + 1, y, jb, by omega, by go_num, rfl, rfl, HY, HWN, HB4⟩
                  case measure => simp [intOf]; omega
                | true =>
                  cases jb with
                  | false =>
                    have HWN := Lib.hid (hWh rfl (fun h => by cases h))
                    clear hWm hWh hnm HW
                    go_wp2_with (first | (go_at_call 27; refine (HNM.out _).mono ?_; rintro e w4 ⟨rfl, hb4⟩; have HB4 := Lib.hid (HBY.out.trans (hb4.mono hby)); have g0' := (hb4.cell (p := ⟨b, off + m * 2, none⟩) (Nat.lt_of_lt_of_le hb hby)).trans g0; clear hb4) | (go_at_call 43; refine (HBG.out _).mono ?_; rintro e w5 ⟨rfl, rfl⟩))
                    go_roundw
                    case rel => exact ⟨n + 1, id, true, by omega, by go_num, rfl, rfl, Lib.hid (fun h => by cases h), HWN, HB4⟩
                    case measure => simp [intOf]; omega
                  | true =>
                    by_cases hyi : y = id
                    · have HWN := Lib.hid (hWh rfl (fun _ => hyi))
                      have hyb : (y != id) = false := by simpa using hyi
                      have hyb2 : (y == id) = true := by simpa using hyi
                      clear hWm hWh hnm HW hyi
                      go_wp2_with (first | (go_at_call 27; refine (HNM.out _).mono ?_; rintro e w4 ⟨rfl, hb4⟩; have HB4 := Lib.hid (HBY.out.trans (hb4.mono hby)); have g0' := (hb4.cell (p := ⟨b, off + m * 2, none⟩) (Nat.lt_of_lt_of_le hb hby)).trans g0; clear hb4) | (go_at_call 43; refine (HBG.out _).mono ?_; rintro e w5 ⟨rfl, rfl⟩))
                      go_roundw
                      case rel => exact ⟨n + 1, id, true, by omega, by go_num, rfl, rfl, Lib.hid (fun h => by cases h), HWN, HB4⟩
                      case measure => simp [intOf]; omega
                    · have hyb : (y != id) = true := by simpa using hyi
                      have hyb2 : (y == id) = false := by simpa using hyi
                      obtain ⟨hib, hxi⟩ := HW.out.two rfl hyi
                      have HF := Lib.hid (show objectB s.data.toList l = -2 from HOA.out _ (by
                        rw [HO2.out, onlyB_hit _ (hnm rfl), hib]
                        simp only [if_true]
                        rw [if_neg (fun h => hxi h.symm)]))
                      clear hWm hWh hnm HW hyi hib hxi
                      go_wp2_with (first | (go_at_call 27; refine (HNM.out _).mono ?_; rintro e w4 ⟨rfl, hb4⟩; have HB4 := Lib.hid (HBY.out.trans (hb4.mono hby)); have g0' := (hb4.cell (p := ⟨b, off + m * 2, none⟩) (Nat.lt_of_lt_of_le hb hby)).trans g0; clear hb4) | (go_at_call 43; refine (HBG.out _).mono ?_; rintro e w5 ⟨rfl, rfl⟩))
                      go_ret; exact ⟨by rw [HF.out]; rfl, HB4.out⟩
              · have hne2 : n = ss.length := by omega
                have HD := Lib.hid (HO2.out.trans (HW.out.done hne2))
                clear HW
                go_wp2
                go_roundw
                case rel => exact ⟨m + 1, y, jb, by omega, by go_num, rfl, rfl, HY, HD, HBY⟩
                case measure => simp [intOf]; omega
          · have hme : m = l.length := by omega
            have hO3 := HO1.out
            rw [hme, List.drop_length] at hO3
            cases ib with
            | true =>
              have HF := Lib.hid (show objectB s.data.toList l = x from HOA.out _ (by rw [hO3]; rfl))
              clear hO3 HO1
              go_wp2
              go_ret; exact ⟨by rw [HF.out]; rfl, HBX.out⟩
            | false =>
              have HN0 : Hid (onlyB alikeB s.data.toList l none = none) := Lib.hid (by rw [hO3]; rfl)
              clear hO3 HO1
              go_wp2
              go_roundw
              case rel => exact ⟨1, by omega, by go_num, Lib.hid (fun _ => HN0.out), Lib.hid (fun h => by omega), HBX⟩
              case measure => simp [intOf]
      · rw [show ((1 : Nat) : Int) = 1 from rfl]
        go_wp2
        go_loopw [10, 11, 12] (fun a b i wx => ∃ (m : Nat) (x : Int) (ib : Bool), m ≤ l.length ∧ i = .int .i64 m ∧ a = .int .i64 x ∧ b = .bool ib ∧ Hid (ib = false → x = -3) ∧ Hid (onlyB beginsB s.data.toList l none = onlyB beginsB s.data.toList (l.drop m) (if ib then some x else none)) ∧ Hid (Below w2.heap.size w2 wx)) (fun _ _ i _ => l.length - (intOf i).toNat)
        case atStart => exact ⟨0, -3, false, Nat.zero_le _, rfl, rfl, rfl, Lib.hid (fun _ => rfl), Lib.hid rfl, HBR⟩
        case round =>
          obtain ⟨m, x, ib, hm, rfl, rfl, rfl, HX, HO1, HBX⟩ := hrel
          rename World => wx
          have hbx := HBX.out.size
          by_cases hml : m < l.length
          · obtain ⟨b, off, q, c, hp, hb, _, g0, g1, hqr, hql, hqz⟩ := HG.out.at_ m hml
            subst hp
            have hO2 := HO1.out
            rw [List.drop_eq_getElem_cons hml] at hO2
            obtain ⟨⟨id, ss⟩, hlj⟩ : ∃ t, l[m] = t := ⟨_, rfl⟩
            rw [hlj] at g0 g1 hqr hql hqz hO2
            dsimp only at g0 g1 hqr hql hqz
            have G0 := Lib.hid g0
            have G1 := Lib.hid g1
            have HQ := Lib.hid hqr
            have HO2 := Lib.hid hO2
            clear hlj g0 g1 hqr hO2 HO1
            go_wp2
            go_loopw [10, 11, 13] (fun a b k wy => ∃ (n : Nat) (y : Int) (jb : Bool), n ≤ ss.length ∧ k = .int .i64 n ∧ a = .int .i64 y ∧ b = .bool jb ∧ Hid (jb = false → y = -3) ∧ Hid (Within beginsB s.data.toList id ss ib x n jb y) ∧ Hid (Below w2.heap.size w2 wy)) (fun _ _ k _ => ss.length - (intOf k).toNat)
            case atStart => exact ⟨0, x, ib, Nat.zero_le _, rfl, rfl, rfl, HX, Lib.hid (Within.start _ _ _ _ _ _), HBX⟩
            case round =>
              obtain ⟨n, y, jb, hn, rfl, rfl, rfl, HY, HW, HBY⟩ := hrel
              rename World => wy
              have hby := HBY.out.size
              have g0 := (HBY.out.cell (p := ⟨b, off + m * 2, none⟩) hb).trans G0.out
              have g1 := (HBY.out.cell (p := ⟨b, off + m * 2 + 1, none⟩) hb).trans G1.out
              by_cases hnl : n < ss.length
              · obtain ⟨b2, off2, hp2, hb2, t0⟩ := (HQ.out.below HBY.out).at_ n hnl
                subst hp2
                have HNM := Lib.hid (fun (W : World) => refLower_any ss[n] W (by have := hqz _ (List.getElem_mem hnl); omega))
                obtain ⟨NM, hNM⟩ : ∃ X : ByteArray, (⟨(lowL ss[n].data.toList).toArray⟩ : ByteArray) = X := ⟨_, rfl⟩
                have HNM : Hid (∀ W : World, Calls Tryd.prog 27 #[.string ss[n]] W fun e w' => e = .returned (.string NM) ∧ Below W.heap.size W w') := Lib.hid (fun W => by have := HNM.out W; rw [hNM] at this; exact this)
                have hNMd : NM.data.toList = lowL ss[n].data.toList := by rw [← hNM]
                have heq : (NM.toList == LO.toList) = alikeB ss[n].data.toList s.data.toList := by rw [bytes_beq, hNMd, HLD.out]; rfl
                have hbeg : Lib.hasPrefix NM.data.toList LO.data.toList = beginsB ss[n].data.toList s.data.toList := by rw [hNMd, HLD.out]; rfl
                have HBG := Lib.hid (fun (W : World) => rbegins_any NM LO W)
                rw [hbeg] at HBG
                have hWm := fun h => HW.out.miss hnl h
                have hWh := fun h => HW.out.hit hnl h
                have hnm := fun h => named_any (id := id) (s := s.data.toList) (f := beginsB) hnl h
                obtain ⟨fv, hfv⟩ : ∃ v, beginsB ss[n].data.toList s.data.toList = v := ⟨_, rfl⟩
                rw [hfv] at hWm hWh hnm
                have hal : beginsB ss[n].data.toList s.data.toList = false → alikeB ss[n].data.toList s.data.toList = false := fun h => by rw [alike_eq, h]; simp
                rw [hfv] at hal HBG
                clear hfv hbeg hNM hNMd
                cases fv with
                | false =>
                  have hal2 := hal rfl
                  rw [hal2] at heq
                  clear hal hal2
                  have HWN := Lib.hid (hWm rfl)
                  clear hWm hWh hnm HW
                  go_wp2_with (first | (go_at_call 27; refine (HNM.out _).mono ?_; rintro e w4 ⟨rfl, hb4⟩; have HB4 := Lib.hid (HBY.out.trans (hb4.mono hby)); have g0' := (hb4.cell (p := ⟨b, off + m * 2, none⟩) (Nat.lt_of_lt_of_le hb hby)).trans g0; clear hb4) | (go_at_call 43; refine (HBG.out _).mono ?_; rintro e w5 ⟨rfl, rfl⟩))
                  go_roundw
                  case rel => exact ⟨n + 1, y, jb, by omega, by go_num, rfl, rfl, HY, HWN, HB4⟩
                  case measure => simp [intOf]; omega
                | true =>
                  clear hal
                  generalize alikeB ss[n].data.toList s.data.toList = av at heq
                  cases av with
                  | false =>
                    cases jb with
                    | false =>
                      have HWN := Lib.hid (hWh rfl (fun h => by cases h))
                      clear hWm hWh hnm HW
                      go_wp2_with (first | (go_at_call 27; refine (HNM.out _).mono ?_; rintro e w4 ⟨rfl, hb4⟩; have HB4 := Lib.hid (HBY.out.trans (hb4.mono hby)); have g0' := (hb4.cell (p := ⟨b, off + m * 2, none⟩) (Nat.lt_of_lt_of_le hb hby)).trans g0; clear hb4) | (go_at_call 43; refine (HBG.out _).mono ?_; rintro e w5 ⟨rfl, rfl⟩))
                      go_roundw
                      case rel => exact ⟨n + 1, id, true, by omega, by go_num, rfl, rfl, Lib.hid (fun h => by cases h), HWN, HB4⟩
                      case measure => simp [intOf]; omega
                    | true =>
                      by_cases hyi : y = id
                      · have HWN := Lib.hid (hWh rfl (fun _ => hyi))
                        have hyb : (y != id) = false := by simpa using hyi
                        have hyb2 : (y == id) = true := by simpa using hyi
                        clear hWm hWh hnm HW hyi
                        go_wp2_with (first | (go_at_call 27; refine (HNM.out _).mono ?_; rintro e w4 ⟨rfl, hb4⟩; have HB4 := Lib.hid (HBY.out.trans (hb4.mono hby)); have g0' := (hb4.cell (p := ⟨b, off + m * 2, none⟩) (Nat.lt_of_lt_of_le hb hby)).trans g0; clear hb4) | (go_at_call 43; refine (HBG.out _).mono ?_; rintro e w5 ⟨rfl, rfl⟩))
                        go_roundw
                        case rel => exact ⟨n + 1, id, true, by omega, by go_num, rfl, rfl, Lib.hid (fun h => by cases h), HWN, HB4⟩
                        case measure => simp [intOf]; omega
                      · have hyb : (y != id) = true := by simpa using hyi
                        have hyb2 : (y == id) = false := by simpa using hyi
                        obtain ⟨hib, hxi⟩ := HW.out.two rfl hyi
                        have HF := Lib.hid (show objectB s.data.toList l = -2 from HOB.out _ (HA.out (by omega)) (by
                          rw [HO2.out, onlyB_hit _ (hnm rfl), hib]
                          simp only [if_true]
                          rw [if_neg (fun h => hxi h.symm)]))
                        clear hWm hWh hnm HW hyi hib hxi
                        go_wp2_with (first | (go_at_call 27; refine (HNM.out _).mono ?_; rintro e w4 ⟨rfl, hb4⟩; have HB4 := Lib.hid (HBY.out.trans (hb4.mono hby)); have g0' := (hb4.cell (p := ⟨b, off + m * 2, none⟩) (Nat.lt_of_lt_of_le hb hby)).trans g0; clear hb4) | (go_at_call 43; refine (HBG.out _).mono ?_; rintro e w5 ⟨rfl, rfl⟩))
                        go_ret; exact ⟨by rw [HF.out]; rfl, HB4.out⟩
                  | true =>
                    cases jb with
                    | false =>
                      have HWN := Lib.hid (hWh rfl (fun h => by cases h))
                      clear hWm hWh hnm HW
                      go_wp2_with (first | (go_at_call 27; refine (HNM.out _).mono ?_; rintro e w4 ⟨rfl, hb4⟩; have HB4 := Lib.hid (HBY.out.trans (hb4.mono hby)); have g0' := (hb4.cell (p := ⟨b, off + m * 2, none⟩) (Nat.lt_of_lt_of_le hb hby)).trans g0; clear hb4) | (go_at_call 43; refine (HBG.out _).mono ?_; rintro e w5 ⟨rfl, rfl⟩))
                      go_roundw
                      case rel => exact ⟨n + 1, id, true, by omega, by go_num, rfl, rfl, Lib.hid (fun h => by cases h), HWN, HB4⟩
                      case measure => simp [intOf]; omega
                    | true =>
                      by_cases hyi : y = id
                      · have HWN := Lib.hid (hWh rfl (fun _ => hyi))
                        have hyb : (y != id) = false := by simpa using hyi
                        have hyb2 : (y == id) = true := by simpa using hyi
                        clear hWm hWh hnm HW hyi
                        go_wp2_with (first | (go_at_call 27; refine (HNM.out _).mono ?_; rintro e w4 ⟨rfl, hb4⟩; have HB4 := Lib.hid (HBY.out.trans (hb4.mono hby)); have g0' := (hb4.cell (p := ⟨b, off + m * 2, none⟩) (Nat.lt_of_lt_of_le hb hby)).trans g0; clear hb4) | (go_at_call 43; refine (HBG.out _).mono ?_; rintro e w5 ⟨rfl, rfl⟩))
                        go_roundw
                        case rel => exact ⟨n + 1, id, true, by omega, by go_num, rfl, rfl, Lib.hid (fun h => by cases h), HWN, HB4⟩
                        case measure => simp [intOf]; omega
                      · have hyb : (y != id) = true := by simpa using hyi
                        have hyb2 : (y == id) = false := by simpa using hyi
                        obtain ⟨hib, hxi⟩ := HW.out.two rfl hyi
                        have HF := Lib.hid (show objectB s.data.toList l = -2 from HOB.out _ (HA.out (by omega)) (by
                          rw [HO2.out, onlyB_hit _ (hnm rfl), hib]
                          simp only [if_true]
                          rw [if_neg (fun h => hxi h.symm)]))
                        clear hWm hWh hnm HW hyi hib hxi
                        go_wp2_with (first | (go_at_call 27; refine (HNM.out _).mono ?_; rintro e w4 ⟨rfl, hb4⟩; have HB4 := Lib.hid (HBY.out.trans (hb4.mono hby)); have g0' := (hb4.cell (p := ⟨b, off + m * 2, none⟩) (Nat.lt_of_lt_of_le hb hby)).trans g0; clear hb4) | (go_at_call 43; refine (HBG.out _).mono ?_; rintro e w5 ⟨rfl, rfl⟩))
                        go_ret; exact ⟨by rw [HF.out]; rfl, HB4.out⟩
              · have hne2 : n = ss.length := by omega
                have HD := Lib.hid (HO2.out.trans (HW.out.done hne2))
                clear HW
                go_wp2
                go_roundw
                case rel => exact ⟨m + 1, y, jb, by omega, by go_num, rfl, rfl, HY, HD, HBY⟩
                case measure => simp [intOf]; omega
          · have hme : m = l.length := by omega
            have hO3 := HO1.out
            rw [hme, List.drop_length] at hO3
            cases ib with
            | true =>
              have HF := Lib.hid (show objectB s.data.toList l = x from HOB.out _ (HA.out (by omega)) (by rw [hO3]; rfl))
              clear hO3 HO1
              go_wp2
              go_ret; exact ⟨by rw [HF.out]; rfl, HBX.out⟩
            | false =>
              have HN0 : Hid (onlyB beginsB s.data.toList l none = none) := Lib.hid (by rw [hO3]; rfl)
              clear hO3 HO1
              go_wp2
              go_roundw
              case rel => exact ⟨2, by omega, by go_num, Lib.hid (fun _ => HA.out (by omega)), Lib.hid (fun _ => HN0.out), HBX⟩
              case measure => simp [intOf]
      · have HF := Lib.hid (HON.out (HA.out (by omega)) (HAB.out (by omega)))
        clear HA HAB
        go_wp2
        go_ret; exact ⟨by rw [HF.out]; rfl, HBR.out⟩
end Go.Proofs.YtcecgfijfnnpeaaDoor.Mt
