/- The walk of the statement on numbers. -/
import Derived.Test.YtcecgfijfnnpeaaDoorMx
import Derived.Test.YtcecgfijfnnpeaaDoorLawMatchPreps
namespace Go.Proofs.YtcecgfijfnnpeaaDoor.Mt
open Go.RowKit
set_option maxRecDepth 100000

def kz (z : Int) : Nat := (z % 30).toNat
theorem kz_eq (z : Int) : (z % 30 : Int) = (kz z : Int) := by unfold kz; have := Int.emod_nonneg z (show (30 : Int) ≠ 0 by omega); omega
theorem kz_lt (z : Int) : kz z < 30 := by unfold kz; have := Int.emod_lt_of_pos z (show (0 : Int) < 30 by omega); omega
/-- The thing of a number. -/
def thz (z : Int) : Int × ByteArray := ((kz z : Int), hashB (kz z + 1))
theorem thz_ok (z : Int) : I64 (thz z).1 ∧ (thz z).2.size ≤ 140737488355328 := by
  have h := kz_lt z
  have := hash_small (k := kz z + 1) (by omega)
  unfold thz I64
  exact ⟨by simp only; omega, by simp only; omega⟩
def thereB (k : Nat) (zs : List Int) : Bool := zs.any (fun z => kz z == k)
theorem there_snoc (k : Nat) (a : List Int) (z : Int) : thereB k (a ++ [z]) = (thereB k a || kz z == k) := by unfold thereB; rw [List.any_append]; simp
theorem object_hash (k : Nat) (hk : k < 31) (zs : List Int) : objectB (hashB k).data.toList ((zs.map thz).map fun t => (t.1, [t.2])) = if thereB k zs then (k : Int) else -3 := by
  have hne : (hashB k).data.toList ≠ [] := by rw [hash_data]; simp
  unfold objectB
  rw [if_neg hne, num_hash hk]
  have e : (((zs.map thz).map fun t => ((t.1, [t.2]) : Tg)).any fun t => t.1 == (k : Int)) = thereB k zs := by
    unfold thereB
    rw [List.any_map, List.any_map]
    congr 1
    funext z
    show ((kz z : Int) == (k : Int)) = (kz z == k)
    rw [Bool.eq_iff_iff, beq_iff_eq, beq_iff_eq]; omega
  show (if ((zs.map thz).map fun t => ((t.1, [t.2]) : Tg)).any (fun t => t.1 == (k : Int)) then (k : Int) else -3) = _
  rw [e]

set_option maxHeartbeats 1000000 in
theorem numbers_long (l : List Int) (p : Option Addr) (c : Nat) (ask : Int) (w : World) (hM : MaxL w) (h : 12 < l.length) :
    Calls Tryd.prog 7 #[.slice p l.length c, .int .i64 ask] w fun e w' => e = .returned (.bool true) ∧ Below w.heap.size w w' := by
  have F := Lib.hid (first10_any w hM)
  have d1 : decide ((12 : Int) < (l.length : Int)) = true := by simp; omega
  have d2 : decide (12 < l.length) = true := by simp; omega
  clear hM h
  go_enter Tryd.func7, Tryd.ntmps7
  go_wp2_with (go_at_call 8; refine F.out.mono ?_; rintro e w1 ⟨rfl, hb1⟩; have HB1 := Lib.hid hb1; clear hb1)
  go_ret; exact ⟨rfl, HB1.out⟩

theorem text_at (n : Int) (k : Nat) (hk : k < 31) (hn : n = (k : Int)) (w : World) (hN : NumV w) :
    Calls Tryd.prog 28 #[.agg #[.int .i64 0, .int .i64 n, .string ByteArray.empty, .slice none 0 0]] w fun e w' => e = .returned (.string ⟨(Lib.itoa (k : Int)).toArray⟩) ∧ Below w.heap.size w w' := by
  subst hn
  exact rText_any (k : Int) (by omega) (by omega) w hN _ rfl

set_option maxHeartbeats 1000000 in
theorem numbers_main (l : List Int) (p : Option Addr) (c : Nat) (ask : Int) (w : World) (hI : IntsAt w p l) (ha : I64 ask) (hM : MaxL w) (hN : NumV w) (h12 : l.length ≤ 12) :
    Calls Tryd.prog 7 #[.slice p l.length c, .int .i64 ask] w fun e w' => e = .returned (.bool true) ∧ Below w.heap.size w w' := by
  have F := Lib.hid (first10_any w hM)
  have d1 : decide ((12 : Int) < (l.length : Int)) = false := by simp; omega
  have d2 : decide (12 < l.length) = false := by simp; omega
  have HN := Lib.hid hN
  have HI := Lib.hid hI
  have hka := kz_lt ask
  have hnum := fun (W : World) => number6_any ask 30 W ha (by omega) (by omega)
  rw [kz_eq] at hnum
  obtain ⟨ka, hkae⟩ : ∃ k, kz ask = k := ⟨_, rfl⟩
  rw [hkae] at hnum hka
  have HNA := Lib.hid hnum
  clear hM hN hI hnum hkae
  go_enter Tryd.func7, Tryd.ntmps7
  go_wp2_with (first
    | (go_at_call 8; refine F.out.mono ?_; rintro e w1 ⟨rfl, hb1⟩; have HB1 := Lib.hid hb1; have HN1 := Lib.hid (HN.out.below hb1); clear hb1)
    | (go_at_call 24; refine (HNA.out _).mono ?_; rintro e wn ⟨rfl, rfl⟩))
  clear d1 d2
  go_loopw [6, 7, 8] (fun v t i wr => ∃ (j : Nat) (tb : Bool) (qs : List Nat), j ≤ l.length ∧ i = .int .i64 j ∧ t = .bool tb ∧ Hid (tb = thereB ka (l.take j)) ∧ Hid (Tz w1.heap.size w1 ((l.take j).map thz) qs v wr)) (fun _ _ i _ => l.length - (intOf i).toNat)
  case atStart => exact ⟨0, false, [], Nat.zero_le _, rfl, rfl, Lib.hid rfl, Lib.hid (Tz.nil_ _ _ _ (Below.refl _ _))⟩
  case round =>
    obtain ⟨j, tb, qs, hj, rfl, rfl, HTB, HT⟩ := hrel
    have ht := HT.out
    obtain ⟨pv, cv, hv, _⟩ := sowns_form ht.row
    obtain ⟨nv, hnv⟩ : ∃ n, ((l.take j).map thz).length = n := ⟨_, rfl⟩
    rw [hnv] at hv
    subst hv
    clear hnv
    have HNR := Lib.hid (HN1.out.below ht.bel)
    have hbz := ht.bel.size
    by_cases hlt : j < l.length
    · have HBW := Lib.hid (HB1.out.trans (ht.bel.mono HB1.out.size))
      obtain ⟨b, off, hp, hb, h0⟩ := HI.out.at_ HBW.out j hlt
      subst hp
      have hzi := HI.out.bounds _ (List.getElem_mem hlt)
      have htk : l.take (j + 1) = l.take j ++ [l[j]] := List.take_succ_eq_append_getElem hlt
      obtain ⟨z, hz⟩ : ∃ z, l[j] = z := ⟨_, rfl⟩
      rw [hz] at h0 hzi htk
      clear hz
      have hnum := fun (W : World) => number6_any z 30 W hzi (by omega) (by omega)
      rw [kz_eq] at hnum
      have hkl := kz_lt z
      have hth : (l.take (j + 1)).map thz = (l.take j).map thz ++ [((kz z : Int), hashB (kz z + 1))] := by rw [htk, List.map_append]; rfl
      have htn : thereB ka (l.take (j + 1)) = (thereB ka (l.take j) || kz z == ka) := by rw [htk, there_snoc]
      rw [← HTB.out] at htn
      have hlen : ((l.take j).map thz).length ≤ 12 := by rw [List.length_map, List.length_take]; omega
      obtain ⟨L, hL⟩ : ∃ L, (l.take j).map thz = L := ⟨_, rfl⟩
      obtain ⟨M, hM⟩ : ∃ M, (l.take (j + 1)).map thz = M := ⟨_, rfl⟩
      rw [hL] at ht hth hlen
      rw [hM] at hth
      have HM := Lib.hid hM
      obtain ⟨k, hk⟩ : ∃ k, kz z = k := ⟨_, rfl⟩
      rw [hk] at hnum hkl hth htn
      clear hk htk hL hM HT hzi
      have HNZ := Lib.hid hnum
      have HTX := Lib.hid (fun (W : World) (h : NumV W) => text_at ((k : Int) + 1) (k + 1) (by omega) (by omega) W h)
      have HIX := Lib.hid (fun (W : World) => rI_any ((k : Int) + 1) W)
      have HH := Lib.hid (show (⟨#[35]⟩ : ByteArray) ++ ⟨(Lib.itoa ((k + 1 : Nat) : Int)).toArray⟩ = hashB (k + 1) from rfl)
      have HTH := Lib.hid hth
      have HTN := Lib.hid htn
      have HT := Lib.hid ht
      obtain ⟨P, hP⟩ : ∃ P : ByteArray, (⟨(Lib.itoa ((k + 1 : Nat) : Int)).toArray⟩ : ByteArray) = P := ⟨_, rfl⟩
      rw [hP] at HH
      have HTX : Hid (∀ (W : World), NumV W → Calls Tryd.prog 28 #[.agg #[.int .i64 0, .int .i64 ((k : Int) + 1), .string ByteArray.empty, .slice none 0 0]] W fun e w' => e = .returned (.string P) ∧ Below W.heap.size W w') := Lib.hid (fun W h => by have := HTX.out W h; rw [hP] at this; exact this)
      have hPs : P.size ≤ 11 := by have := (num_fin ⟨k + 1, by omega⟩).2; rw [← hP, mk_size]; simp only at this; omega
      clear hnum hth htn ht hP
      cases tb with
      | true =>
        have HT2 : Hid (true = thereB ka (l.take (j + 1))) := Lib.hid (by rw [HTN.out]; rfl)
        clear HTN
        go_wp2_with (first
          | (go_at_call 24; refine (HNZ.out _).mono ?_; rintro e wn ⟨rfl, rfl⟩)
          | (go_at_call 29; refine (HIX.out _).mono ?_; rintro e wi ⟨rfl, hbi⟩; have HBI := Lib.hid hbi; have HNI := Lib.hid (HNR.out.below hbi); clear hbi)
          | (go_at_call 28; refine (HTX.out _ HNI.out).mono ?_; rintro e wt ⟨rfl, hbt⟩; have HTT := Lib.hid ((HT.out.step HBI.out hbz).step hbt (by have := HBI.out.size; omega)); have HZT := Lib.hid (show w1.heap.size ≤ wt.heap.size from by have := HBI.out.size; have := hbt.size; omega); clear hbt)
          | (at_builtin; obtain ⟨g, cap, w5, hr5, ht5⟩ := HTT.out.push HZT.out (by omega) (k : Int) (⟨#[35]⟩ ++ P) 22 wt.heap.size rfl (wt.heap.size + 1) rfl; refine Lib.wpList_append_run_sl _ rfl (.tmp 35) (.tmp 44) _ rfl _ _ rfl rfl hr5 ?_; have HT5 := Lib.hid ht5; clear hr5 ht5))
        go_roundw
        case rel => exact ⟨j + 1, true, _, by omega, by go_num, rfl, HT2, by rw [HM.out, HTH.out, ← HH.out]; exact HT5⟩
        case measure => simp [intOf]; omega
      | false =>
        by_cases hkk : k = ka
        · have HT2 : Hid (true = thereB ka (l.take (j + 1))) := Lib.hid (by rw [HTN.out, hkk]; simp)
          have hkb : ((k : Int) == (ka : Int)) = true := by rw [beq_iff_eq]; omega
          clear HTN hkk
          go_wp2_with (first
            | (go_at_call 24; refine (HNZ.out _).mono ?_; rintro e wn ⟨rfl, rfl⟩)
            | (go_at_call 29; refine (HIX.out _).mono ?_; rintro e wi ⟨rfl, hbi⟩; have HBI := Lib.hid hbi; have HNI := Lib.hid (HNR.out.below hbi); clear hbi)
            | (go_at_call 28; refine (HTX.out _ HNI.out).mono ?_; rintro e wt ⟨rfl, hbt⟩; have HTT := Lib.hid ((HT.out.step HBI.out hbz).step hbt (by have := HBI.out.size; omega)); have HZT := Lib.hid (show w1.heap.size ≤ wt.heap.size from by have := HBI.out.size; have := hbt.size; omega); clear hbt)
            | (at_builtin; obtain ⟨g, cap, w5, hr5, ht5⟩ := HTT.out.push HZT.out (by omega) (k : Int) (⟨#[35]⟩ ++ P) 22 wt.heap.size rfl (wt.heap.size + 1) rfl; refine Lib.wpList_append_run_sl _ rfl (.tmp 35) (.tmp 44) _ rfl _ _ rfl rfl hr5 ?_; have HT5 := Lib.hid ht5; clear hr5 ht5))
          go_roundw
          case rel => exact ⟨j + 1, true, _, by omega, by go_num, rfl, HT2, by rw [HM.out, HTH.out, ← HH.out]; exact HT5⟩
          case measure => simp [intOf]; omega
        · have HT2 : Hid (false = thereB ka (l.take (j + 1))) := Lib.hid (by rw [HTN.out]; simpa using hkk)
          have hkb : ((k : Int) == (ka : Int)) = false := by rw [beq_eq_false_iff_ne]; omega
          clear HTN hkk
          go_wp2_with (first
            | (go_at_call 24; refine (HNZ.out _).mono ?_; rintro e wn ⟨rfl, rfl⟩)
            | (go_at_call 29; refine (HIX.out _).mono ?_; rintro e wi ⟨rfl, hbi⟩; have HBI := Lib.hid hbi; have HNI := Lib.hid (HNR.out.below hbi); clear hbi)
            | (go_at_call 28; refine (HTX.out _ HNI.out).mono ?_; rintro e wt ⟨rfl, hbt⟩; have HTT := Lib.hid ((HT.out.step HBI.out hbz).step hbt (by have := HBI.out.size; omega)); have HZT := Lib.hid (show w1.heap.size ≤ wt.heap.size from by have := HBI.out.size; have := hbt.size; omega); clear hbt)
            | (at_builtin; obtain ⟨g, cap, w5, hr5, ht5⟩ := HTT.out.push HZT.out (by omega) (k : Int) (⟨#[35]⟩ ++ P) 22 wt.heap.size rfl (wt.heap.size + 1) rfl; refine Lib.wpList_append_run_sl _ rfl (.tmp 35) (.tmp 44) _ rfl _ _ rfl rfl hr5 ?_; have HT5 := Lib.hid ht5; clear hr5 ht5))
          go_roundw
          case rel => exact ⟨j + 1, false, _, by omega, by go_num, rfl, HT2, by rw [HM.out, HTH.out, ← HH.out]; exact HT5⟩
          case measure => simp [intOf]; omega
    · have hje : j = l.length := by omega
      have HB3 := Lib.hid (HB1.out.trans (ht.bel.mono HB1.out.size))
      have htt : tb = thereB ka l := by rw [HTB.out, hje, List.take_length]
      have HTK := HT.out
      rw [hje, List.take_length] at HTK
      obtain ⟨hn, hg⟩ := HTK.things (fun x hx => by
        rw [List.mem_map] at hx
        obtain ⟨z, _, rfl⟩ := hx
        exact thz_ok z)
      have HTX := Lib.hid (fun (W : World) (h : NumV W) => text_at (ka : Int) ka (by omega) rfl W h)
      have HIX := Lib.hid (fun (W : World) => rI_any (ka : Int) W)
      have hsm := hash_small (k := ka) (by omega)
      have HOB : Hid (∀ W : World, NumV W → Below wr.heap.size wr W → Calls Tryd.prog 17 #[.string (hashB ka), .slice pv nv cv] W fun e w' => e = .returned (.int .i64 (if tb then (ka : Int) else -3)) ∧ Below W.heap.size W w') := Lib.hid (fun W h hb => by
        have := object_any (hashB ka) ((l.map thz).map fun t => (t.1, [t.2])) pv cv W (by omega) h ((hg.below hb).grow hb.size) (by rw [List.length_map, List.length_map]; omega)
        rw [object_hash ka (by omega) l, ← htt, List.length_map, ← hn] at this
        exact this)
      obtain ⟨P, hP⟩ : ∃ P : ByteArray, (⟨(Lib.itoa (ka : Int)).toArray⟩ : ByteArray) = P := ⟨_, rfl⟩
      have HTX : Hid (∀ (W : World), NumV W → Calls Tryd.prog 28 #[.agg #[.int .i64 0, .int .i64 (ka : Int), .string ByteArray.empty, .slice none 0 0]] W fun e w' => e = .returned (.string P) ∧ Below W.heap.size W w') := Lib.hid (fun W h => by have := HTX.out W h; rw [hP] at this; exact this)
      have HH := Lib.hid (show (⟨#[35]⟩ : ByteArray) ++ P = hashB ka from by rw [← hP]; rfl)
      rw [← HH.out] at HOB
      have hPs : P.size ≤ 11 := by have := (num_fin ⟨ka, by omega⟩).2; rw [← hP, mk_size]; simp only at this; omega
      clear hn hg HTK htt HT HTB ht hP hsm hje
      cases tb with
      | true =>
        have HOB : Hid (∀ W : World, NumV W → Below wr.heap.size wr W → Calls Tryd.prog 17 #[.string (⟨#[35]⟩ ++ P), .slice pv nv cv] W fun e w' => e = .returned (.int .i64 (ka : Int)) ∧ Below W.heap.size W w') := HOB
        go_wp2_with (first
          | (go_at_call 29; refine (HIX.out _).mono ?_; rintro e wi ⟨rfl, hbi⟩; have HBI := Lib.hid hbi; have HNI := Lib.hid (HNR.out.below hbi); clear hbi)
          | (go_at_call 28; refine (HTX.out _ HNI.out).mono ?_; rintro e wt ⟨rfl, hbt⟩; have HBT := Lib.hid (HBI.out.trans (hbt.mono HBI.out.size)); have HNT := Lib.hid (HNI.out.below hbt); clear hbt)
          | (go_at_call 17; refine (HOB.out _ HNT.out HBT.out).mono ?_; rintro e w7 ⟨rfl, hb7⟩; have HB7 := Lib.hid (HB3.out.trans ((HBT.out.trans (hb7.mono HBT.out.size)).mono HB3.out.size)); clear hb7))
        go_ret; exact ⟨by simp, HB7.out⟩
      | false =>
        have HOB : Hid (∀ W : World, NumV W → Below wr.heap.size wr W → Calls Tryd.prog 17 #[.string (⟨#[35]⟩ ++ P), .slice pv nv cv] W fun e w' => e = .returned (.int .i64 (-3)) ∧ Below W.heap.size W w') := HOB
        go_wp2_with (first
          | (go_at_call 29; refine (HIX.out _).mono ?_; rintro e wi ⟨rfl, hbi⟩; have HBI := Lib.hid hbi; have HNI := Lib.hid (HNR.out.below hbi); clear hbi)
          | (go_at_call 28; refine (HTX.out _ HNI.out).mono ?_; rintro e wt ⟨rfl, hbt⟩; have HBT := Lib.hid (HBI.out.trans (hbt.mono HBI.out.size)); have HNT := Lib.hid (HNI.out.below hbt); clear hbt)
          | (go_at_call 17; refine (HOB.out _ HNT.out HBT.out).mono ?_; rintro e w7 ⟨rfl, hb7⟩; have HB7 := Lib.hid (HB3.out.trans ((HBT.out.trans (hb7.mono HBT.out.size)).mono HB3.out.size)); clear hb7))
        go_ret; exact ⟨by simp, HB7.out⟩

theorem numbers_all (l : List Int) (p : Option Addr) (c : Nat) (ask : Int) (w : World) (hI : IntsAt w p l) (ha : I64 ask) (hM : MaxL w) (hN : NumV w) :
    Calls Tryd.prog 7 #[.slice p l.length c, .int .i64 ask] w fun e w' => e = .returned (.bool true) ∧ Below w.heap.size w w' := by
  by_cases h : 12 < l.length
  · exact numbers_long l p c ask w hM h
  · exact numbers_main l p c ask w hI ha hM hN (by omega)
end Go.Proofs.YtcecgfijfnnpeaaDoor.Mt
