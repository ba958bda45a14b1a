/- Package match: the number of the things of which a name fits. -/
import Derived.Test.YtcecgfijfnnpeaaDoorMq
namespace Go.Proofs.YtcecgfijfnnpeaaDoor.Mt
open Go.RowKit
set_option maxRecDepth 100000

theorem onlyB_hit {f : Ls → Ls → Bool} {w : Ls} {t : Tg} {r : List Tg} (o : Option Int) (h : namedB f w t = true) : onlyB f w (t :: r) o = (match o with | none => onlyB f w r (some t.1) | some x => if t.1 = x then onlyB f w r (some x) else some (-2)) := by
  exact if_pos h
theorem onlyB_miss {f : Ls → Ls → Bool} {w : Ls} {t : Tg} {r : List Tg} (o : Option Int) (h : namedB f w t = false) : onlyB f w (t :: r) o = onlyB f w r o := by
  exact if_neg (by rw [h]; simp)
set_option maxHeartbeats 4000000 in
theorem only_alike (l : List Tg) (p : Option Addr) (cap : Nat) (s : ByteArray) (w : World) (h : GRow w w.heap.size p l) (hl : l.length ≤ 4000000000000000000) (hs : s.size ≤ 140737488355328) :
    Calls Tryd.prog 40 #[.slice p l.length cap, .string s, .func (.func 30) #[] #[]] w fun e w' => e = .returned (onlyV (onlyB alikeB s.data.toList l none)) ∧ Below w.heap.size w w' := by
  have H := Lib.hid h; clear h
  have HM := Lib.hid (fun (id : Int) (ss : List ByteArray) (q : Option Addr) (c : Nat) (w : World) (h : TRow w w.heap.size q ss) (h1 : ss.length ≤ 9000000000000000000) (h2 : ∀ x ∈ ss, x.size ≤ 140737488355328) => named_alike id ss q c s w h h1 h2 hs)
  go_enter Tryd.func40, Tryd.ntmps40
  go_wp2
  go_loopw [8, 9, 14] (fun a f i wr => ∃ (j : Nat) (x : Int) (fb : Bool), j ≤ l.length ∧ i = .int .i64 j ∧ a = .int .i64 x ∧ f = .bool fb ∧ Hid (fb = false → x = 0) ∧ Hid (onlyB alikeB s.data.toList l none = onlyB alikeB s.data.toList (l.drop j) (if fb then some x else none)) ∧ Hid (Below w.heap.size w wr)) (fun _ _ i _ => l.length - (intOf i).toNat)
  case atStart => exact ⟨0, 0, false, Nat.zero_le _, rfl, rfl, rfl, Lib.hid (fun _ => rfl), Lib.hid rfl, Lib.hid (Below.refl _ _)⟩
  case round =>
    obtain ⟨j, x, fb, hj, rfl, rfl, rfl, HX, HA, HB⟩ := hrel
    by_cases hlt : j < l.length
    · obtain ⟨b, off, q, c, hp, hb, _, h0, h1, hq, hql, hqz⟩ := (H.out.below HB.out).at_ j hlt
      subst hp
      have hz := HB.out.size
      have HA1 := HA.out
      rw [List.drop_eq_getElem_cons hlt] at HA1
      obtain ⟨⟨id, ss⟩, hlj⟩ : ∃ t, l[j] = t := ⟨_, rfl⟩
      rw [hlj] at h0 h1 hq hql hqz HA1
      dsimp only at h0 h1 hq hql hqz
      clear hlj HA
      have HC := Lib.hid (fun (W : World) (hb' : Below wr.heap.size wr W) => HM.out id ss q c W ((hq.below (hb'.mono hz)).grow (by have := hb'.size; omega)) hql hqz)
      have hbw : b < wr.heap.size := by omega
      have H1 := Lib.hid ((Below.refl wr.heap.size wr).alloc (Nat.le_refl _) (.cells #[.int .i64 id, .slice q ss.length c] 41))
      obtain ⟨y0, _⟩ := box2 wr (.int .i64 id) (.slice q ss.length c) 41
      have Y0 := Lib.hid y0
      clear hq hql hqz y0
      cases hnm : namedB alikeB s.data.toList (id, ss) with
      | false =>
        rw [onlyB_miss _ hnm] at HA1
        have HA2 := Lib.hid HA1
        have HC2 := Lib.hid (fun W hb' => by have := HC.out W hb'; rw [hnm] at this; exact this)
        clear HC hnm HA1
        go_wp2_with (go_at_call 58; refine (HC2.out _ H1.out).mono ?_; rintro e w2 ⟨rfl, hb2⟩; have HB2 := Lib.hid (HB.out.trans ((H1.out.trans (hb2.mono (by simp))).mono hz)); clear hb2)
        go_roundw
        case rel => exact ⟨j + 1, x, fb, by omega, by go_num, rfl, rfl, HX, HA2, HB2⟩
        case measure => simp [intOf]; omega
      | true =>
        rw [onlyB_hit _ hnm] at HA1
        have HC2 := Lib.hid (fun W hb' => by have := HC.out W hb'; rw [hnm] at this; exact this)
        clear HC hnm
        cases fb with
        | false =>
          have HA2 : Hid (onlyB alikeB s.data.toList l none = onlyB alikeB s.data.toList (l.drop (j + 1)) (some id)) := Lib.hid HA1
          clear HA1
          go_wp2_with (go_at_call 58; refine (HC2.out _ H1.out).mono ?_; rintro e w2 ⟨rfl, hb2⟩; have HB2 := Lib.hid (HB.out.trans ((H1.out.trans (hb2.mono (by simp))).mono hz)); have y0 := (hb2.cell (p := ⟨wr.heap.size, 0, none⟩) (by simp)).trans Y0.out; clear hb2)
          go_roundw
          case rel => exact ⟨j + 1, id, true, by omega, by go_num, rfl, rfl, Lib.hid (fun h => by cases h), HA2, HB2⟩
          case measure => simp [intOf]; omega
        | true =>
          by_cases hx : id = x
          · have HA2 : Hid (onlyB alikeB s.data.toList l none = onlyB alikeB s.data.toList (l.drop (j + 1)) (some id)) := Lib.hid (HA1.trans (by simp only [if_true]; rw [if_pos hx, hx]))
            clear HA1 HX
            subst hx
            go_wp2_with (go_at_call 58; refine (HC2.out _ H1.out).mono ?_; rintro e w2 ⟨rfl, hb2⟩; have HB2 := Lib.hid (HB.out.trans ((H1.out.trans (hb2.mono (by simp))).mono hz)); have y0 := (hb2.cell (p := ⟨wr.heap.size, 0, none⟩) (by simp)).trans Y0.out; clear hb2)
            go_roundw
            case rel => exact ⟨j + 1, id, true, by omega, by go_num, rfl, rfl, Lib.hid (fun h => by cases h), HA2, HB2⟩
            case measure => simp [intOf]; omega
          · have HA2 : Hid (onlyB alikeB s.data.toList l none = some (-2)) := Lib.hid (HA1.trans (by simp only [if_true]; rw [if_neg hx]))
            have hne : (id != x) = true := by simpa using hx
            clear HA1 HX
            go_wp2_with (go_at_call 58; refine (HC2.out _ H1.out).mono ?_; rintro e w2 ⟨rfl, hb2⟩; have HB2 := Lib.hid (HB.out.trans ((H1.out.trans (hb2.mono (by simp))).mono hz)); have y0 := (hb2.cell (p := ⟨wr.heap.size, 0, none⟩) (by simp)).trans Y0.out; clear hb2)
            go_ret2
            exact ⟨by rw [HA2.out]; rfl, HB2.out⟩
    · have hje : j = l.length := by omega
      have HF := Lib.hid (show onlyB alikeB s.data.toList l none = if fb then some x else none from by rw [HA.out, hje, List.drop_length]; rfl)
      clear HA
      cases fb with
      | false =>
        have hx0 := HX.out rfl
        subst hx0
        go_wp2
        go_ret2
        exact ⟨by rw [HF.out]; rfl, HB.out⟩
      | true =>
        go_wp2
        go_ret2
        exact ⟨by rw [HF.out]; rfl, HB.out⟩

set_option maxHeartbeats 4000000 in
theorem only_begins (l : List Tg) (p : Option Addr) (cap : Nat) (s : ByteArray) (w : World) (h : GRow w w.heap.size p l) (hl : l.length ≤ 4000000000000000000) (hs : s.size ≤ 140737488355328) :
    Calls Tryd.prog 40 #[.slice p l.length cap, .string s, .func (.func 41) #[] #[]] w fun e w' => e = .returned (onlyV (onlyB beginsB s.data.toList l none)) ∧ Below w.heap.size w w' := by
  have H := Lib.hid h; clear h
  have HM := Lib.hid (fun (id : Int) (ss : List ByteArray) (q : Option Addr) (c : Nat) (w : World) (h : TRow w w.heap.size q ss) (h1 : ss.length ≤ 9000000000000000000) (h2 : ∀ x ∈ ss, x.size ≤ 140737488355328) => named_begins id ss q c s w h h1 h2 hs)
  go_enter Tryd.func40, Tryd.ntmps40
  go_wp2
  go_loopw [8, 9, 14] (fun a f i wr => ∃ (j : Nat) (x : Int) (fb : Bool), j ≤ l.length ∧ i = .int .i64 j ∧ a = .int .i64 x ∧ f = .bool fb ∧ Hid (fb = false → x = 0) ∧ Hid (onlyB beginsB s.data.toList l none = onlyB beginsB s.data.toList (l.drop j) (if fb then some x else none)) ∧ Hid (Below w.heap.size w wr)) (fun _ _ i _ => l.length - (intOf i).toNat)
  case atStart => exact ⟨0, 0, false, Nat.zero_le _, rfl, rfl, rfl, Lib.hid (fun _ => rfl), Lib.hid rfl, Lib.hid (Below.refl _ _)⟩
  case round =>
    obtain ⟨j, x, fb, hj, rfl, rfl, rfl, HX, HA, HB⟩ := hrel
    by_cases hlt : j < l.length
    · obtain ⟨b, off, q, c, hp, hb, _, h0, h1, hq, hql, hqz⟩ := (H.out.below HB.out).at_ j hlt
      subst hp
      have hz := HB.out.size
      have HA1 := HA.out
      rw [List.drop_eq_getElem_cons hlt] at HA1
      obtain ⟨⟨id, ss⟩, hlj⟩ : ∃ t, l[j] = t := ⟨_, rfl⟩
      rw [hlj] at h0 h1 hq hql hqz HA1
      dsimp only at h0 h1 hq hql hqz
      clear hlj HA
      have HC := Lib.hid (fun (W : World) (hb' : Below wr.heap.size wr W) => HM.out id ss q c W ((hq.below (hb'.mono hz)).grow (by have := hb'.size; omega)) hql hqz)
      have hbw : b < wr.heap.size := by omega
      have H1 := Lib.hid ((Below.refl wr.heap.size wr).alloc (Nat.le_refl _) (.cells #[.int .i64 id, .slice q ss.length c] 41))
      obtain ⟨y0, _⟩ := box2 wr (.int .i64 id) (.slice q ss.length c) 41
      have Y0 := Lib.hid y0
      clear hq hql hqz y0
      cases hnm : namedB beginsB s.data.toList (id, ss) with
      | false =>
        rw [onlyB_miss _ hnm] at HA1
        have HA2 := Lib.hid HA1
        have HC2 := Lib.hid (fun W hb' => by have := HC.out W hb'; rw [hnm] at this; exact this)
        clear HC hnm HA1
        go_wp2_with (go_at_call 58; refine (HC2.out _ H1.out).mono ?_; rintro e w2 ⟨rfl, hb2⟩; have HB2 := Lib.hid (HB.out.trans ((H1.out.trans (hb2.mono (by simp))).mono hz)); clear hb2)
        go_roundw
        case rel => exact ⟨j + 1, x, fb, by omega, by go_num, rfl, rfl, HX, HA2, HB2⟩
        case measure => simp [intOf]; omega
      | true =>
        rw [onlyB_hit _ hnm] at HA1
        have HC2 := Lib.hid (fun W hb' => by have := HC.out W hb'; rw [hnm] at this; exact this)
        clear HC hnm
        cases fb with
        | false =>
          have HA2 : Hid (onlyB beginsB s.data.toList l none = onlyB beginsB s.data.toList (l.drop (j + 1)) (some id)) := Lib.hid HA1
          clear HA1
          go_wp2_with (go_at_call 58; refine (HC2.out _ H1.out).mono ?_; rintro e w2 ⟨rfl, hb2⟩; have HB2 := Lib.hid (HB.out.trans ((H1.out.trans (hb2.mono (by simp))).mono hz)); have y0 := (hb2.cell (p := ⟨wr.heap.size, 0, none⟩) (by simp)).trans Y0.out; clear hb2)
          go_roundw
          case rel => exact ⟨j + 1, id, true, by omega, by go_num, rfl, rfl, Lib.hid (fun h => by cases h), HA2, HB2⟩
          case measure => simp [intOf]; omega
        | true =>
          by_cases hx : id = x
          · have HA2 : Hid (onlyB beginsB s.data.toList l none = onlyB beginsB s.data.toList (l.drop (j + 1)) (some id)) := Lib.hid (HA1.trans (by simp only [if_true]; rw [if_pos hx, hx]))
            clear HA1 HX
            subst hx
            go_wp2_with (go_at_call 58; refine (HC2.out _ H1.out).mono ?_; rintro e w2 ⟨rfl, hb2⟩; have HB2 := Lib.hid (HB.out.trans ((H1.out.trans (hb2.mono (by simp))).mono hz)); have y0 := (hb2.cell (p := ⟨wr.heap.size, 0, none⟩) (by simp)).trans Y0.out; clear hb2)
            go_roundw
            case rel => exact ⟨j + 1, id, true, by omega, by go_num, rfl, rfl, Lib.hid (fun h => by cases h), HA2, HB2⟩
            case measure => simp [intOf]; omega
          · have HA2 : Hid (onlyB beginsB s.data.toList l none = some (-2)) := Lib.hid (HA1.trans (by simp only [if_true]; rw [if_neg hx]))
            have hne : (id != x) = true := by simpa using hx
            clear HA1 HX
            go_wp2_with (go_at_call 58; refine (HC2.out _ H1.out).mono ?_; rintro e w2 ⟨rfl, hb2⟩; have HB2 := Lib.hid (HB.out.trans ((H1.out.trans (hb2.mono (by simp))).mono hz)); have y0 := (hb2.cell (p := ⟨wr.heap.size, 0, none⟩) (by simp)).trans Y0.out; clear hb2)
            go_ret2
            exact ⟨by rw [HA2.out]; rfl, HB2.out⟩
    · have hje : j = l.length := by omega
      have HF := Lib.hid (show onlyB beginsB s.data.toList l none = if fb then some x else none from by rw [HA.out, hje, List.drop_length]; rfl)
      clear HA
      cases fb with
      | false =>
        have hx0 := HX.out rfl
        subst hx0
        go_wp2
        go_ret2
        exact ⟨by rw [HF.out]; rfl, HB.out⟩
      | true =>
        go_wp2
        go_ret2
        exact ⟨by rw [HF.out]; rfl, HB.out⟩

end Go.Proofs.YtcecgfijfnnpeaaDoor.Mt
