/- The contracts of attr.told, attr.charset and attr.Charset: the encoding of the label that a text tells; nothing that was there is written. Conditions: at most 3000 bytes, else ErrMany; the library's variable MaxLen holds an integer. -/
import Derived.Test.YthhjfedegbldfaeDoorPC
import Derived.Test.YthhjfedegbldfaeDoorLG
import Derived.Test.YthhjfedegbldfaeDoorLO
namespace Go.Proofs.YthhjfedegbldfaeDoor
open Go.RowKit
set_option linter.unusedVariables false

theorem csN : csL ≠ [] := by decide
set_option maxHeartbeats 1600000 in
set_option maxRecDepth 100000 in
theorem atold_any (s : ByteArray) (w : World) (hs : s.size ≤ 3000) (hM : Mx w) (hf : fdI (bl s) = bl s) :
    Calls Tryd.prog 55 #[.string s] w fun e w' => ((e = .returned (.tuple #[.int .i64 0, .bool false]) ∧ chsI (bl s) = 0) ∨ (∃ a : Nat, e = .returned (.tuple #[.int .i64 ((a : Int) + 1), .bool true]) ∧ a < s.size ∧ chsI (bl s) = tailI (bl s) a)) ∧ w' = w := by
  have hl := hide (bl_len s)
  have HF := hide hf
  clear hf
  go_enter Tryd.func55, Tryd.ntmps55
  go_wp2_with fail
  go_loop [4] (fun i => ∃ k : Nat, i = .int .i64 k ∧ k ≤ s.size ∧ Hid (chsI (bl s) = chsF (bl s) k)) (fun i => s.size - (intOf i).toNat)
  case atStart => exact ⟨0, rfl, by omega, hide rfl⟩
  case round =>
    obtain ⟨k, rfl, hk, HR⟩ := hrel
    have HI := hide (index_any (s.extract k s.size) ⟨#[99, 104, 97, 114, 115, 101, 116]⟩ w (by simp; omega) hM)
    have HX := idx_bl s ⟨#[99, 104, 97, 114, 115, 101, 116]⟩ k hk
    rw [show bl ⟨#[99, 104, 97, 114, 115, 101, 116]⟩ = csL from by decide] at HX
    simp only [bg0_fold csN (unhide HF)] at HX
    rcases HX with ⟨e1, e2⟩ | ⟨i, e1, e2, e3, e4⟩
    · rw [e1] at HI
      have HZ : Hid (chsI (bl s) = 0) := hide (by rw [unhide HR, chsF_zero (by rw [unhide hl]; exact hk) (fun j h1 h2 => e2 j h1 (by rw [← unhide hl]; exact h2))])
      clear e1 e2
      go_wp2_with fail
      refine (unhide HI).mono ?_
      rintro e w1 ⟨rfl, hw⟩
      replace hw := hw.symm
      subst hw
      go_wp2_with fail
      go_ret2
      exact ⟨.inl ⟨rfl, unhide HZ⟩, rfl⟩
    · rw [e1] at HI
      have h7 : k + i + 7 ≤ s.size := by have := bgn_le e3; rw [unhide hl] at this; exact this
      have HC : Hid (chsI (bl s) = chsF (bl s) (k + i)) := hide (by rw [unhide HR, chsJ_skip i (by rw [unhide hl]; exact e2) e4])
      have HE := hide e3
      clear e1 e3 e4 HR
      have HW := hide (fun w => whites_any s (k + i + 7) w h7 hs)
      rw [show ((k + i + 7 : Nat) : Int) = (k : Int) + (i : Int) + 7 from by omega] at HW
      have ha := run_le wh (bl s) (i := k + i + 7) (by rw [unhide hl]; exact h7)
      rw [unhide hl] at ha
      have ga := run_ge wh (bl s) (k + i + 7)
      obtain ⟨a, HA⟩ : ∃ a, Hid (run wh (bl s) (k + i + 7) = a) := ⟨_, hide rfl⟩
      rw [unhide HA] at HW ha ga
      have HS := hide (fun w => stands_any s a ⟨#[61]⟩ w (by omega) hs)
      rw [show bl ⟨#[61]⟩ = [61] from by decide] at HS
      have HT := hide (fun h => (unhide HC).trans (chsF_tail (by rw [unhide hl]; omega) (unhide HE) (unhide HA) h))
      have HP := hide (fun h => (unhide HC).trans (chsF_pass (by rw [unhide hl]; omega) (unhide HE) (unhide HA) h))
      have HL := hide (fun h => (stn_one (bl s) a 61).1 h)
      rw [unhide hl] at HL
      obtain ⟨q, HQ⟩ : ∃ q, Hid (stn (bl s) a [61] = q) := ⟨_, hide rfl⟩
      rw [unhide HQ] at HS HT HP HL
      clear HC
      go_wp2_with fail
      refine (unhide HI).mono ?_
      rintro e w1 ⟨rfl, hw⟩
      replace hw := hw.symm
      subst hw
      go_wp2_with fail
      refine (unhide HW _).mono ?_
      rintro e w1 ⟨rfl, hw⟩
      replace hw := hw.symm
      subst hw
      go_wp2_with fail
      refine (unhide HS _).mono ?_
      rintro e w1 ⟨rfl, hw⟩
      replace hw := hw.symm
      subst hw
      cases q
      · go_wp2_with fail
        go_round
        case rel => exact ⟨a, rfl, ha, hide (unhide HP (by trivial))⟩
        case measure => simp [intOf]; omega
      · go_wp2_with fail
        go_ret2
        exact ⟨.inr ⟨a, rfl, (unhide HL (by trivial)).1, unhide HT (by trivial)⟩, rfl⟩
theorem fnd_str (l : List Int) : findI (strOfNums l) = fnd l := rfl
theorem qtI_le {l : List Int} {a : Nat} (h : a < l.length) : (qtI l a).1.length ≤ l.length := by
  have := run_le (pNot (l.getD a 0)) l (i := a + 1) (by omega)
  unfold qtI
  split
  · simp
  · simp only; rw [cut_len this]; omega
set_option maxHeartbeats 1600000 in
set_option maxRecDepth 100000 in
theorem charset_any (s : ByteArray) (w : World) (hs : s.size ≤ 3000) (hM : Mx w) (hf : fdI (bl s) = bl s) :
    Calls Tryd.prog 28 #[.string s] w fun e w' => ∃ t, e = .returned (.string t) ∧ t.size ≤ 3000 ∧ findI t = chsI (bl s) ∧ Below w.heap.size w w' := by
  have hl := hide (bl_len s)
  have HT := hide (atold_any s w hs hM hf)
  clear hM hf
  go_enter Tryd.func28, Tryd.ntmps28
  go_wp2_with fail
  refine (unhide HT).mono ?_
  rintro e w1 ⟨⟨rfl, hz⟩ | ⟨a, rfl, ha, hz⟩, hw⟩
  · replace hw := hw.symm
    subst hw
    have HZ := hide hz
    clear hz HT
    go_wp2_with fail
    go_ret
    exact ⟨_, rfl, by decide, by rw [unhide HZ]; exact fnd_nil, Below.refl _ _⟩
  · replace hw := hw.symm
    subst hw
    have HZ := hide hz
    clear hz HT
    have HW := hide (fun w => whites_any s (a + 1) w (by omega) hs)
    rw [show ((a + 1 : Nat) : Int) = (a : Int) + 1 from by omega] at HW
    have hb := run_le wh (bl s) (i := a + 1) (by rw [unhide hl]; omega)
    rw [unhide hl] at hb
    have HTl : Hid (tailI (bl s) a = if stn (bl s) (run wh (bl s) (a + 1)) [34, 39] = true then fnd (qtI (bl s) (run wh (bl s) (a + 1))).1 else fnd (cut (bl s) (run wh (bl s) (a + 1)) (run pSemi (bl s) (run wh (bl s) (a + 1))))) := hide rfl
    generalize run wh (bl s) (a + 1) = b at *
    have HS := hide (fun w => stands_any s b ⟨#[34, 39]⟩ w (by omega) hs)
    rw [show bl ⟨#[34, 39]⟩ = [34, 39] from by decide] at HS
    have HL := hide (fun h => (stn_two (bl s) b 34 39).1 h)
    rw [unhide hl] at HL
    obtain ⟨q, HQ⟩ : ∃ q, Hid (stn (bl s) b [34, 39] = q) := ⟨_, hide rfl⟩
    rw [unhide HQ] at HS HL HTl
    go_wp2_with fail
    refine (unhide HW _).mono ?_
    rintro e w1 ⟨rfl, hw⟩
    replace hw := hw.symm
    subst hw
    go_wp2_with fail
    refine (unhide HS _).mono ?_
    rintro e w1 ⟨rfl, hw⟩
    replace hw := hw.symm
    subst hw
    cases q
    · have HR := hide ((unhide HZ).trans ((unhide HTl).trans (if_neg (by simp))))
      have hr := run_le pSemi (bl s) (i := b) (by rw [unhide hl]; omega)
      rw [unhide hl] at hr
      have gr := run_ge pSemi (bl s) b
      have HW3 := hide (fun w => wSemi s b w (by omega) hs)
      generalize run pSemi (bl s) b = r at *
      clear HTl HZ HL HS HW HQ
      go_wp2_with fail
      refine (unhide HW3 _).mono ?_
      rintro e w1 ⟨rfl, hw⟩
      replace hw := hw.symm
      subst hw
      go_wp2_with fail
      go_ret
      exact ⟨_, rfl, by simp; omega, by rw [unhide HR, ← bl_cut, ← fnd_str, str_bl], Below.refl _ _⟩
    · have HR := hide ((unhide HZ).trans ((unhide HTl).trans (if_pos rfl)))
      have hlb := (unhide HL (by trivial)).1
      have HC := hide (fun w => quoted_any s b w hlb hs)
      have hql := qtI_le (l := bl s) (a := b) (by rw [unhide hl]; exact hlb)
      rw [unhide hl] at hql
      clear HTl HZ HL HS HW HQ
      obtain ⟨v1, v2, v3, Hv⟩ : ∃ v1 v2 v3, Hid (qtI (bl s) b = (v1, v2, v3)) := ⟨_, _, _, hide rfl⟩
      rw [unhide Hv] at HC HR hql
      simp only at HC HR hql
      go_wp2_with fail
      refine (unhide HC _).mono ?_
      rintro e w1 ⟨rfl, hb1⟩
      have HB := hide hb1
      clear hb1
      go_wp2_with fail
      go_ret
      exact ⟨_, rfl, by rw [strOfNums_size]; omega, by rw [unhide HR, fnd_str], unhide HB⟩
set_option maxHeartbeats 800000 in
set_option maxRecDepth 100000 in
theorem Charset_ok (s : ByteArray) (w : World) (hs : s.size ≤ 3000) (hM : Mx w) :
    Calls Tryd.prog 10 #[.string s] w fun e w' => e = .returned (.tuple #[.int .i64 (chsI (bl s)), .int .i64 0]) ∧ Below w.heap.size w w' := by
  have HF := hide (fun w => Fold_ok s w hs)
  have hb : bl (strOfNums (fdI (bl s))) = fdI (bl s) := bl_str _ (fd_byt (bl_byt s))
  have HC := hide (fun w (h : Mx w) => charset_any (strOfNums (fdI (bl s))) w (by rw [strOfNums_size, fd_len, bl_len]; exact hs) h (by rw [hb, fd_fd]))
  rw [hb, chsI_fd (bl_byt s)] at HC
  have HM := hide hM
  clear hb hM
  generalize strOfNums (fdI (bl s)) = f at *
  go_enter Tryd.func10, Tryd.ntmps10
  go_wp2_with fail
  refine (unhide HF _).mono ?_
  rintro e w1 ⟨rfl, hb1⟩
  have HB1 := hide hb1
  clear hb1 HF
  go_wp2_with fail
  refine (unhide HC _ ((unhide HM).below (unhide HB1))).mono ?_
  rintro e w2 ⟨t, rfl, ht, hfi, hb2⟩
  have HB2 := hide (bstep (unhide HB1) hb2)
  have HI := hide hfi
  have HD := hide (fun w => Find_ok t w ht)
  clear hb2 HC hfi
  go_wp2_with fail
  refine (unhide HD _).mono ?_
  rintro e w3 ⟨rfl, hb3⟩
  have HB3 := hide (bstep (unhide HB2) hb3)
  clear hb3 HD
  go_wp2_with fail
  go_ret2
  exact ⟨by rw [unhide HI]; rfl, unhide HB3⟩
set_option maxHeartbeats 800000 in
set_option maxRecDepth 100000 in
theorem Charset_long (s : ByteArray) (w : World) (hs : s.size ≤ maxLen) (h : 3000 < s.size) :
    Calls Tryd.prog 10 #[.string s] w fun e w' => e = .returned (.tuple #[.int .i64 0, .int .i64 2]) ∧ Below w.heap.size w w' := by
  have HF := hide (fun w => Fold_long s w h hs)
  go_enter Tryd.func10, Tryd.ntmps10
  go_wp2_with fail
  refine (unhide HF _).mono ?_
  rintro e w1 ⟨rfl, hw⟩
  replace hw := hw.symm
  subst hw
  go_wp2_with fail
  go_ret2
  exact ⟨rfl, Below.refl _ _⟩
end Go.Proofs.YthhjfedegbldfaeDoor
