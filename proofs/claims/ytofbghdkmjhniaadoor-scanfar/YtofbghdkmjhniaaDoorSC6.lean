/- The contracts of scan.isLetter, beginsTag, beginsMeta, behindComment, step, look and Scan: what a text says of itself; nothing that was there is written. Conditions: at most 3000 bytes, else ErrMany; the library's variable MaxLen holds an integer. -/
import Derived.Test.YtofbghdkmjhniaaDoorSB6
import Derived.Test.YtofbghdkmjhniaaDoorPE
import Derived.Test.YtofbghdkmjhniaaDoorMathM6
namespace Go.Proofs.YtofbghdkmjhniaaDoor
open Go.RowKit
set_option linter.unusedVariables false

set_option maxHeartbeats 400000 in
set_option maxRecDepth 100000 in
theorem sletter_any (c : Int) (w : World) (h : 0 ≤ c ∧ c < 256) : Calls Tryd.prog 57 #[.int .u8 c] w fun e w' => e = .returned (.bool (isLet c)) ∧ w' = w := by
  rcases (show c < 65 ∨ (65 ≤ c ∧ c ≤ 90) ∨ (90 < c ∧ c < 97) ∨ (97 ≤ c ∧ c ≤ 122) ∨ 122 < c from by omega) with h1 | h1 | h1 | h1 | h1
  · have HE : Hid (isLet c = false) := hide (by unfold isLet; rw [decide_eq_false (show ¬ 97 ≤ c from by omega), decide_eq_false (show ¬ 65 ≤ c from by omega)]; rfl)
    go_enter Tryd.func57, Tryd.ntmps57
    go_wp2_with fail
    go_ret
    exact ⟨ret_bool (by rw [unhide HE] <;> simp <;> omega), rfl⟩
  · obtain ⟨g1, g2⟩ := h1
    have HE : Hid (isLet c = true) := hide (by unfold isLet; rw [decide_eq_true (show 65 ≤ c from by omega), decide_eq_true (show c ≤ 90 from by omega)]; simp)
    go_enter Tryd.func57, Tryd.ntmps57
    go_wp2_with fail
    go_ret
    exact ⟨ret_bool (by rw [unhide HE] <;> simp <;> omega), rfl⟩
  · obtain ⟨g1, g2⟩ := h1
    have HE : Hid (isLet c = false) := hide (by unfold isLet; rw [decide_eq_false (show ¬ 97 ≤ c from by omega), decide_eq_false (show ¬ c ≤ 90 from by omega)]; simp)
    go_enter Tryd.func57, Tryd.ntmps57
    go_wp2_with fail
    go_ret
    exact ⟨ret_bool (by rw [unhide HE] <;> simp <;> omega), rfl⟩
  · obtain ⟨g1, g2⟩ := h1
    have HE : Hid (isLet c = true) := hide (by unfold isLet; rw [decide_eq_true (show 97 ≤ c from by omega), decide_eq_true (show c ≤ 122 from by omega)]; rfl)
    go_enter Tryd.func57, Tryd.ntmps57
    go_wp2_with fail
    go_ret
    exact ⟨ret_bool (by rw [unhide HE] <;> simp <;> omega), rfl⟩
  · have HE : Hid (isLet c = false) := hide (by unfold isLet; rw [decide_eq_false (show ¬ c ≤ 122 from by omega), decide_eq_false (show ¬ c ≤ 90 from by omega)]; simp)
    go_enter Tryd.func57, Tryd.ntmps57
    go_wp2_with fail
    go_ret
    exact ⟨ret_bool (by rw [unhide HE] <;> simp <;> omega), rfl⟩
set_option maxHeartbeats 800000 in
set_option maxRecDepth 100000 in
theorem beginsTag_any (s : ByteArray) (w : World) (hs : s.size ≤ 3000) : Calls Tryd.prog 37 #[.string s] w fun e w' => e = .returned (.bool (isTg (bl s) 0)) ∧ w' = w := by
  have hl := hide (bl_len s)
  have H0 := hide (fun w => stands_any s 0 ⟨#[60]⟩ w (by omega) hs)
  rw [show bl ⟨#[60]⟩ = [60] from by decide, show ((0 : Nat) : Int) = 0 from rfl] at H0
  have H1 := hide (fun w => stands_any s 1 ⟨#[47]⟩ w (by omega) hs)
  rw [show bl ⟨#[47]⟩ = [47] from by decide, show ((1 : Nat) : Int) = 1 from rfl] at H1
  have HT : Hid (isTg (bl s) 0 = if stn (bl s) 0 [60] = false then false else if stn (bl s) 1 [47] = true then decide (2 < s.size) && isLet ((bl s).getD 2 0) else decide (1 < s.size) && isLet ((bl s).getD 1 0)) := hide (by unfold isTg; rw [unhide hl])
  generalize stn (bl s) 0 [60] = q0 at *
  generalize stn (bl s) 1 [47] = q1 at *
  go_enter Tryd.func37, Tryd.ntmps37
  go_wp2_with fail
  refine (unhide H0 _).mono ?_
  rintro e w1 ⟨rfl, hw⟩
  replace hw := hw.symm
  subst hw
  cases q0
  · have HT' := hide ((unhide HT).trans (if_pos rfl))
    clear HT
    go_wp2_with fail
    go_ret
    exact ⟨ret_bool (unhide HT').symm, rfl⟩
  · have HT' := hide ((unhide HT).trans (if_neg (by simp)))
    clear HT
    go_wp2_with fail
    refine (unhide H1 _).mono ?_
    rintro e w1 ⟨rfl, hw⟩
    replace hw := hw.symm
    subst hw
    cases q1
    · have HT2 := hide ((unhide HT').trans (if_neg (by simp)))
      clear HT'
      by_cases h : 1 < s.size
      · have hcb := u8_lt s h
        have HG := hide (bl_at h)
        have HL := hide (fun w => sletter_any (s[1].toNat : Int) w hcb)
        have HT3 : Hid (isTg (bl s) 0 = isLet (s[1].toNat : Int)) := hide (by rw [unhide HT2, decide_eq_true h, unhide HG]; rfl)
        generalize isLet (s[1].toNat : Int) = z at *
        clear HT2
        go_wp2_with fail
        refine (unhide HL _).mono ?_
        rintro e w1 ⟨rfl, hw⟩
        replace hw := hw.symm
        subst hw
        go_wp2_with fail
        go_ret
        exact ⟨ret_bool (unhide HT3).symm, rfl⟩
      · have HT3 : Hid (isTg (bl s) 0 = false) := hide (by rw [unhide HT2, decide_eq_false h]; rfl)
        clear HT2
        go_wp2_with fail
        go_ret
        exact ⟨ret_bool (unhide HT3).symm, rfl⟩
    · have HT2 := hide ((unhide HT').trans (if_pos rfl))
      clear HT'
      by_cases h : 2 < s.size
      · have hcb := u8_lt s h
        have HG := hide (bl_at h)
        have HL := hide (fun w => sletter_any (s[2].toNat : Int) w hcb)
        have HT3 : Hid (isTg (bl s) 0 = isLet (s[2].toNat : Int)) := hide (by rw [unhide HT2, decide_eq_true h, unhide HG]; rfl)
        generalize isLet (s[2].toNat : Int) = z at *
        clear HT2
        go_wp2_with fail
        refine (unhide HL _).mono ?_
        rintro e w1 ⟨rfl, hw⟩
        replace hw := hw.symm
        subst hw
        go_wp2_with fail
        go_ret
        exact ⟨ret_bool (unhide HT3).symm, rfl⟩
      · have HT3 : Hid (isTg (bl s) 0 = false) := hide (by rw [unhide HT2, decide_eq_false h]; rfl)
        clear HT2
        go_wp2_with fail
        go_ret
        exact ⟨ret_bool (unhide HT3).symm, rfl⟩
set_option maxHeartbeats 800000 in
set_option maxRecDepth 100000 in
theorem beginsMeta_any (s : ByteArray) (w : World) (hs : s.size ≤ 3000) : Calls Tryd.prog 35 #[.string s] w fun e w' => e = .returned (.bool (isMeta (bl s) 0)) ∧ Below w.heap.size w w' := by
  have hl := hide (bl_len s)
  have H0 := hide (fun w => stands_any s 5 ⟨#[9, 10, 12, 13, 32, 47]⟩ w (by omega) hs)
  rw [show bl ⟨#[9, 10, 12, 13, 32, 47]⟩ = [9, 10, 12, 13, 32, 47] from by decide, show ((5 : Nat) : Int) = 5 from rfl] at H0
  have HM : Hid (isMeta (bl s) 0 = (stn (bl s) 5 [9, 10, 12, 13, 32, 47] && bgn (bl s) 0 b5)) := hide (isMeta_stn (bl s) 0)
  have HL : Hid (stn (bl s) 5 [9, 10, 12, 13, 32, 47] = true → 5 < s.size) := hide (fun h => by unfold stn at h; rw [Bool.and_eq_true, decide_eq_true_eq, unhide hl] at h; exact h.1)
  generalize stn (bl s) 5 [9, 10, 12, 13, 32, 47] = q0 at *
  go_enter Tryd.func35, Tryd.ntmps35
  go_wp2_with fail
  refine (unhide H0 _).mono ?_
  rintro e w1 ⟨rfl, hw⟩
  replace hw := hw.symm
  subst hw
  cases q0
  · clear HL
    go_wp2_with fail
    go_ret
    exact ⟨ret_bool (by rw [unhide HM]; rfl), Below.refl _ _⟩
  · have h5 := unhide HL rfl
    have HF := hide (fun w => Fold_ok (s.extract 0 5) w (by simp; omega))
    rw [show bl (s.extract 0 5) = cut (bl s) 0 (0 + 5) from by rw [bl_cut]] at HF
    have HE : Hid (isMeta (bl s) 0 = decide (strOfNums (fdI (cut (bl s) 0 (0 + 5))) = ⟨#[60, 109, 101, 116, 97]⟩)) := hide (by
      have h := bgn_at (s := s) (m := ⟨#[60, 109, 101, 116, 97]⟩) (k := 0) (by show 0 + 5 ≤ s.size; omega)
      rw [show bl ⟨#[60, 109, 101, 116, 97]⟩ = b5 from by decide] at h
      rw [unhide HM, ← h]; rfl)
    clear HM HL H0
    generalize strOfNums (fdI (cut (bl s) 0 (0 + 5))) = f at *
    have e4 := hide (eq_lit f ⟨#[60, 109, 101, 116, 97]⟩ [60, 109, 101, 116, 97] (by rw [Lib.toList_data]))
    go_wp2_with fail
    refine (unhide HF _).mono ?_
    rintro e w1 ⟨rfl, hb⟩
    have HB := hide hb
    clear hb
    go_wp2_with fail
    go_ret
    exact ⟨ret_bool (by rw [unhide HE, ← unhide e4]), unhide HB⟩
set_option maxHeartbeats 800000 in
set_option maxRecDepth 100000 in
theorem behind_any (s : ByteArray) (k : Nat) (w : World) (hk : k + 4 ≤ s.size) (hs : s.size ≤ 3000) (hM : Mx w) : Calls Tryd.prog 34 #[.string s, .int .i64 (k : Int)] w fun e w' => (∃ t : Nat, e = .returned (.int .i64 (t : Int)) ∧ Alike (bl s) t (fbI (bl s) (k + 2) + 3) ∧ t ≤ 4000) ∧ w' = w := by
  have hl := hide (bl_len s)
  have HI := hide (index_any (s.extract (k + 2) s.size) ⟨#[45, 45, 62]⟩ w (by simp; omega) hM)
  have HX := idx_bl s ⟨#[45, 45, 62]⟩ (k + 2) (by omega)
  rw [show bl ⟨#[45, 45, 62]⟩ = b3 from by decide] at HX
  simp only [bg0_low b3N b3low] at HX
  rcases HX with ⟨e1, e2⟩ | ⟨i, e1, e2, e3, e4⟩
  · rw [e1] at HI
    have HA : Hid (Alike (bl s) s.size (fbI (bl s) (k + 2) + 3)) := hide (.inr ⟨by rw [unhide hl]; exact Nat.le_refl _, by
      have := fbI_skip (l := bl s) (k := k + 2) (s.size - (k + 2)) (by rw [unhide hl]; omega) (fun j hj => e2 _ (by omega) (by omega))
      rw [this, fbI_end (by rw [unhide hl]; omega), unhide hl]; omega⟩)
    clear e1 e2
    go_enter Tryd.func34, Tryd.ntmps34
    go_wp2_with fail
    refine (unhide HI).mono ?_
    rintro e w1 ⟨rfl, hw⟩
    replace hw := hw.symm
    subst hw
    go_wp2_with fail
    go_ret
    exact ⟨⟨s.size, rfl, unhide HA, by omega⟩, rfl⟩
  · rw [e1] at HI
    have h3 : k + 2 + i + 3 ≤ s.size := by have := bgn_le e3; rw [unhide hl] at this; exact this
    have HA : Hid (Alike (bl s) (k + 2 + i + 3) (fbI (bl s) (k + 2) + 3)) := hide (.inl (by
      rw [fbI_skip (l := bl s) (k := k + 2) i (by rw [unhide hl]; omega) e4, fbI_hit (by rw [unhide hl]; omega) e3]))
    clear e1 e3 e4
    go_enter Tryd.func34, Tryd.ntmps34
    go_wp2_with fail
    refine (unhide HI).mono ?_
    rintro e w1 ⟨rfl, hw⟩
    replace hw := hw.symm
    subst hw
    go_wp2_with fail
    go_ret
    exact ⟨⟨k + 2 + i + 3, ret_int (by omega), unhide HA, by omega⟩, rfl⟩
end Go.Proofs.YtofbghdkmjhniaaDoor
