/- The contracts of the reference's MarkOf, SniffOf, MayOf and IsEncoding: each returns what the plain function of its name computes; nothing is written. -/
import Derived.Test.YthhjfedegbldfadML
import Derived.Test.YthhjfedegbldfadLawT
namespace Go.Proofs.Ythhjfedegbldfad
open Go.RowKit
set_option linter.unusedVariables false

def mkB (n : Int) : ByteArray := if n = 1 then ⟨#[239, 187, 191]⟩ else if n = 2 then ⟨#[255, 254]⟩ else if n = 3 then ⟨#[254, 255]⟩ else ⟨#[]⟩
theorem mkB_bl (n : Int) : bl (mkB n) = M.mkL n := by
  unfold mkB M.mkL
  split
  · decide
  · split
    · decide
    · split <;> decide
set_option maxHeartbeats 400000 in
set_option maxRecDepth 100000 in
theorem markOf_any (n : Int) (w : World) : Calls Try.prog 15 #[.int .i64 n] w fun e w' => e = .returned (.string (mkB n)) ∧ w' = w := by
  unfold mkB
  by_cases h1 : n = 1
  · subst h1
    go_enter Try.func15, Try.ntmps15
    go_wp2
    go_ret
    exact ⟨rfl, rfl⟩
  · by_cases h2 : n = 2
    · subst h2
      go_enter Try.func15, Try.ntmps15
      go_wp2
      go_ret
      exact ⟨rfl, rfl⟩
    · by_cases h3 : n = 3
      · subst h3
        go_enter Try.func15, Try.ntmps15
        go_wp2
        go_ret
        exact ⟨rfl, rfl⟩
      · have e1 : (n == 1) = false := by simpa using h1
        have e2 : (n == 2) = false := by simpa using h2
        have e3 : (n == 3) = false := by simpa using h3
        rw [if_neg h1, if_neg h2, if_neg h3]
        clear h1 h2 h3
        go_enter Try.func15, Try.ntmps15
        go_wp2
        go_ret
        exact ⟨rfl, rfl⟩

/-- A text's comparison with a constant. -/
theorem beq_list8 (u : ByteArray) (ms : List Int) (cs : List UInt8) (hc : (strOfNums ms).toList = cs) (hb : bl (strOfNums ms) = ms) : (u.toList == cs) = decide (bl u = ms) := by
  rw [Bool.eq_iff_iff]
  simp only [beq_iff_eq, decide_eq_true_eq]
  constructor
  · intro h
    have : u = strOfNums ms := by
      apply ByteArray.ext
      apply Array.ext'
      rw [← Lib.toList_data, ← Lib.toList_data, h, hc]
    rw [this, hb]
  · intro h
    have : u = strOfNums ms := by rw [← h, str_bl]
    rw [this, hc]
theorem may_or (l : List Int) : M.may l = (decide (l = []) || (decide (l = [239]) || (decide (l = [239, 187]) || (decide (l = [254]) || decide (l = [255]))))) := by
  unfold M.may
  simp only [Bool.decide_or]
set_option maxHeartbeats 400000 in
set_option maxRecDepth 100000 in
theorem mayOf_any (s : ByteArray) (w : World) (hs : s.size ≤ maxLen) : Calls Try.prog 18 #[.string s] w fun e w' => e = .returned (.bool (M.may (bl s))) ∧ w' = w := by
  have c0 : s.toList.isEmpty = decide (bl s = []) := by
    rw [isEmpty_size, Bool.eq_iff_iff, decide_eq_true_eq, decide_eq_true_eq, ← bl_len, List.length_eq_zero_iff]
  have c1 : (s.toList == ([239] : List UInt8)) = decide (bl s = [239]) := beq_list8 _ _ _ (by rw [Lib.toList_data]; rfl) (by decide)
  have c2 : (s.toList == ([239, 187] : List UInt8)) = decide (bl s = [239, 187]) := beq_list8 _ _ _ (by rw [Lib.toList_data]; rfl) (by decide)
  have c3 : (s.toList == ([254] : List UInt8)) = decide (bl s = [254]) := beq_list8 _ _ _ (by rw [Lib.toList_data]; rfl) (by decide)
  have c4 : (s.toList == ([255] : List UInt8)) = decide (bl s = [255]) := beq_list8 _ _ _ (by rw [Lib.toList_data]; rfl) (by decide)
  rw [may_or]
  generalize decide (bl s = []) = b0 at *
  generalize decide (bl s = [239]) = b1 at *
  generalize decide (bl s = [239, 187]) = b2 at *
  generalize decide (bl s = [254]) = b3 at *
  generalize decide (bl s = [255]) = b4 at *
  cases b0 <;> cases b1 <;> cases b2 <;> cases b3 <;> cases b4
  all_goals
    go_enter Try.func18, Try.ntmps18
    go_wp2
    go_ret
    exact ⟨rfl, rfl⟩

set_option maxHeartbeats 400000 in
set_option maxRecDepth 100000 in
theorem isEncoding_any (n : Int) (w : World) : Calls Try.prog 13 #[.int .i64 n] w fun e w' => e = .returned (.bool (M.enc7 n)) ∧ w' = w := by
  have HE : Hid (M.enc7 n = (decide (1 ≤ n) && decide (n ≤ 7))) := hide (by unfold M.enc7; rw [Bool.decide_and])
  go_enter Try.func13, Try.ntmps13
  go_wp2_with (go_at_call 37; refine (between_any _ _ _ _).mono ?_; rintro e w1 ⟨rfl, hw⟩; replace hw := hw.symm; subst hw)
  go_ret
  exact ⟨by rw [unhide HE]; rfl, rfl⟩

theorem hasP_no {s p : ByteArray} (h : hasP s p = false) : s.size < p.size ∨ (p.size ≤ s.size ∧ ((s.extract 0 p.size).toList == p.toList) = false) := by
  by_cases hz : p.size ≤ s.size
  · exact .inr ⟨hz, by rw [hasP_at s p hz, h]⟩
  · exact .inl (by omega)
theorem hasP_yes {s p : ByteArray} (h : hasP s p = true) : p.size ≤ s.size ∧ ((s.extract 0 p.size).toList == p.toList) = true := by
  by_cases hz : p.size ≤ s.size
  · exact ⟨hz, by rw [hasP_at s p hz, h]⟩
  · rw [hasP_short s p (by omega)] at h; cases h
set_option maxHeartbeats 800000 in
set_option maxRecDepth 100000 in
theorem sniffOf_any (s : ByteArray) (w : World) (hs : s.size ≤ maxLen) : Calls Try.prog 12 #[.string s] w fun e w' => e = .returned (.tuple #[.int .i64 (M.sn (bl s)).1, .int .i64 (M.sn (bl s)).2]) ∧ w' = w := by
  unfold maxLen at hs
  have k1 := fun w => markOf_any 1 w
  have k2 := fun w => markOf_any 2 w
  have k3 := fun w => markOf_any 3 w
  rw [show mkB 1 = ⟨#[239, 187, 191]⟩ from rfl] at k1
  rw [show mkB 2 = ⟨#[255, 254]⟩ from rfl] at k2
  rw [show mkB 3 = ⟨#[254, 255]⟩ from rfl] at k3
  have z1 : (⟨#[239, 187, 191]⟩ : ByteArray).size = 3 := rfl
  have z2 : (⟨#[255, 254]⟩ : ByteArray).size = 2 := rfl
  have z3 : (⟨#[254, 255]⟩ : ByteArray).size = 2 := rfl
  have y1 : (⟨#[239, 187, 191]⟩ : ByteArray).toList = ([239, 187, 191] : List UInt8) := by rw [Lib.toList_data]
  have y2 : (⟨#[255, 254]⟩ : ByteArray).toList = ([255, 254] : List UInt8) := by rw [Lib.toList_data]
  have y3 : (⟨#[254, 255]⟩ : ByteArray).toList = ([254, 255] : List UInt8) := by rw [Lib.toList_data]
  have b1 : bl ⟨#[239, 187, 191]⟩ = [239, 187, 191] := by decide
  have b2 : bl ⟨#[255, 254]⟩ = [255, 254] := by decide
  have b3 : bl ⟨#[254, 255]⟩ = [254, 255] := by decide
  have HS : Hid (M.sn (bl s) = if hasP s ⟨#[239, 187, 191]⟩ then (1, 3) else if hasP s ⟨#[254, 255]⟩ then (3, 2) else if hasP s ⟨#[255, 254]⟩ then (2, 2) else (0, 0)) := hide (by
    unfold M.sn hasP
    simp only [b1, b2, b3, decide_eq_true_eq])
  have HX : Hid (hasP s ⟨#[255, 254]⟩ = true → hasP s ⟨#[254, 255]⟩ = false) := hide (by
    unfold hasP
    rw [b2, b3, decide_eq_true_eq, decide_eq_false_iff_not, M.pre2, M.pre2]
    rintro ⟨t, ht⟩ ⟨u, hu⟩
    rw [ht] at hu; simp at hu)
  cases h1 : hasP s ⟨#[239, 187, 191]⟩
  · have g1 := hasP_no h1
    rw [z1, y1] at g1
    cases h2 : hasP s ⟨#[255, 254]⟩
    · have g2 := hasP_no h2
      rw [z2, y2] at g2
      cases h3 : hasP s ⟨#[254, 255]⟩
      · have g3 := hasP_no h3
        rw [z3, y3] at g3
        have HR : Hid (M.sn (bl s) = (0, 0)) := hide (by rw [unhide HS, h1, h2, h3]; rfl)
        clear HS HX h1 h2 h3 b1 b2 b3 y1 y2 y3
        rcases g1 with g1 | ⟨g1, e1⟩ <;> rcases g2 with g2 | ⟨g2, e2⟩ <;> rcases g3 with g3 | ⟨g3, e3⟩
        all_goals first | (exfalso; omega) | skip
        all_goals
          go_enter Try.func12, Try.ntmps12
          go_wp2_with fail
          refine wp_loop_rounds 4 ?_
          rw [rounds_succ]
          go_wp2_with fail
          refine (k1 _).mono ?_
          rintro e w1 ⟨rfl, hw⟩
          replace hw := hw.symm
          subst hw
          go_wp2_with fail
          rw [rounds_succ]
          go_wp2_with fail
          refine (k2 _).mono ?_
          rintro e w1 ⟨rfl, hw⟩
          replace hw := hw.symm
          subst hw
          go_wp2_with fail
          rw [rounds_succ]
          go_wp2_with fail
          refine (k3 _).mono ?_
          rintro e w1 ⟨rfl, hw⟩
          replace hw := hw.symm
          subst hw
          go_wp2_with fail
          rw [rounds_succ]
          go_wp2_with fail
          go_ret2
          refine ⟨?_, rfl⟩
          rw [unhide HR]
          rfl
      · obtain ⟨g3, e3⟩ := hasP_yes h3
        rw [z3] at g3
        rw [z3, y3] at e3
        have HR : Hid (M.sn (bl s) = (3, 2)) := hide (by rw [unhide HS, h1, h3]; rfl)
        clear HS HX h1 h2 h3 b1 b2 b3 y1 y2 y3
        rcases g1 with g1 | ⟨g1, e1⟩ <;> rcases g2 with g2 | ⟨g2, e2⟩
        all_goals first | (exfalso; omega) | skip
        all_goals
          go_enter Try.func12, Try.ntmps12
          go_wp2_with fail
          refine wp_loop_rounds 4 ?_
          rw [rounds_succ]
          go_wp2_with fail
          refine (k1 _).mono ?_
          rintro e w1 ⟨rfl, hw⟩
          replace hw := hw.symm
          subst hw
          go_wp2_with fail
          rw [rounds_succ]
          go_wp2_with fail
          refine (k2 _).mono ?_
          rintro e w1 ⟨rfl, hw⟩
          replace hw := hw.symm
          subst hw
          go_wp2_with fail
          rw [rounds_succ]
          go_wp2_with fail
          refine (k3 _).mono ?_
          rintro e w1 ⟨rfl, hw⟩
          replace hw := hw.symm
          subst hw
          go_wp2_with fail
          go_ret2
          refine ⟨?_, rfl⟩
          rw [unhide HR]
          rfl
    · obtain ⟨g2, e2⟩ := hasP_yes h2
      rw [z2] at g2
      rw [z2, y2] at e2
      have HR : Hid (M.sn (bl s) = (2, 2)) := hide (by rw [unhide HS, h1, unhide HX h2, h2]; rfl)
      clear HS HX h1 h2 b1 b2 b3 y1 y2 y3
      rcases g1 with g1 | ⟨g1, e1⟩
      all_goals
        go_enter Try.func12, Try.ntmps12
        go_wp2_with fail
        refine wp_loop_rounds 4 ?_
        rw [rounds_succ]
        go_wp2_with fail
        refine (k1 _).mono ?_
        rintro e w1 ⟨rfl, hw⟩
        replace hw := hw.symm
        subst hw
        go_wp2_with fail
        rw [rounds_succ]
        go_wp2_with fail
        refine (k2 _).mono ?_
        rintro e w1 ⟨rfl, hw⟩
        replace hw := hw.symm
        subst hw
        go_wp2_with fail
        go_ret2
        refine ⟨?_, rfl⟩
        rw [unhide HR]
        rfl
  · obtain ⟨g1, e1⟩ := hasP_yes h1
    rw [z1] at g1
    rw [z1, y1] at e1
    have HR : Hid (M.sn (bl s) = (1, 3)) := hide (by rw [unhide HS, h1]; rfl)
    clear HS HX h1 b1 b2 b3 y1 y2 y3
    go_enter Try.func12, Try.ntmps12
    go_wp2_with fail
    refine wp_loop_rounds 4 ?_
    rw [rounds_succ]
    go_wp2_with fail
    refine (k1 _).mono ?_
    rintro e w1 ⟨rfl, hw⟩
    replace hw := hw.symm
    subst hw
    go_wp2_with fail
    go_ret2
    refine ⟨?_, rfl⟩
    rw [unhide HR]
    rfl
end Go.Proofs.Ythhjfedegbldfad
