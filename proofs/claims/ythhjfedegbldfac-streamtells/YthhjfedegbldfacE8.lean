/- The contracts of cartoucheref.isBegun and valueOf: whether bytes begin a scalar, and how many it has; the scalar that bytes tell; nothing that was there is written. Conditions: one to three bytes, or more where all but the last begin a scalar and are not all of it. -/
import Derived.Test.YthhjfedegbldfacLawB
import Derived.Test.YthhjfedegbldfacMathF
namespace Go.Proofs.Ythhjfedegbldfac
open Go.RowKit
set_option linter.unusedVariables false

/-- What isBegun answers. -/
def BegPost (m : List Int) (w : World) (e : Ending) (w' : World) : Prop :=
  ∃ X, e = .returned (.tuple #[.int .i64 X, .bool (M.begOk m)]) ∧ (M.begOk m = true → X = M.bSize (m.headD 0)) ∧ Below w.heap.size w w'

theorem BegPost.mk {m : List Int} {w w' : World} {X : Int} {b : Bool} (hb : M.begOk m = b) (hX : b = true → X = M.bSize (m.headD 0)) (hw : Below w.heap.size w w') : BegPost m w (.returned (.tuple #[.int .i64 X, .bool b])) w' :=
  ⟨X, by rw [hb], fun h => hX (by rw [← hb]; exact h), hw⟩

set_option maxHeartbeats 400000 in
set_option maxRecDepth 100000 in
theorem isBegun_1 (s : ByteArray) (c : Int) (w : World) (hs : s.size = 1) (hc : ((s[0]'(by omega)).toNat : Int) = c) : Calls Try.prog 39 #[.string s] w (BegPost [c] w) := by
  have hc0 : 0 ≤ c ∧ c < 256 := by have := (s[0]'(by omega)).toNat_lt; omega
  rcases (show c < 128 ∨ (128 ≤ c ∧ c < 194) ∨ 244 < c ∨ (194 ≤ c ∧ c ≤ 223) ∨ (224 ≤ c ∧ c ≤ 239) ∨ (240 ≤ c ∧ c ≤ 244) from by omega) with h | ⟨h, h'⟩ | h | ⟨h, h'⟩ | ⟨h, h'⟩ | ⟨h, h'⟩
  all_goals
    go_enter Try.func39, Try.ntmps39
    go_wp2_with (go_at_call 38; refine (between_any _ _ _ _).mono ?_; rintro e w1 ⟨rfl, hw⟩; replace hw := hw.symm; subst hw)
  · go_ret2
    have hz : M.bSize c = 1 := by unfold M.bSize; omega
    exact BegPost.mk (by simp [M.begOk, M.chk, hz]) (fun _ => by simp [hz]) (Below.refl _ _)
  · go_ret2
    have hz : M.bSize c = 0 := by unfold M.bSize; omega
    exact BegPost.mk (by simp [M.begOk, hz]) (fun h => by cases h) (Below.refl _ _)
  · go_ret2
    have hz : M.bSize c = 0 := by unfold M.bSize; omega
    exact BegPost.mk (by simp [M.begOk, hz]) (fun h => by cases h) (Below.refl _ _)
  all_goals
    refine wp_loop_rounds 1 ?_
    rw [rounds_succ]
    go_wp2_with (go_at_call 38; refine (between_any _ _ _ _).mono ?_; rintro e w1 ⟨rfl, hw⟩; replace hw := hw.symm; subst hw)
    go_ret2
  · have hz : M.bSize c = 2 := by unfold M.bSize; omega
    exact BegPost.mk (by simp [M.begOk, M.chk, hz]) (fun _ => by simp [hz]) (Below.refl _ _)
  · have hz : M.bSize c = 3 := by unfold M.bSize; omega
    exact BegPost.mk (by simp [M.begOk, M.chk, hz]) (fun _ => by simp [hz]) (Below.refl _ _)
  · have hz : M.bSize c = 4 := by unfold M.bSize; omega
    exact BegPost.mk (by simp [M.begOk, M.chk, hz]) (fun _ => by simp [hz]) (Below.refl _ _)

set_option maxHeartbeats 1000000 in
set_option maxRecDepth 100000 in
theorem isBegun_2_2 (s : ByteArray) (c c1 : Int) (w : World) (hs : s.size = 2) (hc : ((s[0]'(by omega)).toNat : Int) = c) (hc1 : ((s[1]'(by omega)).toNat : Int) = c1) (hr : 194 ≤ c ∧ c ≤ 223) : Calls Try.prog 39 #[.string s] w (BegPost [c, c1] w) := by
  have hb0 : 0 ≤ c ∧ c < 256 := by have := (s[0]'(by omega)).toNat_lt; omega
  have hb1 : 0 ≤ c1 ∧ c1 < 256 := by have := (s[1]'(by omega)).toNat_lt; omega
  obtain ⟨hr0, hr1⟩ := hr
  have HZ := hide (M.size2 (c := c) (by omega) (by omega))
  by_cases hl : 128 ≤ c1 ∧ c1 ≤ 191
  · obtain ⟨hl0, hl1⟩ := hl
    go_enter Try.func39, Try.ntmps39
    go_wp2_with (go_at_call 38; refine (between_any _ _ _ _).mono ?_; rintro e w1 ⟨rfl, hw⟩; replace hw := hw.symm; subst hw)
    refine wp_loop_rounds 2 ?_
    rw [rounds_succ]
    go_wp2_with (go_at_call 38; refine (between_any _ _ _ _).mono ?_; rintro e w1 ⟨rfl, hw⟩; replace hw := hw.symm; subst hw)
    rw [rounds_succ]
    go_wp2_with (go_at_call 38; refine (between_any _ _ _ _).mono ?_; rintro e w1 ⟨rfl, hw⟩; replace hw := hw.symm; subst hw)
    refine wp_loop_rounds 2 ?_
    rw [rounds_succ]
    go_wp2_with (go_at_call 38; refine (between_any _ _ _ _).mono ?_; rintro e w1 ⟨rfl, hw⟩; replace hw := hw.symm; subst hw)
    rw [rounds_succ]
    go_wp2_with (go_at_call 38; refine (between_any _ _ _ _).mono ?_; rintro e w1 ⟨rfl, hw⟩; replace hw := hw.symm; subst hw)
    refine wp_loop_rounds 1 ?_
    rw [rounds_succ]
    go_wp2_with (go_at_call 38; refine (between_any _ _ _ _).mono ?_; rintro e w1 ⟨rfl, hw⟩; replace hw := hw.symm; subst hw)
    all_goals
      go_ret2
      refine BegPost.mk ?_ (fun _ => (unhide HZ).1.symm) (Below.refl _ _ |>.alloc (Nat.le_refl _) _)
      have := unhide HZ
      rw [Bool.eq_iff_iff]
      simp [M.begOk, M.chk]
      omega
  · have hd : (decide (128 ≤ c1) && decide (c1 ≤ 191)) = false := by simp; omega
    have HL := hide hl
    clear hl
    go_enter Try.func39, Try.ntmps39
    go_wp2_with (go_at_call 38; refine (between_any _ _ _ _).mono ?_; rintro e w1 ⟨rfl, hw⟩; replace hw := hw.symm; subst hw)
    refine wp_loop_rounds 2 ?_
    rw [rounds_succ]
    go_wp2_with (go_at_call 38; refine (between_any _ _ _ _).mono ?_; rintro e w1 ⟨rfl, hw⟩; replace hw := hw.symm; subst hw)
    go_ret2
    refine BegPost.mk ?_ (fun h => by cases h) (Below.refl _ _)
    have := unhide HZ
    have := unhide HL
    simp [M.begOk, M.chk]
    omega

set_option maxHeartbeats 1000000 in
set_option maxRecDepth 100000 in
theorem isBegun_2_3 (s : ByteArray) (c c1 : Int) (w : World) (hs : s.size = 2) (hc : ((s[0]'(by omega)).toNat : Int) = c) (hc1 : ((s[1]'(by omega)).toNat : Int) = c1) (hr : 224 ≤ c ∧ c ≤ 239) : Calls Try.prog 39 #[.string s] w (BegPost [c, c1] w) := by
  have hb0 : 0 ≤ c ∧ c < 256 := by have := (s[0]'(by omega)).toNat_lt; omega
  have hb1 : 0 ≤ c1 ∧ c1 < 256 := by have := (s[1]'(by omega)).toNat_lt; omega
  obtain ⟨hr0, hr1⟩ := hr
  have HZ := hide (M.size3 (c := c) (by omega) (by omega))
  by_cases hl : 128 ≤ c1 ∧ c1 ≤ 191
  · obtain ⟨hl0, hl1⟩ := hl
    go_enter Try.func39, Try.ntmps39
    go_wp2_with (go_at_call 38; refine (between_any _ _ _ _).mono ?_; rintro e w1 ⟨rfl, hw⟩; replace hw := hw.symm; subst hw)
    refine wp_loop_rounds 2 ?_
    rw [rounds_succ]
    go_wp2_with (go_at_call 38; refine (between_any _ _ _ _).mono ?_; rintro e w1 ⟨rfl, hw⟩; replace hw := hw.symm; subst hw)
    rw [rounds_succ]
    go_wp2_with (go_at_call 38; refine (between_any _ _ _ _).mono ?_; rintro e w1 ⟨rfl, hw⟩; replace hw := hw.symm; subst hw)
    refine wp_loop_rounds 2 ?_
    rw [rounds_succ]
    go_wp2_with (go_at_call 38; refine (between_any _ _ _ _).mono ?_; rintro e w1 ⟨rfl, hw⟩; replace hw := hw.symm; subst hw)
    rw [rounds_succ]
    go_wp2_with (go_at_call 38; refine (between_any _ _ _ _).mono ?_; rintro e w1 ⟨rfl, hw⟩; replace hw := hw.symm; subst hw)
    refine wp_loop_rounds 2 ?_
    rw [rounds_succ]
    go_wp2_with (go_at_call 38; refine (between_any _ _ _ _).mono ?_; rintro e w1 ⟨rfl, hw⟩; replace hw := hw.symm; subst hw)
    rw [rounds_succ]
    go_wp2_with (go_at_call 38; refine (between_any _ _ _ _).mono ?_; rintro e w1 ⟨rfl, hw⟩; replace hw := hw.symm; subst hw)
    all_goals
      go_ret2
      refine BegPost.mk ?_ (fun _ => (unhide HZ).1.symm) (Below.refl _ _ |>.alloc (Nat.le_refl _) _)
      have := unhide HZ
      rw [Bool.eq_iff_iff]
      simp [M.begOk, M.chk]
      omega
  · have hd : (decide (128 ≤ c1) && decide (c1 ≤ 191)) = false := by simp; omega
    have HL := hide hl
    clear hl
    go_enter Try.func39, Try.ntmps39
    go_wp2_with (go_at_call 38; refine (between_any _ _ _ _).mono ?_; rintro e w1 ⟨rfl, hw⟩; replace hw := hw.symm; subst hw)
    refine wp_loop_rounds 2 ?_
    rw [rounds_succ]
    go_wp2_with (go_at_call 38; refine (between_any _ _ _ _).mono ?_; rintro e w1 ⟨rfl, hw⟩; replace hw := hw.symm; subst hw)
    go_ret2
    refine BegPost.mk ?_ (fun h => by cases h) (Below.refl _ _)
    have := unhide HZ
    have := unhide HL
    simp [M.begOk, M.chk]
    omega

set_option maxHeartbeats 1000000 in
set_option maxRecDepth 100000 in
theorem isBegun_2_4 (s : ByteArray) (c c1 : Int) (w : World) (hs : s.size = 2) (hc : ((s[0]'(by omega)).toNat : Int) = c) (hc1 : ((s[1]'(by omega)).toNat : Int) = c1) (hr : 240 ≤ c ∧ c ≤ 244) : Calls Try.prog 39 #[.string s] w (BegPost [c, c1] w) := by
  have hb0 : 0 ≤ c ∧ c < 256 := by have := (s[0]'(by omega)).toNat_lt; omega
  have hb1 : 0 ≤ c1 ∧ c1 < 256 := by have := (s[1]'(by omega)).toNat_lt; omega
  obtain ⟨hr0, hr1⟩ := hr
  have HZ := hide (M.size4 (c := c) (by omega) (by omega))
  by_cases hl : 128 ≤ c1 ∧ c1 ≤ 191
  · obtain ⟨hl0, hl1⟩ := hl
    go_enter Try.func39, Try.ntmps39
    go_wp2_with (go_at_call 38; refine (between_any _ _ _ _).mono ?_; rintro e w1 ⟨rfl, hw⟩; replace hw := hw.symm; subst hw)
    refine wp_loop_rounds 2 ?_
    rw [rounds_succ]
    go_wp2_with (go_at_call 38; refine (between_any _ _ _ _).mono ?_; rintro e w1 ⟨rfl, hw⟩; replace hw := hw.symm; subst hw)
    rw [rounds_succ]
    go_wp2_with (go_at_call 38; refine (between_any _ _ _ _).mono ?_; rintro e w1 ⟨rfl, hw⟩; replace hw := hw.symm; subst hw)
    refine wp_loop_rounds 2 ?_
    rw [rounds_succ]
    go_wp2_with (go_at_call 38; refine (between_any _ _ _ _).mono ?_; rintro e w1 ⟨rfl, hw⟩; replace hw := hw.symm; subst hw)
    rw [rounds_succ]
    go_wp2_with (go_at_call 38; refine (between_any _ _ _ _).mono ?_; rintro e w1 ⟨rfl, hw⟩; replace hw := hw.symm; subst hw)
    refine wp_loop_rounds 3 ?_
    rw [rounds_succ]
    go_wp2_with (go_at_call 38; refine (between_any _ _ _ _).mono ?_; rintro e w1 ⟨rfl, hw⟩; replace hw := hw.symm; subst hw)
    rw [rounds_succ]
    go_wp2_with (go_at_call 38; refine (between_any _ _ _ _).mono ?_; rintro e w1 ⟨rfl, hw⟩; replace hw := hw.symm; subst hw)
    rw [rounds_succ]
    go_wp2_with (go_at_call 38; refine (between_any _ _ _ _).mono ?_; rintro e w1 ⟨rfl, hw⟩; replace hw := hw.symm; subst hw)
    all_goals
      go_ret2
      refine BegPost.mk ?_ (fun _ => (unhide HZ).1.symm) (Below.refl _ _ |>.alloc (Nat.le_refl _) _)
      have := unhide HZ
      rw [Bool.eq_iff_iff]
      simp [M.begOk, M.chk]
      omega
  · have hd : (decide (128 ≤ c1) && decide (c1 ≤ 191)) = false := by simp; omega
    have HL := hide hl
    clear hl
    go_enter Try.func39, Try.ntmps39
    go_wp2_with (go_at_call 38; refine (between_any _ _ _ _).mono ?_; rintro e w1 ⟨rfl, hw⟩; replace hw := hw.symm; subst hw)
    refine wp_loop_rounds 2 ?_
    rw [rounds_succ]
    go_wp2_with (go_at_call 38; refine (between_any _ _ _ _).mono ?_; rintro e w1 ⟨rfl, hw⟩; replace hw := hw.symm; subst hw)
    go_ret2
    refine BegPost.mk ?_ (fun h => by cases h) (Below.refl _ _)
    have := unhide HZ
    have := unhide HL
    simp [M.begOk, M.chk]
    omega

set_option maxHeartbeats 1000000 in
set_option maxRecDepth 100000 in
theorem isBegun_3_3 (s : ByteArray) (c c1 c2 : Int) (w : World) (hs : s.size = 3) (hc : ((s[0]'(by omega)).toNat : Int) = c) (hc1 : ((s[1]'(by omega)).toNat : Int) = c1) (hc2 : ((s[2]'(by omega)).toNat : Int) = c2) (hr : 224 ≤ c ∧ c ≤ 239) : Calls Try.prog 39 #[.string s] w (BegPost [c, c1, c2] w) := by
  have hb0 : 0 ≤ c ∧ c < 256 := by have := (s[0]'(by omega)).toNat_lt; omega
  have hb1 : 0 ≤ c1 ∧ c1 < 256 := by have := (s[1]'(by omega)).toNat_lt; omega
  have hb2 : 0 ≤ c2 ∧ c2 < 256 := by have := (s[2]'(by omega)).toNat_lt; omega
  obtain ⟨hr0, hr1⟩ := hr
  have HZ := hide (M.size3 (c := c) (by omega) (by omega))
  by_cases g1' : 128 ≤ c1 ∧ c1 ≤ 191
  rotate_left
  · have hd : (decide (128 ≤ c1) && decide (c1 ≤ 191)) = false := by simp; omega
    have HL := hide g1'
    clear g1'
    go_enter Try.func39, Try.ntmps39
    go_wp2_with (go_at_call 38; refine (between_any _ _ _ _).mono ?_; rintro e w1 ⟨rfl, hw⟩; replace hw := hw.symm; subst hw)
    refine wp_loop_rounds 3 ?_
    rw [rounds_succ]
    go_wp2_with (go_at_call 38; refine (between_any _ _ _ _).mono ?_; rintro e w1 ⟨rfl, hw⟩; replace hw := hw.symm; subst hw)
    go_ret2
    refine BegPost.mk ?_ (fun h => by cases h) (Below.refl _ _)
    have := unhide HZ
    have := unhide HL
    simp [M.begOk, M.chk]
    omega
  obtain ⟨g10, g11⟩ := g1'
  by_cases hl : 128 ≤ c2 ∧ c2 ≤ 191
  · obtain ⟨hl0, hl1⟩ := hl
    go_enter Try.func39, Try.ntmps39
    go_wp2_with (go_at_call 38; refine (between_any _ _ _ _).mono ?_; rintro e w1 ⟨rfl, hw⟩; replace hw := hw.symm; subst hw)
    refine wp_loop_rounds 3 ?_
    rw [rounds_succ]
    go_wp2_with (go_at_call 38; refine (between_any _ _ _ _).mono ?_; rintro e w1 ⟨rfl, hw⟩; replace hw := hw.symm; subst hw)
    rw [rounds_succ]
    go_wp2_with (go_at_call 38; refine (between_any _ _ _ _).mono ?_; rintro e w1 ⟨rfl, hw⟩; replace hw := hw.symm; subst hw)
    rw [rounds_succ]
    go_wp2_with (go_at_call 38; refine (between_any _ _ _ _).mono ?_; rintro e w1 ⟨rfl, hw⟩; replace hw := hw.symm; subst hw)
    refine wp_loop_rounds 3 ?_
    rw [rounds_succ]
    go_wp2_with (go_at_call 38; refine (between_any _ _ _ _).mono ?_; rintro e w1 ⟨rfl, hw⟩; replace hw := hw.symm; subst hw)
    rw [rounds_succ]
    go_wp2_with (go_at_call 38; refine (between_any _ _ _ _).mono ?_; rintro e w1 ⟨rfl, hw⟩; replace hw := hw.symm; subst hw)
    rw [rounds_succ]
    go_wp2_with (go_at_call 38; refine (between_any _ _ _ _).mono ?_; rintro e w1 ⟨rfl, hw⟩; replace hw := hw.symm; subst hw)
    refine wp_loop_rounds 1 ?_
    rw [rounds_succ]
    go_wp2_with (go_at_call 38; refine (between_any _ _ _ _).mono ?_; rintro e w1 ⟨rfl, hw⟩; replace hw := hw.symm; subst hw)
    all_goals
      go_ret2
      refine BegPost.mk ?_ (fun _ => (unhide HZ).1.symm) (Below.refl _ _ |>.alloc (Nat.le_refl _) _)
      have := unhide HZ
      rw [Bool.eq_iff_iff]
      simp [M.begOk, M.chk]
      omega
  · have hd : (decide (128 ≤ c2) && decide (c2 ≤ 191)) = false := by simp; omega
    have HL := hide hl
    clear hl
    go_enter Try.func39, Try.ntmps39
    go_wp2_with (go_at_call 38; refine (between_any _ _ _ _).mono ?_; rintro e w1 ⟨rfl, hw⟩; replace hw := hw.symm; subst hw)
    refine wp_loop_rounds 3 ?_
    rw [rounds_succ]
    go_wp2_with (go_at_call 38; refine (between_any _ _ _ _).mono ?_; rintro e w1 ⟨rfl, hw⟩; replace hw := hw.symm; subst hw)
    rw [rounds_succ]
    go_wp2_with (go_at_call 38; refine (between_any _ _ _ _).mono ?_; rintro e w1 ⟨rfl, hw⟩; replace hw := hw.symm; subst hw)
    go_ret2
    refine BegPost.mk ?_ (fun h => by cases h) (Below.refl _ _)
    have := unhide HZ
    have := unhide HL
    simp [M.begOk, M.chk]
    omega

set_option maxHeartbeats 1000000 in
set_option maxRecDepth 100000 in
theorem isBegun_3_4 (s : ByteArray) (c c1 c2 : Int) (w : World) (hs : s.size = 3) (hc : ((s[0]'(by omega)).toNat : Int) = c) (hc1 : ((s[1]'(by omega)).toNat : Int) = c1) (hc2 : ((s[2]'(by omega)).toNat : Int) = c2) (hr : 240 ≤ c ∧ c ≤ 244) : Calls Try.prog 39 #[.string s] w (BegPost [c, c1, c2] w) := by
  have hb0 : 0 ≤ c ∧ c < 256 := by have := (s[0]'(by omega)).toNat_lt; omega
  have hb1 : 0 ≤ c1 ∧ c1 < 256 := by have := (s[1]'(by omega)).toNat_lt; omega
  have hb2 : 0 ≤ c2 ∧ c2 < 256 := by have := (s[2]'(by omega)).toNat_lt; omega
  obtain ⟨hr0, hr1⟩ := hr
  have HZ := hide (M.size4 (c := c) (by omega) (by omega))
  by_cases g1' : 128 ≤ c1 ∧ c1 ≤ 191
  rotate_left
  · have hd : (decide (128 ≤ c1) && decide (c1 ≤ 191)) = false := by simp; omega
    have HL := hide g1'
    clear g1'
    go_enter Try.func39, Try.ntmps39
    go_wp2_with (go_at_call 38; refine (between_any _ _ _ _).mono ?_; rintro e w1 ⟨rfl, hw⟩; replace hw := hw.symm; subst hw)
    refine wp_loop_rounds 3 ?_
    rw [rounds_succ]
    go_wp2_with (go_at_call 38; refine (between_any _ _ _ _).mono ?_; rintro e w1 ⟨rfl, hw⟩; replace hw := hw.symm; subst hw)
    go_ret2
    refine BegPost.mk ?_ (fun h => by cases h) (Below.refl _ _)
    have := unhide HZ
    have := unhide HL
    simp [M.begOk, M.chk]
    omega
  obtain ⟨g10, g11⟩ := g1'
  by_cases hl : 128 ≤ c2 ∧ c2 ≤ 191
  · obtain ⟨hl0, hl1⟩ := hl
    go_enter Try.func39, Try.ntmps39
    go_wp2_with (go_at_call 38; refine (between_any _ _ _ _).mono ?_; rintro e w1 ⟨rfl, hw⟩; replace hw := hw.symm; subst hw)
    refine wp_loop_rounds 3 ?_
    rw [rounds_succ]
    go_wp2_with (go_at_call 38; refine (between_any _ _ _ _).mono ?_; rintro e w1 ⟨rfl, hw⟩; replace hw := hw.symm; subst hw)
    rw [rounds_succ]
    go_wp2_with (go_at_call 38; refine (between_any _ _ _ _).mono ?_; rintro e w1 ⟨rfl, hw⟩; replace hw := hw.symm; subst hw)
    rw [rounds_succ]
    go_wp2_with (go_at_call 38; refine (between_any _ _ _ _).mono ?_; rintro e w1 ⟨rfl, hw⟩; replace hw := hw.symm; subst hw)
    refine wp_loop_rounds 3 ?_
    rw [rounds_succ]
    go_wp2_with (go_at_call 38; refine (between_any _ _ _ _).mono ?_; rintro e w1 ⟨rfl, hw⟩; replace hw := hw.symm; subst hw)
    rw [rounds_succ]
    go_wp2_with (go_at_call 38; refine (between_any _ _ _ _).mono ?_; rintro e w1 ⟨rfl, hw⟩; replace hw := hw.symm; subst hw)
    rw [rounds_succ]
    go_wp2_with (go_at_call 38; refine (between_any _ _ _ _).mono ?_; rintro e w1 ⟨rfl, hw⟩; replace hw := hw.symm; subst hw)
    refine wp_loop_rounds 2 ?_
    rw [rounds_succ]
    go_wp2_with (go_at_call 38; refine (between_any _ _ _ _).mono ?_; rintro e w1 ⟨rfl, hw⟩; replace hw := hw.symm; subst hw)
    rw [rounds_succ]
    go_wp2_with (go_at_call 38; refine (between_any _ _ _ _).mono ?_; rintro e w1 ⟨rfl, hw⟩; replace hw := hw.symm; subst hw)
    all_goals
      go_ret2
      refine BegPost.mk ?_ (fun _ => (unhide HZ).1.symm) (Below.refl _ _ |>.alloc (Nat.le_refl _) _)
      have := unhide HZ
      rw [Bool.eq_iff_iff]
      simp [M.begOk, M.chk]
      omega
  · have hd : (decide (128 ≤ c2) && decide (c2 ≤ 191)) = false := by simp; omega
    have HL := hide hl
    clear hl
    go_enter Try.func39, Try.ntmps39
    go_wp2_with (go_at_call 38; refine (between_any _ _ _ _).mono ?_; rintro e w1 ⟨rfl, hw⟩; replace hw := hw.symm; subst hw)
    refine wp_loop_rounds 3 ?_
    rw [rounds_succ]
    go_wp2_with (go_at_call 38; refine (between_any _ _ _ _).mono ?_; rintro e w1 ⟨rfl, hw⟩; replace hw := hw.symm; subst hw)
    rw [rounds_succ]
    go_wp2_with (go_at_call 38; refine (between_any _ _ _ _).mono ?_; rintro e w1 ⟨rfl, hw⟩; replace hw := hw.symm; subst hw)
    go_ret2
    refine BegPost.mk ?_ (fun h => by cases h) (Below.refl _ _)
    have := unhide HZ
    have := unhide HL
    simp [M.begOk, M.chk]
    omega

set_option maxHeartbeats 1000000 in
set_option maxRecDepth 100000 in
theorem isBegun_4_4 (s : ByteArray) (c c1 c2 c3 : Int) (w : World) (hs : s.size = 4) (hc : ((s[0]'(by omega)).toNat : Int) = c) (hc1 : ((s[1]'(by omega)).toNat : Int) = c1) (hc2 : ((s[2]'(by omega)).toNat : Int) = c2) (hc3 : ((s[3]'(by omega)).toNat : Int) = c3) (hr : 240 ≤ c ∧ c ≤ 244) (g1 : M.bLow c ≤ c1 ∧ c1 ≤ M.bHigh c) (g2 : 128 ≤ c2 ∧ c2 ≤ 191) : Calls Try.prog 39 #[.string s] w (BegPost [c, c1, c2, c3] w) := by
  have hb0 : 0 ≤ c ∧ c < 256 := by have := (s[0]'(by omega)).toNat_lt; omega
  have hb1 : 0 ≤ c1 ∧ c1 < 256 := by have := (s[1]'(by omega)).toNat_lt; omega
  have hb2 : 0 ≤ c2 ∧ c2 < 256 := by have := (s[2]'(by omega)).toNat_lt; omega
  have hb3 : 0 ≤ c3 ∧ c3 < 256 := by have := (s[3]'(by omega)).toNat_lt; omega
  obtain ⟨hr0, hr1⟩ := hr
  have HZ := hide (M.size4 (c := c) (by omega) (by omega))
  have g1' : 128 ≤ c1 ∧ c1 ≤ 191 := by have := unhide HZ; omega
  have G1 := hide g1
  obtain ⟨g10, g11⟩ := g1'
  clear g1
  obtain ⟨g20, g21⟩ := g2
  by_cases hl : 128 ≤ c3 ∧ c3 ≤ 191
  · obtain ⟨hl0, hl1⟩ := hl
    go_enter Try.func39, Try.ntmps39
    go_wp2_with (go_at_call 38; refine (between_any _ _ _ _).mono ?_; rintro e w1 ⟨rfl, hw⟩; replace hw := hw.symm; subst hw)
    refine wp_loop_rounds 4 ?_
    rw [rounds_succ]
    go_wp2_with (go_at_call 38; refine (between_any _ _ _ _).mono ?_; rintro e w1 ⟨rfl, hw⟩; replace hw := hw.symm; subst hw)
    rw [rounds_succ]
    go_wp2_with (go_at_call 38; refine (between_any _ _ _ _).mono ?_; rintro e w1 ⟨rfl, hw⟩; replace hw := hw.symm; subst hw)
    rw [rounds_succ]
    go_wp2_with (go_at_call 38; refine (between_any _ _ _ _).mono ?_; rintro e w1 ⟨rfl, hw⟩; replace hw := hw.symm; subst hw)
    rw [rounds_succ]
    go_wp2_with (go_at_call 38; refine (between_any _ _ _ _).mono ?_; rintro e w1 ⟨rfl, hw⟩; replace hw := hw.symm; subst hw)
    refine wp_loop_rounds 4 ?_
    rw [rounds_succ]
    go_wp2_with (go_at_call 38; refine (between_any _ _ _ _).mono ?_; rintro e w1 ⟨rfl, hw⟩; replace hw := hw.symm; subst hw)
    rw [rounds_succ]
    go_wp2_with (go_at_call 38; refine (between_any _ _ _ _).mono ?_; rintro e w1 ⟨rfl, hw⟩; replace hw := hw.symm; subst hw)
    rw [rounds_succ]
    go_wp2_with (go_at_call 38; refine (between_any _ _ _ _).mono ?_; rintro e w1 ⟨rfl, hw⟩; replace hw := hw.symm; subst hw)
    rw [rounds_succ]
    go_wp2_with (go_at_call 38; refine (between_any _ _ _ _).mono ?_; rintro e w1 ⟨rfl, hw⟩; replace hw := hw.symm; subst hw)
    refine wp_loop_rounds 1 ?_
    rw [rounds_succ]
    go_wp2_with (go_at_call 38; refine (between_any _ _ _ _).mono ?_; rintro e w1 ⟨rfl, hw⟩; replace hw := hw.symm; subst hw)
    all_goals
      go_ret2
      refine BegPost.mk ?_ (fun _ => (unhide HZ).1.symm) (Below.refl _ _ |>.alloc (Nat.le_refl _) _)
      have := unhide HZ
      have := unhide G1
      rw [Bool.eq_iff_iff]
      simp [M.begOk, M.chk]
      omega
  · have hd : (decide (128 ≤ c3) && decide (c3 ≤ 191)) = false := by simp; omega
    have HL := hide hl
    clear hl
    go_enter Try.func39, Try.ntmps39
    go_wp2_with (go_at_call 38; refine (between_any _ _ _ _).mono ?_; rintro e w1 ⟨rfl, hw⟩; replace hw := hw.symm; subst hw)
    refine wp_loop_rounds 4 ?_
    rw [rounds_succ]
    go_wp2_with (go_at_call 38; refine (between_any _ _ _ _).mono ?_; rintro e w1 ⟨rfl, hw⟩; replace hw := hw.symm; subst hw)
    rw [rounds_succ]
    go_wp2_with (go_at_call 38; refine (between_any _ _ _ _).mono ?_; rintro e w1 ⟨rfl, hw⟩; replace hw := hw.symm; subst hw)
    rw [rounds_succ]
    go_wp2_with (go_at_call 38; refine (between_any _ _ _ _).mono ?_; rintro e w1 ⟨rfl, hw⟩; replace hw := hw.symm; subst hw)
    go_ret2
    refine BegPost.mk ?_ (fun h => by cases h) (Below.refl _ _)
    have := unhide HZ
    have := unhide HL
    simp [M.begOk, M.chk]
    omega

set_option maxHeartbeats 400000 in
set_option maxRecDepth 100000 in
theorem isBegun_none (s : ByteArray) (c : Int) (m : List Int) (w : World) (hs : 2 ≤ s.size) (hs3 : s.size ≤ 3) (hc : ((s[0]'(by omega)).toNat : Int) = c) (hm : M.begOk m = false) (h : c < 128 ∨ (128 ≤ c ∧ c < 194) ∨ 244 < c ∨ (194 ≤ c ∧ c ≤ 223 ∧ s.size = 3)) : Calls Try.prog 39 #[.string s] w (BegPost m w) := by
  have hc0 : 0 ≤ c ∧ c < 256 := by have := (s[0]'(by omega)).toNat_lt; omega
  have hsI : (2 : Int) ≤ (s.size : Int) := by omega
  have hs1 : ((s.size : Int) == 1) = false := by simp; omega
  rcases h with h | ⟨h, h'⟩ | h | ⟨h, h', h3⟩
  all_goals
    try have hs2 : (2 : Int) < (s.size : Int) := by omega
    go_enter Try.func39, Try.ntmps39
    go_wp2_with (go_at_call 38; refine (between_any _ _ _ _).mono ?_; rintro e w1 ⟨rfl, hw⟩; replace hw := hw.symm; subst hw)
    go_ret2
    exact BegPost.mk hm (fun h => by cases h) (Below.refl _ _)

theorem isBegun_list (s : ByteArray) (m : List Int) (w : World) (hm : bl s = m) (hne : m ≠ []) (hp : m.dropLast = [] ∨ (M.begOk m.dropLast = true ∧ (m.dropLast.length : Int) ≠ M.bSize (m.headD 0))) :
    Calls Try.prog 39 #[.string s] w (BegPost m w) := by
  have hsz : s.size = m.length := by rw [← hm, bl_len]
  have hget : ∀ (i : Nat) (h : i < s.size), m[i]? = some (s[i].toNat : Int) := fun i h => by rw [← hm]; exact bl_get s i h
  clear hm
  match m, hne, hp, hsz, hget with
  | [c], _, hp, hsz, hget =>
    simp at hsz
    have h0 := hget 0 (by omega)
    simp at h0
    exact isBegun_1 s c w hsz h0.symm
  | [c, c1], _, hp, hsz, hget =>
    simp at hsz
    have h0 := hget 0 (by omega)
    have h1 := hget 1 (by omega)
    simp at h0 h1
    rcases hp with hp | ⟨hp, hq⟩
    · simp at hp
    · simp [M.begOk, M.chk] at hp hq
      have hb := M.bSize_bd c
      have hz : (194 ≤ c ∧ c ≤ 223) ∨ (224 ≤ c ∧ c ≤ 239) ∨ (240 ≤ c ∧ c ≤ 244) := by unfold M.bSize at hp hq; omega
      rcases hz with hz | hz | hz
      · exact isBegun_2_2 s c c1 w hsz h0.symm h1.symm hz
      · exact isBegun_2_3 s c c1 w hsz h0.symm h1.symm hz
      · exact isBegun_2_4 s c c1 w hsz h0.symm h1.symm hz
  | [c, c1, c2], _, hp, hsz, hget =>
    simp at hsz
    have h0 := hget 0 (by omega)
    have h1 := hget 1 (by omega)
    have h2 := hget 2 (by omega)
    simp at h0 h1 h2
    rcases hp with hp | ⟨hp, hq⟩
    · simp at hp
    · simp [M.begOk, M.chk] at hp hq
      have hb := M.bSize_bd c
      have hz : (224 ≤ c ∧ c ≤ 239) ∨ (240 ≤ c ∧ c ≤ 244) := by unfold M.bSize at hp hq; omega
      rcases hz with hz | hz
      · exact isBegun_3_3 s c c1 c2 w hsz h0.symm h1.symm h2.symm hz
      · exact isBegun_3_4 s c c1 c2 w hsz h0.symm h1.symm h2.symm hz
  | [c, c1, c2, c3], _, hp, hsz, hget =>
    simp at hsz
    have h0 := hget 0 (by omega)
    have h1 := hget 1 (by omega)
    have h2 := hget 2 (by omega)
    have h3 := hget 3 (by omega)
    simp at h0 h1 h2 h3
    rcases hp with hp | ⟨hp, hq⟩
    · simp at hp
    · simp [M.begOk, M.chk] at hp hq
      have hz : (240 ≤ c ∧ c ≤ 244) := by unfold M.bSize at hp hq; omega
      exact isBegun_4_4 s c c1 c2 c3 w hsz h0.symm h1.symm h2.symm h3.symm hz hp.2.1 hp.2.2
  | c :: c1 :: c2 :: c3 :: c4 :: t, _, hp, hsz, hget =>
    exfalso
    have hb := M.bSize_bd c
    rcases hp with hp | ⟨hp, hq⟩
    · simp at hp
    · simp only [List.dropLast_cons_cons, M.begOk, Bool.and_eq_true, decide_eq_true_eq, List.headD_cons, List.length_cons] at hp hq
      omega

/-- One to three bytes, whatever they are. -/
theorem isBegun_few (s : ByteArray) (w : World) (h1 : 1 ≤ s.size) (h3 : s.size ≤ 3) : Calls Try.prog 39 #[.string s] w (BegPost (bl s) w) := by
  obtain ⟨m, hm⟩ : ∃ m, bl s = m := ⟨_, rfl⟩
  have hsz : s.size = m.length := by rw [← hm, bl_len]
  have hget : ∀ (i : Nat) (h : i < s.size), m[i]? = some (s[i].toNat : Int) := fun i h => by rw [← hm]; exact bl_get s i h
  rw [hm]
  clear hm
  match m, hsz, hget with
  | [], hsz, hget => simp only [List.length_nil] at hsz; omega
  | [c], hsz, hget =>
    simp at hsz
    have h0 := hget 0 (by omega)
    simp at h0
    exact isBegun_1 s c w hsz h0.symm
  | [c, c1], hsz, hget =>
    simp at hsz
    have h0 := hget 0 (by omega)
    have h1 := hget 1 (by omega)
    simp at h0 h1
    have hb := M.bSize_bd c
    have hc0 : 0 ≤ c ∧ c < 256 := by have := (s[0]'(by omega)).toNat_lt; omega
    rcases (show (c < 128 ∨ (128 ≤ c ∧ c < 194) ∨ 244 < c) ∨ (194 ≤ c ∧ c ≤ 223) ∨ (224 ≤ c ∧ c ≤ 239) ∨ (240 ≤ c ∧ c ≤ 244) from by omega) with h | h | h | h
    · have hz : M.bSize c = 0 ∨ M.bSize c = 1 := by unfold M.bSize; omega
      exact isBegun_none s c _ w (by omega) (by omega) h0.symm (by simp [M.begOk]; omega) (by omega)
    · exact isBegun_2_2 s c c1 w hsz h0.symm h1.symm h
    · exact isBegun_2_3 s c c1 w hsz h0.symm h1.symm h
    · exact isBegun_2_4 s c c1 w hsz h0.symm h1.symm h
  | [c, c1, c2], hsz, hget =>
    simp at hsz
    have h0 := hget 0 (by omega)
    have h1 := hget 1 (by omega)
    have h2 := hget 2 (by omega)
    simp at h0 h1 h2
    have hb := M.bSize_bd c
    have hc0 : 0 ≤ c ∧ c < 256 := by have := (s[0]'(by omega)).toNat_lt; omega
    rcases (show (c < 128 ∨ (128 ≤ c ∧ c < 194) ∨ 244 < c ∨ (194 ≤ c ∧ c ≤ 223)) ∨ (224 ≤ c ∧ c ≤ 239) ∨ (240 ≤ c ∧ c ≤ 244) from by omega) with h | h | h
    · have hz : M.bSize c = 0 ∨ M.bSize c = 1 ∨ M.bSize c = 2 := by unfold M.bSize; omega
      exact isBegun_none s c _ w (by omega) (by omega) h0.symm (by simp [M.begOk]; omega) (by omega)
    · exact isBegun_3_3 s c c1 c2 w hsz h0.symm h1.symm h2.symm h
    · exact isBegun_3_4 s c c1 c2 w hsz h0.symm h1.symm h2.symm h
  | c :: c1 :: c2 :: c3 :: t, hsz, hget => simp at hsz; omega

set_option maxHeartbeats 400000 in
set_option maxRecDepth 100000 in
theorem valueOf_1 (s : ByteArray) (c : Int) (w : World) (hs : s.size = 1) (hc : ((s[0]'(by omega)).toNat : Int) = c) : Calls Try.prog 60 #[.string s] w fun e w' => e = .returned (.int .i64 c) ∧ Below w.heap.size w w' := by
  have hb0 : 0 ≤ c ∧ c < 256 := by have := (s[0]'(by omega)).toNat_lt; omega
  go_enter Try.func60, Try.ntmps60
  go_wp2
  go_ret
  exact ⟨rfl, Below.refl _ _⟩
set_option maxHeartbeats 1000000 in
set_option maxRecDepth 100000 in
theorem valueOf_2 (s : ByteArray) (c c1 : Int) (w : World) (hs : s.size = 2) (hc : ((s[0]'(by omega)).toNat : Int) = c) (hc1 : ((s[1]'(by omega)).toNat : Int) = c1) : Calls Try.prog 60 #[.string s] w fun e w' => e = .returned (.int .i64 (M.val (c % 32) [c1])) ∧ Below w.heap.size w w' := by
  have hb0 : 0 ≤ c ∧ c < 256 := by have := (s[0]'(by omega)).toNat_lt; omega
  have hb1 : 0 ≤ c1 ∧ c1 < 256 := by have := (s[1]'(by omega)).toNat_lt; omega
  have h0I : (0 : Int) < (s.size : Int) := by omega
  go_enter Try.func60, Try.ntmps60
  go_wp2_with fail
  go_quiet (fail)
  go_wp2_with fail
  refine wp_loop_rounds 2 ?_
  rw [rounds_succ]
  go_wp2_with fail
  rw [rounds_succ]
  go_wp2_with fail
  go_ret
  exact ⟨ret_int (by simp only [M.val]; omega), below_drewN (Below.refl _ _) _⟩
set_option maxHeartbeats 1000000 in
set_option maxRecDepth 100000 in
theorem valueOf_3 (s : ByteArray) (c c1 c2 : Int) (w : World) (hs : s.size = 3) (hc : ((s[0]'(by omega)).toNat : Int) = c) (hc1 : ((s[1]'(by omega)).toNat : Int) = c1) (hc2 : ((s[2]'(by omega)).toNat : Int) = c2) : Calls Try.prog 60 #[.string s] w fun e w' => e = .returned (.int .i64 (M.val (c % 16) [c1, c2])) ∧ Below w.heap.size w w' := by
  have hb0 : 0 ≤ c ∧ c < 256 := by have := (s[0]'(by omega)).toNat_lt; omega
  have hb1 : 0 ≤ c1 ∧ c1 < 256 := by have := (s[1]'(by omega)).toNat_lt; omega
  have hb2 : 0 ≤ c2 ∧ c2 < 256 := by have := (s[2]'(by omega)).toNat_lt; omega
  have h0I : (0 : Int) < (s.size : Int) := by omega
  go_enter Try.func60, Try.ntmps60
  go_wp2_with fail
  go_quiet (fail)
  go_wp2_with fail
  refine wp_loop_rounds 3 ?_
  rw [rounds_succ]
  go_wp2_with fail
  rw [rounds_succ]
  go_wp2_with fail
  rw [rounds_succ]
  go_wp2_with fail
  go_ret
  exact ⟨ret_int (by simp only [M.val]; omega), below_drewN (Below.refl _ _) _⟩
set_option maxHeartbeats 1000000 in
set_option maxRecDepth 100000 in
theorem valueOf_4 (s : ByteArray) (c c1 c2 c3 : Int) (w : World) (hs : s.size = 4) (hc : ((s[0]'(by omega)).toNat : Int) = c) (hc1 : ((s[1]'(by omega)).toNat : Int) = c1) (hc2 : ((s[2]'(by omega)).toNat : Int) = c2) (hc3 : ((s[3]'(by omega)).toNat : Int) = c3) : Calls Try.prog 60 #[.string s] w fun e w' => e = .returned (.int .i64 (M.val (c % 8) [c1, c2, c3])) ∧ Below w.heap.size w w' := by
  have hb0 : 0 ≤ c ∧ c < 256 := by have := (s[0]'(by omega)).toNat_lt; omega
  have hb1 : 0 ≤ c1 ∧ c1 < 256 := by have := (s[1]'(by omega)).toNat_lt; omega
  have hb2 : 0 ≤ c2 ∧ c2 < 256 := by have := (s[2]'(by omega)).toNat_lt; omega
  have hb3 : 0 ≤ c3 ∧ c3 < 256 := by have := (s[3]'(by omega)).toNat_lt; omega
  have h0I : (0 : Int) < (s.size : Int) := by omega
  go_enter Try.func60, Try.ntmps60
  go_wp2_with fail
  go_quiet (fail)
  go_wp2_with fail
  refine wp_loop_rounds 4 ?_
  rw [rounds_succ]
  go_wp2_with fail
  rw [rounds_succ]
  go_wp2_with fail
  rw [rounds_succ]
  go_wp2_with fail
  rw [rounds_succ]
  go_wp2_with fail
  go_ret
  exact ⟨ret_int (by simp only [M.val]; omega), below_drewN (Below.refl _ _) _⟩

theorem valueOf_list (s : ByteArray) (c : Int) (t : List Int) (w : World) (hm : bl s = c :: t) (hb : M.begOk (c :: t) = true) (hl : ((t.length + 1 : Nat) : Int) = M.bSize c) :
    Calls Try.prog 60 #[.string s] w fun e w' => e = .returned (.int .i64 (M.val (M.bBits c) t)) ∧ Below w.heap.size w w' := by
  have hsz : s.size = t.length + 1 := by rw [← bl_len, hm]; rfl
  have hget : ∀ (i : Nat) (h : i < s.size), (c :: t)[i]? = some (s[i].toNat : Int) := fun i h => by rw [← hm]; exact bl_get s i h
  have hs4 := M.bSize_bd c
  clear hm
  match t, hb, hl, hsz, hget with
  | [], hb, hl, hsz, hget =>
    simp at hsz
    have h0 := hget 0 (by omega)
    simp at h0 hl
    have hz : c < 128 := by unfold M.bSize at hl; omega
    have e : M.bBits c = c := by unfold M.bBits; rw [if_pos hz]
    rw [e]
    exact valueOf_1 s c w hsz h0.symm
  | [c1], hb, hl, hsz, hget =>
    simp at hsz
    have h0 := hget 0 (by omega)
    have h1 := hget 1 (by omega)
    simp at h0 h1 hl
    have hz : 194 ≤ c ∧ c < 224 := by unfold M.bSize at hl; omega
    rw [(M.size2 hz.1 hz.2).2.1]
    exact valueOf_2 s c c1 w hsz h0.symm h1.symm
  | [c1, c2], hb, hl, hsz, hget =>
    simp at hsz
    have h0 := hget 0 (by omega)
    have h1 := hget 1 (by omega)
    have h2 := hget 2 (by omega)
    simp at h0 h1 h2 hl
    have hz : 224 ≤ c ∧ c < 240 := by unfold M.bSize at hl; omega
    rw [(M.size3 hz.1 hz.2).2.1]
    exact valueOf_3 s c c1 c2 w hsz h0.symm h1.symm h2.symm
  | [c1, c2, c3], hb, hl, hsz, hget =>
    simp at hsz
    have h0 := hget 0 (by omega)
    have h1 := hget 1 (by omega)
    have h2 := hget 2 (by omega)
    have h3 := hget 3 (by omega)
    simp at h0 h1 h2 h3 hl
    have hz : 240 ≤ c ∧ c < 245 := by unfold M.bSize at hl; omega
    rw [(M.size4 hz.1 hz.2).2.1]
    exact valueOf_4 s c c1 c2 c3 w hsz h0.symm h1.symm h2.symm h3.symm
  | c1 :: c2 :: c3 :: c4 :: t', hb, hl, hsz, hget =>
    exfalso
    simp only [List.length_cons] at hl
    omega
end Go.Proofs.Ythhjfedegbldfac
