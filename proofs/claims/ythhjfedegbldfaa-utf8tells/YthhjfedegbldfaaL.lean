/- The contract of cartoucheref.isBegun: whether bytes begin a scalar, and how many it has. Condition: at most four bytes, and all but the last begin one. -/
import Derived.Test.YthhjfedegbldfaaJ
import Derived.Test.YthhjfedegbldfaaMathF
namespace Go.Proofs.Ythhjfedegbldfaa
open Go.RowKit
set_option linter.unusedVariables false

set_option maxHeartbeats 400000 in
set_option maxRecDepth 100000 in
theorem between_any (n lo hi : Int) (w : World) : Calls Try.prog 33 #[.int .i64 n, .int .i64 lo, .int .i64 hi] w fun e w' => e = .returned (.bool (decide (lo ≤ n) && decide (n ≤ hi))) ∧ w' = w := by
  by_cases h : lo ≤ n
  · go_enter Try.func33, Try.ntmps33
    go_wp2
    go_ret
    exact ⟨ret_bool (by simp [h]), rfl⟩
  · go_enter Try.func33, Try.ntmps33
    go_wp2
    go_ret
    exact ⟨ret_bool (by simp; omega), rfl⟩

/-- What isBegun answers. -/
def BegPost (m : List Int) (w : World) (e : Ending) (w' : World) : Prop :=
  ∃ X, e = .returned (.tuple #[.int .i64 X, .bool (M.begOk m)]) ∧ (M.begOk m = true → X = M.bSize (m.headD 0)) ∧ Below w.heap.size w w'

theorem BegPost.mk {m : List Int} {w w' : World} {X : Int} {b : Bool} (hb : M.begOk m = b) (hX : b = true → X = M.bSize (m.headD 0)) (hw : Below w.heap.size w w') : BegPost m w (.returned (.tuple #[.int .i64 X, .bool b])) w' :=
  ⟨X, by rw [hb], fun h => hX (by rw [← hb]; exact h), hw⟩

set_option maxHeartbeats 400000 in
set_option maxRecDepth 100000 in
theorem isBegun_1 (s : ByteArray) (c : Int) (w : World) (hs : s.size = 1) (hc : ((s[0]'(by omega)).toNat : Int) = c) : Calls Try.prog 28 #[.string s] w (BegPost [c] w) := by
  have hc0 : 0 ≤ c ∧ c < 256 := by have := (s[0]'(by omega)).toNat_lt; omega
  rcases (show c < 128 ∨ (128 ≤ c ∧ c < 194) ∨ 244 < c ∨ (194 ≤ c ∧ c ≤ 223) ∨ (224 ≤ c ∧ c ≤ 239) ∨ (240 ≤ c ∧ c ≤ 244) from by omega) with h | ⟨h, h'⟩ | h | ⟨h, h'⟩ | ⟨h, h'⟩ | ⟨h, h'⟩
  all_goals
    go_enter Try.func28, Try.ntmps28
    go_wp2_with (go_at_call 33; refine (between_any _ _ _ _).mono ?_; rintro e w1 ⟨rfl, hw⟩; replace hw := hw.symm; subst hw)
  · go_ret2
    have hz : M.bSize c = 1 := by unfold M.bSize; omega
    exact BegPost.mk (by simp [M.begOk, M.chk, hz]) (fun _ => by simp [hz]) (Below.refl _ _)
  · go_ret2
    have hz : M.bSize c = 0 := by unfold M.bSize; omega
    exact BegPost.mk (by simp [M.begOk, hz]) (fun h => by cases h) (Below.refl _ _)
  · go_ret2
    have hz : M.bSize c = 0 := by unfold M.bSize; omega
    exact BegPost.mk (by simp [M.begOk, hz]) (fun h => by cases h) (Below.refl _ _)
  all_goals
    refine wp_loop_rounds 1 ?_
    rw [rounds_succ]
    go_wp2_with (go_at_call 33; refine (between_any _ _ _ _).mono ?_; rintro e w1 ⟨rfl, hw⟩; replace hw := hw.symm; subst hw)
    go_ret2
  · have hz : M.bSize c = 2 := by unfold M.bSize; omega
    exact BegPost.mk (by simp [M.begOk, M.chk, hz]) (fun _ => by simp [hz]) (Below.refl _ _)
  · have hz : M.bSize c = 3 := by unfold M.bSize; omega
    exact BegPost.mk (by simp [M.begOk, M.chk, hz]) (fun _ => by simp [hz]) (Below.refl _ _)
  · have hz : M.bSize c = 4 := by unfold M.bSize; omega
    exact BegPost.mk (by simp [M.begOk, M.chk, hz]) (fun _ => by simp [hz]) (Below.refl _ _)

set_option maxHeartbeats 1000000 in
set_option maxRecDepth 100000 in
theorem isBegun_2_2 (s : ByteArray) (c c1 : Int) (w : World) (hs : s.size = 2) (hc : ((s[0]'(by omega)).toNat : Int) = c) (hc1 : ((s[1]'(by omega)).toNat : Int) = c1) (hr : 194 ≤ c ∧ c ≤ 223) : Calls Try.prog 28 #[.string s] w (BegPost [c, c1] w) := by
  have hb0 : 0 ≤ c ∧ c < 256 := by have := (s[0]'(by omega)).toNat_lt; omega
  have hb1 : 0 ≤ c1 ∧ c1 < 256 := by have := (s[1]'(by omega)).toNat_lt; omega
  obtain ⟨hr0, hr1⟩ := hr
  have HZ := hide (M.size2 (c := c) (by omega) (by omega))
  by_cases hl : 128 ≤ c1 ∧ c1 ≤ 191
  · obtain ⟨hl0, hl1⟩ := hl
    go_enter Try.func28, Try.ntmps28
    go_wp2_with (go_at_call 33; refine (between_any _ _ _ _).mono ?_; rintro e w1 ⟨rfl, hw⟩; replace hw := hw.symm; subst hw)
    refine wp_loop_rounds 2 ?_
    rw [rounds_succ]
    go_wp2_with (go_at_call 33; refine (between_any _ _ _ _).mono ?_; rintro e w1 ⟨rfl, hw⟩; replace hw := hw.symm; subst hw)
    rw [rounds_succ]
    go_wp2_with (go_at_call 33; refine (between_any _ _ _ _).mono ?_; rintro e w1 ⟨rfl, hw⟩; replace hw := hw.symm; subst hw)
    refine wp_loop_rounds 2 ?_
    rw [rounds_succ]
    go_wp2_with (go_at_call 33; refine (between_any _ _ _ _).mono ?_; rintro e w1 ⟨rfl, hw⟩; replace hw := hw.symm; subst hw)
    rw [rounds_succ]
    go_wp2_with (go_at_call 33; refine (between_any _ _ _ _).mono ?_; rintro e w1 ⟨rfl, hw⟩; replace hw := hw.symm; subst hw)
    refine wp_loop_rounds 1 ?_
    rw [rounds_succ]
    go_wp2_with (go_at_call 33; refine (between_any _ _ _ _).mono ?_; rintro e w1 ⟨rfl, hw⟩; replace hw := hw.symm; subst hw)
    all_goals
      go_ret2
      refine BegPost.mk ?_ (fun _ => (unhide HZ).1.symm) (Below.refl _ _ |>.alloc (Nat.le_refl _) _)
      have := unhide HZ
      rw [Bool.eq_iff_iff]
      simp [M.begOk, M.chk]
      omega
  · have hd : (decide (128 ≤ c1) && decide (c1 ≤ 191)) = false := by simp; omega
    have HL := hide hl
    clear hl
    go_enter Try.func28, Try.ntmps28
    go_wp2_with (go_at_call 33; refine (between_any _ _ _ _).mono ?_; rintro e w1 ⟨rfl, hw⟩; replace hw := hw.symm; subst hw)
    refine wp_loop_rounds 2 ?_
    rw [rounds_succ]
    go_wp2_with (go_at_call 33; refine (between_any _ _ _ _).mono ?_; rintro e w1 ⟨rfl, hw⟩; replace hw := hw.symm; subst hw)
    go_ret2
    refine BegPost.mk ?_ (fun h => by cases h) (Below.refl _ _)
    have := unhide HZ
    have := unhide HL
    simp [M.begOk, M.chk]
    omega

set_option maxHeartbeats 1000000 in
set_option maxRecDepth 100000 in
theorem isBegun_2_3 (s : ByteArray) (c c1 : Int) (w : World) (hs : s.size = 2) (hc : ((s[0]'(by omega)).toNat : Int) = c) (hc1 : ((s[1]'(by omega)).toNat : Int) = c1) (hr : 224 ≤ c ∧ c ≤ 239) : Calls Try.prog 28 #[.string s] w (BegPost [c, c1] w) := by
  have hb0 : 0 ≤ c ∧ c < 256 := by have := (s[0]'(by omega)).toNat_lt; omega
  have hb1 : 0 ≤ c1 ∧ c1 < 256 := by have := (s[1]'(by omega)).toNat_lt; omega
  obtain ⟨hr0, hr1⟩ := hr
  have HZ := hide (M.size3 (c := c) (by omega) (by omega))
  by_cases hl : 128 ≤ c1 ∧ c1 ≤ 191
  · obtain ⟨hl0, hl1⟩ := hl
    go_enter Try.func28, Try.ntmps28
    go_wp2_with (go_at_call 33; refine (between_any _ _ _ _).mono ?_; rintro e w1 ⟨rfl, hw⟩; replace hw := hw.symm; subst hw)
    refine wp_loop_rounds 2 ?_
    rw [rounds_succ]
    go_wp2_with (go_at_call 33; refine (between_any _ _ _ _).mono ?_; rintro e w1 ⟨rfl, hw⟩; replace hw := hw.symm; subst hw)
    rw [rounds_succ]
    go_wp2_with (go_at_call 33; refine (between_any _ _ _ _).mono ?_; rintro e w1 ⟨rfl, hw⟩; replace hw := hw.symm; subst hw)
    refine wp_loop_rounds 2 ?_
    rw [rounds_succ]
    go_wp2_with (go_at_call 33; refine (between_any _ _ _ _).mono ?_; rintro e w1 ⟨rfl, hw⟩; replace hw := hw.symm; subst hw)
    rw [rounds_succ]
    go_wp2_with (go_at_call 33; refine (between_any _ _ _ _).mono ?_; rintro e w1 ⟨rfl, hw⟩; replace hw := hw.symm; subst hw)
    refine wp_loop_rounds 2 ?_
    rw [rounds_succ]
    go_wp2_with (go_at_call 33; refine (between_any _ _ _ _).mono ?_; rintro e w1 ⟨rfl, hw⟩; replace hw := hw.symm; subst hw)
    rw [rounds_succ]
    go_wp2_with (go_at_call 33; refine (between_any _ _ _ _).mono ?_; rintro e w1 ⟨rfl, hw⟩; replace hw := hw.symm; subst hw)
    all_goals
      go_ret2
      refine BegPost.mk ?_ (fun _ => (unhide HZ).1.symm) (Below.refl _ _ |>.alloc (Nat.le_refl _) _)
      have := unhide HZ
      rw [Bool.eq_iff_iff]
      simp [M.begOk, M.chk]
      omega
  · have hd : (decide (128 ≤ c1) && decide (c1 ≤ 191)) = false := by simp; omega
    have HL := hide hl
    clear hl
    go_enter Try.func28, Try.ntmps28
    go_wp2_with (go_at_call 33; refine (between_any _ _ _ _).mono ?_; rintro e w1 ⟨rfl, hw⟩; replace hw := hw.symm; subst hw)
    refine wp_loop_rounds 2 ?_
    rw [rounds_succ]
    go_wp2_with (go_at_call 33; refine (between_any _ _ _ _).mono ?_; rintro e w1 ⟨rfl, hw⟩; replace hw := hw.symm; subst hw)
    go_ret2
    refine BegPost.mk ?_ (fun h => by cases h) (Below.refl _ _)
    have := unhide HZ
    have := unhide HL
    simp [M.begOk, M.chk]
    omega

set_option maxHeartbeats 1000000 in
set_option maxRecDepth 100000 in
theorem isBegun_2_4 (s : ByteArray) (c c1 : Int) (w : World) (hs : s.size = 2) (hc : ((s[0]'(by omega)).toNat : Int) = c) (hc1 : ((s[1]'(by omega)).toNat : Int) = c1) (hr : 240 ≤ c ∧ c ≤ 244) : Calls Try.prog 28 #[.string s] w (BegPost [c, c1] w) := by
  have hb0 : 0 ≤ c ∧ c < 256 := by have := (s[0]'(by omega)).toNat_lt; omega
  have hb1 : 0 ≤ c1 ∧ c1 < 256 := by have := (s[1]'(by omega)).toNat_lt; omega
  obtain ⟨hr0, hr1⟩ := hr
  have HZ := hide (M.size4 (c := c) (by omega) (by omega))
  by_cases hl : 128 ≤ c1 ∧ c1 ≤ 191
  · obtain ⟨hl0, hl1⟩ := hl
    go_enter Try.func28, Try.ntmps28
    go_wp2_with (go_at_call 33; refine (between_any _ _ _ _).mono ?_; rintro e w1 ⟨rfl, hw⟩; replace hw := hw.symm; subst hw)
    refine wp_loop_rounds 2 ?_
    rw [rounds_succ]
    go_wp2_with (go_at_call 33; refine (between_any _ _ _ _).mono ?_; rintro e w1 ⟨rfl, hw⟩; replace hw := hw.symm; subst hw)
    rw [rounds_succ]
    go_wp2_with (go_at_call 33; refine (between_any _ _ _ _).mono ?_; rintro e w1 ⟨rfl, hw⟩; replace hw := hw.symm; subst hw)
    refine wp_loop_rounds 2 ?_
    rw [rounds_succ]
    go_wp2_with (go_at_call 33; refine (between_any _ _ _ _).mono ?_; rintro e w1 ⟨rfl, hw⟩; replace hw := hw.symm; subst hw)
    rw [rounds_succ]
    go_wp2_with (go_at_call 33; refine (between_any _ _ _ _).mono ?_; rintro e w1 ⟨rfl, hw⟩; replace hw := hw.symm; subst hw)
    refine wp_loop_rounds 3 ?_
    rw [rounds_succ]
    go_wp2_with (go_at_call 33; refine (between_any _ _ _ _).mono ?_; rintro e w1 ⟨rfl, hw⟩; replace hw := hw.symm; subst hw)
    rw [rounds_succ]
    go_wp2_with (go_at_call 33; refine (between_any _ _ _ _).mono ?_; rintro e w1 ⟨rfl, hw⟩; replace hw := hw.symm; subst hw)
    rw [rounds_succ]
    go_wp2_with (go_at_call 33; refine (between_any _ _ _ _).mono ?_; rintro e w1 ⟨rfl, hw⟩; replace hw := hw.symm; subst hw)
    all_goals
      go_ret2
      refine BegPost.mk ?_ (fun _ => (unhide HZ).1.symm) (Below.refl _ _ |>.alloc (Nat.le_refl _) _)
      have := unhide HZ
      rw [Bool.eq_iff_iff]
      simp [M.begOk, M.chk]
      omega
  · have hd : (decide (128 ≤ c1) && decide (c1 ≤ 191)) = false := by simp; omega
    have HL := hide hl
    clear hl
    go_enter Try.func28, Try.ntmps28
    go_wp2_with (go_at_call 33; refine (between_any _ _ _ _).mono ?_; rintro e w1 ⟨rfl, hw⟩; replace hw := hw.symm; subst hw)
    refine wp_loop_rounds 2 ?_
    rw [rounds_succ]
    go_wp2_with (go_at_call 33; refine (between_any _ _ _ _).mono ?_; rintro e w1 ⟨rfl, hw⟩; replace hw := hw.symm; subst hw)
    go_ret2
    refine BegPost.mk ?_ (fun h => by cases h) (Below.refl _ _)
    have := unhide HZ
    have := unhide HL
    simp [M.begOk, M.chk]
    omega

set_option maxHeartbeats 1000000 in
set_option maxRecDepth 100000 in
theorem isBegun_3_3 (s : ByteArray) (c c1 c2 : Int) (w : World) (hs : s.size = 3) (hc : ((s[0]'(by omega)).toNat : Int) = c) (hc1 : ((s[1]'(by omega)).toNat : Int) = c1) (hc2 : ((s[2]'(by omega)).toNat : Int) = c2) (hr : 224 ≤ c ∧ c ≤ 239) (g1 : M.bLow c ≤ c1 ∧ c1 ≤ M.bHigh c) : Calls Try.prog 28 #[.string s] w (BegPost [c, c1, c2] w) := by
  have hb0 : 0 ≤ c ∧ c < 256 := by have := (s[0]'(by omega)).toNat_lt; omega
  have hb1 : 0 ≤ c1 ∧ c1 < 256 := by have := (s[1]'(by omega)).toNat_lt; omega
  have hb2 : 0 ≤ c2 ∧ c2 < 256 := by have := (s[2]'(by omega)).toNat_lt; omega
  obtain ⟨hr0, hr1⟩ := hr
  have HZ := hide (M.size3 (c := c) (by omega) (by omega))
  have g1' : 128 ≤ c1 ∧ c1 ≤ 191 := by have := unhide HZ; omega
  have G1 := hide g1
  obtain ⟨g10, g11⟩ := g1'
  clear g1
  by_cases hl : 128 ≤ c2 ∧ c2 ≤ 191
  · obtain ⟨hl0, hl1⟩ := hl
    go_enter Try.func28, Try.ntmps28
    go_wp2_with (go_at_call 33; refine (between_any _ _ _ _).mono ?_; rintro e w1 ⟨rfl, hw⟩; replace hw := hw.symm; subst hw)
    refine wp_loop_rounds 3 ?_
    rw [rounds_succ]
    go_wp2_with (go_at_call 33; refine (between_any _ _ _ _).mono ?_; rintro e w1 ⟨rfl, hw⟩; replace hw := hw.symm; subst hw)
    rw [rounds_succ]
    go_wp2_with (go_at_call 33; refine (between_any _ _ _ _).mono ?_; rintro e w1 ⟨rfl, hw⟩; replace hw := hw.symm; subst hw)
    rw [rounds_succ]
    go_wp2_with (go_at_call 33; refine (between_any _ _ _ _).mono ?_; rintro e w1 ⟨rfl, hw⟩; replace hw := hw.symm; subst hw)
    refine wp_loop_rounds 3 ?_
    rw [rounds_succ]
    go_wp2_with (go_at_call 33; refine (between_any _ _ _ _).mono ?_; rintro e w1 ⟨rfl, hw⟩; replace hw := hw.symm; subst hw)
    rw [rounds_succ]
    go_wp2_with (go_at_call 33; refine (between_any _ _ _ _).mono ?_; rintro e w1 ⟨rfl, hw⟩; replace hw := hw.symm; subst hw)
    rw [rounds_succ]
    go_wp2_with (go_at_call 33; refine (between_any _ _ _ _).mono ?_; rintro e w1 ⟨rfl, hw⟩; replace hw := hw.symm; subst hw)
    refine wp_loop_rounds 1 ?_
    rw [rounds_succ]
    go_wp2_with (go_at_call 33; refine (between_any _ _ _ _).mono ?_; rintro e w1 ⟨rfl, hw⟩; replace hw := hw.symm; subst hw)
    all_goals
      go_ret2
      refine BegPost.mk ?_ (fun _ => (unhide HZ).1.symm) (Below.refl _ _ |>.alloc (Nat.le_refl _) _)
      have := unhide HZ
      have := unhide G1
      rw [Bool.eq_iff_iff]
      simp [M.begOk, M.chk]
      omega
  · have hd : (decide (128 ≤ c2) && decide (c2 ≤ 191)) = false := by simp; omega
    have HL := hide hl
    clear hl
    go_enter Try.func28, Try.ntmps28
    go_wp2_with (go_at_call 33; refine (between_any _ _ _ _).mono ?_; rintro e w1 ⟨rfl, hw⟩; replace hw := hw.symm; subst hw)
    refine wp_loop_rounds 3 ?_
    rw [rounds_succ]
    go_wp2_with (go_at_call 33; refine (between_any _ _ _ _).mono ?_; rintro e w1 ⟨rfl, hw⟩; replace hw := hw.symm; subst hw)
    rw [rounds_succ]
    go_wp2_with (go_at_call 33; refine (between_any _ _ _ _).mono ?_; rintro e w1 ⟨rfl, hw⟩; replace hw := hw.symm; subst hw)
    go_ret2
    refine BegPost.mk ?_ (fun h => by cases h) (Below.refl _ _)
    have := unhide HZ
    have := unhide HL
    simp [M.begOk, M.chk]
    omega

set_option maxHeartbeats 1000000 in
set_option maxRecDepth 100000 in
theorem isBegun_3_4 (s : ByteArray) (c c1 c2 : Int) (w : World) (hs : s.size = 3) (hc : ((s[0]'(by omega)).toNat : Int) = c) (hc1 : ((s[1]'(by omega)).toNat : Int) = c1) (hc2 : ((s[2]'(by omega)).toNat : Int) = c2) (hr : 240 ≤ c ∧ c ≤ 244) (g1 : M.bLow c ≤ c1 ∧ c1 ≤ M.bHigh c) : Calls Try.prog 28 #[.string s] w (BegPost [c, c1, c2] w) := by
  have hb0 : 0 ≤ c ∧ c < 256 := by have := (s[0]'(by omega)).toNat_lt; omega
  have hb1 : 0 ≤ c1 ∧ c1 < 256 := by have := (s[1]'(by omega)).toNat_lt; omega
  have hb2 : 0 ≤ c2 ∧ c2 < 256 := by have := (s[2]'(by omega)).toNat_lt; omega
  obtain ⟨hr0, hr1⟩ := hr
  have HZ := hide (M.size4 (c := c) (by omega) (by omega))
  have g1' : 128 ≤ c1 ∧ c1 ≤ 191 := by have := unhide HZ; omega
  have G1 := hide g1
  obtain ⟨g10, g11⟩ := g1'
  clear g1
  by_cases hl : 128 ≤ c2 ∧ c2 ≤ 191
  · obtain ⟨hl0, hl1⟩ := hl
    go_enter Try.func28, Try.ntmps28
    go_wp2_with (go_at_call 33; refine (between_any _ _ _ _).mono ?_; rintro e w1 ⟨rfl, hw⟩; replace hw := hw.symm; subst hw)
    refine wp_loop_rounds 3 ?_
    rw [rounds_succ]
    go_wp2_with (go_at_call 33; refine (between_any _ _ _ _).mono ?_; rintro e w1 ⟨rfl, hw⟩; replace hw := hw.symm; subst hw)
    rw [rounds_succ]
    go_wp2_with (go_at_call 33; refine (between_any _ _ _ _).mono ?_; rintro e w1 ⟨rfl, hw⟩; replace hw := hw.symm; subst hw)
    rw [rounds_succ]
    go_wp2_with (go_at_call 33; refine (between_any _ _ _ _).mono ?_; rintro e w1 ⟨rfl, hw⟩; replace hw := hw.symm; subst hw)
    refine wp_loop_rounds 3 ?_
    rw [rounds_succ]
    go_wp2_with (go_at_call 33; refine (between_any _ _ _ _).mono ?_; rintro e w1 ⟨rfl, hw⟩; replace hw := hw.symm; subst hw)
    rw [rounds_succ]
    go_wp2_with (go_at_call 33; refine (between_any _ _ _ _).mono ?_; rintro e w1 ⟨rfl, hw⟩; replace hw := hw.symm; subst hw)
    rw [rounds_succ]
    go_wp2_with (go_at_call 33; refine (between_any _ _ _ _).mono ?_; rintro e w1 ⟨rfl, hw⟩; replace hw := hw.symm; subst hw)
    refine wp_loop_rounds 2 ?_
    rw [rounds_succ]
    go_wp2_with (go_at_call 33; refine (between_any _ _ _ _).mono ?_; rintro e w1 ⟨rfl, hw⟩; replace hw := hw.symm; subst hw)
    rw [rounds_succ]
    go_wp2_with (go_at_call 33; refine (between_any _ _ _ _).mono ?_; rintro e w1 ⟨rfl, hw⟩; replace hw := hw.symm; subst hw)
    all_goals
      go_ret2
      refine BegPost.mk ?_ (fun _ => (unhide HZ).1.symm) (Below.refl _ _ |>.alloc (Nat.le_refl _) _)
      have := unhide HZ
      have := unhide G1
      rw [Bool.eq_iff_iff]
      simp [M.begOk, M.chk]
      omega
  · have hd : (decide (128 ≤ c2) && decide (c2 ≤ 191)) = false := by simp; omega
    have HL := hide hl
    clear hl
    go_enter Try.func28, Try.ntmps28
    go_wp2_with (go_at_call 33; refine (between_any _ _ _ _).mono ?_; rintro e w1 ⟨rfl, hw⟩; replace hw := hw.symm; subst hw)
    refine wp_loop_rounds 3 ?_
    rw [rounds_succ]
    go_wp2_with (go_at_call 33; refine (between_any _ _ _ _).mono ?_; rintro e w1 ⟨rfl, hw⟩; replace hw := hw.symm; subst hw)
    rw [rounds_succ]
    go_wp2_with (go_at_call 33; refine (between_any _ _ _ _).mono ?_; rintro e w1 ⟨rfl, hw⟩; replace hw := hw.symm; subst hw)
    go_ret2
    refine BegPost.mk ?_ (fun h => by cases h) (Below.refl _ _)
    have := unhide HZ
    have := unhide HL
    simp [M.begOk, M.chk]
    omega

set_option maxHeartbeats 1000000 in
set_option maxRecDepth 100000 in
theorem isBegun_4_4 (s : ByteArray) (c c1 c2 c3 : Int) (w : World) (hs : s.size = 4) (hc : ((s[0]'(by omega)).toNat : Int) = c) (hc1 : ((s[1]'(by omega)).toNat : Int) = c1) (hc2 : ((s[2]'(by omega)).toNat : Int) = c2) (hc3 : ((s[3]'(by omega)).toNat : Int) = c3) (hr : 240 ≤ c ∧ c ≤ 244) (g1 : M.bLow c ≤ c1 ∧ c1 ≤ M.bHigh c) (g2 : 128 ≤ c2 ∧ c2 ≤ 191) : Calls Try.prog 28 #[.string s] w (BegPost [c, c1, c2, c3] w) := by
  have hb0 : 0 ≤ c ∧ c < 256 := by have := (s[0]'(by omega)).toNat_lt; omega
  have hb1 : 0 ≤ c1 ∧ c1 < 256 := by have := (s[1]'(by omega)).toNat_lt; omega
  have hb2 : 0 ≤ c2 ∧ c2 < 256 := by have := (s[2]'(by omega)).toNat_lt; omega
  have hb3 : 0 ≤ c3 ∧ c3 < 256 := by have := (s[3]'(by omega)).toNat_lt; omega
  obtain ⟨hr0, hr1⟩ := hr
  have HZ := hide (M.size4 (c := c) (by omega) (by omega))
  have g1' : 128 ≤ c1 ∧ c1 ≤ 191 := by have := unhide HZ; omega
  have G1 := hide g1
  obtain ⟨g10, g11⟩ := g1'
  clear g1
  obtain ⟨g20, g21⟩ := g2
  by_cases hl : 128 ≤ c3 ∧ c3 ≤ 191
  · obtain ⟨hl0, hl1⟩ := hl
    go_enter Try.func28, Try.ntmps28
    go_wp2_with (go_at_call 33; refine (between_any _ _ _ _).mono ?_; rintro e w1 ⟨rfl, hw⟩; replace hw := hw.symm; subst hw)
    refine wp_loop_rounds 4 ?_
    rw [rounds_succ]
    go_wp2_with (go_at_call 33; refine (between_any _ _ _ _).mono ?_; rintro e w1 ⟨rfl, hw⟩; replace hw := hw.symm; subst hw)
    rw [rounds_succ]
    go_wp2_with (go_at_call 33; refine (between_any _ _ _ _).mono ?_; rintro e w1 ⟨rfl, hw⟩; replace hw := hw.symm; subst hw)
    rw [rounds_succ]
    go_wp2_with (go_at_call 33; refine (between_any _ _ _ _).mono ?_; rintro e w1 ⟨rfl, hw⟩; replace hw := hw.symm; subst hw)
    rw [rounds_succ]
    go_wp2_with (go_at_call 33; refine (between_any _ _ _ _).mono ?_; rintro e w1 ⟨rfl, hw⟩; replace hw := hw.symm; subst hw)
    refine wp_loop_rounds 4 ?_
    rw [rounds_succ]
    go_wp2_with (go_at_call 33; refine (between_any _ _ _ _).mono ?_; rintro e w1 ⟨rfl, hw⟩; replace hw := hw.symm; subst hw)
    rw [rounds_succ]
    go_wp2_with (go_at_call 33; refine (between_any _ _ _ _).mono ?_; rintro e w1 ⟨rfl, hw⟩; replace hw := hw.symm; subst hw)
    rw [rounds_succ]
    go_wp2_with (go_at_call 33; refine (between_any _ _ _ _).mono ?_; rintro e w1 ⟨rfl, hw⟩; replace hw := hw.symm; subst hw)
    rw [rounds_succ]
    go_wp2_with (go_at_call 33; refine (between_any _ _ _ _).mono ?_; rintro e w1 ⟨rfl, hw⟩; replace hw := hw.symm; subst hw)
    refine wp_loop_rounds 1 ?_
    rw [rounds_succ]
    go_wp2_with (go_at_call 33; refine (between_any _ _ _ _).mono ?_; rintro e w1 ⟨rfl, hw⟩; replace hw := hw.symm; subst hw)
    all_goals
      go_ret2
      refine BegPost.mk ?_ (fun _ => (unhide HZ).1.symm) (Below.refl _ _ |>.alloc (Nat.le_refl _) _)
      have := unhide HZ
      have := unhide G1
      rw [Bool.eq_iff_iff]
      simp [M.begOk, M.chk]
      omega
  · have hd : (decide (128 ≤ c3) && decide (c3 ≤ 191)) = false := by simp; omega
    have HL := hide hl
    clear hl
    go_enter Try.func28, Try.ntmps28
    go_wp2_with (go_at_call 33; refine (between_any _ _ _ _).mono ?_; rintro e w1 ⟨rfl, hw⟩; replace hw := hw.symm; subst hw)
    refine wp_loop_rounds 4 ?_
    rw [rounds_succ]
    go_wp2_with (go_at_call 33; refine (between_any _ _ _ _).mono ?_; rintro e w1 ⟨rfl, hw⟩; replace hw := hw.symm; subst hw)
    rw [rounds_succ]
    go_wp2_with (go_at_call 33; refine (between_any _ _ _ _).mono ?_; rintro e w1 ⟨rfl, hw⟩; replace hw := hw.symm; subst hw)
    rw [rounds_succ]
    go_wp2_with (go_at_call 33; refine (between_any _ _ _ _).mono ?_; rintro e w1 ⟨rfl, hw⟩; replace hw := hw.symm; subst hw)
    go_ret2
    refine BegPost.mk ?_ (fun h => by cases h) (Below.refl _ _)
    have := unhide HZ
    have := unhide HL
    simp [M.begOk, M.chk]
    omega

end Go.Proofs.Ythhjfedegbldfaa
