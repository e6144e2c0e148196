/- The contracts of between, IsScalar and CheckPoints: each returns what the plain function of its name computes; nothing that was there is written. -/
import Derived.Test.YthhjfedegbldfadDoorSame
namespace Go.Proofs.YthhjfedegbldfadDoor
open Go.RowKit
set_option linter.unusedVariables false

set_option maxHeartbeats 400000 in
set_option maxRecDepth 100000 in
theorem between_any (n lo hi : Int) (w : World) : Calls Tryd.prog 23 #[.int .i64 n, .int .i64 lo, .int .i64 hi] w fun e w' => e = .returned (.bool (decide (lo ≤ n) && decide (n ≤ hi))) ∧ w' = w := by
  by_cases h : lo ≤ n
  · go_enter Tryd.func23, Tryd.ntmps23
    go_wp2
    go_ret
    exact ⟨ret_bool (by simp [h]), rfl⟩
  · go_enter Tryd.func23, Tryd.ntmps23
    go_wp2
    go_ret
    exact ⟨ret_bool (by simp; omega), rfl⟩
set_option maxHeartbeats 400000 in
set_option maxRecDepth 100000 in
theorem isScalar_any (n : Int) (w : World) : Calls Tryd.prog 12 #[.int .i64 n] w fun e w' => e = .returned (.bool (M.sclr n)) ∧ w' = w := by
  have HS : Hid (M.sclr n = ((decide (0 ≤ n) && decide (n ≤ 55295)) || (decide (57344 ≤ n) && decide (n ≤ 1114111)))) := by
    show M.sclr n = _
    rw [Bool.eq_iff_iff]; simp [M.sclr]; omega
  by_cases h : 0 ≤ n ∧ n ≤ 55295
  · have hd : (decide (0 ≤ n) && decide (n ≤ 55295)) = true := by simp; omega
    go_enter Tryd.func12, Tryd.ntmps12
    go_wp2_with (go_at_call 23; refine (between_any _ _ _ _).mono ?_; rintro e w1 ⟨rfl, hw⟩; replace hw := hw.symm; subst hw)
    go_ret
    exact ⟨ret_bool (by rw [unhide HS, hd]; simp), rfl⟩
  · have hd : (decide (0 ≤ n) && decide (n ≤ 55295)) = false := by simp; omega
    go_enter Tryd.func12, Tryd.ntmps12
    go_wp2_with (go_at_call 23; refine (between_any _ _ _ _).mono ?_; rintro e w1 ⟨rfl, hw⟩; replace hw := hw.symm; subst hw)
    go_ret
    exact ⟨ret_bool (by rw [unhide HS, hd]; simp), rfl⟩
set_option maxHeartbeats 400000 in
set_option maxRecDepth 100000 in
theorem check_many (ao : Option Addr) (len cap : Nat) (w : World) (h : 3000 < len) (hm : len ≤ maxLen) :
    Calls Tryd.prog 24 #[.slice ao len cap] w fun e w' => e = .returned (.int .i64 2) ∧ w' = w := by
  unfold maxLen at hm
  go_enter Tryd.func24, Tryd.ntmps24
  go_wp2
  go_ret
  exact ⟨rfl, rfl⟩
/-- What CheckPoints answers of at most 3000 integers. -/
def chkRes (xs : List Int) : Value := if xs.all M.sclr then .int .i64 0 else .int .i64 3
theorem chkRes_yes {xs : List Int} (h : xs.all M.sclr = true) : chkRes xs = .int .i64 0 := by unfold chkRes; rw [if_pos h]
theorem chkRes_no {xs : List Int} (h : xs.all M.sclr = false) : chkRes xs = .int .i64 3 := by unfold chkRes; rw [if_neg (by simp [h])]
set_option maxHeartbeats 400000 in
set_option maxRecDepth 100000 in
theorem check_none (ao : Option Addr) (cap : Nat) (w : World) : Calls Tryd.prog 24 #[.slice ao 0 cap] w fun e w' => e = .returned (.int .i64 0) ∧ w' = w := by
  go_enter Tryd.func24, Tryd.ntmps24
  go_wp2
  refine wp_loop_rounds 1 ?_
  rw [rounds_succ]
  go_wp2
  go_ret
  exact ⟨rfl, rfl⟩
set_option maxHeartbeats 400000 in
set_option maxRecDepth 100000 in
theorem check_some (b off cap : Nat) (xs : List Int) (w : World) (h0 : xs ≠ []) (h : xs.length ≤ 3000) (hc : ∀ i, i < xs.length → w.cell? ⟨b, off + i, none⟩ = some (.int .i64 (xs.getD i 0))) :
    Calls Tryd.prog 24 #[.slice (some ⟨b, off, none⟩) xs.length cap] w fun e w' => e = .returned (chkRes xs) ∧ w' = w := by
  have hlen : 0 < xs.length := List.length_pos_iff.2 h0
  have HC := hide hc
  clear hc h0
  go_enter Tryd.func24, Tryd.ntmps24
  go_wp2_with fail
  go_loop [3] (fun i => ∃ k : Nat, k ≤ xs.length ∧ i = .int .i64 k ∧ Hid ((xs.take k).all M.sclr = true)) (fun i => xs.length - (intOf i).toNat)
  case atStart => exact ⟨0, by omega, rfl, rfl⟩
  case round =>
    obtain ⟨k, hk, rfl, HA⟩ := hrel
    by_cases hlt : k < xs.length
    · have hcell := unhide HC k hlt
      obtain ⟨p, HP⟩ : ∃ p, Hid (xs.getD k 0 = p) := ⟨_, rfl⟩
      rw [unhide HP] at hcell
      obtain ⟨q, HQ⟩ : ∃ q, Hid (M.sclr p = q) := ⟨_, rfl⟩
      go_wp2_with fail
      refine (isScalar_any _ _).mono ?_
      rintro e w1 ⟨rfl, hw⟩
      replace hw := hw.symm
      subst hw
      rw [unhide HQ]
      cases q
      · go_wp2_with fail
        go_ret
        have : xs.all M.sclr = false := by
          rw [List.all_eq_false]
          refine ⟨xs.getD k 0, ?_, by rw [unhide HP, unhide HQ]; simp⟩
          simp [hlt]
        refine ⟨?_, rfl⟩
        rw [chkRes_no this]; rfl
      · have HA' : Hid ((xs.take (k + 1)).all M.sclr = true) := by
          show (xs.take (k + 1)).all M.sclr = true
          rw [take_snoc xs k hlt, List.all_append, unhide HA, unhide HP]
          simpa using unhide HQ
        go_wp2_with fail
        go_round
        case rel => exact ⟨k + 1, by omega, by go_num, HA'⟩
        case measure => simp [intOf]; omega
    · go_wp2_with fail
      go_ret
      have := unhide HA
      rw [List.take_of_length_le (by omega)] at this
      refine ⟨?_, rfl⟩
      rw [chkRes_yes this]; rfl
theorem check_any {v : Value} {xs : List Int} (w : World) (hx : Ints w v xs) (h : xs.length ≤ 3000) :
    Calls Tryd.prog 24 #[v] w fun e w' => e = .returned (chkRes xs) ∧ w' = w := by
  obtain ⟨ao, cap, rfl, hm, -, hx⟩ := hx
  by_cases h0 : xs = []
  · subst h0; exact check_none ao cap w
  · rcases hx with hx | ⟨b, off, rfl, hc⟩
    · exact absurd hx h0
    · exact check_some b off cap xs w h0 h hc
end Go.Proofs.YthhjfedegbldfadDoor
