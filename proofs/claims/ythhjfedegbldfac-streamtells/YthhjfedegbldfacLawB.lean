/- The contracts of cartoucheref.between, cartouchelaw.tooLong, cartouchelaw.intsAre: each returns what the plain function of its name computes; nothing that was there is written. -/
import Derived.Test.YthhjfedegbldfacSame
namespace Go.Proofs.Ythhjfedegbldfac
open Go.RowKit
set_option linter.unusedVariables false

set_option maxHeartbeats 400000 in
set_option maxRecDepth 100000 in
theorem between_any (n lo hi : Int) (w : World) : Calls Try.prog 38 #[.int .i64 n, .int .i64 lo, .int .i64 hi] w fun e w' => e = .returned (.bool (decide (lo ≤ n) && decide (n ≤ hi))) ∧ w' = w := by
  by_cases h : lo ≤ n
  · go_enter Try.func38, Try.ntmps38
    go_wp2
    go_ret
    exact ⟨ret_bool (by simp [h]), rfl⟩
  · go_enter Try.func38, Try.ntmps38
    go_wp2
    go_ret
    exact ⟨ret_bool (by simp; omega), rfl⟩
set_option maxHeartbeats 400000 in
set_option maxRecDepth 100000 in
theorem tooLong_no (s : ByteArray) (w : World) (hs : s.size ≤ 3000) : Calls Try.prog 11 #[.string s] w fun e w' => e = .returned (.int .i64 0) ∧ w' = w := by
  go_enter Try.func11, Try.ntmps11
  go_wp2
  go_ret
  exact ⟨rfl, rfl⟩
set_option maxHeartbeats 400000 in
set_option maxRecDepth 100000 in
theorem tooLong_yes (s : ByteArray) (w : World) (hs : 3000 < s.size) (hm : s.size ≤ maxLen) : Calls Try.prog 11 #[.string s] w fun e w' => e = .returned (.int .i64 2) ∧ w' = w := by
  unfold maxLen at hm
  go_enter Try.func11, Try.ntmps11
  go_wp2
  go_ret
  exact ⟨rfl, rfl⟩
set_option maxHeartbeats 400000 in
set_option maxRecDepth 100000 in
theorem intsAre_ok {v u : Value} {xs : List Int} (w : World) (hx : Ints w v xs) (hu : Ints w u xs) :
    Calls Try.prog 15 #[v, .int .i64 0, .int .i64 0, u] w fun e w' => e = .returned (.bool true) ∧ Below w.heap.size w w' := by
  obtain ⟨ao, cap, hv, -⟩ := id hx
  obtain ⟨ao', cap', hv', -⟩ := id hu
  subst hv hv'
  have HX := hide hx
  have HU := hide hu
  clear hx hu
  go_enter Try.func15, Try.ntmps15
  go_wp2_with fail
  refine (same_any _ (unhide HX) (unhide HU)).mono ?_
  rintro e w1 ⟨rfl, hb⟩
  rw [show (xs == xs) = true from by simp]
  go_wp2_with fail
  go_ret
  exact ⟨rfl, hb⟩
set_option maxHeartbeats 400000 in
set_option maxRecDepth 100000 in
theorem intsAre_err (ao : Option Addr) (n c : Nat) (q : Int) (hq : (q == 0) = false) (w : World) :
    Calls Try.prog 15 #[.slice none 0 0, .int .i64 q, .int .i64 q, .slice ao n c] w fun e w' => e = .returned (.bool true) ∧ Below w.heap.size w w' := by
  go_enter Try.func15, Try.ntmps15
  go_wp2_with fail
  refine (same_any _ (Ints.nil _) (Ints.nil _)).mono ?_
  rintro e w1 ⟨rfl, hb⟩
  rw [show (([] : List Int) == []) = true from rfl]
  go_wp2_with fail
  go_ret
  exact ⟨rfl, hb⟩
end Go.Proofs.Ythhjfedegbldfac
