/- The contracts of kana.Encode and of cartouchelaw.kanaBegun; nothing that was there is written. Condition: the code points are Go's integers. -/
import Derived.Test.YthhjfedegbldfadDoorKE
import Derived.Test.YthhjfedegbldfadDoorSame
import Derived.Test.YthhjfedegbldfadDoorSA
namespace Go.Proofs.YthhjfedegbldfadDoor
open Go.RowKit
set_option linter.unusedVariables false

theorem wrote_yes {xs : List Int} (h : xs.all M.anyK = true) : wrote xs = .tuple #[.string (strOfNums (M.kenc xs)), .bool true] := by unfold wrote; rw [if_pos h]
theorem wrote_no {xs : List Int} (h : xs.all M.anyK = false) : wrote xs = .tuple #[.string ByteArray.empty, .bool false] := by unfold wrote; rw [if_neg (by simp [h])]
theorem encodedK_yes {xs : List Int} (h : xs.all M.anyK = true) : encodedK xs = .tuple #[.string (strOfNums (M.kenc xs)), .int .i64 0] := by unfold encodedK; rw [if_pos h]
theorem encodedK_no {xs : List Int} (h : xs.all M.anyK = false) : encodedK xs = .tuple #[.string ByteArray.empty, .int .i64 5] := by unfold encodedK; rw [if_neg (by simp [h])]

set_option maxHeartbeats 800000 in
set_option maxRecDepth 100000 in
theorem kencode_any (v : Value) (xs : List Int) (w : World) (hI : Ints w v xs) (hlen : xs.length ≤ 3000) (hgi : ∀ n ∈ xs, Gi n) :
    Calls Tryd.prog 49 #[v] w fun e w' => e = .returned (encodedK xs) ∧ Below w.heap.size w w' := by
  have hw := write_any v xs w hI (by omega) hgi
  obtain ⟨ao, cap, rfl, -⟩ := hI
  cases hq : xs.all M.anyK
  · rw [wrote_no hq] at hw
    rw [encodedK_no hq]
    clear hq hgi
    go_enter Tryd.func49, Tryd.ntmps49
    go_wp2_with fail
    refine hw.mono ?_
    rintro e w1 ⟨rfl, hb⟩
    have HB := hide hb
    clear hb hw
    go_wp2_with fail
    go_ret2
    exact ⟨rfl, unhide HB⟩
  · rw [wrote_yes hq] at hw
    rw [encodedK_yes hq]
    clear hq hgi
    generalize strOfNums (M.kenc xs) = s at hw
    go_enter Tryd.func49, Tryd.ntmps49
    go_wp2_with fail
    refine hw.mono ?_
    rintro e w1 ⟨rfl, hb⟩
    have HB := hide hb
    clear hb hw
    go_wp2_with fail
    go_ret2
    exact ⟨rfl, unhide HB⟩
set_option maxHeartbeats 400000 in
set_option maxRecDepth 100000 in
theorem kencode_long (ao : Option Addr) (len cap : Nat) (w : World) (h : 3000 < len) (hm : len ≤ maxLen) :
    Calls Tryd.prog 49 #[.slice ao len cap] w fun e w' => e = .returned (.tuple #[.string ByteArray.empty, .int .i64 2]) ∧ w' = w := by
  unfold maxLen at hm
  go_enter Tryd.func49, Tryd.ntmps49
  go_wp2
  go_ret2
  exact ⟨rfl, rfl⟩

end Go.Proofs.YthhjfedegbldfadDoor
