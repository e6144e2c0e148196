/- The contract of cartouchelaw.tooLong: ErrMany for more than 3000 bytes, else OK; nothing changes. -/
import Derived.Test.YthhjfedegbldfaeDoorBase
namespace Go.Proofs.YthhjfedegbldfaeDoor
open Go.RowKit
set_option linter.unusedVariables false

set_option maxHeartbeats 400000 in
set_option maxRecDepth 100000 in
theorem tooLong_no (s : ByteArray) (w : World) (hs : s.size ≤ 3000) : Calls Tryd.prog 11 #[.string s] w fun e w' => e = .returned (.int .i64 0) ∧ w' = w := by
  go_enter Tryd.func11, Tryd.ntmps11
  go_wp2
  go_ret
  exact ⟨rfl, rfl⟩
set_option maxHeartbeats 400000 in
set_option maxRecDepth 100000 in
theorem tooLong_yes (s : ByteArray) (w : World) (hs : 3000 < s.size) (hm : s.size ≤ maxLen) : Calls Tryd.prog 11 #[.string s] w fun e w' => e = .returned (.int .i64 2) ∧ w' = w := by
  unfold maxLen at hm
  go_enter Tryd.func11, Tryd.ntmps11
  go_wp2
  go_ret
  exact ⟨rfl, rfl⟩
end Go.Proofs.YthhjfedegbldfaeDoor
