/- The contract of label.Fold: a text of at most 3000 bytes is folded, and OK; a longer one is empty, and ErrMany; nothing that was there is written. -/
import Derived.Test.YthhjfedegbldfaeDoorLF
namespace Go.Proofs.YthhjfedegbldfaeDoor
open Go.RowKit
set_option linter.unusedVariables false

set_option maxHeartbeats 400000 in
set_option maxRecDepth 100000 in
theorem Fold_ok (s : ByteArray) (w : World) (hs : s.size ≤ 3000) :
    Calls Tryd.prog 27 #[.string s] w fun e w' => e = .returned (.tuple #[.string (strOfNums (fdI (bl s))), .int .i64 0]) ∧ Below w.heap.size w w' := by
  have HC := hide (fun w => fold_any s w hs)
  generalize strOfNums (fdI (bl s)) = r at HC ⊢
  go_enter Tryd.func27, Tryd.ntmps27
  go_wp2_with (first | (go_at_call 37; refine (unhide HC _).mono ?_; rintro e w1 ⟨rfl, hb⟩) | go_in)
  go_ret2
  exact ⟨rfl, by assumption⟩

set_option maxHeartbeats 400000 in
set_option maxRecDepth 100000 in
theorem Fold_long (s : ByteArray) (w : World) (hs : 3000 < s.size) (hm : s.size ≤ maxLen) :
    Calls Tryd.prog 27 #[.string s] w fun e w' => e = .returned (.tuple #[.string ⟨#[]⟩, .int .i64 2]) ∧ w' = w := by
  unfold maxLen at hm
  go_enter Tryd.func27, Tryd.ntmps27
  go_wp2
  go_ret2
  exact ⟨rfl, rfl⟩

end Go.Proofs.YthhjfedegbldfaeDoor
