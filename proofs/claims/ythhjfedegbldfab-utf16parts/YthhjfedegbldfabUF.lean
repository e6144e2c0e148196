/- The contract of cartouchelaw.utf16Begun: it is true; nothing that was there is written. -/
import Derived.Test.YthhjfedegbldfabUB
import Derived.Test.YthhjfedegbldfabUC
import Derived.Test.YthhjfedegbldfabSame
namespace Go.Proofs.Ythhjfedegbldfab
open Go.RowKit
set_option linter.unusedVariables false

theorem dec16_begun : M.dec16 true (bl ⟨#[0, 97, 216, 0, 220, 1, 220, 0, 216]⟩) = [97, 65537, 65533, 65533] := by decide +kernel
theorem enc16_begun : encRes16 false [97, 65537] = .tuple #[.string ⟨#[97, 0, 0, 216, 1, 220]⟩, .int .i64 0] := by
  rw [encRes16_yes (by decide +kernel)]
  have : strOfNums (M.enc16 false [97, 65537]) = ⟨#[97, 0, 0, 216, 1, 220]⟩ := by
    have e : M.enc16 false [97, 65537] = [97, 0, 0, 216, 1, 220] := by decide +kernel
    rw [e]; rfl
  rw [this]

set_option maxHeartbeats 400000 in
set_option maxRecDepth 100000 in
theorem begun16_any (w : World) : Calls Try.prog 15 #[] w fun e w' => e = .returned (.bool true) ∧ Below w.heap.size w w' := by
  go_enter Try.func15, Try.ntmps15
  go_wp2_with fail
  refine (decode16_any _ _ _ (by decide)).mono ?_
  rintro e w1 ⟨v1, rfl, hI1, hb1⟩
  rw [dec16_begun] at hI1
  obtain ⟨ao, cap, hsh, _⟩ := id hI1
  subst hsh
  have HI1 := hide hI1
  clear hI1
  go_wp2_with fail
  refine (encode16_any _ _ (two_ints _ _ _) (by simp)).mono ?_
  rintro e w2 ⟨rfl, hb2⟩
  rw [enc16_begun]
  go_wp2_with fail
  have hb13 := bstep (bstep (balloc _ _) hb2) (balloc _ (.cells #[.int .i64 97, .int .i64 65537, .int .i64 65533, .int .i64 65533] 3))
  refine (same_any _ ((unhide HI1).below hb13) (four_ints _ _ _ _ _)).mono ?_
  rintro e w4 ⟨rfl, hb4⟩
  have HB := hide (bstep (bstep hb1 hb13) hb4)
  rw [show ([97, 65537, 65533, 65533] == ([97, 65537, 65533, 65533] : List Int)) = true from by decide +kernel]
  clear hb1 hb2 hb13 hb4
  go_wp2_with fail
  go_ret
  exact ⟨rfl, unhide HB⟩
end Go.Proofs.Ythhjfedegbldfab
