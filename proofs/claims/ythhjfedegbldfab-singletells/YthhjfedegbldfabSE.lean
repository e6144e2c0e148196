/- The contract of cartouchelaw.singleBegun: it is true; nothing that was there is written. -/
import Derived.Test.YthhjfedegbldfabSC
import Derived.Test.YthhjfedegbldfabSame
namespace Go.Proofs.Ythhjfedegbldfab
open Go.RowKit Go.Maps
set_option linter.unusedVariables false

theorem decS_b1 : M.decS false (bl ⟨#[97, 128, 255]⟩) = [97, 8364, 255] := by decide +kernel
theorem decS_b2 : M.decS true (bl ⟨#[97, 128, 255]⟩) = [97, 63360, 63487] := by decide +kernel
theorem bof_b : M.bof false 8364 = 128 := by decide +kernel
theorem encS_b : encResS true [63360, 98] = .tuple #[.string ⟨#[128, 98]⟩, .int .i64 0] := by
  rw [encResS_yes (by decide +kernel)]
  have : strOfNums (M.encS true [63360, 98]) = ⟨#[128, 98]⟩ := by
    have e : M.encS true [63360, 98] = [128, 98] := by decide +kernel
    rw [e]; rfl
  rw [this]

set_option maxHeartbeats 400000 in
set_option maxRecDepth 100000 in
theorem begunS_any (w : World) : Calls Try.prog 24 #[] w fun e w' => e = .returned (.bool true) ∧ Below w.heap.size w w' := by
  go_enter Try.func24, Try.ntmps24
  go_wp2_with fail
  refine (decodeS_any _ _ _ (by decide)).mono ?_
  rintro e w1 ⟨v1, rfl, hI1, hb1⟩
  rw [decS_b1] at hI1
  obtain ⟨ao, cap, hsh, _⟩ := id hI1
  subst hsh
  have HI1 := hide hI1
  clear hI1
  go_wp2_with fail
  refine (decodeS_any _ _ _ (by decide)).mono ?_
  rintro e w2 ⟨v2, rfl, hI2, hb2⟩
  rw [decS_b2] at hI2
  obtain ⟨ao2, cap2, hsh2, _⟩ := id hI2
  subst hsh2
  have HI2 := hide hI2
  clear hI2
  go_wp2_with fail
  refine (tellsS_yes false 8364 _ (by decide) (hide (by decide +kernel))).mono ?_
  rintro e w3 ⟨rfl, hb3⟩
  rw [bof_b]
  go_wp2_with fail
  refine (tellsS_no true 8364 _ (by decide) (hide (by decide +kernel))).mono ?_
  rintro e w4 ⟨rfl, hb4⟩
  go_wp2_with fail
  refine (encodeS_any true _ (two_ints _ _ _) (by decide) (by simp)).mono ?_
  rintro e w5 ⟨rfl, hb5⟩
  rw [encS_b]
  have HB5 := hide (bstep (bstep (bstep hb3 hb4) (balloc _ _)) hb5)
  have HB1 := hide hb1
  have HB2 := hide hb2
  clear hb1 hb2 hb3 hb4 hb5
  go_wp2_with fail
  have h6 := bstep (bstep (unhide HB2) (unhide HB5)) (balloc _ (.cells #[.int .i64 97, .int .i64 8364, .int .i64 255] 3))
  refine (same_any _ ((unhide HI1).below h6) (three_ints _ _ _ _)).mono ?_
  rintro e w6 ⟨rfl, hb6⟩
  rw [show ([97, 8364, 255] == ([97, 8364, 255] : List Int)) = true from by decide +kernel]
  have HB6 := hide (bstep (bstep (unhide HB5) (balloc _ _)) hb6)
  clear hb6 h6
  go_wp2_with fail
  have h7 := bstep (unhide HB6) (balloc _ (.cells #[.int .i64 97, .int .i64 63360, .int .i64 63487] 3))
  refine (same_any _ ((unhide HI2).below h7) (three_ints _ _ _ _)).mono ?_
  rintro e w7 ⟨rfl, hb7⟩
  rw [show ([97, 63360, 63487] == ([97, 63360, 63487] : List Int)) = true from by decide +kernel]
  have HB := hide (bstep (bstep (bstep (unhide HB1) (unhide HB2)) h7) hb7)
  clear hb7 h7
  go_wp2_with fail
  go_ret
  exact ⟨rfl, unhide HB⟩
end Go.Proofs.Ythhjfedegbldfab
