/- The contract of label.Trim, and of cartouchelaw.labelBegun: true; nothing that was there is written. -/
import Derived.Test.YtofbghdkmjhniaaDoorLO
import Derived.Test.YtofbghdkmjhniaaDoorLG
import Derived.Test.YtofbghdkmjhniaaDoorLC
import Derived.Test.YtofbghdkmjhniaaDoorLN5
namespace Go.Proofs.YtofbghdkmjhniaaDoor
open Go.RowKit
set_option linter.unusedVariables false

set_option maxHeartbeats 400000 in
set_option maxRecDepth 100000 in
theorem Trim_ok (s : ByteArray) (w : World) (hs : s.size ≤ 3000) :
    Calls Tryd.prog 14 #[.string s] w fun e w' => e = .returned (.tuple #[.string (strOfNums (trI (bl s))), .int .i64 0]) ∧ Below w.heap.size w w' := by
  have HC := hide (fun w => trim_any s w hs)
  have hz := tr_size s hs
  generalize strOfNums (trI (bl s)) = r at HC hz ⊢
  go_enter Tryd.func14, Tryd.ntmps14
  go_wp2_with (first | (go_at_call 19; refine (unhide HC _).mono ?_; rintro e w1 ⟨rfl, hb⟩) | (go_at_call 28; refine (clone_any r _ (by omega)).mono ?_; rintro e w2 ⟨rfl, hb'⟩) | go_in)
  go_ret2
  exact ⟨rfl, bstep hb hb'⟩
set_option maxHeartbeats 800000 in
set_option maxRecDepth 100000 in
theorem labelBegun_any (w : World) : Calls Tryd.prog 7 #[] w fun e w' => e = .returned (.bool true) ∧ Below w.heap.size w w' := by
  have s1 := fun w => Trim_ok ⟨#[9, 32, 97, 32, 98, 32, 10]⟩ w (by decide)
  rw [show strOfNums (trI (bl ⟨#[9, 32, 97, 32, 98, 32, 10]⟩)) = ⟨#[97, 32, 98]⟩ from by decide +kernel] at s1
  have s2 := fun w => Fold_ok ⟨#[65, 196, 122]⟩ w (by decide)
  rw [show strOfNums (fdI (bl ⟨#[65, 196, 122]⟩)) = ⟨#[97, 196, 122]⟩ from by decide +kernel] at s2
  have s3 := fun w => Find_ok ⟨#[32, 76, 97, 116, 105, 110, 49, 13]⟩ w (by decide)
  rw [show findI ⟨#[32, 76, 97, 116, 105, 110, 49, 13]⟩ = 4 from by decide +kernel] at s3
  have s4 := fun w => Name_yes 3 w (by decide)
  rw [show nameI 3 = ⟨#[117, 116, 102, 45, 49, 54, 98, 101]⟩ from by decide +kernel] at s4
  have s5 := fun w => Name_no 0 w (by decide)
  go_enter Tryd.func7, Tryd.ntmps7
  go_wp2_with fail
  refine (s1 _).mono ?_
  rintro e w1 ⟨rfl, hb1⟩
  have HB1 := hide hb1
  clear hb1 s1
  go_wp2_with fail
  refine (s2 _).mono ?_
  rintro e w2 ⟨rfl, hb2⟩
  have HB2 := hide (bstep (unhide HB1) hb2)
  clear hb2 s2 HB1
  go_wp2_with fail
  refine (s3 _).mono ?_
  rintro e w3 ⟨rfl, hb3⟩
  have HB3 := hide (bstep (unhide HB2) hb3)
  clear hb3 s3 HB2
  go_wp2_with fail
  refine (s4 _).mono ?_
  rintro e w4 ⟨rfl, hb4⟩
  have HB4 := hide (bstep (unhide HB3) hb4)
  clear hb4 s4 HB3
  go_wp2_with fail
  refine (s5 _).mono ?_
  rintro e w5 ⟨rfl, hb5⟩
  have HB5 := hide (bstep (unhide HB4) hb5)
  clear hb5 s5 HB4
  go_wp2_with fail
  go_ret
  exact ⟨rfl, unhide HB5⟩
end Go.Proofs.YtofbghdkmjhniaaDoor
