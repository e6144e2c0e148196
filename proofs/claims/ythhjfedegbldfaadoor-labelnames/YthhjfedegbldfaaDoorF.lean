/- The contract of cartouchelaw.labelBegun: it is true; nothing that was there is written. -/
import Derived.Test.YthhjfedegbldfaaDoorE
namespace Go.Proofs.YthhjfedegbldfaaDoor
open Go.RowKit
set_option linter.unusedVariables false

theorem b_trim : strOfNums (trI (bl ⟨#[9, 32, 97, 32, 98, 32, 10]⟩)) = ⟨#[97, 32, 98]⟩ := by
  have e : trI (bl ⟨#[9, 32, 97, 32, 98, 32, 10]⟩) = [97, 32, 98] := by decide +kernel
  rw [e]; rfl
theorem b_fold : strOfNums (fdI (bl ⟨#[65, 196, 122]⟩)) = ⟨#[97, 196, 122]⟩ := by
  have e : fdI (bl ⟨#[65, 196, 122]⟩) = [97, 196, 122] := by decide +kernel
  rw [e]; rfl
theorem b_find : findI ⟨#[32, 76, 97, 116, 105, 110, 49, 13]⟩ = 4 := by decide +kernel
theorem b_name : nameI 3 = ⟨#[117, 116, 102, 45, 49, 54, 98, 101]⟩ := by decide +kernel

set_option maxHeartbeats 1000000 in
set_option maxRecDepth 100000 in
theorem begun_any (w : World) : Calls Tryd.prog 14 #[] w fun e w' => e = .returned (.bool true) ∧ Below w.heap.size w w' := by
  go_enter Tryd.func14, Tryd.ntmps14
  go_wp2_with fail
  refine (Trim_ok _ _ (by decide)).mono ?_
  rintro e w1 ⟨rfl, hb1⟩
  rw [b_trim]
  go_wp2_with fail
  refine (Fold_ok _ _ (by decide)).mono ?_
  rintro e w2 ⟨rfl, hb2⟩
  rw [b_fold]
  go_wp2_with fail
  refine (Find_ok _ _ (by decide)).mono ?_
  rintro e w3 ⟨rfl, hb3⟩
  rw [b_find]
  go_wp2_with fail
  refine (Name_yes 3 _ (by decide)).mono ?_
  rintro e w4 ⟨rfl, hb4⟩
  rw [b_name]
  go_wp2_with fail
  refine (Name_no 0 _ (by decide)).mono ?_
  rintro e w5 ⟨rfl, hb5⟩
  have HB := hide (bstep (bstep (bstep (bstep hb1 hb2) hb3) hb4) hb5)
  clear hb1 hb2 hb3 hb4 hb5
  go_wp2_with fail
  go_ret
  exact ⟨ret_bool (by simp), unhide HB⟩
end Go.Proofs.YthhjfedegbldfaaDoor
