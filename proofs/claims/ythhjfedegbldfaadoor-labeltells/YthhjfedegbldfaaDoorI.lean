/- The walks of the law LabelTells. -/
import Derived.Test.YthhjfedegbldfaaDoorH
import Derived.Test.YthhjfedegbldfaaDoorF
namespace Go.Proofs.YthhjfedegbldfaaDoor.labelTells
open Go.RowKit
open Go.Proofs.YthhjfedegbldfaaDoor
set_option linter.unusedVariables false

set_option maxHeartbeats 1000000 in
set_option maxRecDepth 100000 in
theorem long_yes (s : ByteArray) (n : Int) (w : World) (hs : 3000 < s.size) (hsm : s.size ≤ maxLen) (hn : 1 ≤ n ∧ n ≤ 7) :
    Calls Tryd.prog 3 #[.string s, .int .i64 n] w fun e w' => e = .returned (.bool true) ∧ Below w.heap.size w w' := by
  have HB := hide (Below.refl w.heap.size w)
  have hdn := hide (show decide (1 ≤ n ∧ n ≤ 7) = true from by simp; omega)
  unfold maxLen at hsm
  go_enter Tryd.func3, Tryd.ntmps3
  go_wp2_with fail
  refine (Trim_long s _ hs (by unfold maxLen; exact hsm)).mono ?_
  rintro e w1 ⟨rfl, hw⟩
  replace hw := hw.symm
  subst hw
  go_wp2_with fail
  refine (Fold_long s _ hs (by unfold maxLen; exact hsm)).mono ?_
  rintro e w2 ⟨rfl, hw⟩
  replace hw := hw.symm
  subst hw
  go_wp2_with fail
  refine (Find_long s _ hs (by unfold maxLen; exact hsm)).mono ?_
  rintro e w3 ⟨rfl, hw⟩
  replace hw := hw.symm
  subst hw
  go_wp2_with fail
  refine (Name_yes n _ hn).mono ?_
  rintro e w4 ⟨rfl, hb⟩
  replace HB := hide (bstep (unhide HB) hb)
  clear hb
  go_wp2_with fail
  refine (isEncoding_any n _).mono ?_
  rintro e w9 ⟨rfl, hw⟩
  replace hw := hw.symm
  subst hw
  rw [unhide hdn]
  go_wp2_with fail
  refine (nameOf_any n _ hn).mono ?_
  rintro e w8 ⟨rfl, hw⟩
  replace hw := hw.symm
  subst hw
  go_wp2_with fail
  refine (begun_any _).mono ?_
  rintro e wA ⟨rfl, hb⟩
  replace HB := hide (bstep (unhide HB) hb)
  clear hb
  go_wp2_with fail
  go_ret
  exact ⟨ret_bool (by simp), unhide HB⟩

set_option maxHeartbeats 1000000 in
set_option maxRecDepth 100000 in
theorem long_no (s : ByteArray) (n : Int) (w : World) (hs : 3000 < s.size) (hsm : s.size ≤ maxLen) (hn : ¬ (1 ≤ n ∧ n ≤ 7)) :
    Calls Tryd.prog 3 #[.string s, .int .i64 n] w fun e w' => e = .returned (.bool true) ∧ Below w.heap.size w w' := by
  have HB := hide (Below.refl w.heap.size w)
  have hdn := hide (show decide (1 ≤ n ∧ n ≤ 7) = false from by simp; omega)
  unfold maxLen at hsm
  go_enter Tryd.func3, Tryd.ntmps3
  go_wp2_with fail
  refine (Trim_long s _ hs (by unfold maxLen; exact hsm)).mono ?_
  rintro e w1 ⟨rfl, hw⟩
  replace hw := hw.symm
  subst hw
  go_wp2_with fail
  refine (Fold_long s _ hs (by unfold maxLen; exact hsm)).mono ?_
  rintro e w2 ⟨rfl, hw⟩
  replace hw := hw.symm
  subst hw
  go_wp2_with fail
  refine (Find_long s _ hs (by unfold maxLen; exact hsm)).mono ?_
  rintro e w3 ⟨rfl, hw⟩
  replace hw := hw.symm
  subst hw
  go_wp2_with fail
  refine (Name_no n _ hn).mono ?_
  rintro e w4 ⟨rfl, hb⟩
  replace HB := hide (bstep (unhide HB) hb)
  clear hb
  go_wp2_with fail
  refine (isEncoding_any n _).mono ?_
  rintro e w9 ⟨rfl, hw⟩
  replace hw := hw.symm
  subst hw
  rw [unhide hdn]
  go_wp2_with fail
  refine (begun_any _).mono ?_
  rintro e wA ⟨rfl, hb⟩
  replace HB := hide (bstep (unhide HB) hb)
  clear hb
  go_wp2_with fail
  go_ret
  exact ⟨ret_bool (by simp), unhide HB⟩

set_option maxHeartbeats 1000000 in
set_option maxRecDepth 100000 in
theorem short_yes (s : ByteArray) (n : Int) (w : World) (hs : s.size ≤ 3000) (hn : 1 ≤ n ∧ n ≤ 7) :
    Calls Tryd.prog 3 #[.string s, .int .i64 n] w fun e w' => e = .returned (.bool true) ∧ Below w.heap.size w w' := by
  have HB := hide (Below.refl w.heap.size w)
  have hdn := hide (show decide (1 ≤ n ∧ n ≤ 7) = true from by simp; omega)
  go_enter Tryd.func3, Tryd.ntmps3
  go_wp2_with fail
  refine (Trim_ok s _ hs).mono ?_
  rintro e w1 ⟨rfl, hb⟩
  replace HB := hide (bstep (unhide HB) hb)
  clear hb
  go_wp2_with fail
  refine (Fold_ok s _ hs).mono ?_
  rintro e w2 ⟨rfl, hb⟩
  replace HB := hide (bstep (unhide HB) hb)
  clear hb
  go_wp2_with fail
  refine (Find_ok s _ hs).mono ?_
  rintro e w3 ⟨rfl, hb⟩
  replace HB := hide (bstep (unhide HB) hb)
  clear hb
  go_wp2_with fail
  refine (Name_yes n _ hn).mono ?_
  rintro e w4 ⟨rfl, hb⟩
  replace HB := hide (bstep (unhide HB) hb)
  clear hb
  go_wp2_with fail
  refine (trimOf_any s _ hs).mono ?_
  rintro e w5 ⟨rfl, hw⟩
  replace hw := hw.symm
  subst hw
  go_wp2_with fail
  refine (foldOf_any s _ hs).mono ?_
  rintro e w6 ⟨rfl, hb⟩
  replace HB := hide (bstep (unhide HB) hb)
  clear hb
  go_wp2_with fail
  refine (findOf_any s _ hs).mono ?_
  rintro e w7 ⟨rfl, hb⟩
  replace HB := hide (bstep (unhide HB) hb)
  clear hb
  go_wp2_with fail
  refine (isEncoding_any n _).mono ?_
  rintro e w9 ⟨rfl, hw⟩
  replace hw := hw.symm
  subst hw
  rw [unhide hdn]
  go_wp2_with fail
  refine (nameOf_any n _ hn).mono ?_
  rintro e w8 ⟨rfl, hw⟩
  replace hw := hw.symm
  subst hw
  go_wp2_with fail
  refine (begun_any _).mono ?_
  rintro e wA ⟨rfl, hb⟩
  replace HB := hide (bstep (unhide HB) hb)
  clear hb
  go_wp2_with fail
  go_ret
  exact ⟨ret_bool (by simp), unhide HB⟩

set_option maxHeartbeats 1000000 in
set_option maxRecDepth 100000 in
theorem short_no (s : ByteArray) (n : Int) (w : World) (hs : s.size ≤ 3000) (hn : ¬ (1 ≤ n ∧ n ≤ 7)) :
    Calls Tryd.prog 3 #[.string s, .int .i64 n] w fun e w' => e = .returned (.bool true) ∧ Below w.heap.size w w' := by
  have HB := hide (Below.refl w.heap.size w)
  have hdn := hide (show decide (1 ≤ n ∧ n ≤ 7) = false from by simp; omega)
  go_enter Tryd.func3, Tryd.ntmps3
  go_wp2_with fail
  refine (Trim_ok s _ hs).mono ?_
  rintro e w1 ⟨rfl, hb⟩
  replace HB := hide (bstep (unhide HB) hb)
  clear hb
  go_wp2_with fail
  refine (Fold_ok s _ hs).mono ?_
  rintro e w2 ⟨rfl, hb⟩
  replace HB := hide (bstep (unhide HB) hb)
  clear hb
  go_wp2_with fail
  refine (Find_ok s _ hs).mono ?_
  rintro e w3 ⟨rfl, hb⟩
  replace HB := hide (bstep (unhide HB) hb)
  clear hb
  go_wp2_with fail
  refine (Name_no n _ hn).mono ?_
  rintro e w4 ⟨rfl, hb⟩
  replace HB := hide (bstep (unhide HB) hb)
  clear hb
  go_wp2_with fail
  refine (trimOf_any s _ hs).mono ?_
  rintro e w5 ⟨rfl, hw⟩
  replace hw := hw.symm
  subst hw
  go_wp2_with fail
  refine (foldOf_any s _ hs).mono ?_
  rintro e w6 ⟨rfl, hb⟩
  replace HB := hide (bstep (unhide HB) hb)
  clear hb
  go_wp2_with fail
  refine (findOf_any s _ hs).mono ?_
  rintro e w7 ⟨rfl, hb⟩
  replace HB := hide (bstep (unhide HB) hb)
  clear hb
  go_wp2_with fail
  refine (isEncoding_any n _).mono ?_
  rintro e w9 ⟨rfl, hw⟩
  replace hw := hw.symm
  subst hw
  rw [unhide hdn]
  go_wp2_with fail
  refine (begun_any _).mono ?_
  rintro e wA ⟨rfl, hb⟩
  replace HB := hide (bstep (unhide HB) hb)
  clear hb
  go_wp2_with fail
  go_ret
  exact ⟨ret_bool (by simp), unhide HB⟩

theorem walk (s : ByteArray) (n : Int) (w : World) (hs : s.size ≤ maxLen) :
    Calls Tryd.prog 3 #[.string s, .int .i64 n] w fun e w' => e = .returned (.bool true) ∧ Below w.heap.size w w' := by
  by_cases h : 3000 < s.size
  · by_cases hn : 1 ≤ n ∧ n ≤ 7
    · exact long_yes s n w h hs hn
    · exact long_no s n w h hs hn
  · by_cases hn : 1 ≤ n ∧ n ≤ 7
    · exact short_yes s n w (by omega) hn
    · exact short_no s n w (by omega) hn
end Go.Proofs.YthhjfedegbldfaaDoor.labelTells
