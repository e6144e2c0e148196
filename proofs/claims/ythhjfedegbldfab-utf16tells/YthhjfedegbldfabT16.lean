/- Proved: for both orders of bytes, every text s and every list l of integers the law Utf16Tells returns true and leaves all as they were. No condition. -/
import Derived.Test.YthhjfedegbldfabUD
import Derived.Test.YthhjfedegbldfabUE
import Derived.Test.YthhjfedegbldfabUF
import Derived.OpenShut
import Derived.ShutString
import Derived.ChangeOld
namespace Go.Proofs.Ythhjfedegbldfab.utf16Tells
open Go.ChangeShapes Go.WideShapes Go.ChangeAt Go.RowKit
open Go.ChangeMaps (open_string shut_string)
open Go.Proofs.Ythhjfedegbldfab
set_option linter.unusedVariables false

theorem own : ownKnob Try.prog.godebug = none := by kernel_rfl
theorem laidOut : laidOutB Try.prog = true := by kernel_rfl

set_option maxHeartbeats 1000000 in
set_option maxRecDepth 100000 in
theorem long_many (big : Bool) (s : ByteArray) (v : Value) (ys : List Int) (w : World) (hx : Ints w v ys) (hs : 3000 < s.size) (hsm : s.size ≤ maxLen) (hl : 3000 < ys.length) :
    Calls Try.prog 3 #[.bool big, .string s, v] w fun e w' => e = .returned (.bool true) ∧ Below w.heap.size w w' := by
  obtain ⟨yo, yc, hv, hym, -⟩ := id hx
  subst hv
  have HX := hide hx
  clear hx
  go_enter Try.func3, Try.ntmps3
  go_wp2_with fail
  refine (decode16_long big s _ hs hsm).mono ?_
  rintro e w1 ⟨rfl, hb1⟩
  have HB := hide hb1
  replace HX := hide ((unhide HX).below hb1)
  clear hb1
  go_wp2_with fail
  refine (encode16_many big yo _ yc _ hl hym).mono ?_
  rintro e w2 ⟨rfl, hb2⟩
  replace HB := hide (bstep (unhide HB) hb2)
  replace HX := hide ((unhide HX).below hb2)
  clear hb2
  go_wp2_with fail
  refine (tooLong_yes s _ hs hsm).mono ?_
  rintro e w4 ⟨rfl, hw⟩
  replace hw := hw.symm
  subst hw
  go_wp2_with fail
  refine (check_many yo _ yc _ hl hym).mono ?_
  rintro e w4 ⟨rfl, hw⟩
  replace hw := hw.symm
  subst hw
  go_wp2_with fail
  refine (begun16_any _).mono ?_
  rintro e w8 ⟨rfl, hb8⟩
  replace HB := hide (bstep (unhide HB) hb8)
  go_wp2_with fail
  refine (intsAre_err _ _ _ _).mono ?_
  rintro e w9 ⟨rfl, hb9⟩
  replace HB := hide (bstep (unhide HB) hb9)
  clear hb8 hb9
  go_wp2_with fail
  go_ret
  exact ⟨ret_bool (by simp), unhide HB⟩

set_option maxHeartbeats 1000000 in
set_option maxRecDepth 100000 in
theorem long_rng (big : Bool) (s : ByteArray) (v : Value) (ys : List Int) (w : World) (hx : Ints w v ys) (hs : 3000 < s.size) (hsm : s.size ≤ maxLen) (hl : ys.length ≤ 3000) (hn : Hid (ys.all M.sclr = false)) :
    Calls Try.prog 3 #[.bool big, .string s, v] w fun e w' => e = .returned (.bool true) ∧ Below w.heap.size w w' := by
  obtain ⟨yo, yc, hv, hym, -⟩ := id hx
  subst hv
  have HX := hide hx
  clear hx
  go_enter Try.func3, Try.ntmps3
  go_wp2_with fail
  refine (decode16_long big s _ hs hsm).mono ?_
  rintro e w1 ⟨rfl, hb1⟩
  have HB := hide hb1
  replace HX := hide ((unhide HX).below hb1)
  clear hb1
  go_wp2_with fail
  refine (encode16_any big _ (unhide HX) hl).mono ?_
  rintro e w2 ⟨rfl, hb2⟩
  rw [encRes16_no (unhide hn)]
  replace HB := hide (bstep (unhide HB) hb2)
  replace HX := hide ((unhide HX).below hb2)
  clear hb2
  go_wp2_with fail
  refine (tooLong_yes s _ hs hsm).mono ?_
  rintro e w4 ⟨rfl, hw⟩
  replace hw := hw.symm
  subst hw
  go_wp2_with fail
  refine (check_any _ (unhide HX) hl).mono ?_
  rintro e w4 ⟨rfl, hw⟩
  rw [chkRes_no (unhide hn)]
  replace hw := hw.symm
  subst hw
  go_wp2_with fail
  refine (begun16_any _).mono ?_
  rintro e w8 ⟨rfl, hb8⟩
  replace HB := hide (bstep (unhide HB) hb8)
  go_wp2_with fail
  refine (intsAre_err _ _ _ _).mono ?_
  rintro e w9 ⟨rfl, hb9⟩
  replace HB := hide (bstep (unhide HB) hb9)
  clear hb8 hb9
  go_wp2_with fail
  go_ret
  exact ⟨ret_bool (by simp), unhide HB⟩

set_option maxHeartbeats 1000000 in
set_option maxRecDepth 100000 in
theorem long_ok (big : Bool) (s : ByteArray) (v : Value) (ys : List Int) (w : World) (hx : Ints w v ys) (hs : 3000 < s.size) (hsm : s.size ≤ maxLen) (hl : ys.length ≤ 3000) (hn : Hid (ys.all M.sclr = true)) :
    Calls Try.prog 3 #[.bool big, .string s, v] w fun e w' => e = .returned (.bool true) ∧ Below w.heap.size w w' := by
  obtain ⟨yo, yc, hv, hym, -⟩ := id hx
  subst hv
  have HX := hide hx
  clear hx
  go_enter Try.func3, Try.ntmps3
  go_wp2_with fail
  refine (decode16_long big s _ hs hsm).mono ?_
  rintro e w1 ⟨rfl, hb1⟩
  have HB := hide hb1
  replace HX := hide ((unhide HX).below hb1)
  clear hb1
  go_wp2_with fail
  refine (encode16_any big _ (unhide HX) hl).mono ?_
  rintro e w2 ⟨rfl, hb2⟩
  rw [encRes16_yes (unhide hn)]
  replace HB := hide (bstep (unhide HB) hb2)
  replace HX := hide ((unhide HX).below hb2)
  clear hb2
  have HR := hide (fun (w : World) (hx : Ints w (.slice yo ys.length yc) ys) => encRef16_any big w hx hl (unhide hn))
  generalize strOfNums (M.enc16 big ys) = t at *
  go_wp2_with fail
  refine (tooLong_yes s _ hs hsm).mono ?_
  rintro e w4 ⟨rfl, hw⟩
  replace hw := hw.symm
  subst hw
  go_wp2_with fail
  refine (check_any _ (unhide HX) hl).mono ?_
  rintro e w4 ⟨rfl, hw⟩
  rw [chkRes_yes (unhide hn)]
  replace hw := hw.symm
  subst hw
  go_wp2_with fail
  refine (unhide HR _ (unhide HX)).mono ?_
  rintro e w7 ⟨rfl, hb7⟩
  replace HB := hide (bstep (unhide HB) hb7)
  clear hb7
  go_wp2_with fail
  refine (begun16_any _).mono ?_
  rintro e w8 ⟨rfl, hb8⟩
  replace HB := hide (bstep (unhide HB) hb8)
  go_wp2_with fail
  refine (intsAre_err _ _ _ _).mono ?_
  rintro e w9 ⟨rfl, hb9⟩
  replace HB := hide (bstep (unhide HB) hb9)
  clear hb8 hb9
  go_wp2_with fail
  go_ret
  exact ⟨ret_bool (by simp), unhide HB⟩

set_option maxHeartbeats 1000000 in
set_option maxRecDepth 100000 in
theorem short_many (big : Bool) (s : ByteArray) (v : Value) (ys : List Int) (w : World) (hx : Ints w v ys) (hs : s.size ≤ 3000) (hl : 3000 < ys.length) :
    Calls Try.prog 3 #[.bool big, .string s, v] w fun e w' => e = .returned (.bool true) ∧ Below w.heap.size w w' := by
  obtain ⟨yo, yc, hv, hym, -⟩ := id hx
  subst hv
  have HX := hide hx
  clear hx
  go_enter Try.func3, Try.ntmps3
  go_wp2_with fail
  refine (decode16_any big s _ hs).mono ?_
  rintro e w1 ⟨v1, rfl, hI1, hb1⟩
  obtain ⟨ao1, cap1, hsh1, -⟩ := id hI1
  subst hsh1
  have HI1 := hide hI1
  have HB := hide hb1
  replace HX := hide ((unhide HX).below hb1)
  clear hI1 hb1
  go_wp2_with fail
  refine (encode16_many big yo _ yc _ hl hym).mono ?_
  rintro e w2 ⟨rfl, hb2⟩
  replace HB := hide (bstep (unhide HB) hb2)
  replace HX := hide ((unhide HX).below hb2)
  replace HI1 := hide ((unhide HI1).below hb2)
  clear hb2
  go_wp2_with fail
  refine (tooLong_no s _ hs).mono ?_
  rintro e w4 ⟨rfl, hw⟩
  replace hw := hw.symm
  subst hw
  go_wp2_with fail
  refine (check_many yo _ yc _ hl hym).mono ?_
  rintro e w4 ⟨rfl, hw⟩
  replace hw := hw.symm
  subst hw
  go_wp2_with fail
  refine (allUtf16_any big s _ hs).mono ?_
  rintro e w5 ⟨v5, rfl, hI5, hb5⟩
  obtain ⟨ao5, cap5, hsh5, -⟩ := id hI5
  subst hsh5
  have HI5 := hide hI5
  replace HB := hide (bstep (unhide HB) hb5)
  replace HI1 := hide ((unhide HI1).below hb5)
  replace HX := hide ((unhide HX).below hb5)
  clear hI5 hb5
  go_wp2_with fail
  refine (begun16_any _).mono ?_
  rintro e w8 ⟨rfl, hb8⟩
  replace HB := hide (bstep (unhide HB) hb8)
  go_wp2_with fail
  refine (intsAre_ok _ ((unhide HI1).below hb8) ((unhide HI5).below hb8)).mono ?_
  rintro e w9 ⟨rfl, hb9⟩
  replace HB := hide (bstep (unhide HB) hb9)
  clear hb8 hb9
  go_wp2_with fail
  go_ret
  exact ⟨ret_bool (by simp), unhide HB⟩

set_option maxHeartbeats 1000000 in
set_option maxRecDepth 100000 in
theorem short_rng (big : Bool) (s : ByteArray) (v : Value) (ys : List Int) (w : World) (hx : Ints w v ys) (hs : s.size ≤ 3000) (hl : ys.length ≤ 3000) (hn : Hid (ys.all M.sclr = false)) :
    Calls Try.prog 3 #[.bool big, .string s, v] w fun e w' => e = .returned (.bool true) ∧ Below w.heap.size w w' := by
  obtain ⟨yo, yc, hv, hym, -⟩ := id hx
  subst hv
  have HX := hide hx
  clear hx
  go_enter Try.func3, Try.ntmps3
  go_wp2_with fail
  refine (decode16_any big s _ hs).mono ?_
  rintro e w1 ⟨v1, rfl, hI1, hb1⟩
  obtain ⟨ao1, cap1, hsh1, -⟩ := id hI1
  subst hsh1
  have HI1 := hide hI1
  have HB := hide hb1
  replace HX := hide ((unhide HX).below hb1)
  clear hI1 hb1
  go_wp2_with fail
  refine (encode16_any big _ (unhide HX) hl).mono ?_
  rintro e w2 ⟨rfl, hb2⟩
  rw [encRes16_no (unhide hn)]
  replace HB := hide (bstep (unhide HB) hb2)
  replace HX := hide ((unhide HX).below hb2)
  replace HI1 := hide ((unhide HI1).below hb2)
  clear hb2
  go_wp2_with fail
  refine (tooLong_no s _ hs).mono ?_
  rintro e w4 ⟨rfl, hw⟩
  replace hw := hw.symm
  subst hw
  go_wp2_with fail
  refine (check_any _ (unhide HX) hl).mono ?_
  rintro e w4 ⟨rfl, hw⟩
  rw [chkRes_no (unhide hn)]
  replace hw := hw.symm
  subst hw
  go_wp2_with fail
  refine (allUtf16_any big s _ hs).mono ?_
  rintro e w5 ⟨v5, rfl, hI5, hb5⟩
  obtain ⟨ao5, cap5, hsh5, -⟩ := id hI5
  subst hsh5
  have HI5 := hide hI5
  replace HB := hide (bstep (unhide HB) hb5)
  replace HI1 := hide ((unhide HI1).below hb5)
  replace HX := hide ((unhide HX).below hb5)
  clear hI5 hb5
  go_wp2_with fail
  refine (begun16_any _).mono ?_
  rintro e w8 ⟨rfl, hb8⟩
  replace HB := hide (bstep (unhide HB) hb8)
  go_wp2_with fail
  refine (intsAre_ok _ ((unhide HI1).below hb8) ((unhide HI5).below hb8)).mono ?_
  rintro e w9 ⟨rfl, hb9⟩
  replace HB := hide (bstep (unhide HB) hb9)
  clear hb8 hb9
  go_wp2_with fail
  go_ret
  exact ⟨ret_bool (by simp), unhide HB⟩

set_option maxHeartbeats 1000000 in
set_option maxRecDepth 100000 in
theorem short_ok (big : Bool) (s : ByteArray) (v : Value) (ys : List Int) (w : World) (hx : Ints w v ys) (hs : s.size ≤ 3000) (hl : ys.length ≤ 3000) (hn : Hid (ys.all M.sclr = true)) :
    Calls Try.prog 3 #[.bool big, .string s, v] w fun e w' => e = .returned (.bool true) ∧ Below w.heap.size w w' := by
  obtain ⟨yo, yc, hv, hym, -⟩ := id hx
  subst hv
  have HX := hide hx
  clear hx
  go_enter Try.func3, Try.ntmps3
  go_wp2_with fail
  refine (decode16_any big s _ hs).mono ?_
  rintro e w1 ⟨v1, rfl, hI1, hb1⟩
  obtain ⟨ao1, cap1, hsh1, -⟩ := id hI1
  subst hsh1
  have HI1 := hide hI1
  have HB := hide hb1
  replace HX := hide ((unhide HX).below hb1)
  clear hI1 hb1
  go_wp2_with fail
  refine (encode16_any big _ (unhide HX) hl).mono ?_
  rintro e w2 ⟨rfl, hb2⟩
  rw [encRes16_yes (unhide hn)]
  replace HB := hide (bstep (unhide HB) hb2)
  replace HX := hide ((unhide HX).below hb2)
  replace HI1 := hide ((unhide HI1).below hb2)
  clear hb2
  have HR := hide (fun (w : World) (hx : Ints w (.slice yo ys.length yc) ys) => encRef16_any big w hx hl (unhide hn))
  generalize strOfNums (M.enc16 big ys) = t at *
  go_wp2_with fail
  refine (tooLong_no s _ hs).mono ?_
  rintro e w4 ⟨rfl, hw⟩
  replace hw := hw.symm
  subst hw
  go_wp2_with fail
  refine (check_any _ (unhide HX) hl).mono ?_
  rintro e w4 ⟨rfl, hw⟩
  rw [chkRes_yes (unhide hn)]
  replace hw := hw.symm
  subst hw
  go_wp2_with fail
  refine (allUtf16_any big s _ hs).mono ?_
  rintro e w5 ⟨v5, rfl, hI5, hb5⟩
  obtain ⟨ao5, cap5, hsh5, -⟩ := id hI5
  subst hsh5
  have HI5 := hide hI5
  replace HB := hide (bstep (unhide HB) hb5)
  replace HI1 := hide ((unhide HI1).below hb5)
  replace HX := hide ((unhide HX).below hb5)
  clear hI5 hb5
  go_wp2_with fail
  refine (unhide HR _ (unhide HX)).mono ?_
  rintro e w7 ⟨rfl, hb7⟩
  replace HB := hide (bstep (unhide HB) hb7)
  replace HI1 := hide ((unhide HI1).below hb7)
  replace HI5 := hide ((unhide HI5).below hb7)
  clear hb7
  go_wp2_with fail
  refine (begun16_any _).mono ?_
  rintro e w8 ⟨rfl, hb8⟩
  replace HB := hide (bstep (unhide HB) hb8)
  go_wp2_with fail
  refine (intsAre_ok _ ((unhide HI1).below hb8) ((unhide HI5).below hb8)).mono ?_
  rintro e w9 ⟨rfl, hb9⟩
  replace HB := hide (bstep (unhide HB) hb9)
  clear hb8 hb9
  go_wp2_with fail
  go_ret
  exact ⟨ret_bool (by simp), unhide HB⟩


theorem walk (big : Bool) (s : ByteArray) (v : Value) (ys : List Int) (w : World) (hs : s.size ≤ maxLen) (hx : Ints w v ys) :
    Calls Try.prog 3 #[.bool big, .string s, v] w fun e w' => e = .returned (.bool true) ∧ Below w.heap.size w w' := by
  by_cases h : 3000 < s.size
  · by_cases hl : 3000 < ys.length
    · exact long_many big s v ys w hx h hs hl
    · by_cases hn : ys.all M.sclr = true
      · exact long_ok big s v ys w hx h hs (by omega) hn
      · exact long_rng big s v ys w hx h hs (by omega) (Bool.eq_false_iff.2 hn)
  · by_cases hl : 3000 < ys.length
    · exact short_many big s v ys w hx (by omega) hl
    · by_cases hn : ys.all M.sclr = true
      · exact short_ok big s v ys w hx (by omega) (by omega) hn
      · exact short_rng big s v ys w hx (by omega) (by omega) (Bool.eq_false_iff.2 hn)

set_option maxRecDepth 100000 in
theorem lifted (os : Os) (started : os.Started) (H : Type) (enc : TypeId × Value → H) :
    ReturnsInHanded {} Try.checked os 3 .any (Rows.utf16TellsSpec.pre6 enc Try.prog Try.f3 Rows.utf16TellsRow.domain false) (Rows.utf16TellsSpec.post enc Try.prog Try.f3 false true false false) := by
  refine returnsInHanded_of_change (C := Try.checked) own started (by kernel_rfl) Try.func3
    (ChangeSpec.witness6 (enc := enc) (C := Try.checked) false ⟨#[], #[.bool false, .string ByteArray.empty, .slice none 0 0], []⟩ 8 (by kernel_rfl) (by kernel_rfl) (by kernel_rfl) (by kernel_rfl)) ?_
  intro W base args ds gs before hval0 hW hcnd _
  have hval : ∀ (j : Nat) t v, Try.f3.params[j]? = some t → args[j]? = some v → Value.okWide Try.prog W .any base t v := hval0
  have hW' := hW
  obtain ⟨p, q, hA0, hV, rfl, hfz, hnd⟩ := hW
  have hA : DataW.TrodAll enc Try.prog W 0 (fun _ => true) true Try.f3.params.toList args.toList ds p := hA0
  rw [Try.params3] at hA hval
  obtain ⟨v0, vs0, d0, ds0, p0, q0, hargs, rfl, rfl, h0, r0⟩ := trodAll_cons hA
  obtain ⟨v1, vs1, d1, ds1, p1, q1, rfl, rfl, rfl, h1, r1⟩ := trodAll_cons r0
  obtain ⟨v2, vs2, d2, ds2, p2, q2, rfl, rfl, rfl, h2, r2⟩ := trodAll_cons r1
  obtain ⟨rfl, rfl, rfl⟩ := trodAll_nil r2
  obtain rfl : args = #[v0, v1, v2] := by cases args; simp_all
  obtain ⟨rfl, rfl⟩ := trodVars_none hV
  obtain ⟨a0, rfl, rfl, rfl⟩ := open_bool Try.underlying4 (hval 0 4 v0 rfl rfl) h0
  obtain ⟨a1, rfl, rfl, rfl, w1⟩ := open_string Try.underlying9 (hval 1 9 v1 rfl rfl) h1
  obtain ⟨a2, len2, cap2, rfl⟩ := okWide_slice Try.underlying22 (hval 2 22 v2 rfl rfl)
  have k2 := h2
  have lt2 : ∀ x ∈ p2, x.block < W.heap.size := by obtain ⟨m, hm⟩ := k2; exact DataW.trod_lt m _ _ _ hm
  obtain ⟨z2, w2⟩ : ∃ zs, IsRow .i64 W a2 len2 cap2 zs := by
    obtain ⟨fuel, hf⟩ := h2
    rcases open_ints Try.underlying22 Try.underlying3 (by kernel_rfl) hf with ⟨hcs, _⟩ | ⟨x, l, c, zs, hcs, _, hl, hm, hz, _, hcell, hwz⟩
    · simp [Value.cells] at hcs
      obtain ⟨rfl, rfl, rfl⟩ := hcs
      exact ⟨[], .inl ⟨rfl, rfl, rfl, rfl⟩⟩
    · simp [Value.cells] at hcs
      obtain ⟨rfl, rfl, rfl⟩ := hcs
      exact ⟨zs, .inr ⟨_, rfl, hl, hm, by simpa using hz, hcell, hwz⟩⟩
  clear hA0 hval0
  refine (walk a0 a1 (.slice a2 len2 cap2) (z2.take len2) W w1 (Ints.of_row w2)).mono fun e W' ⟨he, bel⟩ => ?_
  subst he
  exact ⟨_, rfl, _, _, _, [], _, [], hW', trodAll_mk1 (shut_bool Try.underlying4 _), (trodAll_cons_mk (shut_bool Try.underlying4 _) (trodAll_cons_mk (shut_string Try.underlying9 w1) (trodAll_cons_mk (Below.trod laidOut (by kernel_rfl) (of_decide_eq_true (by kernel_rfl)) k2 bel lt2) trodAll_mk0))), rfl, bel.frame _, fun h => by cases h⟩

theorem over : Rows.utf16TellsRow.holds Try.pinned (OpenSpec.ofChange Rows.utf16TellsSpec) :=
  OpenClaim.holds_of_wide 3 Try.f3 rfl rfl rfl rfl rfl rfl rfl ⟨rfl, rfl, rfl, rfl, rfl⟩ rfl rfl rfl rfl rfl (by kernel_rfl) Try.func3 (by kernel_rfl)
    (of_decide_eq_true (by kernel_rfl)) (by unfold Func.isWrapper; first | (rw [if_pos (by decide +kernel)]; kernel_rfl) | (rw [if_neg (by decide +kernel)]; exact ⟨rfl, rfl⟩))
    (fun os started H enc _ => lifted os started H enc)
end Go.Proofs.Ythhjfedegbldfab.utf16Tells

namespace Go.Proofs.Ythhjfedegbldfab
theorem utf16Tells_holds : Rows.Utf16TellsSaid := utf16Tells.over
end Go.Proofs.Ythhjfedegbldfab
