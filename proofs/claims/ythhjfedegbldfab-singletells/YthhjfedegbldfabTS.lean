/- Proved: for both kinds, every text s, every list l of integers and every integer point the law SingleTells returns true and leaves all as they were. No condition. -/
import Derived.Test.YthhjfedegbldfabSD
import Derived.Test.YthhjfedegbldfabSE
import Derived.Test.YthhjfedegbldfabLaw
import Derived.OpenShut
import Derived.ShutString
import Derived.ChangeOld
namespace Go.Proofs.Ythhjfedegbldfab.singleTells
open Go.ChangeShapes Go.WideShapes Go.ChangeAt Go.RowKit
open Go.ChangeMaps (open_string shut_string)
open Go.Proofs.Ythhjfedegbldfab
set_option linter.unusedVariables false

theorem own : ownKnob Try.prog.godebug = none := by kernel_rfl
theorem laidOut : laidOutB Try.prog = true := by kernel_rfl

theorem row_wf {k : IntKind} {w : World} {a : Option Addr} {len cap : Nat} {zs : List Int} (h : IsRow k w a len cap zs) : ∀ n ∈ zs.take len, (Lit.int k n).wf = true := by
  intro n hn
  rcases h with ⟨_, _, _, rfl⟩ | ⟨x, _, _, _, _, _, h⟩
  · simp at hn
  · exact h n (List.mem_of_mem_take hn)

set_option maxHeartbeats 1000000 in
set_option maxRecDepth 100000 in
theorem long_no_many (user : Bool) (s : ByteArray) (v : Value) (ys : List Int) (n : Int) (w : World) (hx : Ints w v ys) (hwf : ∀ n ∈ ys, (Lit.int .i64 n).wf = true) (hw : (Lit.int .i64 n).wf = true) (hs : 3000 < s.size) (hsm : s.size ≤ maxLen) (hq : Hid (M.hasB user n = false)) (hl : 3000 < ys.length) :
    Calls Try.prog 6 #[.bool user, .string s, v, .int .i64 n] w fun e w' => e = .returned (.bool true) ∧ Below w.heap.size w w' := by
  obtain ⟨yo, yc, hv, hym, -⟩ := id hx
  subst hv
  have HX := hide hx
  have HWF := hide hwf
  have HNW := hide hw
  clear hx hwf hw
  unfold maxLen at hym
  go_enter Try.func6, Try.ntmps6
  go_wp2_with fail
  refine (decodeS_long user s _ hs hsm).mono ?_
  rintro e w1 ⟨rfl, hb1⟩
  have HB := hide hb1
  replace HX := hide ((unhide HX).below hb1)
  clear hb1
  go_wp2_with fail
  have HR := hide (fun w => byteOf_any user n w)
  rw [bOf_no (unhide hq)] at HR
  refine (tellsS_no user n _ (unhide HNW) hq).mono ?_
  rintro e w2 ⟨rfl, hb2⟩
  replace HB := hide (bstep (unhide HB) hb2)
  replace HX := hide ((unhide HX).below hb2)
  clear hb2
  go_wp2_with fail
  refine (encodeS_many user yo _ yc _ hl (by unfold maxLen; omega)).mono ?_
  rintro e w3 ⟨rfl, hw⟩
  replace hw := hw.symm
  subst hw
  go_wp2_with fail
  refine (tooLong_yes s _ hs hsm).mono ?_
  rintro e w4 ⟨rfl, hw⟩
  replace hw := hw.symm
  subst hw
  go_wp2_with fail
  refine (unhide HR _).mono ?_
  rintro e w6 ⟨rfl, hb6⟩
  replace HB := hide (bstep (unhide HB) hb6)
  replace HX := hide ((unhide HX).below hb6)
  clear hb6
  go_wp2_with fail
  refine (begunS_any _).mono ?_
  rintro e w8 ⟨rfl, hb8⟩
  replace HB := hide (bstep (unhide HB) hb8)
  go_wp2_with fail
  refine (intsAre_err _ _ _ _).mono ?_
  rintro e w9 ⟨rfl, hb9⟩
  replace HB := hide (bstep (unhide HB) hb9)
  clear hb8 hb9
  go_wp2_with fail
  go_ret
  exact ⟨ret_bool (by simp), unhide HB⟩

set_option maxHeartbeats 1000000 in
set_option maxRecDepth 100000 in
theorem long_no_none (user : Bool) (s : ByteArray) (v : Value) (ys : List Int) (n : Int) (w : World) (hx : Ints w v ys) (hwf : ∀ n ∈ ys, (Lit.int .i64 n).wf = true) (hw : (Lit.int .i64 n).wf = true) (hs : 3000 < s.size) (hsm : s.size ≤ maxLen) (hq : Hid (M.hasB user n = false)) (hl : ys.length ≤ 3000) (hn : Hid (ys.all (M.hasB user) = false)) :
    Calls Try.prog 6 #[.bool user, .string s, v, .int .i64 n] w fun e w' => e = .returned (.bool true) ∧ Below w.heap.size w w' := by
  obtain ⟨yo, yc, hv, hym, -⟩ := id hx
  subst hv
  have HX := hide hx
  have HWF := hide hwf
  have HNW := hide hw
  clear hx hwf hw
  go_enter Try.func6, Try.ntmps6
  go_wp2_with fail
  refine (decodeS_long user s _ hs hsm).mono ?_
  rintro e w1 ⟨rfl, hb1⟩
  have HB := hide hb1
  replace HX := hide ((unhide HX).below hb1)
  clear hb1
  go_wp2_with fail
  have HR := hide (fun w => byteOf_any user n w)
  rw [bOf_no (unhide hq)] at HR
  refine (tellsS_no user n _ (unhide HNW) hq).mono ?_
  rintro e w2 ⟨rfl, hb2⟩
  replace HB := hide (bstep (unhide HB) hb2)
  replace HX := hide ((unhide HX).below hb2)
  clear hb2
  go_wp2_with fail
  refine (encodeS_any user _ (unhide HX) (unhide HWF) hl).mono ?_
  rintro e w3 ⟨rfl, hb3⟩
  rw [encResS_no (unhide hn)]
  replace HB := hide (bstep (unhide HB) hb3)
  replace HX := hide ((unhide HX).below hb3)
  clear hb3
  have HE := hide (fun (w : World) (hx : Ints w (.slice yo ys.length yc) ys) => encRefS_any user w hx hl)
  rw [refResS_no (unhide hn)] at HE
  go_wp2_with fail
  refine (tooLong_yes s _ hs hsm).mono ?_
  rintro e w4 ⟨rfl, hw⟩
  replace hw := hw.symm
  subst hw
  go_wp2_with fail
  refine (unhide HR _).mono ?_
  rintro e w6 ⟨rfl, hb6⟩
  replace HB := hide (bstep (unhide HB) hb6)
  replace HX := hide ((unhide HX).below hb6)
  clear hb6
  go_wp2_with fail
  refine (unhide HE _ (unhide HX)).mono ?_
  rintro e w7 ⟨rfl, hb7⟩
  replace HB := hide (bstep (unhide HB) hb7)
  replace HX := hide ((unhide HX).below hb7)
  clear hb7
  go_wp2_with fail
  refine (begunS_any _).mono ?_
  rintro e w8 ⟨rfl, hb8⟩
  replace HB := hide (bstep (unhide HB) hb8)
  go_wp2_with fail
  refine (intsAre_err _ _ _ _).mono ?_
  rintro e w9 ⟨rfl, hb9⟩
  replace HB := hide (bstep (unhide HB) hb9)
  clear hb8 hb9
  go_wp2_with fail
  go_ret
  exact ⟨ret_bool (by simp), unhide HB⟩

set_option maxHeartbeats 1000000 in
set_option maxRecDepth 100000 in
theorem long_no_ok (user : Bool) (s : ByteArray) (v : Value) (ys : List Int) (n : Int) (w : World) (hx : Ints w v ys) (hwf : ∀ n ∈ ys, (Lit.int .i64 n).wf = true) (hw : (Lit.int .i64 n).wf = true) (hs : 3000 < s.size) (hsm : s.size ≤ maxLen) (hq : Hid (M.hasB user n = false)) (hl : ys.length ≤ 3000) (hn : Hid (ys.all (M.hasB user) = true)) :
    Calls Try.prog 6 #[.bool user, .string s, v, .int .i64 n] w fun e w' => e = .returned (.bool true) ∧ Below w.heap.size w w' := by
  obtain ⟨yo, yc, hv, hym, -⟩ := id hx
  subst hv
  have HX := hide hx
  have HWF := hide hwf
  have HNW := hide hw
  clear hx hwf hw
  go_enter Try.func6, Try.ntmps6
  go_wp2_with fail
  refine (decodeS_long user s _ hs hsm).mono ?_
  rintro e w1 ⟨rfl, hb1⟩
  have HB := hide hb1
  replace HX := hide ((unhide HX).below hb1)
  clear hb1
  go_wp2_with fail
  have HR := hide (fun w => byteOf_any user n w)
  rw [bOf_no (unhide hq)] at HR
  refine (tellsS_no user n _ (unhide HNW) hq).mono ?_
  rintro e w2 ⟨rfl, hb2⟩
  replace HB := hide (bstep (unhide HB) hb2)
  replace HX := hide ((unhide HX).below hb2)
  clear hb2
  go_wp2_with fail
  refine (encodeS_any user _ (unhide HX) (unhide HWF) hl).mono ?_
  rintro e w3 ⟨rfl, hb3⟩
  rw [encResS_yes (unhide hn)]
  replace HB := hide (bstep (unhide HB) hb3)
  replace HX := hide ((unhide HX).below hb3)
  clear hb3
  have HE := hide (fun (w : World) (hx : Ints w (.slice yo ys.length yc) ys) => encRefS_any user w hx hl)
  rw [refResS_yes (unhide hn)] at HE
  generalize strOfNums (M.encS user ys) = t at *
  go_wp2_with fail
  refine (tooLong_yes s _ hs hsm).mono ?_
  rintro e w4 ⟨rfl, hw⟩
  replace hw := hw.symm
  subst hw
  go_wp2_with fail
  refine (unhide HR _).mono ?_
  rintro e w6 ⟨rfl, hb6⟩
  replace HB := hide (bstep (unhide HB) hb6)
  replace HX := hide ((unhide HX).below hb6)
  clear hb6
  go_wp2_with fail
  refine (unhide HE _ (unhide HX)).mono ?_
  rintro e w7 ⟨rfl, hb7⟩
  replace HB := hide (bstep (unhide HB) hb7)
  replace HX := hide ((unhide HX).below hb7)
  clear hb7
  go_wp2_with fail
  refine (begunS_any _).mono ?_
  rintro e w8 ⟨rfl, hb8⟩
  replace HB := hide (bstep (unhide HB) hb8)
  go_wp2_with fail
  refine (intsAre_err _ _ _ _).mono ?_
  rintro e w9 ⟨rfl, hb9⟩
  replace HB := hide (bstep (unhide HB) hb9)
  clear hb8 hb9
  go_wp2_with fail
  go_ret
  exact ⟨ret_bool (by simp), unhide HB⟩

set_option maxHeartbeats 1000000 in
set_option maxRecDepth 100000 in
theorem long_yes_many (user : Bool) (s : ByteArray) (v : Value) (ys : List Int) (n : Int) (w : World) (hx : Ints w v ys) (hwf : ∀ n ∈ ys, (Lit.int .i64 n).wf = true) (hw : (Lit.int .i64 n).wf = true) (hs : 3000 < s.size) (hsm : s.size ≤ maxLen) (hq : Hid (M.hasB user n = true)) (hl : 3000 < ys.length) :
    Calls Try.prog 6 #[.bool user, .string s, v, .int .i64 n] w fun e w' => e = .returned (.bool true) ∧ Below w.heap.size w w' := by
  obtain ⟨yo, yc, hv, hym, -⟩ := id hx
  subst hv
  have HX := hide hx
  have HWF := hide hwf
  have HNW := hide hw
  clear hx hwf hw
  unfold maxLen at hym
  go_enter Try.func6, Try.ntmps6
  go_wp2_with fail
  refine (decodeS_long user s _ hs hsm).mono ?_
  rintro e w1 ⟨rfl, hb1⟩
  have HB := hide hb1
  replace HX := hide ((unhide HX).below hb1)
  clear hb1
  go_wp2_with fail
  have hbd := M.bof_bd user (unhide hq)
  have HR := hide (fun w => byteOf_any user n w)
  rw [bOf_yes (unhide hq)] at HR
  refine (tellsS_yes user n _ (unhide HNW) hq).mono ?_
  rintro e w2 ⟨rfl, hb2⟩
  generalize M.bof user n = B at *
  replace HB := hide (bstep (unhide HB) hb2)
  replace HX := hide ((unhide HX).below hb2)
  clear hb2
  go_wp2_with fail
  refine (encodeS_many user yo _ yc _ hl (by unfold maxLen; omega)).mono ?_
  rintro e w3 ⟨rfl, hw⟩
  replace hw := hw.symm
  subst hw
  go_wp2_with fail
  refine (tooLong_yes s _ hs hsm).mono ?_
  rintro e w4 ⟨rfl, hw⟩
  replace hw := hw.symm
  subst hw
  go_wp2_with fail
  refine (unhide HR _).mono ?_
  rintro e w6 ⟨rfl, hb6⟩
  replace HB := hide (bstep (unhide HB) hb6)
  replace HX := hide ((unhide HX).below hb6)
  clear hb6
  go_wp2_with fail
  refine (begunS_any _).mono ?_
  rintro e w8 ⟨rfl, hb8⟩
  replace HB := hide (bstep (unhide HB) hb8)
  go_wp2_with fail
  refine (intsAre_err _ _ _ _).mono ?_
  rintro e w9 ⟨rfl, hb9⟩
  replace HB := hide (bstep (unhide HB) hb9)
  clear hb8 hb9
  go_wp2_with fail
  go_ret
  exact ⟨ret_bool (by simp), unhide HB⟩

set_option maxHeartbeats 1000000 in
set_option maxRecDepth 100000 in
theorem long_yes_none (user : Bool) (s : ByteArray) (v : Value) (ys : List Int) (n : Int) (w : World) (hx : Ints w v ys) (hwf : ∀ n ∈ ys, (Lit.int .i64 n).wf = true) (hw : (Lit.int .i64 n).wf = true) (hs : 3000 < s.size) (hsm : s.size ≤ maxLen) (hq : Hid (M.hasB user n = true)) (hl : ys.length ≤ 3000) (hn : Hid (ys.all (M.hasB user) = false)) :
    Calls Try.prog 6 #[.bool user, .string s, v, .int .i64 n] w fun e w' => e = .returned (.bool true) ∧ Below w.heap.size w w' := by
  obtain ⟨yo, yc, hv, hym, -⟩ := id hx
  subst hv
  have HX := hide hx
  have HWF := hide hwf
  have HNW := hide hw
  clear hx hwf hw
  go_enter Try.func6, Try.ntmps6
  go_wp2_with fail
  refine (decodeS_long user s _ hs hsm).mono ?_
  rintro e w1 ⟨rfl, hb1⟩
  have HB := hide hb1
  replace HX := hide ((unhide HX).below hb1)
  clear hb1
  go_wp2_with fail
  have hbd := M.bof_bd user (unhide hq)
  have HR := hide (fun w => byteOf_any user n w)
  rw [bOf_yes (unhide hq)] at HR
  refine (tellsS_yes user n _ (unhide HNW) hq).mono ?_
  rintro e w2 ⟨rfl, hb2⟩
  generalize M.bof user n = B at *
  replace HB := hide (bstep (unhide HB) hb2)
  replace HX := hide ((unhide HX).below hb2)
  clear hb2
  go_wp2_with fail
  refine (encodeS_any user _ (unhide HX) (unhide HWF) hl).mono ?_
  rintro e w3 ⟨rfl, hb3⟩
  rw [encResS_no (unhide hn)]
  replace HB := hide (bstep (unhide HB) hb3)
  replace HX := hide ((unhide HX).below hb3)
  clear hb3
  have HE := hide (fun (w : World) (hx : Ints w (.slice yo ys.length yc) ys) => encRefS_any user w hx hl)
  rw [refResS_no (unhide hn)] at HE
  go_wp2_with fail
  refine (tooLong_yes s _ hs hsm).mono ?_
  rintro e w4 ⟨rfl, hw⟩
  replace hw := hw.symm
  subst hw
  go_wp2_with fail
  refine (unhide HR _).mono ?_
  rintro e w6 ⟨rfl, hb6⟩
  replace HB := hide (bstep (unhide HB) hb6)
  replace HX := hide ((unhide HX).below hb6)
  clear hb6
  go_wp2_with fail
  refine (unhide HE _ (unhide HX)).mono ?_
  rintro e w7 ⟨rfl, hb7⟩
  replace HB := hide (bstep (unhide HB) hb7)
  replace HX := hide ((unhide HX).below hb7)
  clear hb7
  go_wp2_with fail
  refine (begunS_any _).mono ?_
  rintro e w8 ⟨rfl, hb8⟩
  replace HB := hide (bstep (unhide HB) hb8)
  go_wp2_with fail
  refine (intsAre_err _ _ _ _).mono ?_
  rintro e w9 ⟨rfl, hb9⟩
  replace HB := hide (bstep (unhide HB) hb9)
  clear hb8 hb9
  go_wp2_with fail
  go_ret
  exact ⟨ret_bool (by simp), unhide HB⟩

set_option maxHeartbeats 1000000 in
set_option maxRecDepth 100000 in
theorem long_yes_ok (user : Bool) (s : ByteArray) (v : Value) (ys : List Int) (n : Int) (w : World) (hx : Ints w v ys) (hwf : ∀ n ∈ ys, (Lit.int .i64 n).wf = true) (hw : (Lit.int .i64 n).wf = true) (hs : 3000 < s.size) (hsm : s.size ≤ maxLen) (hq : Hid (M.hasB user n = true)) (hl : ys.length ≤ 3000) (hn : Hid (ys.all (M.hasB user) = true)) :
    Calls Try.prog 6 #[.bool user, .string s, v, .int .i64 n] w fun e w' => e = .returned (.bool true) ∧ Below w.heap.size w w' := by
  obtain ⟨yo, yc, hv, hym, -⟩ := id hx
  subst hv
  have HX := hide hx
  have HWF := hide hwf
  have HNW := hide hw
  clear hx hwf hw
  go_enter Try.func6, Try.ntmps6
  go_wp2_with fail
  refine (decodeS_long user s _ hs hsm).mono ?_
  rintro e w1 ⟨rfl, hb1⟩
  have HB := hide hb1
  replace HX := hide ((unhide HX).below hb1)
  clear hb1
  go_wp2_with fail
  have hbd := M.bof_bd user (unhide hq)
  have HR := hide (fun w => byteOf_any user n w)
  rw [bOf_yes (unhide hq)] at HR
  refine (tellsS_yes user n _ (unhide HNW) hq).mono ?_
  rintro e w2 ⟨rfl, hb2⟩
  generalize M.bof user n = B at *
  replace HB := hide (bstep (unhide HB) hb2)
  replace HX := hide ((unhide HX).below hb2)
  clear hb2
  go_wp2_with fail
  refine (encodeS_any user _ (unhide HX) (unhide HWF) hl).mono ?_
  rintro e w3 ⟨rfl, hb3⟩
  rw [encResS_yes (unhide hn)]
  replace HB := hide (bstep (unhide HB) hb3)
  replace HX := hide ((unhide HX).below hb3)
  clear hb3
  have HE := hide (fun (w : World) (hx : Ints w (.slice yo ys.length yc) ys) => encRefS_any user w hx hl)
  rw [refResS_yes (unhide hn)] at HE
  generalize strOfNums (M.encS user ys) = t at *
  go_wp2_with fail
  refine (tooLong_yes s _ hs hsm).mono ?_
  rintro e w4 ⟨rfl, hw⟩
  replace hw := hw.symm
  subst hw
  go_wp2_with fail
  refine (unhide HR _).mono ?_
  rintro e w6 ⟨rfl, hb6⟩
  replace HB := hide (bstep (unhide HB) hb6)
  replace HX := hide ((unhide HX).below hb6)
  clear hb6
  go_wp2_with fail
  refine (unhide HE _ (unhide HX)).mono ?_
  rintro e w7 ⟨rfl, hb7⟩
  replace HB := hide (bstep (unhide HB) hb7)
  replace HX := hide ((unhide HX).below hb7)
  clear hb7
  go_wp2_with fail
  refine (begunS_any _).mono ?_
  rintro e w8 ⟨rfl, hb8⟩
  replace HB := hide (bstep (unhide HB) hb8)
  go_wp2_with fail
  refine (intsAre_err _ _ _ _).mono ?_
  rintro e w9 ⟨rfl, hb9⟩
  replace HB := hide (bstep (unhide HB) hb9)
  clear hb8 hb9
  go_wp2_with fail
  go_ret
  exact ⟨ret_bool (by simp), unhide HB⟩

set_option maxHeartbeats 1000000 in
set_option maxRecDepth 100000 in
theorem short_no_many (user : Bool) (s : ByteArray) (v : Value) (ys : List Int) (n : Int) (w : World) (hx : Ints w v ys) (hwf : ∀ n ∈ ys, (Lit.int .i64 n).wf = true) (hw : (Lit.int .i64 n).wf = true) (hs : s.size ≤ 3000) (hq : Hid (M.hasB user n = false)) (hl : 3000 < ys.length) :
    Calls Try.prog 6 #[.bool user, .string s, v, .int .i64 n] w fun e w' => e = .returned (.bool true) ∧ Below w.heap.size w w' := by
  obtain ⟨yo, yc, hv, hym, -⟩ := id hx
  subst hv
  have HX := hide hx
  have HWF := hide hwf
  have HNW := hide hw
  clear hx hwf hw
  unfold maxLen at hym
  go_enter Try.func6, Try.ntmps6
  go_wp2_with fail
  refine (decodeS_any user s _ hs).mono ?_
  rintro e w1 ⟨v1, rfl, hI1, hb1⟩
  obtain ⟨ao1, cap1, hsh1, -⟩ := id hI1
  subst hsh1
  have HI1 := hide hI1
  have HB := hide hb1
  replace HX := hide ((unhide HX).below hb1)
  clear hI1 hb1
  go_wp2_with fail
  have HR := hide (fun w => byteOf_any user n w)
  rw [bOf_no (unhide hq)] at HR
  refine (tellsS_no user n _ (unhide HNW) hq).mono ?_
  rintro e w2 ⟨rfl, hb2⟩
  replace HB := hide (bstep (unhide HB) hb2)
  replace HX := hide ((unhide HX).below hb2)
  replace HI1 := hide ((unhide HI1).below hb2)
  clear hb2
  go_wp2_with fail
  refine (encodeS_many user yo _ yc _ hl (by unfold maxLen; omega)).mono ?_
  rintro e w3 ⟨rfl, hw⟩
  replace hw := hw.symm
  subst hw
  go_wp2_with fail
  refine (tooLong_no s _ hs).mono ?_
  rintro e w4 ⟨rfl, hw⟩
  replace hw := hw.symm
  subst hw
  go_wp2_with fail
  refine (decRefS_any user s _ hs).mono ?_
  rintro e w5 ⟨v5, rfl, hI5, hb5⟩
  obtain ⟨ao5, cap5, hsh5, -⟩ := id hI5
  subst hsh5
  have HI5 := hide hI5
  clear hI5
  replace HB := hide (bstep (unhide HB) hb5)
  replace HX := hide ((unhide HX).below hb5)
  replace HI1 := hide ((unhide HI1).below hb5)
  clear hb5
  go_wp2_with fail
  refine (unhide HR _).mono ?_
  rintro e w6 ⟨rfl, hb6⟩
  replace HB := hide (bstep (unhide HB) hb6)
  replace HX := hide ((unhide HX).below hb6)
  replace HI1 := hide ((unhide HI1).below hb6)
  replace HI5 := hide ((unhide HI5).below hb6)
  clear hb6
  go_wp2_with fail
  refine (begunS_any _).mono ?_
  rintro e w8 ⟨rfl, hb8⟩
  replace HB := hide (bstep (unhide HB) hb8)
  go_wp2_with fail
  refine (intsAre_ok _ ((unhide HI1).below hb8) ((unhide HI5).below hb8)).mono ?_
  rintro e w9 ⟨rfl, hb9⟩
  replace HB := hide (bstep (unhide HB) hb9)
  clear hb8 hb9
  go_wp2_with fail
  go_ret
  exact ⟨ret_bool (by simp), unhide HB⟩

set_option maxHeartbeats 1000000 in
set_option maxRecDepth 100000 in
theorem short_no_none (user : Bool) (s : ByteArray) (v : Value) (ys : List Int) (n : Int) (w : World) (hx : Ints w v ys) (hwf : ∀ n ∈ ys, (Lit.int .i64 n).wf = true) (hw : (Lit.int .i64 n).wf = true) (hs : s.size ≤ 3000) (hq : Hid (M.hasB user n = false)) (hl : ys.length ≤ 3000) (hn : Hid (ys.all (M.hasB user) = false)) :
    Calls Try.prog 6 #[.bool user, .string s, v, .int .i64 n] w fun e w' => e = .returned (.bool true) ∧ Below w.heap.size w w' := by
  obtain ⟨yo, yc, hv, hym, -⟩ := id hx
  subst hv
  have HX := hide hx
  have HWF := hide hwf
  have HNW := hide hw
  clear hx hwf hw
  go_enter Try.func6, Try.ntmps6
  go_wp2_with fail
  refine (decodeS_any user s _ hs).mono ?_
  rintro e w1 ⟨v1, rfl, hI1, hb1⟩
  obtain ⟨ao1, cap1, hsh1, -⟩ := id hI1
  subst hsh1
  have HI1 := hide hI1
  have HB := hide hb1
  replace HX := hide ((unhide HX).below hb1)
  clear hI1 hb1
  go_wp2_with fail
  have HR := hide (fun w => byteOf_any user n w)
  rw [bOf_no (unhide hq)] at HR
  refine (tellsS_no user n _ (unhide HNW) hq).mono ?_
  rintro e w2 ⟨rfl, hb2⟩
  replace HB := hide (bstep (unhide HB) hb2)
  replace HX := hide ((unhide HX).below hb2)
  replace HI1 := hide ((unhide HI1).below hb2)
  clear hb2
  go_wp2_with fail
  refine (encodeS_any user _ (unhide HX) (unhide HWF) hl).mono ?_
  rintro e w3 ⟨rfl, hb3⟩
  rw [encResS_no (unhide hn)]
  replace HB := hide (bstep (unhide HB) hb3)
  replace HX := hide ((unhide HX).below hb3)
  replace HI1 := hide ((unhide HI1).below hb3)
  clear hb3
  have HE := hide (fun (w : World) (hx : Ints w (.slice yo ys.length yc) ys) => encRefS_any user w hx hl)
  rw [refResS_no (unhide hn)] at HE
  go_wp2_with fail
  refine (tooLong_no s _ hs).mono ?_
  rintro e w4 ⟨rfl, hw⟩
  replace hw := hw.symm
  subst hw
  go_wp2_with fail
  refine (decRefS_any user s _ hs).mono ?_
  rintro e w5 ⟨v5, rfl, hI5, hb5⟩
  obtain ⟨ao5, cap5, hsh5, -⟩ := id hI5
  subst hsh5
  have HI5 := hide hI5
  clear hI5
  replace HB := hide (bstep (unhide HB) hb5)
  replace HX := hide ((unhide HX).below hb5)
  replace HI1 := hide ((unhide HI1).below hb5)
  clear hb5
  go_wp2_with fail
  refine (unhide HR _).mono ?_
  rintro e w6 ⟨rfl, hb6⟩
  replace HB := hide (bstep (unhide HB) hb6)
  replace HX := hide ((unhide HX).below hb6)
  replace HI1 := hide ((unhide HI1).below hb6)
  replace HI5 := hide ((unhide HI5).below hb6)
  clear hb6
  go_wp2_with fail
  refine (unhide HE _ (unhide HX)).mono ?_
  rintro e w7 ⟨rfl, hb7⟩
  replace HB := hide (bstep (unhide HB) hb7)
  replace HX := hide ((unhide HX).below hb7)
  replace HI1 := hide ((unhide HI1).below hb7)
  replace HI5 := hide ((unhide HI5).below hb7)
  clear hb7
  go_wp2_with fail
  refine (begunS_any _).mono ?_
  rintro e w8 ⟨rfl, hb8⟩
  replace HB := hide (bstep (unhide HB) hb8)
  go_wp2_with fail
  refine (intsAre_ok _ ((unhide HI1).below hb8) ((unhide HI5).below hb8)).mono ?_
  rintro e w9 ⟨rfl, hb9⟩
  replace HB := hide (bstep (unhide HB) hb9)
  clear hb8 hb9
  go_wp2_with fail
  go_ret
  exact ⟨ret_bool (by simp), unhide HB⟩

set_option maxHeartbeats 1000000 in
set_option maxRecDepth 100000 in
theorem short_no_ok (user : Bool) (s : ByteArray) (v : Value) (ys : List Int) (n : Int) (w : World) (hx : Ints w v ys) (hwf : ∀ n ∈ ys, (Lit.int .i64 n).wf = true) (hw : (Lit.int .i64 n).wf = true) (hs : s.size ≤ 3000) (hq : Hid (M.hasB user n = false)) (hl : ys.length ≤ 3000) (hn : Hid (ys.all (M.hasB user) = true)) :
    Calls Try.prog 6 #[.bool user, .string s, v, .int .i64 n] w fun e w' => e = .returned (.bool true) ∧ Below w.heap.size w w' := by
  obtain ⟨yo, yc, hv, hym, -⟩ := id hx
  subst hv
  have HX := hide hx
  have HWF := hide hwf
  have HNW := hide hw
  clear hx hwf hw
  go_enter Try.func6, Try.ntmps6
  go_wp2_with fail
  refine (decodeS_any user s _ hs).mono ?_
  rintro e w1 ⟨v1, rfl, hI1, hb1⟩
  obtain ⟨ao1, cap1, hsh1, -⟩ := id hI1
  subst hsh1
  have HI1 := hide hI1
  have HB := hide hb1
  replace HX := hide ((unhide HX).below hb1)
  clear hI1 hb1
  go_wp2_with fail
  have HR := hide (fun w => byteOf_any user n w)
  rw [bOf_no (unhide hq)] at HR
  refine (tellsS_no user n _ (unhide HNW) hq).mono ?_
  rintro e w2 ⟨rfl, hb2⟩
  replace HB := hide (bstep (unhide HB) hb2)
  replace HX := hide ((unhide HX).below hb2)
  replace HI1 := hide ((unhide HI1).below hb2)
  clear hb2
  go_wp2_with fail
  refine (encodeS_any user _ (unhide HX) (unhide HWF) hl).mono ?_
  rintro e w3 ⟨rfl, hb3⟩
  rw [encResS_yes (unhide hn)]
  replace HB := hide (bstep (unhide HB) hb3)
  replace HX := hide ((unhide HX).below hb3)
  replace HI1 := hide ((unhide HI1).below hb3)
  clear hb3
  have HE := hide (fun (w : World) (hx : Ints w (.slice yo ys.length yc) ys) => encRefS_any user w hx hl)
  rw [refResS_yes (unhide hn)] at HE
  generalize strOfNums (M.encS user ys) = t at *
  go_wp2_with fail
  refine (tooLong_no s _ hs).mono ?_
  rintro e w4 ⟨rfl, hw⟩
  replace hw := hw.symm
  subst hw
  go_wp2_with fail
  refine (decRefS_any user s _ hs).mono ?_
  rintro e w5 ⟨v5, rfl, hI5, hb5⟩
  obtain ⟨ao5, cap5, hsh5, -⟩ := id hI5
  subst hsh5
  have HI5 := hide hI5
  clear hI5
  replace HB := hide (bstep (unhide HB) hb5)
  replace HX := hide ((unhide HX).below hb5)
  replace HI1 := hide ((unhide HI1).below hb5)
  clear hb5
  go_wp2_with fail
  refine (unhide HR _).mono ?_
  rintro e w6 ⟨rfl, hb6⟩
  replace HB := hide (bstep (unhide HB) hb6)
  replace HX := hide ((unhide HX).below hb6)
  replace HI1 := hide ((unhide HI1).below hb6)
  replace HI5 := hide ((unhide HI5).below hb6)
  clear hb6
  go_wp2_with fail
  refine (unhide HE _ (unhide HX)).mono ?_
  rintro e w7 ⟨rfl, hb7⟩
  replace HB := hide (bstep (unhide HB) hb7)
  replace HX := hide ((unhide HX).below hb7)
  replace HI1 := hide ((unhide HI1).below hb7)
  replace HI5 := hide ((unhide HI5).below hb7)
  clear hb7
  go_wp2_with fail
  refine (begunS_any _).mono ?_
  rintro e w8 ⟨rfl, hb8⟩
  replace HB := hide (bstep (unhide HB) hb8)
  go_wp2_with fail
  refine (intsAre_ok _ ((unhide HI1).below hb8) ((unhide HI5).below hb8)).mono ?_
  rintro e w9 ⟨rfl, hb9⟩
  replace HB := hide (bstep (unhide HB) hb9)
  clear hb8 hb9
  go_wp2_with fail
  go_ret
  exact ⟨ret_bool (by simp), unhide HB⟩

set_option maxHeartbeats 1000000 in
set_option maxRecDepth 100000 in
theorem short_yes_many (user : Bool) (s : ByteArray) (v : Value) (ys : List Int) (n : Int) (w : World) (hx : Ints w v ys) (hwf : ∀ n ∈ ys, (Lit.int .i64 n).wf = true) (hw : (Lit.int .i64 n).wf = true) (hs : s.size ≤ 3000) (hq : Hid (M.hasB user n = true)) (hl : 3000 < ys.length) :
    Calls Try.prog 6 #[.bool user, .string s, v, .int .i64 n] w fun e w' => e = .returned (.bool true) ∧ Below w.heap.size w w' := by
  obtain ⟨yo, yc, hv, hym, -⟩ := id hx
  subst hv
  have HX := hide hx
  have HWF := hide hwf
  have HNW := hide hw
  clear hx hwf hw
  unfold maxLen at hym
  go_enter Try.func6, Try.ntmps6
  go_wp2_with fail
  refine (decodeS_any user s _ hs).mono ?_
  rintro e w1 ⟨v1, rfl, hI1, hb1⟩
  obtain ⟨ao1, cap1, hsh1, -⟩ := id hI1
  subst hsh1
  have HI1 := hide hI1
  have HB := hide hb1
  replace HX := hide ((unhide HX).below hb1)
  clear hI1 hb1
  go_wp2_with fail
  have hbd := M.bof_bd user (unhide hq)
  have HR := hide (fun w => byteOf_any user n w)
  rw [bOf_yes (unhide hq)] at HR
  refine (tellsS_yes user n _ (unhide HNW) hq).mono ?_
  rintro e w2 ⟨rfl, hb2⟩
  generalize M.bof user n = B at *
  replace HB := hide (bstep (unhide HB) hb2)
  replace HX := hide ((unhide HX).below hb2)
  replace HI1 := hide ((unhide HI1).below hb2)
  clear hb2
  go_wp2_with fail
  refine (encodeS_many user yo _ yc _ hl (by unfold maxLen; omega)).mono ?_
  rintro e w3 ⟨rfl, hw⟩
  replace hw := hw.symm
  subst hw
  go_wp2_with fail
  refine (tooLong_no s _ hs).mono ?_
  rintro e w4 ⟨rfl, hw⟩
  replace hw := hw.symm
  subst hw
  go_wp2_with fail
  refine (decRefS_any user s _ hs).mono ?_
  rintro e w5 ⟨v5, rfl, hI5, hb5⟩
  obtain ⟨ao5, cap5, hsh5, -⟩ := id hI5
  subst hsh5
  have HI5 := hide hI5
  clear hI5
  replace HB := hide (bstep (unhide HB) hb5)
  replace HX := hide ((unhide HX).below hb5)
  replace HI1 := hide ((unhide HI1).below hb5)
  clear hb5
  go_wp2_with fail
  refine (unhide HR _).mono ?_
  rintro e w6 ⟨rfl, hb6⟩
  replace HB := hide (bstep (unhide HB) hb6)
  replace HX := hide ((unhide HX).below hb6)
  replace HI1 := hide ((unhide HI1).below hb6)
  replace HI5 := hide ((unhide HI5).below hb6)
  clear hb6
  go_wp2_with fail
  refine (begunS_any _).mono ?_
  rintro e w8 ⟨rfl, hb8⟩
  replace HB := hide (bstep (unhide HB) hb8)
  go_wp2_with fail
  refine (intsAre_ok _ ((unhide HI1).below hb8) ((unhide HI5).below hb8)).mono ?_
  rintro e w9 ⟨rfl, hb9⟩
  replace HB := hide (bstep (unhide HB) hb9)
  clear hb8 hb9
  go_wp2_with fail
  go_ret
  exact ⟨ret_bool (by simp), unhide HB⟩

set_option maxHeartbeats 1000000 in
set_option maxRecDepth 100000 in
theorem short_yes_none (user : Bool) (s : ByteArray) (v : Value) (ys : List Int) (n : Int) (w : World) (hx : Ints w v ys) (hwf : ∀ n ∈ ys, (Lit.int .i64 n).wf = true) (hw : (Lit.int .i64 n).wf = true) (hs : s.size ≤ 3000) (hq : Hid (M.hasB user n = true)) (hl : ys.length ≤ 3000) (hn : Hid (ys.all (M.hasB user) = false)) :
    Calls Try.prog 6 #[.bool user, .string s, v, .int .i64 n] w fun e w' => e = .returned (.bool true) ∧ Below w.heap.size w w' := by
  obtain ⟨yo, yc, hv, hym, -⟩ := id hx
  subst hv
  have HX := hide hx
  have HWF := hide hwf
  have HNW := hide hw
  clear hx hwf hw
  go_enter Try.func6, Try.ntmps6
  go_wp2_with fail
  refine (decodeS_any user s _ hs).mono ?_
  rintro e w1 ⟨v1, rfl, hI1, hb1⟩
  obtain ⟨ao1, cap1, hsh1, -⟩ := id hI1
  subst hsh1
  have HI1 := hide hI1
  have HB := hide hb1
  replace HX := hide ((unhide HX).below hb1)
  clear hI1 hb1
  go_wp2_with fail
  have hbd := M.bof_bd user (unhide hq)
  have HR := hide (fun w => byteOf_any user n w)
  rw [bOf_yes (unhide hq)] at HR
  refine (tellsS_yes user n _ (unhide HNW) hq).mono ?_
  rintro e w2 ⟨rfl, hb2⟩
  generalize M.bof user n = B at *
  replace HB := hide (bstep (unhide HB) hb2)
  replace HX := hide ((unhide HX).below hb2)
  replace HI1 := hide ((unhide HI1).below hb2)
  clear hb2
  go_wp2_with fail
  refine (encodeS_any user _ (unhide HX) (unhide HWF) hl).mono ?_
  rintro e w3 ⟨rfl, hb3⟩
  rw [encResS_no (unhide hn)]
  replace HB := hide (bstep (unhide HB) hb3)
  replace HX := hide ((unhide HX).below hb3)
  replace HI1 := hide ((unhide HI1).below hb3)
  clear hb3
  have HE := hide (fun (w : World) (hx : Ints w (.slice yo ys.length yc) ys) => encRefS_any user w hx hl)
  rw [refResS_no (unhide hn)] at HE
  go_wp2_with fail
  refine (tooLong_no s _ hs).mono ?_
  rintro e w4 ⟨rfl, hw⟩
  replace hw := hw.symm
  subst hw
  go_wp2_with fail
  refine (decRefS_any user s _ hs).mono ?_
  rintro e w5 ⟨v5, rfl, hI5, hb5⟩
  obtain ⟨ao5, cap5, hsh5, -⟩ := id hI5
  subst hsh5
  have HI5 := hide hI5
  clear hI5
  replace HB := hide (bstep (unhide HB) hb5)
  replace HX := hide ((unhide HX).below hb5)
  replace HI1 := hide ((unhide HI1).below hb5)
  clear hb5
  go_wp2_with fail
  refine (unhide HR _).mono ?_
  rintro e w6 ⟨rfl, hb6⟩
  replace HB := hide (bstep (unhide HB) hb6)
  replace HX := hide ((unhide HX).below hb6)
  replace HI1 := hide ((unhide HI1).below hb6)
  replace HI5 := hide ((unhide HI5).below hb6)
  clear hb6
  go_wp2_with fail
  refine (unhide HE _ (unhide HX)).mono ?_
  rintro e w7 ⟨rfl, hb7⟩
  replace HB := hide (bstep (unhide HB) hb7)
  replace HX := hide ((unhide HX).below hb7)
  replace HI1 := hide ((unhide HI1).below hb7)
  replace HI5 := hide ((unhide HI5).below hb7)
  clear hb7
  go_wp2_with fail
  refine (begunS_any _).mono ?_
  rintro e w8 ⟨rfl, hb8⟩
  replace HB := hide (bstep (unhide HB) hb8)
  go_wp2_with fail
  refine (intsAre_ok _ ((unhide HI1).below hb8) ((unhide HI5).below hb8)).mono ?_
  rintro e w9 ⟨rfl, hb9⟩
  replace HB := hide (bstep (unhide HB) hb9)
  clear hb8 hb9
  go_wp2_with fail
  go_ret
  exact ⟨ret_bool (by simp), unhide HB⟩

set_option maxHeartbeats 1000000 in
set_option maxRecDepth 100000 in
theorem short_yes_ok (user : Bool) (s : ByteArray) (v : Value) (ys : List Int) (n : Int) (w : World) (hx : Ints w v ys) (hwf : ∀ n ∈ ys, (Lit.int .i64 n).wf = true) (hw : (Lit.int .i64 n).wf = true) (hs : s.size ≤ 3000) (hq : Hid (M.hasB user n = true)) (hl : ys.length ≤ 3000) (hn : Hid (ys.all (M.hasB user) = true)) :
    Calls Try.prog 6 #[.bool user, .string s, v, .int .i64 n] w fun e w' => e = .returned (.bool true) ∧ Below w.heap.size w w' := by
  obtain ⟨yo, yc, hv, hym, -⟩ := id hx
  subst hv
  have HX := hide hx
  have HWF := hide hwf
  have HNW := hide hw
  clear hx hwf hw
  go_enter Try.func6, Try.ntmps6
  go_wp2_with fail
  refine (decodeS_any user s _ hs).mono ?_
  rintro e w1 ⟨v1, rfl, hI1, hb1⟩
  obtain ⟨ao1, cap1, hsh1, -⟩ := id hI1
  subst hsh1
  have HI1 := hide hI1
  have HB := hide hb1
  replace HX := hide ((unhide HX).below hb1)
  clear hI1 hb1
  go_wp2_with fail
  have hbd := M.bof_bd user (unhide hq)
  have HR := hide (fun w => byteOf_any user n w)
  rw [bOf_yes (unhide hq)] at HR
  refine (tellsS_yes user n _ (unhide HNW) hq).mono ?_
  rintro e w2 ⟨rfl, hb2⟩
  generalize M.bof user n = B at *
  replace HB := hide (bstep (unhide HB) hb2)
  replace HX := hide ((unhide HX).below hb2)
  replace HI1 := hide ((unhide HI1).below hb2)
  clear hb2
  go_wp2_with fail
  refine (encodeS_any user _ (unhide HX) (unhide HWF) hl).mono ?_
  rintro e w3 ⟨rfl, hb3⟩
  rw [encResS_yes (unhide hn)]
  replace HB := hide (bstep (unhide HB) hb3)
  replace HX := hide ((unhide HX).below hb3)
  replace HI1 := hide ((unhide HI1).below hb3)
  clear hb3
  have HE := hide (fun (w : World) (hx : Ints w (.slice yo ys.length yc) ys) => encRefS_any user w hx hl)
  rw [refResS_yes (unhide hn)] at HE
  generalize strOfNums (M.encS user ys) = t at *
  go_wp2_with fail
  refine (tooLong_no s _ hs).mono ?_
  rintro e w4 ⟨rfl, hw⟩
  replace hw := hw.symm
  subst hw
  go_wp2_with fail
  refine (decRefS_any user s _ hs).mono ?_
  rintro e w5 ⟨v5, rfl, hI5, hb5⟩
  obtain ⟨ao5, cap5, hsh5, -⟩ := id hI5
  subst hsh5
  have HI5 := hide hI5
  clear hI5
  replace HB := hide (bstep (unhide HB) hb5)
  replace HX := hide ((unhide HX).below hb5)
  replace HI1 := hide ((unhide HI1).below hb5)
  clear hb5
  go_wp2_with fail
  refine (unhide HR _).mono ?_
  rintro e w6 ⟨rfl, hb6⟩
  replace HB := hide (bstep (unhide HB) hb6)
  replace HX := hide ((unhide HX).below hb6)
  replace HI1 := hide ((unhide HI1).below hb6)
  replace HI5 := hide ((unhide HI5).below hb6)
  clear hb6
  go_wp2_with fail
  refine (unhide HE _ (unhide HX)).mono ?_
  rintro e w7 ⟨rfl, hb7⟩
  replace HB := hide (bstep (unhide HB) hb7)
  replace HX := hide ((unhide HX).below hb7)
  replace HI1 := hide ((unhide HI1).below hb7)
  replace HI5 := hide ((unhide HI5).below hb7)
  clear hb7
  go_wp2_with fail
  refine (begunS_any _).mono ?_
  rintro e w8 ⟨rfl, hb8⟩
  replace HB := hide (bstep (unhide HB) hb8)
  go_wp2_with fail
  refine (intsAre_ok _ ((unhide HI1).below hb8) ((unhide HI5).below hb8)).mono ?_
  rintro e w9 ⟨rfl, hb9⟩
  replace HB := hide (bstep (unhide HB) hb9)
  clear hb8 hb9
  go_wp2_with fail
  go_ret
  exact ⟨ret_bool (by simp), unhide HB⟩

theorem walk (user : Bool) (s : ByteArray) (v : Value) (ys : List Int) (n : Int) (w : World) (hs : s.size ≤ maxLen) (hx : Ints w v ys) (hwf : ∀ n ∈ ys, (Lit.int .i64 n).wf = true) (hw : (Lit.int .i64 n).wf = true) :
    Calls Try.prog 6 #[.bool user, .string s, v, .int .i64 n] w fun e w' => e = .returned (.bool true) ∧ Below w.heap.size w w' := by
  by_cases h : 3000 < s.size
  · by_cases hq : M.hasB user n = true
    · by_cases hl : 3000 < ys.length
      · exact long_yes_many user s v ys n w hx hwf hw h hs hq hl
      · by_cases hn : ys.all (M.hasB user) = true
        · exact long_yes_ok user s v ys n w hx hwf hw h hs hq (by omega) hn
        · exact long_yes_none user s v ys n w hx hwf hw h hs hq (by omega) (Bool.eq_false_iff.2 hn)
    · by_cases hl : 3000 < ys.length
      · exact long_no_many user s v ys n w hx hwf hw h hs (Bool.eq_false_iff.2 hq) hl
      · by_cases hn : ys.all (M.hasB user) = true
        · exact long_no_ok user s v ys n w hx hwf hw h hs (Bool.eq_false_iff.2 hq) (by omega) hn
        · exact long_no_none user s v ys n w hx hwf hw h hs (Bool.eq_false_iff.2 hq) (by omega) (Bool.eq_false_iff.2 hn)
  · by_cases hq : M.hasB user n = true
    · by_cases hl : 3000 < ys.length
      · exact short_yes_many user s v ys n w hx hwf hw (by omega) hq hl
      · by_cases hn : ys.all (M.hasB user) = true
        · exact short_yes_ok user s v ys n w hx hwf hw (by omega) hq (by omega) hn
        · exact short_yes_none user s v ys n w hx hwf hw (by omega) hq (by omega) (Bool.eq_false_iff.2 hn)
    · by_cases hl : 3000 < ys.length
      · exact short_no_many user s v ys n w hx hwf hw (by omega) (Bool.eq_false_iff.2 hq) hl
      · by_cases hn : ys.all (M.hasB user) = true
        · exact short_no_ok user s v ys n w hx hwf hw (by omega) (Bool.eq_false_iff.2 hq) (by omega) hn
        · exact short_no_none user s v ys n w hx hwf hw (by omega) (Bool.eq_false_iff.2 hq) (by omega) (Bool.eq_false_iff.2 hn)

set_option maxRecDepth 100000 in
theorem lifted (os : Os) (started : os.Started) (H : Type) (enc : TypeId × Value → H) :
    ReturnsInHanded {} Try.checked os 6 .any (Rows.singleTellsSpec.pre6 enc Try.prog Try.f6 Rows.singleTellsRow.domain false) (Rows.singleTellsSpec.post enc Try.prog Try.f6 false true false false) := by
  refine returnsInHanded_of_change (C := Try.checked) own started (by kernel_rfl) Try.func6
    (ChangeSpec.witness6 (enc := enc) (C := Try.checked) false ⟨#[], #[.bool false, .string ByteArray.empty, .slice none 0 0, .int .i64 0], []⟩ 8 (by kernel_rfl) (by kernel_rfl) (by kernel_rfl) (by kernel_rfl)) ?_
  intro W base args ds gs before hval0 hW hcnd _
  have hval : ∀ (j : Nat) t v, Try.f6.params[j]? = some t → args[j]? = some v → Value.okWide Try.prog W .any base t v := hval0
  have hW' := hW
  obtain ⟨p, q, hA0, hV, rfl, hfz, hnd⟩ := hW
  have hA : DataW.TrodAll enc Try.prog W 0 (fun _ => true) true Try.f6.params.toList args.toList ds p := hA0
  rw [Try.params6] at hA hval
  obtain ⟨v0, vs0, d0, ds0, p0, q0, hargs, rfl, rfl, h0, r0⟩ := trodAll_cons hA
  obtain ⟨v1, vs1, d1, ds1, p1, q1, rfl, rfl, rfl, h1, r1⟩ := trodAll_cons r0
  obtain ⟨v2, vs2, d2, ds2, p2, q2, rfl, rfl, rfl, h2, r2⟩ := trodAll_cons r1
  obtain ⟨v3, vs3, d3, ds3, p3, q3, rfl, rfl, rfl, h3, r3⟩ := trodAll_cons r2
  obtain ⟨rfl, rfl, rfl⟩ := trodAll_nil r3
  obtain rfl : args = #[v0, v1, v2, v3] := by cases args; simp_all
  obtain ⟨rfl, rfl⟩ := trodVars_none hV
  obtain ⟨a0, rfl, rfl, rfl⟩ := open_bool Try.underlying4 (hval 0 4 v0 rfl rfl) h0
  obtain ⟨a1, rfl, rfl, rfl, w1⟩ := open_string Try.underlying9 (hval 1 9 v1 rfl rfl) h1
  obtain ⟨a2, len2, cap2, rfl⟩ := okWide_slice Try.underlying22 (hval 2 22 v2 rfl rfl)
  have k2 := h2
  have lt2 : ∀ x ∈ p2, x.block < W.heap.size := by obtain ⟨m, hm⟩ := k2; exact DataW.trod_lt m _ _ _ hm
  obtain ⟨z2, w2⟩ : ∃ zs, IsRow .i64 W a2 len2 cap2 zs := by
    obtain ⟨fuel, hf⟩ := h2
    rcases open_ints Try.underlying22 Try.underlying3 (by kernel_rfl) hf with ⟨hcs, _⟩ | ⟨x, l, c, zs, hcs, _, hl, hm, hz, _, hcell, hwz⟩
    · simp [Value.cells] at hcs
      obtain ⟨rfl, rfl, rfl⟩ := hcs
      exact ⟨[], .inl ⟨rfl, rfl, rfl, rfl⟩⟩
    · simp [Value.cells] at hcs
      obtain ⟨rfl, rfl, rfl⟩ := hcs
      exact ⟨zs, .inr ⟨_, rfl, hl, hm, by simpa using hz, hcell, hwz⟩⟩
  obtain ⟨a3, rfl, rfl, rfl, w3⟩ := open_int Try.underlying3 (hval 3 3 v3 rfl rfl) h3
  clear hA0 hval0
  refine (walk a0 a1 (.slice a2 len2 cap2) (z2.take len2) a3 W w1 (Ints.of_row w2) (row_wf w2) w3).mono fun e W' ⟨he, bel⟩ => ?_
  subst he
  exact ⟨_, rfl, _, _, _, [], _, [], hW', trodAll_mk1 (shut_bool Try.underlying4 _), (trodAll_cons_mk (shut_bool Try.underlying4 _) (trodAll_cons_mk (shut_string Try.underlying9 w1) (trodAll_cons_mk (Below.trod laidOut (by kernel_rfl) (of_decide_eq_true (by kernel_rfl)) k2 bel lt2) (trodAll_cons_mk (shut_int Try.underlying3 w3) trodAll_mk0)))), rfl, bel.frame _, fun h => by cases h⟩

theorem over : Rows.singleTellsRow.holds Try.pinned (OpenSpec.ofChange Rows.singleTellsSpec) :=
  OpenClaim.holds_of_wide 6 Try.f6 rfl rfl rfl rfl rfl rfl rfl ⟨rfl, rfl, rfl, rfl, rfl⟩ rfl rfl rfl rfl rfl (by kernel_rfl) Try.func6 (by kernel_rfl)
    (of_decide_eq_true (by kernel_rfl)) (by unfold Func.isWrapper; first | (rw [if_pos (by decide +kernel)]; kernel_rfl) | (rw [if_neg (by decide +kernel)]; exact ⟨rfl, rfl⟩))
    (fun os started H enc _ => lifted os started H enc)
end Go.Proofs.Ythhjfedegbldfab.singleTells

namespace Go.Proofs.Ythhjfedegbldfab
theorem singleTells_holds : Rows.SingleTellsSaid := singleTells.over
end Go.Proofs.Ythhjfedegbldfab
