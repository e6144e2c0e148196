/- Proved: for every integer encoding and all texts s and t the law StreamAgain returns true. No condition. -/
import Derived.Test.YtpjhcecfcjbgoaaDG
import Derived.OpenShut
import Derived.ShutString
import Derived.ChangeOld
namespace Go.Proofs.Ytpjhcecfcjbgoaa.streamAgain
open Go.ChangeShapes Go.WideShapes Go.ChangeAt Go.RowKit
open Go.ChangeMaps (open_string shut_string)
open Go.Proofs.Ytpjhcecfcjbgoaa
set_option linter.unusedVariables false

theorem own : ownKnob Try.prog.godebug = none := by kernel_rfl

set_option maxHeartbeats 3000000 in
set_option maxRecDepth 100000 in
theorem kind (n : Int) (s t : ByteArray) (w : World) (he : ¬ (1 ≤ n ∧ n ≤ 7)) :
    Calls Try.prog 3 #[.int .i64 n, .string s, .string t] w fun e w' => e = .returned (.bool true) ∧ Below w.heap.size w w' := by
  go_enter Try.func3, Try.ntmps3
  go_wp2_with fail
  refine (open_no n _ he).mono ?_
  rintro e w1 ⟨rfl, hb1⟩
  have HS : Hid (Sc w1.heap.size 0 ⟨#[]⟩ M.st0 (w1.alloc (.cells #[.int .i64 0, .string ⟨#[]⟩, .int .i64 0, .bool false, .bool false] 23))) := hide (Sc.new w1 0 ⟨#[]⟩ M.st0)
  unfold sv M.st0
  go_wp2_with fail
  refine (begunT_any _).mono ?_
  rintro e w2 ⟨rfl, hb2⟩
  have HS2 := hide ((unhide HS).on hb2)
  have hl := (unhide HS2).lt
  obtain ⟨p0, p1, p2, p3, p4, -, -, -, -, -⟩ := unhide HS2
  unfold M.st0 at p2 p3 p4
  have HB := hide (bstep (bstep hb1 (balloc w1 (.cells #[.int .i64 0, .string ⟨#[]⟩, .int .i64 0, .bool false, .bool false] 23))) hb2)
  clear hb1 hb2 HS HS2
  go_wp2_with fail
  go_ret
  exact ⟨rfl, unhide HB⟩

set_option maxHeartbeats 3000000 in
set_option maxRecDepth 100000 in
theorem longs (n : Int) (s t : ByteArray) (w : World) (he : 1 ≤ n ∧ n ≤ 7) (hs : 3000 < s.size) (hm : s.size ≤ maxLen) :
    Calls Try.prog 3 #[.int .i64 n, .string s, .string t] w fun e w' => e = .returned (.bool true) ∧ Below w.heap.size w w' := by
  unfold maxLen at hm
  go_enter Try.func3, Try.ntmps3
  go_wp2_with fail
  refine (open_yes n _ he).mono ?_
  rintro e w1 ⟨rfl, hb1⟩
  unfold sv M.st0
  go_wp2_with fail
  refine (begunT_any _).mono ?_
  rintro e w2 ⟨rfl, hb2⟩
  have HB := hide (bstep (bstep hb1 (balloc w1 (.cells #[.int .i64 n, .string ⟨#[]⟩, .int .i64 0, .bool false, .bool false] 23))) hb2)
  clear hb1 hb2
  go_wp2_with fail
  go_ret
  exact ⟨rfl, unhide HB⟩

set_option maxHeartbeats 3000000 in
set_option maxRecDepth 100000 in
theorem longt (n : Int) (s t : ByteArray) (w : World) (he : 1 ≤ n ∧ n ≤ 7) (hs : s.size ≤ 3000) (ht : 3000 < t.size) (hm : t.size ≤ maxLen) :
    Calls Try.prog 3 #[.int .i64 n, .string s, .string t] w fun e w' => e = .returned (.bool true) ∧ Below w.heap.size w w' := by
  unfold maxLen at hm
  go_enter Try.func3, Try.ntmps3
  go_wp2_with fail
  refine (open_yes n _ he).mono ?_
  rintro e w1 ⟨rfl, hb1⟩
  unfold sv M.st0
  go_wp2_with fail
  refine (begunT_any _).mono ?_
  rintro e w2 ⟨rfl, hb2⟩
  have HB := hide (bstep (bstep hb1 (balloc w1 (.cells #[.int .i64 n, .string ⟨#[]⟩, .int .i64 0, .bool false, .bool false] 23))) hb2)
  clear hb1 hb2
  go_wp2_with fail
  go_ret
  exact ⟨rfl, unhide HB⟩

set_option maxHeartbeats 3000000 in
set_option maxRecDepth 100000 in
theorem main (n : Int) (s t : ByteArray) (w : World) (hn : 1 ≤ n ∧ n ≤ 7) (hs : s.size ≤ 3000) (ht : t.size ≤ 3000) :
    Calls Try.prog 3 #[.int .i64 n, .string s, .string t] w fun e w' => e = .returned (.bool true) ∧ Below w.heap.size w w' := by
  have FS := fun w => feed_last n ⟨#[]⟩ M.st0 s w hn (chk_beg hn) (M.Ok_st0 n) hs
  have FT := fun w => feed_last n ⟨#[]⟩ M.st0 t w hn (chk_beg hn) (M.Ok_st0 n) ht
  unfold sv at FS FT
  go_enter Try.func3, Try.ntmps3
  go_wp2_with fail
  refine (open_yes n _ hn).mono ?_
  rintro e w1 ⟨rfl, hb1⟩
  have HO1 : Hid (Sc w1.heap.size n ⟨#[]⟩ M.st0 (w1.alloc (.cells #[.int .i64 n, .string ⟨#[]⟩, .int .i64 0, .bool false, .bool false] 23))) := hide (Sc.new w1 n ⟨#[]⟩ M.st0)
  unfold sv M.st0
  go_wp2_with fail
  refine (begunT_any _).mono ?_
  rintro e w2 ⟨rfl, hb2⟩
  have HO2 := hide ((unhide HO1).on hb2)
  have HB2 := hide (bstep (bstep hb1 (balloc w1 (.cells #[.int .i64 n, .string ⟨#[]⟩, .int .i64 0, .bool false, .bool false] 23))) hb2)
  clear hb1 hb2 HO1
  have hl := (unhide HO2).lt
  obtain ⟨p0, p1, p2, p3, p4, -, -, -, -, -⟩ := unhide HO2
  go_wp2_with fail
  refine (FS _).mono ?_
  rintro e w3 ⟨v3, r3, t3, L3, rfl, hI3, hb3, -, k3⟩
  obtain ⟨e1, e2, e3⟩ := k3 rfl
  subst e2 e3
  have HA3 := hide (Ints.of_owns hI3)
  obtain ⟨a3, c3, hs3⟩ := owns_shape hI3
  subst hs3
  have HE3 := hide e1
  have HX3 : Hid (Sc w3.heap.size n ⟨#[]⟩ M.st0 (w3.alloc (.cells #[.int .i64 n, .string ⟨#[]⟩, .int .i64 0, .bool false, .bool false] 23))) := hide (Sc.new w3 n ⟨#[]⟩ M.st0)
  have hst := bstep hb3 (balloc w3 (.cells #[.int .i64 n, .string ⟨#[]⟩, .int .i64 0, .bool false, .bool false] 23))
  have HO3 := hide ((unhide HO2).on hst)
  have HA3' := hide ((unhide HA3).below (balloc w3 (.cells #[.int .i64 n, .string ⟨#[]⟩, .int .i64 0, .bool false, .bool false] 23)))
  have HB3 := hide (bstep (unhide HB2) hst)
  clear hI3 hb3 k3 e1 hst HO2 HB2 HA3 p0 p1 p2 p3 p4 hl FS
  have hl := (unhide HX3).lt
  obtain ⟨p0, p1, p2, p3, p4, -, -, -, -, -⟩ := unhide HX3
  unfold sv M.st0
  go_wp2_with fail
  generalize w3.alloc (.cells #[.int .i64 n, .string ⟨#[]⟩, .int .i64 0, .bool false, .bool false] 23) = V3 at *
  refine (FT _).mono ?_
  rintro e w4 ⟨v4, r4, t4, L4, rfl, hI4, hb4, -, k4⟩
  obtain ⟨e1, e2, e3⟩ := k4 rfl
  subst e2 e3
  have HC4 := hide (Ints.of_owns hI4)
  obtain ⟨a4, c4, hs4⟩ := owns_shape hI4
  subst hs4
  have HE4 := hide e1
  have HY4 : Hid (Sc w4.heap.size n ⟨#[]⟩ M.st0 (w4.alloc (.cells #[.int .i64 n, .string ⟨#[]⟩, .int .i64 0, .bool false, .bool false] 23))) := hide (Sc.new w4 n ⟨#[]⟩ M.st0)
  have hst := bstep hb4 (balloc w4 (.cells #[.int .i64 n, .string ⟨#[]⟩, .int .i64 0, .bool false, .bool false] 23))
  have HO4 := hide ((unhide HO3).on hst)
  have HX4 := hide ((unhide HX3).on hst)
  have HA4 := hide ((unhide HA3').below hst)
  have HC4' := hide ((unhide HC4).below (balloc w4 (.cells #[.int .i64 n, .string ⟨#[]⟩, .int .i64 0, .bool false, .bool false] 23)))
  have HB4 := hide (bstep (unhide HB3) hst)
  clear hI4 hb4 k4 e1 hst HO3 HX3 HB3 HA3' HC4 p0 p1 p2 p3 p4 hl FT
  unfold sv M.st0
  go_wp2_with fail
  generalize w4.alloc (.cells #[.int .i64 n, .string ⟨#[]⟩, .int .i64 0, .bool false, .bool false] 23) = V4 at *
  refine (sdecode_any n s _ hn hs).mono ?_
  rintro e w5 ⟨v5, rfl, hI5, hb5⟩
  have e5 : M.decE n (bl s) = L3 := by rw [unhide HE3]; rfl
  rw [e5] at hI5
  obtain ⟨a5, c5, hs5, -⟩ := id hI5
  subst hs5
  have HD5 := hide hI5
  have HO5 := hide ((unhide HO4).on hb5)
  have HX5 := hide ((unhide HX4).on hb5)
  have HY5 := hide ((unhide HY4).on hb5)
  have HA5 := hide ((unhide HA4).below hb5)
  have HC5 := hide ((unhide HC4').below hb5)
  have HB5 := hide (bstep (unhide HB4) hb5)
  clear hI5 hb5 e5 HO4 HX4 HY4 HA4 HC4' HB4
  go_wp2_with fail
  refine (sdecode_any n t _ hn ht).mono ?_
  rintro e w6 ⟨v6, rfl, hI6, hb6⟩
  have e6 : M.decE n (bl t) = L4 := by rw [unhide HE4]; rfl
  rw [e6] at hI6
  obtain ⟨a6, c6, hs6, -⟩ := id hI6
  subst hs6
  have HG6 := hide hI6
  have HD6 := hide ((unhide HD5).below hb6)
  have HO6 := hide ((unhide HO5).on hb6)
  have HX6 := hide ((unhide HX5).on hb6)
  have HY6 := hide ((unhide HY5).on hb6)
  have HA6 := hide ((unhide HA5).below hb6)
  have HC6 := hide ((unhide HC5).below hb6)
  have HB6 := hide (bstep (unhide HB5) hb6)
  clear hI6 hb6 e6 HO5 HX5 HY5 HA5 HC5 HB5 HD5
  have hlo := (unhide HO6).lt
  have hlx := (unhide HX6).lt
  have hly := (unhide HY6).lt
  obtain ⟨o0, o1, o2, o3, o4, -, -, -, -, -⟩ := unhide HO6
  obtain ⟨x0, x1, x2, x3, x4, -, -, -, -, -⟩ := unhide HX6
  obtain ⟨y0, y1, y2, y3, y4, -, -, -, -, -⟩ := unhide HY6
  unfold M.st0 at o2 o3 o4 x2 x3 x4 y2 y3 y4
  go_wp2_with fail
  refine (same_any _ (unhide HA6) (unhide HD6)).mono ?_
  rintro e w7 ⟨rfl, hb7⟩
  rw [show (L3 == L3) = true from by simp]
  have HC7 := hide ((unhide HC6).below hb7)
  have HG7 := hide ((unhide HG6).below hb7)
  have HB7 := hide (bstep (unhide HB6) hb7)
  clear hb7
  go_wp2_with fail
  refine (same_any _ (unhide HC7) (unhide HG7)).mono ?_
  rintro e w8 ⟨rfl, hb8⟩
  rw [show (L4 == L4) = true from by simp]
  have HB8 := hide (bstep (unhide HB7) hb8)
  clear hb8
  go_wp2_with fail
  go_ret
  exact ⟨rfl, unhide HB8⟩

theorem walk (n : Int) (s t : ByteArray) (w : World) (hnw : (Lit.int .i64 n).wf = true) (hsm : s.size ≤ maxLen) (htm : t.size ≤ maxLen) :
    Calls Try.prog 3 #[.int .i64 n, .string s, .string t] w fun e w' => e = .returned (.bool true) ∧ Below w.heap.size w w' := by
  by_cases hn : 1 ≤ n ∧ n ≤ 7
  · by_cases hs : 3000 < s.size
    · exact longs n s t w hn hs hsm
    · by_cases ht : 3000 < t.size
      · exact longt n s t w hn (by omega) ht htm
      · exact main n s t w hn (by omega) (by omega)
  · exact kind n s t w hn

set_option maxRecDepth 100000 in
theorem lifted (os : Os) (started : os.Started) (H : Type) (enc : TypeId × Value → H) :
    ReturnsInHanded {} Try.checked os 3 .any (Rows.streamAgainSpec.pre6 enc Try.prog Try.f3 Rows.streamAgainRow.domain false) (Rows.streamAgainSpec.post enc Try.prog Try.f3 false true false false) := by
  refine returnsInHanded_of_change (C := Try.checked) own started (by kernel_rfl) Try.func3
    (ChangeSpec.witness6 (enc := enc) (C := Try.checked) false ⟨#[], #[.int .i64 0, .string ByteArray.empty, .string ByteArray.empty], []⟩ 8 (by kernel_rfl) (by kernel_rfl) (by kernel_rfl) (by kernel_rfl)) ?_
  intro W base args ds gs before hval0 hW hcnd _
  have hval : ∀ (j : Nat) t v, Try.f3.params[j]? = some t → args[j]? = some v → Value.okWide Try.prog W .any base t v := hval0
  have hW' := hW
  obtain ⟨p, q, hA0, hV, rfl, hfz, hnd⟩ := hW
  have hA : DataW.TrodAll enc Try.prog W 0 (fun _ => true) true Try.f3.params.toList args.toList ds p := hA0
  rw [Try.params3] at hA hval
  obtain ⟨v0, vs0, d0, ds0, p0, q0, hargs, rfl, rfl, h0, r0⟩ := trodAll_cons hA
  obtain ⟨v1, vs1, d1, ds1, p1, q1, rfl, rfl, rfl, h1, r1⟩ := trodAll_cons r0
  obtain ⟨v2, vs2, d2, ds2, p2, q2, rfl, rfl, rfl, h2, r2⟩ := trodAll_cons r1
  obtain ⟨rfl, rfl, rfl⟩ := trodAll_nil r2
  obtain rfl : args = #[v0, v1, v2] := by cases args; simp_all
  obtain ⟨rfl, rfl⟩ := trodVars_none hV
  obtain ⟨a0, rfl, rfl, rfl, w0⟩ := open_int Try.underlying3 (hval 0 3 v0 rfl rfl) h0
  obtain ⟨a1, rfl, rfl, rfl, w1⟩ := open_string Try.underlying9 (hval 1 9 v1 rfl rfl) h1
  obtain ⟨a2, rfl, rfl, rfl, w2⟩ := open_string Try.underlying9 (hval 2 9 v2 rfl rfl) h2
  clear hA0 hval0
  refine (walk a0 a1 a2 W w0 w1 w2).mono fun e W' ⟨he, bel⟩ => ?_
  subst he
  exact ⟨_, rfl, _, _, _, [], _, [], hW', trodAll_mk1 (shut_bool Try.underlying4 _), (trodAll_cons_mk (shut_int Try.underlying3 w0) (trodAll_cons_mk (shut_string Try.underlying9 w1) (trodAll_cons_mk (shut_string Try.underlying9 w2) trodAll_mk0))), rfl, bel.frame _, fun h => by cases h⟩

theorem over : Rows.streamAgainRow.holds Try.pinned (OpenSpec.ofChange Rows.streamAgainSpec) :=
  OpenClaim.holds_of_wide 3 Try.f3 rfl rfl rfl rfl rfl rfl rfl ⟨rfl, rfl, rfl, rfl, rfl⟩ rfl rfl rfl rfl rfl (by kernel_rfl) Try.func3 (by kernel_rfl)
    (of_decide_eq_true (by kernel_rfl)) (by unfold Func.isWrapper; first | (rw [if_pos (by decide +kernel)]; kernel_rfl) | (rw [if_neg (by decide +kernel)]; exact ⟨rfl, rfl⟩))
    (fun os started H enc _ => lifted os started H enc)
end Go.Proofs.Ytpjhcecfcjbgoaa.streamAgain

namespace Go.Proofs.Ytpjhcecfcjbgoaa
theorem streamAgain_holds : Rows.StreamAgainSaid := streamAgain.over
end Go.Proofs.Ytpjhcecfcjbgoaa
