/- Proved: for every text s and every integer the law MarkTells returns true and leaves both as they were. No condition. -/
import Derived.Test.YthhjfedegbldfadMR
import Derived.Test.YthhjfedegbldfadMB
import Derived.OpenShut
import Derived.ShutString
import Derived.ChangeOld
namespace Go.Proofs.Ythhjfedegbldfad.markTells
open Go.ChangeShapes Go.WideShapes Go.ChangeAt Go.RowKit
open Go.ChangeMaps (open_string shut_string)
open Go.Proofs.Ythhjfedegbldfad
set_option linter.unusedVariables false

theorem own : ownKnob Try.prog.godebug = none := by kernel_rfl


set_option maxHeartbeats 1600000 in
set_option maxRecDepth 100000 in
theorem walkNo (s : ByteArray) (n : Int) (w : World) (hs : s.size ≤ maxLen) (hn : ¬ (1 ≤ n ∧ n ≤ 7)) : Calls Try.prog 4 #[.string s, .int .i64 n] w fun e w' => e = .returned (.bool true) ∧ Below w.heap.size w w' := by
  have S1 := hide (fun w => Sniff_any s w hs)
  have S2 := hide (fun w => sniffOf_any s w hs)
  have M1 := hide (fun w => May_any s w hs)
  have M2 := hide (fun w => mayOf_any s w hs)
  have G := hide (fun w => markBegun_any w)
  have I := hide (fun w => isEncoding_any n w)
  have P := hide (fun w => Put_no n s w hn)
  rw [show M.enc7 n = false from by unfold M.enc7; exact decide_eq_false hn] at I
  generalize (M.sn (bl s)).1 = x at *
  generalize (M.sn (bl s)).2 = y at *
  generalize M.may (bl s) = z at *
  have hmx : s.size ≤ 9223372036854775807 := by unfold maxLen at hs; omega
  clear hs
  go_enter Try.func4, Try.ntmps4
  go_wp2_with fail
  refine (unhide S1 _).mono ?_
  rintro e w1 ⟨rfl, hb1⟩
  have HB1 := hide hb1
  clear hb1
  go_wp2_with fail
  refine (unhide P _).mono ?_
  rintro e w2 ⟨rfl, hb2⟩
  have HB2 := hide (bstep (unhide HB1) hb2)
  clear hb2
  go_wp2_with fail
  refine (unhide S2 _).mono ?_
  rintro e w3 ⟨rfl, hw⟩
  replace hw := hw.symm
  subst hw
  go_wp2_with fail
  refine (unhide I _).mono ?_
  rintro e w3 ⟨rfl, hw⟩
  replace hw := hw.symm
  subst hw
  go_wp2_with fail

  refine (unhide G _).mono ?_
  rintro e w4 ⟨rfl, hb4⟩
  have HB4 := hide (bstep (unhide HB2) hb4)
  clear hb4
  go_wp2_with fail
  refine (unhide M1 _).mono ?_
  rintro e w5 ⟨rfl, hb5⟩
  have HB5 := hide (bstep (unhide HB4) hb5)
  clear hb5
  go_wp2_with fail
  refine (unhide M2 _).mono ?_
  rintro e w6 ⟨rfl, hw⟩
  replace hw := hw.symm
  subst hw
  go_wp2_with fail
  go_ret
  exact ⟨rfl, unhide HB5⟩

set_option maxHeartbeats 1600000 in
set_option maxRecDepth 100000 in
theorem walkLong (s : ByteArray) (n : Int) (w : World) (hs : s.size ≤ maxLen) (hn : 1 ≤ n ∧ n ≤ 7) (hl : 3000 < s.size) : Calls Try.prog 4 #[.string s, .int .i64 n] w fun e w' => e = .returned (.bool true) ∧ Below w.heap.size w w' := by
  have S1 := hide (fun w => Sniff_any s w hs)
  have S2 := hide (fun w => sniffOf_any s w hs)
  have M1 := hide (fun w => May_any s w hs)
  have M2 := hide (fun w => mayOf_any s w hs)
  have G := hide (fun w => markBegun_any w)
  have I := hide (fun w => isEncoding_any n w)
  have P := hide (fun w => Put_long n s w hn hl hs)
  have L := hide (fun w => tooLong_yes s w hl hs)
  rw [show M.enc7 n = true from by unfold M.enc7; exact decide_eq_true hn] at I
  generalize (M.sn (bl s)).1 = x at *
  generalize (M.sn (bl s)).2 = y at *
  generalize M.may (bl s) = z at *
  have hmx : s.size ≤ 9223372036854775807 := by unfold maxLen at hs; omega
  clear hs
  go_enter Try.func4, Try.ntmps4
  go_wp2_with fail
  refine (unhide S1 _).mono ?_
  rintro e w1 ⟨rfl, hb1⟩
  have HB1 := hide hb1
  clear hb1
  go_wp2_with fail
  refine (unhide P _).mono ?_
  rintro e w2 ⟨rfl, hb2⟩
  have HB2 := hide (bstep (unhide HB1) hb2)
  clear hb2
  go_wp2_with fail
  refine (unhide S2 _).mono ?_
  rintro e w3 ⟨rfl, hw⟩
  replace hw := hw.symm
  subst hw
  go_wp2_with fail
  refine (unhide I _).mono ?_
  rintro e w3 ⟨rfl, hw⟩
  replace hw := hw.symm
  subst hw
  go_wp2_with fail
  refine (unhide L _).mono ?_
  rintro e w3 ⟨rfl, hw⟩
  replace hw := hw.symm
  subst hw
  go_wp2_with fail
  refine (unhide G _).mono ?_
  rintro e w4 ⟨rfl, hb4⟩
  have HB4 := hide (bstep (unhide HB2) hb4)
  clear hb4
  go_wp2_with fail
  refine (unhide M1 _).mono ?_
  rintro e w5 ⟨rfl, hb5⟩
  have HB5 := hide (bstep (unhide HB4) hb5)
  clear hb5
  go_wp2_with fail
  refine (unhide M2 _).mono ?_
  rintro e w6 ⟨rfl, hw⟩
  replace hw := hw.symm
  subst hw
  go_wp2_with fail
  go_ret
  exact ⟨rfl, unhide HB5⟩

set_option maxHeartbeats 1600000 in
set_option maxRecDepth 100000 in
theorem walkYes (s : ByteArray) (n : Int) (w : World) (hs : s.size ≤ maxLen) (hn : 1 ≤ n ∧ n ≤ 7) (hl : s.size ≤ 3000) : Calls Try.prog 4 #[.string s, .int .i64 n] w fun e w' => e = .returned (.bool true) ∧ Below w.heap.size w w' := by
  have S1 := hide (fun w => Sniff_any s w hs)
  have S2 := hide (fun w => sniffOf_any s w hs)
  have M1 := hide (fun w => May_any s w hs)
  have M2 := hide (fun w => mayOf_any s w hs)
  have G := hide (fun w => markBegun_any w)
  have I := hide (fun w => isEncoding_any n w)
  have P := hide (fun w => Put_any n s w hn hl)
  have L := hide (fun w => tooLong_no s w hl)
  have K := hide (fun w => markOf_any n w)
  have hk : (mkB n).size ≤ 3 := by rw [← bl_len, mkB_bl]; exact M.mkL_len n
  rw [show M.enc7 n = true from by unfold M.enc7; exact decide_eq_true hn] at I
  generalize (M.sn (bl s)).1 = x at *
  generalize (M.sn (bl s)).2 = y at *
  generalize M.may (bl s) = z at *
  have hmx : s.size ≤ 9223372036854775807 := by unfold maxLen at hs; omega
  clear hs
  go_enter Try.func4, Try.ntmps4
  go_wp2_with fail
  refine (unhide S1 _).mono ?_
  rintro e w1 ⟨rfl, hb1⟩
  have HB1 := hide hb1
  clear hb1
  go_wp2_with fail
  refine (unhide P _).mono ?_
  rintro e w2 ⟨t, rfl, ht, hb2⟩
  have HB2 := hide (bstep (unhide HB1) hb2)
  obtain rfl : t = mkB n ++ s := by rw [← str_bl t, ht, ← mkB_bl, ← bl_app, str_bl]
  clear hb2 ht
  go_wp2_with fail
  refine (unhide S2 _).mono ?_
  rintro e w3 ⟨rfl, hw⟩
  replace hw := hw.symm
  subst hw
  go_wp2_with fail
  refine (unhide I _).mono ?_
  rintro e w3 ⟨rfl, hw⟩
  replace hw := hw.symm
  subst hw
  go_wp2_with fail
  refine (unhide L _).mono ?_
  rintro e w3 ⟨rfl, hw⟩
  replace hw := hw.symm
  subst hw
  go_wp2_with fail
  refine (unhide K _).mono ?_
  rintro e w3 ⟨rfl, hw⟩
  replace hw := hw.symm
  subst hw
  go_wp2_with fail
  refine (unhide G _).mono ?_
  rintro e w4 ⟨rfl, hb4⟩
  have HB4 := hide (bstep (unhide HB2) hb4)
  clear hb4
  go_wp2_with fail
  refine (unhide M1 _).mono ?_
  rintro e w5 ⟨rfl, hb5⟩
  have HB5 := hide (bstep (unhide HB4) hb5)
  clear hb5
  go_wp2_with fail
  refine (unhide M2 _).mono ?_
  rintro e w6 ⟨rfl, hw⟩
  replace hw := hw.symm
  subst hw
  go_wp2_with fail
  go_ret
  exact ⟨rfl, unhide HB5⟩

theorem walk (s : ByteArray) (n : Int) (w : World) (hs : s.size ≤ maxLen) (hw : (Lit.int .i64 n).wf = true) : Calls Try.prog 4 #[.string s, .int .i64 n] w fun e w' => e = .returned (.bool true) ∧ Below w.heap.size w w' := by
  by_cases hn : 1 ≤ n ∧ n ≤ 7
  · by_cases hl : s.size ≤ 3000
    · exact walkYes s n w hs hn hl
    · exact walkLong s n w hs hn (by omega)
  · exact walkNo s n w hs hn

set_option maxRecDepth 100000 in
theorem lifted (os : Os) (started : os.Started) (H : Type) (enc : TypeId × Value → H) :
    ReturnsInHanded {} Try.checked os 4 .any (Rows.markTellsSpec.pre6 enc Try.prog Try.f4 Rows.markTellsRow.domain false) (Rows.markTellsSpec.post enc Try.prog Try.f4 false true false false) := by
  refine returnsInHanded_of_change (C := Try.checked) own started (by kernel_rfl) Try.func4
    (ChangeSpec.witness6 (enc := enc) (C := Try.checked) false ⟨#[], #[.string ByteArray.empty, .int .i64 0], []⟩ 8 (by kernel_rfl) (by kernel_rfl) (by kernel_rfl) (by kernel_rfl)) ?_
  intro W base args ds gs before hval0 hW hcnd _
  have hval : ∀ (j : Nat) t v, Try.f4.params[j]? = some t → args[j]? = some v → Value.okWide Try.prog W .any base t v := hval0
  have hW' := hW
  obtain ⟨p, q, hA0, hV, rfl, hfz, hnd⟩ := hW
  have hA : DataW.TrodAll enc Try.prog W 0 (fun _ => true) true Try.f4.params.toList args.toList ds p := hA0
  rw [Try.params4] at hA hval
  obtain ⟨v0, vs0, d0, ds0, p0, q0, hargs, rfl, rfl, h0, r0⟩ := trodAll_cons hA
  obtain ⟨v1, vs1, d1, ds1, p1, q1, rfl, rfl, rfl, h1, r1⟩ := trodAll_cons r0
  obtain ⟨rfl, rfl, rfl⟩ := trodAll_nil r1
  obtain rfl : args = #[v0, v1] := by cases args; simp_all
  obtain ⟨rfl, rfl⟩ := trodVars_none hV
  obtain ⟨a0, rfl, rfl, rfl, w0⟩ := open_string Try.underlying9 (hval 0 9 v0 rfl rfl) h0
  obtain ⟨a1, rfl, rfl, rfl, w1⟩ := open_int Try.underlying3 (hval 1 3 v1 rfl rfl) h1
  clear hA0 hval0
  refine (walk a0 a1 W w0 w1).mono fun e W' ⟨he, bel⟩ => ?_
  subst he
  exact ⟨_, rfl, _, _, _, [], _, [], hW', trodAll_mk1 (shut_bool Try.underlying4 _), (trodAll_cons_mk (shut_string Try.underlying9 w0) (trodAll_cons_mk (shut_int Try.underlying3 w1) trodAll_mk0)), rfl, bel.frame _, fun h => by cases h⟩

theorem over : Rows.markTellsRow.holds Try.pinned (OpenSpec.ofChange Rows.markTellsSpec) :=
  OpenClaim.holds_of_wide 4 Try.f4 rfl rfl rfl rfl rfl rfl rfl ⟨rfl, rfl, rfl, rfl, rfl⟩ rfl rfl rfl rfl rfl (by kernel_rfl) Try.func4 (by kernel_rfl)
    (of_decide_eq_true (by kernel_rfl)) (by unfold Func.isWrapper; first | (rw [if_pos (by decide +kernel)]; kernel_rfl) | (rw [if_neg (by decide +kernel)]; exact ⟨rfl, rfl⟩))
    (fun os started H enc _ => lifted os started H enc)
end Go.Proofs.Ythhjfedegbldfad.markTells

namespace Go.Proofs.Ythhjfedegbldfad
theorem markTells_holds : Rows.MarkTellsSaid := markTells.over
end Go.Proofs.Ythhjfedegbldfad
