/- Proved: for both kinds and all texts s and t the law SingleParts returns true and leaves both as they were. No condition. -/
import Derived.Test.YthhjfedegbldfabSE
import Derived.OpenShut
import Derived.ShutString
import Derived.ChangeOld
import Derived.SizedLaws
namespace Go.Proofs.Ythhjfedegbldfab.singleParts
open Go.ChangeShapes Go.WideShapes Go.ChangeAt Go.RowKit
open Go.ChangeMaps (open_string shut_string)
open Go.Proofs.Ythhjfedegbldfab
set_option linter.unusedVariables false

theorem own : ownKnob Try.prog.godebug = none := by kernel_rfl

set_option maxHeartbeats 1000000 in
set_option maxRecDepth 100000 in
theorem walk_sum (user : Bool) (s t : ByteArray) (w : World) (hs : s.size ≤ 140737488351232) (ht : t.size ≤ 140737488351232) (hg : 3000 < s.size + t.size) :
    Calls Try.prog 8 #[.bool user, .string s, .string t] w fun e w' => e = .returned (.bool true) ∧ Below w.heap.size w w' := by
  go_enter Try.func8, Try.ntmps8
  go_wp2_with fail
  refine (begunS_any _).mono ?_
  rintro e w1 ⟨rfl, hb1⟩
  go_wp2_with fail
  go_ret
  exact ⟨rfl, hb1⟩

set_option maxHeartbeats 1000000 in
set_option maxRecDepth 100000 in
theorem walk_in (user : Bool) (s t : ByteArray) (w : World) (hg : s.size + t.size ≤ 3000) :
    Calls Try.prog 8 #[.bool user, .string s, .string t] w fun e w' => e = .returned (.bool true) ∧ Below w.heap.size w w' := by
  have HE := hide (show M.decS user (bl (s ++ t)) = M.decS user (bl s) ++ M.decS user (bl t) from by rw [bl_app, M.decS_app])
  have la : (M.decS user (bl s)).length = s.size := by rw [M.decS_len, bl_len]
  have lb : (M.decS user (bl t)).length = t.size := by rw [M.decS_len, bl_len]
  go_enter Try.func8, Try.ntmps8
  go_wp2_with fail
  refine (begunS_any _).mono ?_
  rintro e w1 ⟨rfl, hb1⟩
  go_wp2_with fail
  refine (decodeS_any user s _ (by omega)).mono ?_
  rintro e w3 ⟨v3, rfl, hI3, hb3⟩
  generalize M.decS user (bl s) = A at *
  obtain ⟨ao3, cap3, hsh3, -⟩ := id hI3
  subst hsh3
  have HI3 := hide hI3
  have hla : ((A.length : Int) == (s.size : Int)) = true := by simp [la]
  have LA := hide la
  clear hI3 la
  go_wp2_with fail
  refine (decodeS_any user t _ (by omega)).mono ?_
  rintro e w4 ⟨v4, rfl, hI4, hb4⟩
  generalize M.decS user (bl t) = B at *
  obtain ⟨ao4, cap4, hsh4, -⟩ := id hI4
  subst hsh4
  have HI4 := hide hI4
  have LB := hide lb
  clear hI4 lb
  go_wp2_with fail
  refine (decodeS_any user (s ++ t) _ (by simp; omega)).mono ?_
  rintro e w5 ⟨v5, rfl, hI5, hb5⟩
  rw [unhide HE] at hI5
  obtain ⟨ao5, cap5, hsh5, -⟩ := id hI5
  subst hsh5
  have HI5 := hide hI5
  clear hI5
  have I3 := hide ((unhide HI3).below (bstep hb4 hb5))
  have I4 := hide ((unhide HI4).below hb5)
  have HB5 := hide (bstep (bstep (bstep hb1 hb3) hb4) hb5)
  clear hb1 hb3 hb4 hb5 HI3 HI4
  have o6 := World.ownsRow_made (base := w5.heap.size) (e := 3) (size := 1) w5 #[] 0 (Nat.le_refl _) (by simp) rfl
  go_wp2_with (at_builtin; refine append_ints rfl (.tmp 60) (.tmp 61) rfl w5.heap.size _ [] rfl o6 _ A rfl ((unhide I3).below (balloc _ _)) (by have := unhide LA; simp; omega) (by simp) ?_)
  intro v7 w7 ho7 hb7
  obtain ⟨ao7, cap7, hsh7⟩ := owns_shape ho7
  subst hsh7
  have HB7 : Hid (Below w5.heap.size w5 w7) := (balloc _ _).trans hb7
  have hz7 := (unhide HB7).size
  clear o6 hb7
  go_wp2_with (at_builtin; refine append_ints rfl (.tmp 62) (.tmp 63) rfl w5.heap.size _ A rfl ho7 _ B rfl ((unhide I4).below (unhide HB7)) (by have := unhide LA; have := unhide LB; omega) hz7 ?_)
  intro v8 w8 ho8 hb8
  obtain ⟨ao8, cap8, hsh8⟩ := owns_shape ho8
  subst hsh8
  have HB8 : Hid (Below w5.heap.size w5 w8) := (unhide HB7).trans hb8
  have I8 := hide (Ints.of_owns (xs := A ++ B) (by simpa using ho8))
  have I5 := hide ((unhide HI5).below (unhide HB8))
  clear ho7 ho8 hb8 HB7 HI5
  rw [List.length_append] at I5
  go_wp2_with fail
  refine (same_any _ (unhide I5) (unhide I8)).mono ?_
  rintro e w9 ⟨rfl, hb9⟩
  rw [show (A ++ B == A ++ B) = true from by simp]
  have HB9 := hide (bstep (bstep (unhide HB5) (unhide HB8)) hb9)
  clear hb9 HB8
  go_wp2_with fail
  go_ret
  exact ⟨rfl, unhide HB9⟩

theorem walk (user : Bool) (s t : ByteArray) (w : World) (hs : s.size ≤ 140737488351232) (ht : t.size ≤ 140737488351232) :
    Calls Try.prog 8 #[.bool user, .string s, .string t] w fun e w' => e = .returned (.bool true) ∧ Below w.heap.size w w' := by
  by_cases hg : 3000 < s.size + t.size
  · exact walk_sum user s t w hs ht hg
  · exact walk_in user s t w (by omega)

set_option maxRecDepth 100000 in
theorem lifted (os : Os) (started : os.Started) (H : Type) (enc : TypeId × Value → H) :
    ReturnsInHanded {} Try.checked os 8 .any (Rows.singlePartsSpec.pre6 enc Try.prog Try.f8 Rows.singlePartsRow.domain false) (Rows.singlePartsSpec.post enc Try.prog Try.f8 false true false false) := by
  refine returnsInHanded_of_change_sized (C := Try.checked) own started (by kernel_rfl) Try.func8
    (ChangeSpec.witness6 (enc := enc) (C := Try.checked) false ⟨#[], #[.bool false, .string ByteArray.empty, .string ByteArray.empty], []⟩ 8 (by kernel_rfl) (by kernel_rfl) (by kernel_rfl) (by kernel_rfl)) ?_
  intro W base args ds gs before hval0 hW hcnd hsz0 _
  have hval : ∀ (j : Nat) t v, Try.f8.params[j]? = some t → args[j]? = some v → Value.okWide Try.prog W .any base t v := hval0
  have hW' := hW
  obtain ⟨p, q, hA0, hV, rfl, hfz, hnd⟩ := hW
  have hA : DataW.TrodAll enc Try.prog W 0 (fun _ => true) true Try.f8.params.toList args.toList ds p := hA0
  rw [Try.params8] at hA hval
  obtain ⟨v0, vs0, d0, ds0, p0, q0, hargs, rfl, rfl, h0, r0⟩ := trodAll_cons hA
  obtain ⟨v1, vs1, d1, ds1, p1, q1, rfl, rfl, rfl, h1, r1⟩ := trodAll_cons r0
  obtain ⟨v2, vs2, d2, ds2, p2, q2, rfl, rfl, rfl, h2, r2⟩ := trodAll_cons r1
  obtain ⟨rfl, rfl, rfl⟩ := trodAll_nil r2
  obtain rfl : args = #[v0, v1, v2] := by cases args; simp_all
  obtain ⟨rfl, rfl⟩ := trodVars_none hV
  obtain ⟨a0, rfl, rfl, rfl⟩ := open_bool Try.underlying4 (hval 0 4 v0 rfl rfl) h0
  obtain ⟨a1, rfl, rfl, rfl, w1⟩ := open_string Try.underlying9 (hval 1 9 v1 rfl rfl) h1
  obtain ⟨a2, rfl, rfl, rfl, w2⟩ := open_string Try.underlying9 (hval 2 9 v2 rfl rfl) h2
  have hsz : (DataW.weightsEach Try.prog (Try.f8.params.toList ++ Rows.singlePartsSpec.plain.varTypes Try.prog) ([.lit (.bool a0), .lit (.string a1.data.toList), .lit (.string a2.data.toList)] ++ [])).all (fun x => decide (x ≤ reachBytes)) = true := hsz0
  rw [Try.params8] at hsz
  have sz1 : a1.size ≤ 140737488351232 := by
    have := sized_string hsz (j := 1) (t := 9) rfl rfl
    simp only [reachBytes] at this
    simpa using this
  have sz2 : a2.size ≤ 140737488351232 := by
    have := sized_string hsz (j := 2) (t := 9) rfl rfl
    simp only [reachBytes] at this
    simpa using this
  clear hA0 hval0
  refine (walk a0 a1 a2 W sz1 sz2).mono fun e W' ⟨he, bel⟩ => ?_
  subst he
  exact ⟨_, rfl, _, _, _, [], _, [], hW', trodAll_mk1 (shut_bool Try.underlying4 _), (trodAll_cons_mk (shut_bool Try.underlying4 _) (trodAll_cons_mk (shut_string Try.underlying9 w1) (trodAll_cons_mk (shut_string Try.underlying9 w2) trodAll_mk0))), rfl, bel.frame _, fun h => by cases h⟩

theorem over : Rows.singlePartsRow.holds Try.pinned (OpenSpec.ofChange Rows.singlePartsSpec) :=
  OpenClaim.holds_of_wide 8 Try.f8 rfl rfl rfl rfl rfl rfl rfl ⟨rfl, rfl, rfl, rfl, rfl⟩ rfl rfl rfl rfl rfl (by kernel_rfl) Try.func8 (by kernel_rfl)
    (of_decide_eq_true (by kernel_rfl)) (by unfold Func.isWrapper; first | (rw [if_pos (by decide +kernel)]; kernel_rfl) | (rw [if_neg (by decide +kernel)]; exact ⟨rfl, rfl⟩))
    (fun os started H enc _ => lifted os started H enc)
end Go.Proofs.Ythhjfedegbldfab.singleParts

namespace Go.Proofs.Ythhjfedegbldfab
theorem singleParts_holds : Rows.SinglePartsSaid := singleParts.over
end Go.Proofs.Ythhjfedegbldfab
