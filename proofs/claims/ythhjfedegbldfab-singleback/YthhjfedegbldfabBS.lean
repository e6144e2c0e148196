/- Proved: for both kinds, every text s and every integer point the law SingleBack returns true and leaves all as they were. No condition. -/
import Derived.Test.YthhjfedegbldfabSE
import Derived.OpenShut
import Derived.ShutString
import Derived.ChangeOld
namespace Go.Proofs.Ythhjfedegbldfab.singleBack
open Go.ChangeShapes Go.WideShapes Go.ChangeAt Go.RowKit
open Go.ChangeMaps (open_string shut_string)
open Go.Proofs.Ythhjfedegbldfab
set_option linter.unusedVariables false

theorem own : ownKnob Try.prog.godebug = none := by kernel_rfl

theorem conv1 (w0 : World) (x : Int) (B : Nat) (hB : w0.heap.size = B) :
    (convert 44 9 (.slice (some ⟨B, 0, none⟩) 1 1)).run Try.prog (w0.alloc (.cells #[.int .u8 x] 5)) = .ok (.string (strOfNums [x])) (w0.alloc (.cells #[.int .u8 x] 5)) := by
  subst hB
  exact conv_built [x] 1 1 rfl (heap_alloc_new _ _)
theorem decS_wf (user : Bool) (s : ByteArray) : ∀ n ∈ M.decS user (bl s), (Lit.int .i64 n).wf = true := by
  intro n hn
  simp only [M.decS, List.mem_map] at hn
  obtain ⟨x, hx, rfl⟩ := hn
  have hb := bl_byt s x hx
  obtain ⟨k, hk, rfl⟩ := M.byte_nat hb.1 hb.2
  have := M.pt_bd user hk
  exact WalkArith.wf_i64 (by omega)

set_option maxHeartbeats 1000000 in
set_option maxRecDepth 100000 in
theorem walk_long (user : Bool) (s : ByteArray) (n : Int) (w : World) (hs : 3000 < s.size) (hm : s.size ≤ maxLen) :
    Calls Try.prog 7 #[.bool user, .string s, .int .i64 n] w fun e w' => e = .returned (.bool true) ∧ Below w.heap.size w w' := by
  go_enter Try.func7, Try.ntmps7
  go_wp2_with fail
  refine (decodeS_long user s _ hs hm).mono ?_
  rintro e w1 ⟨rfl, hb1⟩
  go_wp2_with fail
  refine (begunS_any _).mono ?_
  rintro e w2 ⟨rfl, hb2⟩
  go_wp2_with fail
  go_ret
  exact ⟨rfl, bstep hb1 hb2⟩

set_option maxHeartbeats 1000000 in
set_option maxRecDepth 100000 in
theorem walk_no (user : Bool) (s : ByteArray) (n : Int) (w : World) (hs : s.size ≤ 3000) (hw : (Lit.int .i64 n).wf = true) (hq : Hid (M.hasB user n = false)) :
    Calls Try.prog 7 #[.bool user, .string s, .int .i64 n] w fun e w' => e = .returned (.bool true) ∧ Below w.heap.size w w' := by
  have HS := hide (show strOfNums (M.encS user (M.decS user (bl s))) = s from by rw [M.encS_decS user (bl s) (bl_byt s), str_bl])
  have HO := hide (M.decS_ok user (bl s) (bl_byt s))
  have HW := hide (decS_wf user s)
  have la : (M.decS user (bl s)).length = s.size := by rw [M.decS_len, bl_len]
  go_enter Try.func7, Try.ntmps7
  go_wp2_with fail
  refine (decodeS_any user s _ hs).mono ?_
  rintro e w1 ⟨v1, rfl, hI1, hb1⟩
  generalize M.decS user (bl s) = A at *
  obtain ⟨ao1, cap1, hsh1, -⟩ := id hI1
  subst hsh1
  have HI1 := hide hI1
  have hla : ((A.length : Int) != (s.size : Int)) = false := by simp [la]
  have LA := hide la
  clear hI1 la
  go_wp2_with fail
  refine (begunS_any _).mono ?_
  rintro e w2 ⟨rfl, hb2⟩
  go_wp2_with fail
  refine (encodeS_any user _ ((unhide HI1).below hb2) (unhide HW) (by have := unhide LA; omega)).mono ?_
  rintro e w3 ⟨rfl, hb3⟩
  rw [encResS_yes (unhide HO), unhide HS]
  have HB3 := hide (bstep (bstep hb1 hb2) hb3)
  clear hb1 hb2 hb3
  go_wp2_with fail
  refine (tellsS_no user n _ hw hq).mono ?_
  rintro e w4 ⟨rfl, hb4⟩
  go_wp2_with fail
  go_ret
  exact ⟨rfl, bstep (unhide HB3) hb4⟩

set_option maxHeartbeats 1000000 in
set_option maxRecDepth 100000 in
theorem walk_yes (user : Bool) (s : ByteArray) (n : Int) (w : World) (hs : s.size ≤ 3000) (hw : (Lit.int .i64 n).wf = true) (hq : Hid (M.hasB user n = true)) :
    Calls Try.prog 7 #[.bool user, .string s, .int .i64 n] w fun e w' => e = .returned (.bool true) ∧ Below w.heap.size w w' := by
  have hbd := M.bof_bd user (unhide hq)
  have HD := hide (show M.decS user (bl (strOfNums [M.bof user n])) = [n] from by
    rw [bl_str _ (by intro x hx; simp at hx; subst hx; exact hbd)]
    simp [M.decS, M.pt_bof user (unhide hq)])
  have hsz : (strOfNums [M.bof user n]).size = 1 := by rw [strOfNums_size]; rfl
  have HS := hide (show strOfNums (M.encS user (M.decS user (bl s))) = s from by rw [M.encS_decS user (bl s) (bl_byt s), str_bl])
  have HO := hide (M.decS_ok user (bl s) (bl_byt s))
  have HW := hide (decS_wf user s)
  have la : (M.decS user (bl s)).length = s.size := by rw [M.decS_len, bl_len]
  go_enter Try.func7, Try.ntmps7
  go_wp2_with fail
  refine (decodeS_any user s _ hs).mono ?_
  rintro e w1 ⟨v1, rfl, hI1, hb1⟩
  generalize M.decS user (bl s) = A at *
  obtain ⟨ao1, cap1, hsh1, -⟩ := id hI1
  subst hsh1
  have HI1 := hide hI1
  have hla : ((A.length : Int) != (s.size : Int)) = false := by simp [la]
  have LA := hide la
  clear hI1 la
  go_wp2_with fail
  refine (begunS_any _).mono ?_
  rintro e w2 ⟨rfl, hb2⟩
  go_wp2_with fail
  refine (encodeS_any user _ ((unhide HI1).below hb2) (unhide HW) (by have := unhide LA; omega)).mono ?_
  rintro e w3 ⟨rfl, hb3⟩
  rw [encResS_yes (unhide HO), unhide HS]
  have HB3 := hide (bstep (bstep hb1 hb2) hb3)
  clear hb1 hb2 hb3
  go_wp2_with fail
  refine (tellsS_yes user n _ hw hq).mono ?_
  rintro e w4 ⟨rfl, hb4⟩
  generalize M.bof user n = B at *
  have HB4 := hide (bstep (unhide HB3) hb4)
  clear hb4
  have hcv := conv1 w4 B w4.heap.size rfl
  generalize strOfNums [B] = t at *
  go_wp2_with fail
  refine (decodeS_any user t _ (by omega)).mono ?_
  rintro e w5 ⟨v5, rfl, hI5, hb5⟩
  rw [unhide HD] at hI5
  obtain ⟨ao5, cap5, hsh5, -⟩ := id hI5
  subst hsh5
  have HI5 := hide hI5
  have HB5 := hide (bstep (bstep (unhide HB4) (balloc _ _)) hb5)
  clear hI5 hb5 hcv
  go_wp2_with fail
  refine (same_any _ ((unhide HI5).below (balloc _ _)) (one_int _ _)).mono ?_
  rintro e w6 ⟨rfl, hb6⟩
  rw [show ([n] == [n]) = true from by simp]
  have HB6 := hide (bstep (bstep (unhide HB5) (balloc _ _)) hb6)
  clear hb6
  go_wp2_with fail
  go_ret
  exact ⟨rfl, unhide HB6⟩

theorem walk (user : Bool) (s : ByteArray) (n : Int) (w : World) (hm : s.size ≤ maxLen) (hw : (Lit.int .i64 n).wf = true) :
    Calls Try.prog 7 #[.bool user, .string s, .int .i64 n] w fun e w' => e = .returned (.bool true) ∧ Below w.heap.size w w' := by
  by_cases h : 3000 < s.size
  · exact walk_long user s n w h hm
  · by_cases hq : M.hasB user n = true
    · exact walk_yes user s n w (by omega) hw hq
    · exact walk_no user s n w (by omega) hw (Bool.eq_false_iff.2 hq)

set_option maxRecDepth 100000 in
theorem lifted (os : Os) (started : os.Started) (H : Type) (enc : TypeId × Value → H) :
    ReturnsInHanded {} Try.checked os 7 .any (Rows.singleBackSpec.pre6 enc Try.prog Try.f7 Rows.singleBackRow.domain false) (Rows.singleBackSpec.post enc Try.prog Try.f7 false true false false) := by
  refine returnsInHanded_of_change (C := Try.checked) own started (by kernel_rfl) Try.func7
    (ChangeSpec.witness6 (enc := enc) (C := Try.checked) false ⟨#[], #[.bool false, .string ByteArray.empty, .int .i64 0], []⟩ 8 (by kernel_rfl) (by kernel_rfl) (by kernel_rfl) (by kernel_rfl)) ?_
  intro W base args ds gs before hval0 hW hcnd _
  have hval : ∀ (j : Nat) t v, Try.f7.params[j]? = some t → args[j]? = some v → Value.okWide Try.prog W .any base t v := hval0
  have hW' := hW
  obtain ⟨p, q, hA0, hV, rfl, hfz, hnd⟩ := hW
  have hA : DataW.TrodAll enc Try.prog W 0 (fun _ => true) true Try.f7.params.toList args.toList ds p := hA0
  rw [Try.params7] at hA hval
  obtain ⟨v0, vs0, d0, ds0, p0, q0, hargs, rfl, rfl, h0, r0⟩ := trodAll_cons hA
  obtain ⟨v1, vs1, d1, ds1, p1, q1, rfl, rfl, rfl, h1, r1⟩ := trodAll_cons r0
  obtain ⟨v2, vs2, d2, ds2, p2, q2, rfl, rfl, rfl, h2, r2⟩ := trodAll_cons r1
  obtain ⟨rfl, rfl, rfl⟩ := trodAll_nil r2
  obtain rfl : args = #[v0, v1, v2] := by cases args; simp_all
  obtain ⟨rfl, rfl⟩ := trodVars_none hV
  obtain ⟨a0, rfl, rfl, rfl⟩ := open_bool Try.underlying4 (hval 0 4 v0 rfl rfl) h0
  obtain ⟨a1, rfl, rfl, rfl, w1⟩ := open_string Try.underlying9 (hval 1 9 v1 rfl rfl) h1
  obtain ⟨a2, rfl, rfl, rfl, w2⟩ := open_int Try.underlying3 (hval 2 3 v2 rfl rfl) h2
  clear hA0 hval0
  refine (walk a0 a1 a2 W w1 w2).mono fun e W' ⟨he, bel⟩ => ?_
  subst he
  exact ⟨_, rfl, _, _, _, [], _, [], hW', trodAll_mk1 (shut_bool Try.underlying4 _), (trodAll_cons_mk (shut_bool Try.underlying4 _) (trodAll_cons_mk (shut_string Try.underlying9 w1) (trodAll_cons_mk (shut_int Try.underlying3 w2) trodAll_mk0))), rfl, bel.frame _, fun h => by cases h⟩

theorem over : Rows.singleBackRow.holds Try.pinned (OpenSpec.ofChange Rows.singleBackSpec) :=
  OpenClaim.holds_of_wide 7 Try.f7 rfl rfl rfl rfl rfl rfl rfl ⟨rfl, rfl, rfl, rfl, rfl⟩ rfl rfl rfl rfl rfl (by kernel_rfl) Try.func7 (by kernel_rfl)
    (of_decide_eq_true (by kernel_rfl)) (by unfold Func.isWrapper; first | (rw [if_pos (by decide +kernel)]; kernel_rfl) | (rw [if_neg (by decide +kernel)]; exact ⟨rfl, rfl⟩))
    (fun os started H enc _ => lifted os started H enc)
end Go.Proofs.Ythhjfedegbldfab.singleBack

namespace Go.Proofs.Ythhjfedegbldfab
theorem singleBack_holds : Rows.SingleBackSaid := singleBack.over
end Go.Proofs.Ythhjfedegbldfab
