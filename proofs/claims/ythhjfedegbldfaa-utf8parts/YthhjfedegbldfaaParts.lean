/- Proved: for all texts s and t the law Utf8Parts returns true and leaves both as they were. No condition. -/
import Derived.Test.YthhjfedegbldfaaK
import Derived.Test.YthhjfedegbldfaaMathE
import Derived.OpenShut
import Derived.ShutString
import Derived.ChangeOld
import Derived.SizedLaws
namespace Go.Proofs.Ythhjfedegbldfaa.utf8Parts
open Go.ChangeShapes Go.WideShapes Go.ChangeAt Go.RowKit
open Go.ChangeMaps (open_string shut_string)
open Go.Proofs.Ythhjfedegbldfaa
set_option linter.unusedVariables false

theorem own : ownKnob Try.prog.godebug = none := by kernel_rfl

theorem bl_take (s : ByteArray) (k : Nat) : bl (s.extract 0 k) = (bl s).take k := by
  simp [bl, ByteArray.data_extract]
theorem bl_app (s t : ByteArray) : bl (s ++ t) = bl s ++ bl t := by simp [bl]

set_option maxHeartbeats 1000000 in
set_option maxRecDepth 100000 in
theorem walk_in (s t : ByteArray) (w : World) (h : s.size + t.size ≤ 3000) :
    Calls Try.prog 5 #[.string s, .string t] w fun e w' => e = .returned (.bool true) ∧ Below w.heap.size w w' := by
  obtain ⟨n, hn, hn3, hnl, hleft, hcut⟩ := M.cut_at (bl s)
  have HN := hide hn
  have HL := hide hleft
  have HC := hide (hcut (bl t))
  rw [bl_len] at hnl HL HC
  rw [← bl_take, ← bl_extract, ← bl_app, ← bl_app] at HC
  rw [← bl_extract] at HL
  have la := M.dec_len (bl (s.extract 0 (s.size - n)))
  have lb := M.dec_len (bl (s.extract (s.size - n) s.size ++ t))
  rw [bl_len] at la lb
  simp only [ByteArray.size_extract, ByteArray.size_append] at la lb
  clear hn hleft hcut
  go_enter Try.func5, Try.ntmps5
  go_wp2_with fail
  refine (begun_any _).mono ?_
  rintro e w1 ⟨rfl, hb1⟩
  go_wp2_with fail
  refine (split_any s _ (by omega)).mono ?_
  rintro e w2 ⟨rfl, hb2⟩
  rw [unhide HN]
  have HB2 := hide (bstep hb1 hb2)
  clear hb1 hb2
  go_wp2_with fail
  refine (decode_any _ _ (by simp; omega)).mono ?_
  rintro e w3 ⟨v3, rfl, hI3, hb3⟩
  generalize M.dec (bl (s.extract 0 (s.size - n))) = A at *
  obtain ⟨ao3, cap3, hsh3, -⟩ := id hI3
  subst hsh3
  have HI3 := hide hI3
  clear hI3
  go_wp2_with fail
  refine (decode_any _ _ (by simp; omega)).mono ?_
  rintro e w4 ⟨v4, rfl, hI4, hb4⟩
  generalize M.dec (bl (s.extract (s.size - n) s.size ++ t)) = B at *
  obtain ⟨ao4, cap4, hsh4, -⟩ := id hI4
  subst hsh4
  have HI4 := hide hI4
  clear hI4
  go_wp2_with fail
  refine (decode_any _ _ (by simp; omega)).mono ?_
  rintro e w5 ⟨v5, rfl, hI5, hb5⟩
  rw [unhide HC] at hI5
  obtain ⟨ao5, cap5, hsh5, -⟩ := id hI5
  subst hsh5
  have HI5 := hide hI5
  clear hI5 HC
  go_wp2_with fail
  refine (decode_any _ _ (by simp; omega)).mono ?_
  rintro e w6 ⟨v6, rfl, hI6, hb6⟩
  generalize M.dec (bl (s.extract (s.size - n) s.size)) = D at *
  obtain ⟨ao6, cap6, hsh6, -⟩ := id hI6
  subst hsh6
  have HI6 := hide hI6
  clear hI6
  have I3 := hide ((unhide HI3).below (bstep (bstep hb4 hb5) hb6))
  have I4 := hide ((unhide HI4).below (bstep hb5 hb6))
  have I5 := hide ((unhide HI5).below hb6)
  rw [List.length_append] at I5
  have HB6 := hide (bstep (bstep (bstep (bstep (unhide HB2) hb3) hb4) hb5) hb6)
  clear hb3 hb4 hb5 hb6 HI3 HI4 HI5 HB2
  have o6 := World.ownsRow_made (base := w6.heap.size) (e := 3) (size := 1) w6 #[] 0 (Nat.le_refl _) (by simp) rfl
  go_wp2_with (at_builtin; refine append_ints rfl (.tmp 100) (.tmp 101) rfl w6.heap.size _ [] rfl o6 _ A rfl ((unhide I3).below (balloc _ _)) (by simp; omega) (by simp) ?_)
  intro v7 w7 ho7 hb7
  obtain ⟨ao7, cap7, hsh7⟩ := owns_shape ho7
  subst hsh7
  have HB7 : Hid (Below w6.heap.size w6 w7) := (balloc _ _).trans hb7
  have hz7 := (unhide HB7).size
  clear o6 hb7
  go_wp2_with (at_builtin; refine append_ints rfl (.tmp 102) (.tmp 103) rfl w6.heap.size _ A rfl ho7 _ B rfl ((unhide I4).below (unhide HB7)) (by omega) hz7 ?_)
  intro v8 w8 ho8 hb8
  obtain ⟨ao8, cap8, hsh8⟩ := owns_shape ho8
  subst hsh8
  have HB8 : Hid (Below w6.heap.size w6 w8) := (unhide HB7).trans hb8
  have I8 := hide (Ints.of_owns (xs := A ++ B) (by simpa using ho8))
  clear ho7 ho8 hb8 HB7
  go_wp2_with fail
  refine (same_any _ ((unhide I5).below (unhide HB8)) (unhide I8)).mono ?_
  rintro e w9 ⟨rfl, hb9⟩
  rw [show (A ++ B == A ++ B) = true from by simp]
  have HB9 := hide (bstep (unhide HB8) hb9)
  clear hb9 HB8
  by_cases hn0 : n = 0
  · subst hn0
    go_wp2_with fail
    go_ret
    exact ⟨rfl, bstep (unhide HB6) (unhide HB9)⟩
  · have hnz : ((n : Int) == 0) = false := by simp; omega
    have HD := hide (unhide HL hn0)
    have I6 := hide ((unhide HI6).below (bstep (unhide HB9) (balloc _ (.cells #[.int .i64 65533] 3))))
    rw [unhide HD] at I6 ⊢
    clear hn0
    go_wp2_with fail
    refine (same_any _ (unhide I6) (one_int _ _)).mono ?_
    rintro e w10 ⟨rfl, hb10⟩
    rw [show ([65533] == ([65533] : List Int)) = true from by decide +kernel]
    have HBz := hide (bstep (bstep (bstep (unhide HB6) (unhide HB9)) (balloc _ _)) hb10)
    clear hb10
    go_wp2_with fail
    go_ret
    exact ⟨rfl, unhide HBz⟩

set_option maxHeartbeats 1000000 in
set_option maxRecDepth 100000 in
theorem walk_long (s t : ByteArray) (w : World) (hs : s.size ≤ maxLen) (ht : t.size ≤ maxLen) (h : 3000 < s.size) :
    Calls Try.prog 5 #[.string s, .string t] w fun e w' => e = .returned (.bool true) ∧ Below w.heap.size w w' := by
  go_enter Try.func5, Try.ntmps5
  go_wp2_with fail
  refine (begun_any _).mono ?_
  rintro e w1 ⟨rfl, hb1⟩
  go_wp2_with fail
  refine (split_long s _ h hs).mono ?_
  rintro e w2 ⟨rfl, hw⟩
  replace hw := hw.symm
  subst hw
  go_wp2_with fail
  go_ret
  exact ⟨rfl, hb1⟩

set_option maxHeartbeats 1000000 in
set_option maxRecDepth 100000 in
theorem walk_sum (s t : ByteArray) (w : World) (hs : s.size ≤ 3000) (ht : t.size ≤ 140737488351232) (h : 3000 < s.size + t.size) :
    Calls Try.prog 5 #[.string s, .string t] w fun e w' => e = .returned (.bool true) ∧ Below w.heap.size w w' := by
  go_enter Try.func5, Try.ntmps5
  go_wp2_with fail
  refine (begun_any _).mono ?_
  rintro e w1 ⟨rfl, hb1⟩
  go_wp2_with fail
  refine (split_any s _ hs).mono ?_
  rintro e w2 ⟨rfl, hb2⟩
  go_wp2_with fail
  go_ret
  exact ⟨rfl, bstep hb1 hb2⟩

theorem walk (s t : ByteArray) (w : World) (hs : s.size ≤ maxLen) (ht : t.size ≤ 140737488351232) :
    Calls Try.prog 5 #[.string s, .string t] w fun e w' => e = .returned (.bool true) ∧ Below w.heap.size w w' := by
  by_cases h : 3000 < s.size
  · exact walk_long s t w hs (by unfold maxLen; omega) h
  · by_cases h' : 3000 < s.size + t.size
    · exact walk_sum s t w (by omega) ht h'
    · exact walk_in s t w (by omega)

set_option maxRecDepth 100000 in
theorem lifted (os : Os) (started : os.Started) (H : Type) (enc : TypeId × Value → H) :
    ReturnsInHanded {} Try.checked os 5 .any (Rows.utf8PartsSpec.pre6 enc Try.prog Try.f5 Rows.utf8PartsRow.domain false) (Rows.utf8PartsSpec.post enc Try.prog Try.f5 false true false false) := by
  refine returnsInHanded_of_change_sized (C := Try.checked) own started (by kernel_rfl) Try.func5
    (ChangeSpec.witness6 (enc := enc) (C := Try.checked) false ⟨#[], #[.string ByteArray.empty, .string ByteArray.empty], []⟩ 8 (by kernel_rfl) (by kernel_rfl) (by kernel_rfl) (by kernel_rfl)) ?_
  intro W base args ds gs before hval0 hW hcnd hsz0 _
  have hval : ∀ (j : Nat) t v, Try.f5.params[j]? = some t → args[j]? = some v → Value.okWide Try.prog W .any base t v := hval0
  have hW' := hW
  obtain ⟨p, q, hA0, hV, rfl, hfz, hnd⟩ := hW
  have hA : DataW.TrodAll enc Try.prog W 0 (fun _ => true) true Try.f5.params.toList args.toList ds p := hA0
  rw [Try.params5] at hA hval
  obtain ⟨v0, vs0, d0, ds0, p0, q0, hargs, rfl, rfl, h0, r0⟩ := trodAll_cons hA
  obtain ⟨v1, vs1, d1, ds1, p1, q1, rfl, rfl, rfl, h1, r1⟩ := trodAll_cons r0
  obtain ⟨rfl, rfl, rfl⟩ := trodAll_nil r1
  obtain rfl : args = #[v0, v1] := by cases args; simp_all
  obtain ⟨rfl, rfl⟩ := trodVars_none hV
  obtain ⟨a0, rfl, rfl, rfl, w0⟩ := open_string Try.underlying9 (hval 0 9 v0 rfl rfl) h0
  obtain ⟨a1, rfl, rfl, rfl, w1⟩ := open_string Try.underlying9 (hval 1 9 v1 rfl rfl) h1
  have hsz : (DataW.weightsEach Try.prog (Try.f5.params.toList ++ Rows.utf8PartsSpec.plain.varTypes Try.prog) ([.lit (.string a0.data.toList), .lit (.string a1.data.toList)] ++ [])).all (fun x => decide (x ≤ reachBytes)) = true := hsz0
  rw [Try.params5] at hsz
  have sz1 : a1.size ≤ 140737488351232 := by
    have := sized_string hsz (j := 1) (t := 9) rfl rfl
    simp only [reachBytes] at this
    simpa using this
  clear hA0 hval0
  refine (walk a0 a1 W w0 sz1).mono fun e W' ⟨he, bel⟩ => ?_
  subst he
  exact ⟨_, rfl, _, _, _, [], _, [], hW', trodAll_mk1 (shut_bool Try.underlying4 _), (trodAll_cons_mk (shut_string Try.underlying9 w0) (trodAll_cons_mk (shut_string Try.underlying9 w1) trodAll_mk0)), rfl, bel.frame _, fun h => by cases h⟩

theorem over : Rows.utf8PartsRow.holds Try.pinned (OpenSpec.ofChange Rows.utf8PartsSpec) :=
  OpenClaim.holds_of_wide 5 Try.f5 rfl rfl rfl rfl rfl rfl rfl ⟨rfl, rfl, rfl, rfl, rfl⟩ rfl rfl rfl rfl rfl (by kernel_rfl) Try.func5 (by kernel_rfl)
    (of_decide_eq_true (by kernel_rfl)) (by unfold Func.isWrapper; first | (rw [if_pos (by decide +kernel)]; kernel_rfl) | (rw [if_neg (by decide +kernel)]; exact ⟨rfl, rfl⟩))
    (fun os started H enc _ => lifted os started H enc)
end Go.Proofs.Ythhjfedegbldfaa.utf8Parts

namespace Go.Proofs.Ythhjfedegbldfaa
theorem utf8Parts_holds : Rows.Utf8PartsSaid := utf8Parts.over
end Go.Proofs.Ythhjfedegbldfaa
