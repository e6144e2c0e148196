/- Proved: for every text s and every list of integers l the law KanaTells returns true and leaves both as they were. No condition. -/
import Derived.Test.YthhjfedegbldfacRN
import Derived.Test.YthhjfedegbldfacRL
import Derived.OpenShut
import Derived.ShutString
import Derived.ChangeOld
namespace Go.Proofs.Ythhjfedegbldfac.kanaTells
open Go.ChangeShapes Go.WideShapes Go.ChangeAt Go.RowKit
open Go.ChangeMaps (open_string shut_string)
open Go.Proofs.Ythhjfedegbldfac
set_option linter.unusedVariables false

theorem own : ownKnob Try.prog.godebug = none := by kernel_rfl
theorem laidOut : laidOutB Try.prog = true := by kernel_rfl

theorem row_wf {k : IntKind} {w : World} {a : Option Addr} {len cap : Nat} {zs : List Int} (h : IsRow k w a len cap zs) : ∀ n ∈ zs.take len, (Lit.int k n).wf = true := by
  intro n hn
  rcases h with ⟨_, _, _, rfl⟩ | ⟨x, _, _, _, _, _, h⟩
  · simp at hn
  · exact h n (List.mem_of_mem_take hn)
theorem gi_of {n : Int} (h : (Lit.int .i64 n).wf = true) : Gi n := by
  simp only [Lit.wf, IntKind.min, IntKind.max, IntKind.signed, IntKind.bits, Bool.and_eq_true, decide_eq_true_eq, if_true] at h
  unfold Gi; omega

set_option maxHeartbeats 2000000 in
set_option maxRecDepth 100000 in
theorem long_many (s : ByteArray) (v : Value) (ys : List Int) (w : World) (hx : Ints w v ys) (hs : 3000 < s.size) (hsm : s.size ≤ maxLen) (hl : 3000 < ys.length) :
    Calls Try.prog 3 #[.string s, v] w fun e w' => e = .returned (.bool true) ∧ Below w.heap.size w w' := by
  have HX := hide hx
  obtain ⟨ao, cap, rfl, hm, -, -⟩ := hx
  go_enter Try.func3, Try.ntmps3
  go_wp2_with fail
  refine (kdecode_long s _ hs hsm).mono ?_
  rintro e w1 ⟨rfl, hw⟩
  replace hw := hw.symm
  subst hw
  have HX1 := HX
  have HB1 : Hid (Below w.heap.size w w) := hide (Below.refl _ _)
  go_wp2_with fail
  refine (kencode_long ao _ cap _ hl hm).mono ?_
  rintro e w2 ⟨rfl, hw⟩
  replace hw := hw.symm
  subst hw
  have HX2 := HX1
  have HB2 := HB1
  go_wp2_with fail
  refine (tooLong_yes s _ hs hsm).mono ?_
  rintro e w3 ⟨rfl, hw⟩
  replace hw := hw.symm
  subst hw
  have HX3 := HX2
  have HB3 := HB2
  have HB4 := HB3
  go_wp2_with fail
  refine (begunK_any _).mono ?_
  rintro e w5 ⟨rfl, hb5⟩
  have HB5 := hide (bstep (unhide HB4) hb5)
  clear hb5
  go_wp2_with fail
  refine (intsAre_err none 0 0 2 (by decide) _).mono ?_
  rintro e w6 ⟨rfl, hb6⟩
  have HB6 := hide (bstep (unhide HB5) hb6)
  clear hb6
  go_wp2_with fail
  go_ret
  exact ⟨rfl, unhide HB6⟩

set_option maxHeartbeats 2000000 in
set_option maxRecDepth 100000 in
theorem long_no (s : ByteArray) (v : Value) (ys : List Int) (w : World) (hx : Ints w v ys) (hs : 3000 < s.size) (hsm : s.size ≤ maxLen) (hl : ys.length ≤ 3000) (hg : ∀ n ∈ ys, Gi n) (hq : ys.all M.anyK = false) :
    Calls Try.prog 3 #[.string s, v] w fun e w' => e = .returned (.bool true) ∧ Below w.heap.size w w' := by
  have HQ := hide (encodedK_no hq)
  have HR := hide (wrote_no hq)
  clear hq
  have HX := hide hx
  obtain ⟨ao, cap, rfl, hm, -, -⟩ := hx
  go_enter Try.func3, Try.ntmps3
  go_wp2_with fail
  refine (kdecode_long s _ hs hsm).mono ?_
  rintro e w1 ⟨rfl, hw⟩
  replace hw := hw.symm
  subst hw
  have HX1 := HX
  have HB1 : Hid (Below w.heap.size w w) := hide (Below.refl _ _)
  go_wp2_with fail
  refine (kencode_any _ ys _ (unhide HX1) hl hg).mono ?_
  rintro e w2 ⟨rfl, hb2⟩
  rw [unhide HQ]
  have HX2 := hide ((unhide HX1).below hb2)
  have HB2 := hide (bstep (unhide HB1) hb2)
  clear hb2
  go_wp2_with fail
  refine (tooLong_yes s _ hs hsm).mono ?_
  rintro e w3 ⟨rfl, hw⟩
  replace hw := hw.symm
  subst hw
  have HX3 := HX2
  have HB3 := HB2
  go_wp2_with fail
  refine (encodeKana_any _ ys _ (unhide HX3) hl).mono ?_
  rintro e w4 ⟨rfl, hb4⟩
  rw [unhide HR]
  have HB4 := hide (bstep (unhide HB3) hb4)
  clear hb4
  go_wp2_with fail
  refine (begunK_any _).mono ?_
  rintro e w5 ⟨rfl, hb5⟩
  have HB5 := hide (bstep (unhide HB4) hb5)
  clear hb5
  go_wp2_with fail
  refine (intsAre_err none 0 0 2 (by decide) _).mono ?_
  rintro e w6 ⟨rfl, hb6⟩
  have HB6 := hide (bstep (unhide HB5) hb6)
  clear hb6
  go_wp2_with fail
  go_ret
  exact ⟨rfl, unhide HB6⟩

set_option maxHeartbeats 2000000 in
set_option maxRecDepth 100000 in
theorem long_yes (s : ByteArray) (v : Value) (ys : List Int) (w : World) (hx : Ints w v ys) (hs : 3000 < s.size) (hsm : s.size ≤ maxLen) (hl : ys.length ≤ 3000) (hg : ∀ n ∈ ys, Gi n) (hq : ys.all M.anyK = true) :
    Calls Try.prog 3 #[.string s, v] w fun e w' => e = .returned (.bool true) ∧ Below w.heap.size w w' := by
  have HQ := hide (encodedK_yes hq)
  have HR := hide (wrote_yes hq)
  generalize strOfNums (M.kenc ys) = t at HQ HR
  clear hq
  have HX := hide hx
  obtain ⟨ao, cap, rfl, hm, -, -⟩ := hx
  go_enter Try.func3, Try.ntmps3
  go_wp2_with fail
  refine (kdecode_long s _ hs hsm).mono ?_
  rintro e w1 ⟨rfl, hw⟩
  replace hw := hw.symm
  subst hw
  have HX1 := HX
  have HB1 : Hid (Below w.heap.size w w) := hide (Below.refl _ _)
  go_wp2_with fail
  refine (kencode_any _ ys _ (unhide HX1) hl hg).mono ?_
  rintro e w2 ⟨rfl, hb2⟩
  rw [unhide HQ]
  have HX2 := hide ((unhide HX1).below hb2)
  have HB2 := hide (bstep (unhide HB1) hb2)
  clear hb2
  go_wp2_with fail
  refine (tooLong_yes s _ hs hsm).mono ?_
  rintro e w3 ⟨rfl, hw⟩
  replace hw := hw.symm
  subst hw
  have HX3 := HX2
  have HB3 := HB2
  go_wp2_with fail
  refine (encodeKana_any _ ys _ (unhide HX3) hl).mono ?_
  rintro e w4 ⟨rfl, hb4⟩
  rw [unhide HR]
  have HB4 := hide (bstep (unhide HB3) hb4)
  clear hb4
  go_wp2_with fail
  refine (begunK_any _).mono ?_
  rintro e w5 ⟨rfl, hb5⟩
  have HB5 := hide (bstep (unhide HB4) hb5)
  clear hb5
  go_wp2_with fail
  refine (intsAre_err none 0 0 2 (by decide) _).mono ?_
  rintro e w6 ⟨rfl, hb6⟩
  have HB6 := hide (bstep (unhide HB5) hb6)
  clear hb6
  go_wp2_with fail
  go_ret
  exact ⟨rfl, unhide HB6⟩

set_option maxHeartbeats 2000000 in
set_option maxRecDepth 100000 in
theorem short_many (s : ByteArray) (v : Value) (ys : List Int) (w : World) (hx : Ints w v ys) (hs : s.size ≤ 3000) (hl : 3000 < ys.length) :
    Calls Try.prog 3 #[.string s, v] w fun e w' => e = .returned (.bool true) ∧ Below w.heap.size w w' := by
  have HX := hide hx
  obtain ⟨ao, cap, rfl, hm, -, -⟩ := hx
  have HDO := fun w => decodeOf_kana s w hs
  have HDA := fun w => kdecode_any s w hs
  generalize M.kdec (bl s) = A at HDO HDA
  go_enter Try.func3, Try.ntmps3
  go_wp2_with fail
  refine (HDA _).mono ?_
  rintro e w1 ⟨v1, rfl, hI1, hb1⟩
  obtain ⟨a1, c1, hs1, -⟩ := id hI1
  subst hs1
  have HI1 := hide hI1
  have HX1 := hide ((unhide HX).below hb1)
  have HB1 := hide hb1
  clear hI1 hb1
  go_wp2_with fail
  refine (kencode_long ao _ cap _ hl hm).mono ?_
  rintro e w2 ⟨rfl, hw⟩
  replace hw := hw.symm
  subst hw
  have HX2 := HX1
  have HB2 := HB1
  have HI2 := HI1
  go_wp2_with fail
  refine (tooLong_no s _ hs).mono ?_
  rintro e w3 ⟨rfl, hw⟩
  replace hw := hw.symm
  subst hw
  go_wp2_with fail
  refine (HDO _).mono ?_
  rintro e w3' ⟨v3, rfl, hI3, hb3⟩
  obtain ⟨a3, c3, hs3, -⟩ := id hI3
  subst hs3
  have HP3 := hide hI3
  have HX3 := hide ((unhide HX2).below hb3)
  have HI3 := hide ((unhide HI2).below hb3)
  have HB3 := hide (bstep (unhide HB2) hb3)
  clear hI3 hb3
  have HB4 := HB3
  have HP4 := HP3
  have HI4 := HI3
  go_wp2_with fail
  refine (begunK_any _).mono ?_
  rintro e w5 ⟨rfl, hb5⟩
  have HB5 := hide (bstep (unhide HB4) hb5)
  have HP5 := hide ((unhide HP4).below hb5)
  have HI5 := hide ((unhide HI4).below hb5)
  clear hb5
  go_wp2_with fail
  refine (intsAre_ok _ (unhide HI5) (unhide HP5)).mono ?_
  rintro e w6 ⟨rfl, hb6⟩
  have HB6 := hide (bstep (unhide HB5) hb6)
  clear hb6
  go_wp2_with fail
  go_ret
  exact ⟨rfl, unhide HB6⟩

set_option maxHeartbeats 2000000 in
set_option maxRecDepth 100000 in
theorem short_no (s : ByteArray) (v : Value) (ys : List Int) (w : World) (hx : Ints w v ys) (hs : s.size ≤ 3000) (hl : ys.length ≤ 3000) (hg : ∀ n ∈ ys, Gi n) (hq : ys.all M.anyK = false) :
    Calls Try.prog 3 #[.string s, v] w fun e w' => e = .returned (.bool true) ∧ Below w.heap.size w w' := by
  have HQ := hide (encodedK_no hq)
  have HR := hide (wrote_no hq)
  clear hq
  have HX := hide hx
  obtain ⟨ao, cap, rfl, hm, -, -⟩ := hx
  have HDO := fun w => decodeOf_kana s w hs
  have HDA := fun w => kdecode_any s w hs
  generalize M.kdec (bl s) = A at HDO HDA
  go_enter Try.func3, Try.ntmps3
  go_wp2_with fail
  refine (HDA _).mono ?_
  rintro e w1 ⟨v1, rfl, hI1, hb1⟩
  obtain ⟨a1, c1, hs1, -⟩ := id hI1
  subst hs1
  have HI1 := hide hI1
  have HX1 := hide ((unhide HX).below hb1)
  have HB1 := hide hb1
  clear hI1 hb1
  go_wp2_with fail
  refine (kencode_any _ ys _ (unhide HX1) hl hg).mono ?_
  rintro e w2 ⟨rfl, hb2⟩
  rw [unhide HQ]
  have HX2 := hide ((unhide HX1).below hb2)
  have HB2 := hide (bstep (unhide HB1) hb2)
  have HI2 := hide ((unhide HI1).below hb2)
  clear hb2
  go_wp2_with fail
  refine (tooLong_no s _ hs).mono ?_
  rintro e w3 ⟨rfl, hw⟩
  replace hw := hw.symm
  subst hw
  go_wp2_with fail
  refine (HDO _).mono ?_
  rintro e w3' ⟨v3, rfl, hI3, hb3⟩
  obtain ⟨a3, c3, hs3, -⟩ := id hI3
  subst hs3
  have HP3 := hide hI3
  have HX3 := hide ((unhide HX2).below hb3)
  have HI3 := hide ((unhide HI2).below hb3)
  have HB3 := hide (bstep (unhide HB2) hb3)
  clear hI3 hb3
  go_wp2_with fail
  refine (encodeKana_any _ ys _ (unhide HX3) hl).mono ?_
  rintro e w4 ⟨rfl, hb4⟩
  rw [unhide HR]
  have HB4 := hide (bstep (unhide HB3) hb4)
  have HP4 := hide ((unhide HP3).below hb4)
  have HI4 := hide ((unhide HI3).below hb4)
  clear hb4
  go_wp2_with fail
  refine (begunK_any _).mono ?_
  rintro e w5 ⟨rfl, hb5⟩
  have HB5 := hide (bstep (unhide HB4) hb5)
  have HP5 := hide ((unhide HP4).below hb5)
  have HI5 := hide ((unhide HI4).below hb5)
  clear hb5
  go_wp2_with fail
  refine (intsAre_ok _ (unhide HI5) (unhide HP5)).mono ?_
  rintro e w6 ⟨rfl, hb6⟩
  have HB6 := hide (bstep (unhide HB5) hb6)
  clear hb6
  go_wp2_with fail
  go_ret
  exact ⟨rfl, unhide HB6⟩

set_option maxHeartbeats 2000000 in
set_option maxRecDepth 100000 in
theorem short_yes (s : ByteArray) (v : Value) (ys : List Int) (w : World) (hx : Ints w v ys) (hs : s.size ≤ 3000) (hl : ys.length ≤ 3000) (hg : ∀ n ∈ ys, Gi n) (hq : ys.all M.anyK = true) :
    Calls Try.prog 3 #[.string s, v] w fun e w' => e = .returned (.bool true) ∧ Below w.heap.size w w' := by
  have HQ := hide (encodedK_yes hq)
  have HR := hide (wrote_yes hq)
  generalize strOfNums (M.kenc ys) = t at HQ HR
  clear hq
  have HX := hide hx
  obtain ⟨ao, cap, rfl, hm, -, -⟩ := hx
  have HDO := fun w => decodeOf_kana s w hs
  have HDA := fun w => kdecode_any s w hs
  generalize M.kdec (bl s) = A at HDO HDA
  go_enter Try.func3, Try.ntmps3
  go_wp2_with fail
  refine (HDA _).mono ?_
  rintro e w1 ⟨v1, rfl, hI1, hb1⟩
  obtain ⟨a1, c1, hs1, -⟩ := id hI1
  subst hs1
  have HI1 := hide hI1
  have HX1 := hide ((unhide HX).below hb1)
  have HB1 := hide hb1
  clear hI1 hb1
  go_wp2_with fail
  refine (kencode_any _ ys _ (unhide HX1) hl hg).mono ?_
  rintro e w2 ⟨rfl, hb2⟩
  rw [unhide HQ]
  have HX2 := hide ((unhide HX1).below hb2)
  have HB2 := hide (bstep (unhide HB1) hb2)
  have HI2 := hide ((unhide HI1).below hb2)
  clear hb2
  go_wp2_with fail
  refine (tooLong_no s _ hs).mono ?_
  rintro e w3 ⟨rfl, hw⟩
  replace hw := hw.symm
  subst hw
  go_wp2_with fail
  refine (HDO _).mono ?_
  rintro e w3' ⟨v3, rfl, hI3, hb3⟩
  obtain ⟨a3, c3, hs3, -⟩ := id hI3
  subst hs3
  have HP3 := hide hI3
  have HX3 := hide ((unhide HX2).below hb3)
  have HI3 := hide ((unhide HI2).below hb3)
  have HB3 := hide (bstep (unhide HB2) hb3)
  clear hI3 hb3
  go_wp2_with fail
  refine (encodeKana_any _ ys _ (unhide HX3) hl).mono ?_
  rintro e w4 ⟨rfl, hb4⟩
  rw [unhide HR]
  have HB4 := hide (bstep (unhide HB3) hb4)
  have HP4 := hide ((unhide HP3).below hb4)
  have HI4 := hide ((unhide HI3).below hb4)
  clear hb4
  go_wp2_with fail
  refine (begunK_any _).mono ?_
  rintro e w5 ⟨rfl, hb5⟩
  have HB5 := hide (bstep (unhide HB4) hb5)
  have HP5 := hide ((unhide HP4).below hb5)
  have HI5 := hide ((unhide HI4).below hb5)
  clear hb5
  go_wp2_with fail
  refine (intsAre_ok _ (unhide HI5) (unhide HP5)).mono ?_
  rintro e w6 ⟨rfl, hb6⟩
  have HB6 := hide (bstep (unhide HB5) hb6)
  clear hb6
  go_wp2_with fail
  go_ret
  exact ⟨rfl, unhide HB6⟩

theorem walk (s : ByteArray) (v : Value) (ys : List Int) (w : World) (hsm : s.size ≤ maxLen) (hx : Ints w v ys) (hwf : ∀ n ∈ ys, (Lit.int .i64 n).wf = true) :
    Calls Try.prog 3 #[.string s, v] w fun e w' => e = .returned (.bool true) ∧ Below w.heap.size w w' := by
  have hg : ∀ n ∈ ys, Gi n := fun n hn => gi_of (hwf n hn)
  by_cases hs : 3000 < s.size
  · by_cases hl : 3000 < ys.length
    · exact long_many s v ys w hx hs hsm hl
    · by_cases hq : ys.all M.anyK = true
      · exact long_yes s v ys w hx hs hsm (by omega) hg hq
      · exact long_no s v ys w hx hs hsm (by omega) hg (Bool.eq_false_iff.2 hq)
  · by_cases hl : 3000 < ys.length
    · exact short_many s v ys w hx (by omega) hl
    · by_cases hq : ys.all M.anyK = true
      · exact short_yes s v ys w hx (by omega) (by omega) hg hq
      · exact short_no s v ys w hx (by omega) (by omega) hg (Bool.eq_false_iff.2 hq)

set_option maxRecDepth 100000 in
theorem lifted (os : Os) (started : os.Started) (H : Type) (enc : TypeId × Value → H) :
    ReturnsInHanded {} Try.checked os 3 .any (Rows.kanaTellsSpec.pre6 enc Try.prog Try.f3 Rows.kanaTellsRow.domain false) (Rows.kanaTellsSpec.post enc Try.prog Try.f3 false true false false) := by
  refine returnsInHanded_of_change (C := Try.checked) own started (by kernel_rfl) Try.func3
    (ChangeSpec.witness6 (enc := enc) (C := Try.checked) false ⟨#[], #[.string ByteArray.empty, .slice none 0 0], []⟩ 8 (by kernel_rfl) (by kernel_rfl) (by kernel_rfl) (by kernel_rfl)) ?_
  intro W base args ds gs before hval0 hW hcnd _
  have hval : ∀ (j : Nat) t v, Try.f3.params[j]? = some t → args[j]? = some v → Value.okWide Try.prog W .any base t v := hval0
  have hW' := hW
  obtain ⟨p, q, hA0, hV, rfl, hfz, hnd⟩ := hW
  have hA : DataW.TrodAll enc Try.prog W 0 (fun _ => true) true Try.f3.params.toList args.toList ds p := hA0
  rw [Try.params3] at hA hval
  obtain ⟨v0, vs0, d0, ds0, p0, q0, hargs, rfl, rfl, h0, r0⟩ := trodAll_cons hA
  obtain ⟨v1, vs1, d1, ds1, p1, q1, rfl, rfl, rfl, h1, r1⟩ := trodAll_cons r0
  obtain ⟨rfl, rfl, rfl⟩ := trodAll_nil r1
  obtain rfl : args = #[v0, v1] := by cases args; simp_all
  obtain ⟨rfl, rfl⟩ := trodVars_none hV
  obtain ⟨a0, rfl, rfl, rfl, w0⟩ := open_string Try.underlying9 (hval 0 9 v0 rfl rfl) h0
  obtain ⟨a1, len1, cap1, rfl⟩ := okWide_slice Try.underlying22 (hval 1 22 v1 rfl rfl)
  have k1 := h1
  have lt1 : ∀ x ∈ p1, x.block < W.heap.size := by obtain ⟨m, hm⟩ := k1; exact DataW.trod_lt m _ _ _ hm
  obtain ⟨z1, w1⟩ : ∃ zs, IsRow .i64 W a1 len1 cap1 zs := by
    obtain ⟨fuel, hf⟩ := h1
    rcases open_ints Try.underlying22 Try.underlying3 (by kernel_rfl) hf with ⟨hcs, _⟩ | ⟨x, l, c, zs, hcs, _, hl, hm, hz, _, hcell, hwz⟩
    · simp [Value.cells] at hcs
      obtain ⟨rfl, rfl, rfl⟩ := hcs
      exact ⟨[], .inl ⟨rfl, rfl, rfl, rfl⟩⟩
    · simp [Value.cells] at hcs
      obtain ⟨rfl, rfl, rfl⟩ := hcs
      exact ⟨zs, .inr ⟨_, rfl, hl, hm, by simpa using hz, hcell, hwz⟩⟩
  clear hA0 hval0
  refine (walk a0 (.slice a1 len1 cap1) (z1.take len1) W w0 (Ints.of_row w1) (row_wf w1)).mono fun e W' ⟨he, bel⟩ => ?_
  subst he
  exact ⟨_, rfl, _, _, _, [], _, [], hW', trodAll_mk1 (shut_bool Try.underlying4 _), (trodAll_cons_mk (shut_string Try.underlying9 w0) (trodAll_cons_mk (Below.trod laidOut (by kernel_rfl) (of_decide_eq_true (by kernel_rfl)) k1 bel lt1) trodAll_mk0)), rfl, bel.frame _, fun h => by cases h⟩

theorem over : Rows.kanaTellsRow.holds Try.pinned (OpenSpec.ofChange Rows.kanaTellsSpec) :=
  OpenClaim.holds_of_wide 3 Try.f3 rfl rfl rfl rfl rfl rfl rfl ⟨rfl, rfl, rfl, rfl, rfl⟩ rfl rfl rfl rfl rfl (by kernel_rfl) Try.func3 (by kernel_rfl)
    (of_decide_eq_true (by kernel_rfl)) (by unfold Func.isWrapper; first | (rw [if_pos (by decide +kernel)]; kernel_rfl) | (rw [if_neg (by decide +kernel)]; exact ⟨rfl, rfl⟩))
    (fun os started H enc _ => lifted os started H enc)
end Go.Proofs.Ythhjfedegbldfac.kanaTells

namespace Go.Proofs.Ythhjfedegbldfac
theorem kanaTells_holds : Rows.KanaTellsSaid := kanaTells.over
end Go.Proofs.Ythhjfedegbldfac
