/- Proved: for all integers encoding and point the law EncoderOut returns true and leaves both as they were. Its conditions are those of the given card: the tables of math/bits and of internal/strconv lie as their texts lay them. -/
import Derived.Test.YthhjfedegbldfadDoorCards
import Derived.Test.YthhjfedegbldfadDoorTie
import Derived.Test.YthhjfedegbldfadDoorEG
import Derived.Test.YthhjfedegbldfadDoorET
import Derived.OpenShut
import Derived.ShutString
import Derived.ChangeOld
import Derived.Lay
import Derived.LaidOnce
import Derived.MakeChecks
import Derived.SevenTiedAt
namespace Go.Proofs.YthhjfedegbldfadDoor.encoderOut
open Go.ChangeShapes Go.WideShapes Go.ChangeAt Go.RowKit
open Go.ChangeMaps (open_string shut_string)
open Go.Proofs.YthhjfedegbldfadDoor
set_option linter.unusedVariables false

theorem own : ownKnob Tryd.prog.godebug = none := by kernel_rfl


set_option maxHeartbeats 800000 in
set_option maxRecDepth 100000 in
theorem walkNo (n p : Int) (w : World) (hT : Tb w) (hn : ¬ (1 ≤ n ∧ n ≤ 7)) : Calls Tryd.prog 6 #[.int .i64 n, .int .i64 p] w fun e w' => e = .returned (.bool true) ∧ Below w.heap.size w w' := by
  have O1 := hide (fun w => Output_no n w hn)
  have G := hide (fun (w' : World) (hb : Below w.heap.size w w') => encoderBegun_any w' (hT.below hb))
  clear hT hn
  go_enter Tryd.func6, Tryd.ntmps6
  go_wp2_with fail
  refine (unhide O1 _).mono ?_
  rintro e w1 ⟨rfl, hb⟩
  have HB1 := hide (hb)
  clear hb
  go_wp2_with fail
  refine (unhide G _ (unhide HB1)).mono ?_
  rintro e w2 ⟨rfl, hb⟩
  have HB2 := hide (bstep (unhide HB1) hb)
  clear hb
  go_wp2_with fail
  go_ret
  exact ⟨rfl, unhide HB2⟩

set_option maxHeartbeats 1600000 in
set_option maxRecDepth 100000 in
theorem walkRange (n p : Int) (w : World) (hT : Tb w) (hn : 1 ≤ n ∧ n ≤ 7) (hp : M.sclr p = false) : Calls Tryd.prog 6 #[.int .i64 n, .int .i64 p] w fun e w' => e = .returned (.bool true) ∧ Below w.heap.size w w' := by
  have O1 := hide (fun w => Output_yes n w hn)
  have hon : 1 ≤ M.outE n ∧ M.outE n ≤ 7 := by have := M.outE_bd hn; omega
  have O2 := hide (fun w => Output_yes (M.outE n) w hon)
  rw [M.outE_out] at O2
  have G := hide (fun (w' : World) (hb : Below w.heap.size w w') => encoderBegun_any w' (hT.below hb))
  have H1 := hide (fun w => Has_range n p w hn hp)
  have H2 := hide (fun w => Has_range (M.outE n) p w hon hp)
  generalize M.outE n = o at *
  clear hT hn hon
  go_enter Tryd.func6, Tryd.ntmps6
  go_wp2_with fail
  refine (unhide O1 _).mono ?_
  rintro e w1 ⟨rfl, hb⟩
  have HB1 := hide (hb)
  clear hb
  go_wp2_with fail
  refine (unhide G _ (unhide HB1)).mono ?_
  rintro e w2 ⟨rfl, hb⟩
  have HB2 := hide (bstep (unhide HB1) hb)
  clear hb
  go_wp2_with fail
  refine (unhide O2 _).mono ?_
  rintro e w3 ⟨rfl, hb⟩
  have HB3 := hide (bstep (unhide HB2) hb)
  clear hb
  go_wp2_with fail
  refine (unhide H1 _).mono ?_
  rintro e w4 ⟨rfl, hb⟩
  have HB4 := hide (bstep (unhide HB3) hb)
  clear hb
  go_wp2_with fail
  refine (unhide H2 _).mono ?_
  rintro e w5 ⟨rfl, hb⟩
  have HB5 := hide (bstep (unhide HB4) hb)
  clear hb
  go_wp2_with fail
  go_ret
  exact ⟨rfl, unhide HB5⟩

set_option maxHeartbeats 1600000 in
set_option maxRecDepth 100000 in
theorem walkA (n p : Int) (w : World) (hT : Tb w) (hn : 1 ≤ n ∧ n ≤ 7) (hp : M.sclr p = true) (ho : M.outE n = 1) : Calls Tryd.prog 6 #[.int .i64 n, .int .i64 p] w fun e w' => e = .returned (.bool true) ∧ Below w.heap.size w w' := by
  have O1 := hide (fun w => Output_yes n w hn)
  have hon : 1 ≤ M.outE n ∧ M.outE n ≤ 7 := by have := M.outE_bd hn; omega
  have O2 := hide (fun w => Output_yes (M.outE n) w hon)
  rw [M.outE_out] at O2
  have G := hide (fun (w' : World) (hb : Below w.heap.size w w') => encoderBegun_any w' (hT.below hb))
  have H1 := hide (fun w => Has_yes n p w hn hp)
  have H2 := hide (fun w => Has_yes (M.outE n) p w hon hp)
  rw [M.hasE_out] at H2
  rw [M.hasE_one ho] at H1 H2
  rw [ho] at *
  clear ho hp
  clear hT hn hon
  go_enter Tryd.func6, Tryd.ntmps6
  go_wp2_with fail
  refine (unhide O1 _).mono ?_
  rintro e w1 ⟨rfl, hb⟩
  have HB1 := hide (hb)
  clear hb
  go_wp2_with fail
  refine (unhide G _ (unhide HB1)).mono ?_
  rintro e w2 ⟨rfl, hb⟩
  have HB2 := hide (bstep (unhide HB1) hb)
  clear hb
  go_wp2_with fail
  refine (unhide O2 _).mono ?_
  rintro e w3 ⟨rfl, hb⟩
  have HB3 := hide (bstep (unhide HB2) hb)
  clear hb
  go_wp2_with fail
  refine (unhide H1 _).mono ?_
  rintro e w4 ⟨rfl, hb⟩
  have HB4 := hide (bstep (unhide HB3) hb)
  clear hb
  go_wp2_with fail
  refine (unhide H2 _).mono ?_
  rintro e w5 ⟨rfl, hb⟩
  have HB5 := hide (bstep (unhide HB4) hb)
  clear hb
  go_wp2_with fail
  go_ret
  exact ⟨rfl, unhide HB5⟩

set_option maxHeartbeats 1600000 in
set_option maxRecDepth 100000 in
theorem walkB (n p : Int) (w : World) (hT : Tb w) (hn : 1 ≤ n ∧ n ≤ 7) (hp : M.sclr p = true) (ho : M.outE n ≠ 1) (hl : p < 97) : Calls Tryd.prog 6 #[.int .i64 n, .int .i64 p] w fun e w' => e = .returned (.bool true) ∧ Below w.heap.size w w' := by
  have O1 := hide (fun w => Output_yes n w hn)
  have hon : 1 ≤ M.outE n ∧ M.outE n ≤ 7 := by have := M.outE_bd hn; omega
  have O2 := hide (fun w => Output_yes (M.outE n) w hon)
  rw [M.outE_out] at O2
  have G := hide (fun (w' : World) (hb : Below w.heap.size w w') => encoderBegun_any w' (hT.below hb))
  have H1 := hide (fun w => Has_yes n p w hn hp)
  have H2 := hide (fun w => Has_yes (M.outE n) p w hon hp)
  rw [M.hasE_out] at H2
  have ho' : (M.outE n != 1) = true := by simpa using ho
  clear ho
  generalize M.outE n = o at *
  generalize M.hasE n p = b at *
  clear hp
  cases b
  all_goals
    clear hT hn hon
    go_enter Tryd.func6, Tryd.ntmps6
    go_wp2_with fail
    refine (unhide O1 _).mono ?_
    rintro e w1 ⟨rfl, hb⟩
    have HB1 := hide (hb)
    clear hb
    go_wp2_with fail
    refine (unhide G _ (unhide HB1)).mono ?_
    rintro e w2 ⟨rfl, hb⟩
    have HB2 := hide (bstep (unhide HB1) hb)
    clear hb
    go_wp2_with fail
    refine (unhide O2 _).mono ?_
    rintro e w3 ⟨rfl, hb⟩
    have HB3 := hide (bstep (unhide HB2) hb)
    clear hb
    go_wp2_with fail
    refine (unhide H1 _).mono ?_
    rintro e w4 ⟨rfl, hb⟩
    have HB4 := hide (bstep (unhide HB3) hb)
    clear hb
    go_wp2_with fail
    refine (unhide H2 _).mono ?_
    rintro e w5 ⟨rfl, hb⟩
    have HB5 := hide (bstep (unhide HB4) hb)
    clear hb
    go_wp2_with fail
    go_ret
    exact ⟨rfl, unhide HB5⟩

set_option maxHeartbeats 1600000 in
set_option maxRecDepth 100000 in
theorem walkC (n p : Int) (w : World) (hT : Tb w) (hn : 1 ≤ n ∧ n ≤ 7) (hp : M.sclr p = true) (ho : M.outE n ≠ 1) (hl : 122 < p) : Calls Tryd.prog 6 #[.int .i64 n, .int .i64 p] w fun e w' => e = .returned (.bool true) ∧ Below w.heap.size w w' := by
  have O1 := hide (fun w => Output_yes n w hn)
  have hon : 1 ≤ M.outE n ∧ M.outE n ≤ 7 := by have := M.outE_bd hn; omega
  have O2 := hide (fun w => Output_yes (M.outE n) w hon)
  rw [M.outE_out] at O2
  have G := hide (fun (w' : World) (hb : Below w.heap.size w w') => encoderBegun_any w' (hT.below hb))
  have H1 := hide (fun w => Has_yes n p w hn hp)
  have H2 := hide (fun w => Has_yes (M.outE n) p w hon hp)
  rw [M.hasE_out] at H2
  have ho' : (M.outE n != 1) = true := by simpa using ho
  clear ho
  generalize M.outE n = o at *
  generalize M.hasE n p = b at *
  clear hp
  cases b
  all_goals
    clear hT hn hon
    go_enter Tryd.func6, Tryd.ntmps6
    go_wp2_with fail
    refine (unhide O1 _).mono ?_
    rintro e w1 ⟨rfl, hb⟩
    have HB1 := hide (hb)
    clear hb
    go_wp2_with fail
    refine (unhide G _ (unhide HB1)).mono ?_
    rintro e w2 ⟨rfl, hb⟩
    have HB2 := hide (bstep (unhide HB1) hb)
    clear hb
    go_wp2_with fail
    refine (unhide O2 _).mono ?_
    rintro e w3 ⟨rfl, hb⟩
    have HB3 := hide (bstep (unhide HB2) hb)
    clear hb
    go_wp2_with fail
    refine (unhide H1 _).mono ?_
    rintro e w4 ⟨rfl, hb⟩
    have HB4 := hide (bstep (unhide HB3) hb)
    clear hb
    go_wp2_with fail
    refine (unhide H2 _).mono ?_
    rintro e w5 ⟨rfl, hb⟩
    have HB5 := hide (bstep (unhide HB4) hb)
    clear hb
    go_wp2_with fail
    go_ret
    exact ⟨rfl, unhide HB5⟩

set_option maxHeartbeats 1600000 in
set_option maxRecDepth 100000 in
theorem walkD (n p : Int) (w : World) (hT : Tb w) (hn : 1 ≤ n ∧ n ≤ 7) (hp : M.sclr p = true) (ho : M.outE n ≠ 1) (hl : 97 ≤ p) (hl2 : p ≤ 122) : Calls Tryd.prog 6 #[.int .i64 n, .int .i64 p] w fun e w' => e = .returned (.bool true) ∧ Below w.heap.size w w' := by
  have O1 := hide (fun w => Output_yes n w hn)
  have hon : 1 ≤ M.outE n ∧ M.outE n ≤ 7 := by have := M.outE_bd hn; omega
  have O2 := hide (fun w => Output_yes (M.outE n) w hon)
  rw [M.outE_out] at O2
  have G := hide (fun (w' : World) (hb : Below w.heap.size w w') => encoderBegun_any w' (hT.below hb))
  have H1 := hide (fun w => Has_yes n p w hn hp)
  have H2 := hide (fun w => Has_yes (M.outE n) p w hon hp)
  rw [M.hasE_out] at H2
  rw [M.hasE_low n (by omega) (by omega)] at H1 H2
  have ho' : (M.outE n != 1) = true := by simpa using ho
  clear ho
  generalize M.outE n = o at *
  clear hp
  clear hT hn hon
  go_enter Tryd.func6, Tryd.ntmps6
  go_wp2_with fail
  refine (unhide O1 _).mono ?_
  rintro e w1 ⟨rfl, hb⟩
  have HB1 := hide (hb)
  clear hb
  go_wp2_with fail
  refine (unhide G _ (unhide HB1)).mono ?_
  rintro e w2 ⟨rfl, hb⟩
  have HB2 := hide (bstep (unhide HB1) hb)
  clear hb
  go_wp2_with fail
  refine (unhide O2 _).mono ?_
  rintro e w3 ⟨rfl, hb⟩
  have HB3 := hide (bstep (unhide HB2) hb)
  clear hb
  go_wp2_with fail
  refine (unhide H1 _).mono ?_
  rintro e w4 ⟨rfl, hb⟩
  have HB4 := hide (bstep (unhide HB3) hb)
  clear hb
  go_wp2_with fail
  refine (unhide H2 _).mono ?_
  rintro e w5 ⟨rfl, hb⟩
  have HB5 := hide (bstep (unhide HB4) hb)
  clear hb
  go_wp2_with fail
  go_ret
  exact ⟨rfl, unhide HB5⟩

theorem walk (n p : Int) (w : World) (hT : Tb w) (h1 : (Lit.int .i64 n).wf = true) (h2 : (Lit.int .i64 p).wf = true) : Calls Tryd.prog 6 #[.int .i64 n, .int .i64 p] w fun e w' => e = .returned (.bool true) ∧ Below w.heap.size w w' := by
  by_cases hn : 1 ≤ n ∧ n ≤ 7
  · cases hp : M.sclr p
    · exact walkRange n p w hT hn hp
    · by_cases ho : M.outE n = 1
      · exact walkA n p w hT hn hp ho
      · rcases (show p < 97 ∨ 122 < p ∨ (97 ≤ p ∧ p ≤ 122) from by omega) with h | h | ⟨h, h'⟩
        · exact walkB n p w hT hn hp ho h
        · exact walkC n p w hT hn hp ho h
        · exact walkD n p w hT hn hp ho h h'
  · exact walkNo n p w hT hn

set_option maxRecDepth 100000 in
theorem lifted (os : Os) (started : os.Started) (H : Type) (enc : TypeId × Value → H) :
    ReturnsInHanded {} Tryd.checked os 6 .any (fun w args => (Rows.encoderOutSpec.pre enc Tryd.prog Tryd.f6 [] false w args ∧ laidMetH Tryd.prog Rows.encoderOutRow.laid w) ∧ sizedMet enc Tryd.prog Tryd.f6 (OpenSpec.ofChange Rows.encoderOutSpec) false w args)
      (Rows.encoderOutSpec.post enc Tryd.prog Tryd.f6 false true false false) := by
  refine returnsInHanded_of_change_and (C := Tryd.checked) (X := fun w _ => laidMetH Tryd.prog Rows.encoderOutRow.laid w) (fun _ _ _ hh h => h.of_heap hh) own started (by kernel_rfl) Tryd.func6
    (ChangeSpec.witness_shaped (enc := enc) (C := Tryd.checked) (os := os) (X := fun w _ => laidMetH Tryd.prog Rows.encoderOutRow.laid w) false (World.laidAll Tryd.prog os Rows.encoderOutRow.laid) #[.int .i64 0, .int .i64 0] 8 (World.laidAll_os _ _ _)
      (World.shaped_of_ZipB (by kernel_rfl) (by kernel_rfl)) (by kernel_rfl) (by kernel_rfl) (by kernel_rfl)
      (by rw [MakeChecks.laidMetH_plain _ _ _ (by kernel_rfl)]; exact laidMet_laidAll _ (by kernel_rfl) (by kernel_rfl))) ?_
  intro W base args ds gs before hval0 hW _ hsz0 hL _
  have hval : ∀ (j : Nat) t v, Tryd.f6.params[j]? = some t → args[j]? = some v → Value.okWide Tryd.prog W .any base t v := hval0
  have hW' := hW
  have hT : Tb W := tb_laid hL
  obtain ⟨p, q, hA0, hV, rfl, hfz, hnd⟩ := hW
  have hA : DataW.TrodAll enc Tryd.prog W 0 (fun _ => true) true Tryd.f6.params.toList args.toList ds p := hA0
  rw [Tryd.params6] at hA hval
  obtain ⟨v0, vs0, d0, ds0, p0, q0, hargs, rfl, rfl, h0, r0⟩ := trodAll_cons hA
  obtain ⟨v1, vs1, d1, ds1, p1, q1, rfl, rfl, rfl, h1, r1⟩ := trodAll_cons r0
  obtain ⟨rfl, rfl, rfl⟩ := trodAll_nil r1
  obtain rfl : args = #[v0, v1] := by cases args; simp_all
  obtain ⟨rfl, rfl⟩ := trodVars_none hV
  obtain ⟨a0, rfl, rfl, rfl, w0⟩ := open_int Tryd.underlying3 (hval 0 3 v0 rfl rfl) h0
  obtain ⟨a1, rfl, rfl, rfl, w1⟩ := open_int Tryd.underlying3 (hval 1 3 v1 rfl rfl) h1
  clear hA0 hval0 hL hsz0
  refine (walk a0 a1 W hT w0 w1).mono fun e W' ⟨he, bel⟩ => ?_
  subst he
  exact ⟨_, rfl, _, _, _, [], _, [], hW', trodAll_mk1 (shut_bool Tryd.underlying4 _), (trodAll_cons_mk (shut_int Tryd.underlying3 w0) (trodAll_cons_mk (shut_int Tryd.underlying3 w1) trodAll_mk0)), rfl, bel.frame _, fun h => by cases h⟩

theorem said : Rows.EncoderOutSaid :=
  OpenClaim.holds_of_wide 6 Tryd.f6 rfl rfl rfl rfl rfl rfl rfl ⟨rfl, rfl, rfl, rfl, rfl⟩ rfl rfl rfl rfl rfl (by kernel_rfl) Tryd.func6 (by kernel_rfl)
    (of_decide_eq_true (by kernel_rfl)) (by unfold Func.isWrapper; first | (rw [if_pos (by decide +kernel)]; kernel_rfl) | (rw [if_neg (by decide +kernel)]; exact ⟨rfl, rfl⟩))
    (fun os started H enc _ => lifted os started H enc)

theorem plain (f : FuncId) (fn : Func) (hf : Tryd.pinned.checked.prog.funcNamed Rows.encoderOutRow.func = some f) (hfn : Tryd.pinned.checked.prog.funcs[f]? = some fn) :
    false = Tryd.pinned.checked.prog.looks [] ∧ ∀ (j : Nat) t, fn.params[j]? = some t → Tryd.pinned.checked.prog.wantsStandIn t = false := by
  obtain rfl : f = 6 := Option.some.inj ((show Tryd.prog.funcNamed Rows.encoderOutRow.func = some 6 by kernel_rfl).symm.trans hf) |>.symm
  obtain rfl : fn = Tryd.f6 := (Option.some.inj (Tryd.func6.symm.trans hfn)).symm
  refine ⟨by kernel_rfl, fun j t ht => ?_⟩
  rw [Tryd.params6] at ht
  have hm : t = 3 := by
    have := Array.mem_of_getElem? ht
    simp at this
    omega
  subst hm
  exact (show Tryd.prog.wantsStandIn 3 = false by kernel_rfl)

theorem card : Rows.EncoderOutCardSaid :=
  Claim7.holds_tied_plain_at .later [] _ _ _ _ said (fun _ h => by cases h) (by kernel_rfl) (fun _ h => by cases h) encoderOut_row_tie rfl ⟨rfl, rfl⟩ (by kernel_rfl) rfl plain (by kernel_rfl)
end Go.Proofs.YthhjfedegbldfadDoor.encoderOut

namespace Go.Proofs.YthhjfedegbldfadDoor
theorem encoderOut_holds : Rows.EncoderOutCardSaid := encoderOut.card
end Go.Proofs.YthhjfedegbldfadDoor
