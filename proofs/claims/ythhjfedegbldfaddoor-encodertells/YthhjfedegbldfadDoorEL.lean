/- Proved: for all integers encoding, mode and point and every list of integers the law EncoderTells returns true and leaves all as they were. Its conditions are those of the given card: the tables of math/bits and of internal/strconv lie as their texts lay them. -/
import Derived.Test.YthhjfedegbldfadDoorCards
import Derived.Test.YthhjfedegbldfadDoorTie
import Derived.Test.YthhjfedegbldfadDoorEG
import Derived.Test.YthhjfedegbldfadDoorET
import Derived.Test.YthhjfedegbldfadDoorRF
import Derived.OpenShut
import Derived.ShutString
import Derived.ChangeOld
import Derived.Lay
import Derived.LaidOnce
import Derived.MakeChecks
import Derived.SevenTiedAt
namespace Go.Proofs.YthhjfedegbldfadDoor.encoderTells
open Go.ChangeShapes Go.WideShapes Go.ChangeAt Go.RowKit
open Go.ChangeMaps (open_string shut_string)
open Go.Proofs.YthhjfedegbldfadDoor
set_option linter.unusedVariables false

theorem own : ownKnob Tryd.prog.godebug = none := by kernel_rfl
theorem laidOut : laidOutB Tryd.prog = true := by kernel_rfl


set_option maxHeartbeats 3200000 in
set_option maxRecDepth 100000 in
theorem walkKind (n mode p : Int) (v : Value) (ys : List Int) (w : World) (hT : Tb w) (hI : Ints w v ys) (hn : ¬ (1 ≤ n ∧ n ≤ 7)) : Calls Tryd.prog 3 #[.int .i64 n, .int .i64 mode, .int .i64 p, v] w fun e w' => e = .returned (.bool true) ∧ Below w.heap.size w w' := by
  have G := hide (fun (w' : World) (hb : Below w.heap.size w w') => encoderBegun_any w' (hT.below hb))
  have I := hide (fun w => isEncoding_any n w)
  rw [show decide (1 ≤ n ∧ n ≤ 7) = false from decide_eq_false hn] at I
  obtain ⟨ao, cap, rfl, -, -, -⟩ := hI
  have O := hide (fun w => Output_no n w hn)
  have H := hide (fun w => Has_kind n p w hn)
  have E := hide (fun w => Enc_kind n mode ao ys.length cap w hn)
  have R := hide (fun w => encOf_kind n mode ao ys.length cap w hn)
  clear hT hn
  go_enter Tryd.func3, Tryd.ntmps3
  go_wp2_with fail
  refine (unhide O _).mono ?_
  rintro e w1 ⟨rfl, hb⟩
  have HB1 := hide (hb)
  clear hb
  go_wp2_with fail
  refine (unhide H _).mono ?_
  rintro e w2 ⟨rfl, hb⟩
  have HB2 := hide (bstep (unhide HB1) hb)
  clear hb
  go_wp2_with fail
  refine (unhide E _).mono ?_
  rintro e w3 ⟨rfl, hb⟩
  have HB3 := hide (bstep (unhide HB2) hb)
  clear hb
  go_wp2_with fail
  refine (unhide I _).mono ?_
  rintro e wz ⟨rfl, hw⟩
  replace hw := hw.symm
  subst hw
  go_wp2_with fail
  refine (unhide R _).mono ?_
  rintro e wz ⟨rfl, hw⟩
  replace hw := hw.symm
  subst hw
  go_wp2_with fail
  refine (unhide G _ (unhide HB3)).mono ?_
  rintro e w4 ⟨rfl, hb⟩
  have HB4 := hide (bstep (unhide HB3) hb)
  clear hb
  go_wp2_with fail
  go_ret
  exact ⟨rfl, unhide HB4⟩

set_option maxHeartbeats 3200000 in
set_option maxRecDepth 100000 in
theorem walkNoMode (n mode p : Int) (v : Value) (ys : List Int) (w : World) (hT : Tb w) (hI : Ints w v ys) (hn : 1 ≤ n ∧ n ≤ 7) (hp : M.sclr p = false) (hm : ¬ (mode = 0 ∨ mode = 1)) : Calls Tryd.prog 3 #[.int .i64 n, .int .i64 mode, .int .i64 p, v] w fun e w' => e = .returned (.bool true) ∧ Below w.heap.size w w' := by
  have G := hide (fun (w' : World) (hb : Below w.heap.size w w') => encoderBegun_any w' (hT.below hb))
  have I := hide (fun w => isEncoding_any n w)
  rw [show decide (1 ≤ n ∧ n ≤ 7) = true from decide_eq_true hn] at I
  have O := hide (fun w => Output_yes n w hn)
  have OO := hide (fun w => outputOf_any n w)
  have H := hide (fun w => Has_range n p w hn hp)
  have S := hide (fun w => isScalar_any p w)
  rw [hp] at S
  obtain ⟨ao, cap, rfl, -, -, -⟩ := hI
  have E := hide (fun w => Enc_mode n mode ao ys.length cap w hn hm)
  have R := hide (fun (w' : World) (_ : Below w.heap.size w w') => (encOf_mode n mode ao ys.length cap w' hn hm).mono (fun e w'' h => (show e = .returned (.tuple #[.string ⟨#[]⟩, .int .i64 4]) ∧ Below w'.heap.size w' w'' from ⟨h.1, by rw [h.2]; exact Below.refl _ _⟩)))
  clear hm
  generalize M.outE n = o at *
  clear hT hn hp
  go_enter Tryd.func3, Tryd.ntmps3
  go_wp2_with fail
  refine (unhide O _).mono ?_
  rintro e w1 ⟨rfl, hb⟩
  have HB1 := hide (hb)
  clear hb
  go_wp2_with fail
  refine (unhide H _).mono ?_
  rintro e w2 ⟨rfl, hb⟩
  have HB2 := hide (bstep (unhide HB1) hb)
  clear hb
  go_wp2_with fail
  refine (unhide E _).mono ?_
  rintro e w3 ⟨rfl, hb⟩
  have HB3 := hide (bstep (unhide HB2) hb)
  clear hb
  go_wp2_with fail
  refine (unhide I _).mono ?_
  rintro e wz ⟨rfl, hw⟩
  replace hw := hw.symm
  subst hw
  go_wp2_with fail
  refine (unhide OO _).mono ?_
  rintro e wz ⟨rfl, hw⟩
  replace hw := hw.symm
  subst hw
  go_wp2_with fail
  refine (unhide S _).mono ?_
  rintro e wz ⟨rfl, hw⟩
  replace hw := hw.symm
  subst hw
  go_wp2_with fail
  refine (unhide R _ (unhide HB3)).mono ?_
  rintro e w4 ⟨rfl, hb⟩
  have HB4 := hide (bstep (unhide HB3) hb)
  clear hb
  go_wp2_with fail
  refine (unhide G _ (unhide HB4)).mono ?_
  rintro e w5 ⟨rfl, hb⟩
  have HB5 := hide (bstep (unhide HB4) hb)
  clear hb
  go_wp2_with fail
  go_ret
  exact ⟨rfl, unhide HB5⟩

set_option maxHeartbeats 3200000 in
set_option maxRecDepth 100000 in
theorem walkNoMany (n mode p : Int) (v : Value) (ys : List Int) (w : World) (hT : Tb w) (hI : Ints w v ys) (hn : 1 ≤ n ∧ n ≤ 7) (hp : M.sclr p = false) (hm : mode = 0 ∨ mode = 1) (hl : 3000 < ys.length) : Calls Tryd.prog 3 #[.int .i64 n, .int .i64 mode, .int .i64 p, v] w fun e w' => e = .returned (.bool true) ∧ Below w.heap.size w w' := by
  have G := hide (fun (w' : World) (hb : Below w.heap.size w w') => encoderBegun_any w' (hT.below hb))
  have I := hide (fun w => isEncoding_any n w)
  rw [show decide (1 ≤ n ∧ n ≤ 7) = true from decide_eq_true hn] at I
  have O := hide (fun w => Output_yes n w hn)
  have OO := hide (fun w => outputOf_any n w)
  have H := hide (fun w => Has_range n p w hn hp)
  have S := hide (fun w => isScalar_any p w)
  rw [hp] at S
  obtain ⟨ao, cap, rfl, hx, -, -⟩ := hI
  have E := hide (fun w => Enc_many n mode ao ys.length cap w hn hm hl hx)
  have R := hide (fun (w' : World) (_ : Below w.heap.size w w') => (encOf_many n mode ao ys.length cap w' hn hm hl hx).mono (fun e w'' h => (show e = .returned (.tuple #[.string ⟨#[]⟩, .int .i64 2]) ∧ Below w'.heap.size w' w'' from ⟨h.1, by rw [h.2]; exact Below.refl _ _⟩)))
  clear hm hl hx
  generalize M.outE n = o at *
  clear hT hn hp
  go_enter Tryd.func3, Tryd.ntmps3
  go_wp2_with fail
  refine (unhide O _).mono ?_
  rintro e w1 ⟨rfl, hb⟩
  have HB1 := hide (hb)
  clear hb
  go_wp2_with fail
  refine (unhide H _).mono ?_
  rintro e w2 ⟨rfl, hb⟩
  have HB2 := hide (bstep (unhide HB1) hb)
  clear hb
  go_wp2_with fail
  refine (unhide E _).mono ?_
  rintro e w3 ⟨rfl, hb⟩
  have HB3 := hide (bstep (unhide HB2) hb)
  clear hb
  go_wp2_with fail
  refine (unhide I _).mono ?_
  rintro e wz ⟨rfl, hw⟩
  replace hw := hw.symm
  subst hw
  go_wp2_with fail
  refine (unhide OO _).mono ?_
  rintro e wz ⟨rfl, hw⟩
  replace hw := hw.symm
  subst hw
  go_wp2_with fail
  refine (unhide S _).mono ?_
  rintro e wz ⟨rfl, hw⟩
  replace hw := hw.symm
  subst hw
  go_wp2_with fail
  refine (unhide R _ (unhide HB3)).mono ?_
  rintro e w4 ⟨rfl, hb⟩
  have HB4 := hide (bstep (unhide HB3) hb)
  clear hb
  go_wp2_with fail
  refine (unhide G _ (unhide HB4)).mono ?_
  rintro e w5 ⟨rfl, hb⟩
  have HB5 := hide (bstep (unhide HB4) hb)
  clear hb
  go_wp2_with fail
  go_ret
  exact ⟨rfl, unhide HB5⟩

set_option maxHeartbeats 3200000 in
set_option maxRecDepth 100000 in
theorem walkNoRange (n mode p : Int) (v : Value) (ys : List Int) (w : World) (hT : Tb w) (hI : Ints w v ys) (hn : 1 ≤ n ∧ n ≤ 7) (hp : M.sclr p = false) (hm : mode = 0 ∨ mode = 1) (hl : ys.length ≤ 3000) (hs : ys.all M.sclr = false) : Calls Tryd.prog 3 #[.int .i64 n, .int .i64 mode, .int .i64 p, v] w fun e w' => e = .returned (.bool true) ∧ Below w.heap.size w w' := by
  have G := hide (fun (w' : World) (hb : Below w.heap.size w w') => encoderBegun_any w' (hT.below hb))
  have I := hide (fun w => isEncoding_any n w)
  rw [show decide (1 ≤ n ∧ n ≤ 7) = true from decide_eq_true hn] at I
  have O := hide (fun w => Output_yes n w hn)
  have OO := hide (fun w => outputOf_any n w)
  have H := hide (fun w => Has_range n p w hn hp)
  have S := hide (fun w => isScalar_any p w)
  rw [hp] at S
  have E := hide (fun (w' : World) (hb : Below w.heap.size w w') => Enc_range n mode w' hn hm (hI.below hb) hl hs)
  have R := hide (fun (w' : World) (hb : Below w.heap.size w w') => (encOf_range n mode w' hn hm (hI.below hb) hl hs).mono (fun e w'' h => (show e = .returned (.tuple #[.string ⟨#[]⟩, .int .i64 3]) ∧ Below w'.heap.size w' w'' from ⟨h.1, by rw [h.2]; exact Below.refl _ _⟩)))
  obtain ⟨ao, cap, rfl, -, -, -⟩ := hI
  clear hm hl hs
  generalize M.outE n = o at *
  clear hT hn hp
  go_enter Tryd.func3, Tryd.ntmps3
  go_wp2_with fail
  refine (unhide O _).mono ?_
  rintro e w1 ⟨rfl, hb⟩
  have HB1 := hide (hb)
  clear hb
  go_wp2_with fail
  refine (unhide H _).mono ?_
  rintro e w2 ⟨rfl, hb⟩
  have HB2 := hide (bstep (unhide HB1) hb)
  clear hb
  go_wp2_with fail
  refine (unhide E _ (unhide HB2)).mono ?_
  rintro e w3 ⟨rfl, hb⟩
  have HB3 := hide (bstep (unhide HB2) hb)
  clear hb
  go_wp2_with fail
  refine (unhide I _).mono ?_
  rintro e wz ⟨rfl, hw⟩
  replace hw := hw.symm
  subst hw
  go_wp2_with fail
  refine (unhide OO _).mono ?_
  rintro e wz ⟨rfl, hw⟩
  replace hw := hw.symm
  subst hw
  go_wp2_with fail
  refine (unhide S _).mono ?_
  rintro e wz ⟨rfl, hw⟩
  replace hw := hw.symm
  subst hw
  go_wp2_with fail
  refine (unhide R _ (unhide HB3)).mono ?_
  rintro e w4 ⟨rfl, hb⟩
  have HB4 := hide (bstep (unhide HB3) hb)
  clear hb
  go_wp2_with fail
  refine (unhide G _ (unhide HB4)).mono ?_
  rintro e w5 ⟨rfl, hb⟩
  have HB5 := hide (bstep (unhide HB4) hb)
  clear hb
  go_wp2_with fail
  go_ret
  exact ⟨rfl, unhide HB5⟩

set_option maxHeartbeats 3200000 in
set_option maxRecDepth 100000 in
theorem walkNoOk (n mode p : Int) (v : Value) (ys : List Int) (w : World) (hT : Tb w) (hI : Ints w v ys) (hn : 1 ≤ n ∧ n ≤ 7) (hp : M.sclr p = false) (hm : mode = 0 ∨ mode = 1) (hl : ys.length ≤ 3000) (hs : ys.all M.sclr = true) : Calls Tryd.prog 3 #[.int .i64 n, .int .i64 mode, .int .i64 p, v] w fun e w' => e = .returned (.bool true) ∧ Below w.heap.size w w' := by
  have G := hide (fun (w' : World) (hb : Below w.heap.size w w') => encoderBegun_any w' (hT.below hb))
  have I := hide (fun w => isEncoding_any n w)
  rw [show decide (1 ≤ n ∧ n ≤ 7) = true from decide_eq_true hn] at I
  have O := hide (fun w => Output_yes n w hn)
  have OO := hide (fun w => outputOf_any n w)
  have H := hide (fun w => Has_range n p w hn hp)
  have S := hide (fun w => isScalar_any p w)
  rw [hp] at S
  have E := hide (fun (w' : World) (hb : Below w.heap.size w w') => Enc_ok n mode w' (hT.below hb) hn hm (hI.below hb) hl hs)
  have R : Hid (∀ (w' : World) (hb : Below w.heap.size w w'), Calls Tryd.prog 13 #[.int .i64 n, .int .i64 mode, v] w' fun e w'' => e = .returned (resW n mode ys) ∧ Below w'.heap.size w' w'') := hide (fun w' hb => by
    rcases hm with rfl | rfl
    · exact encOf_0 n w' hn (hI.below hb) hl hs
    · exact encOf_1 n w' hn (hI.below hb) hl hs)
  obtain ⟨ao, cap, rfl, -, -, -⟩ := hI
  have HV : Hid (resW n mode ys = .tuple #[.string (strOfNums (M.encB n (M.ptsE n ys))), .int .i64 0] ∨ resW n mode ys = .tuple #[.string ⟨#[]⟩, .int .i64 5]) := hide (by unfold resW; split <;> simp)
  generalize strOfNums (M.encB n (M.ptsE n ys)) = bs at *
  generalize resW n mode ys = r at *
  clear hm hl hs
  generalize M.outE n = o at *
  clear hT hn hp
  rcases unhide HV with rfl | rfl
  all_goals
    clear HV
    go_enter Tryd.func3, Tryd.ntmps3
    go_wp2_with fail
    refine (unhide O _).mono ?_
    rintro e w1 ⟨rfl, hb⟩
    have HB1 := hide (hb)
    clear hb
    go_wp2_with fail
    refine (unhide H _).mono ?_
    rintro e w2 ⟨rfl, hb⟩
    have HB2 := hide (bstep (unhide HB1) hb)
    clear hb
    go_wp2_with fail
    refine (unhide E _ (unhide HB2)).mono ?_
    rintro e w3 ⟨rfl, hb⟩
    have HB3 := hide (bstep (unhide HB2) hb)
    clear hb
    go_wp2_with fail
    refine (unhide I _).mono ?_
    rintro e wz ⟨rfl, hw⟩
    replace hw := hw.symm
    subst hw
    go_wp2_with fail
    refine (unhide OO _).mono ?_
    rintro e wz ⟨rfl, hw⟩
    replace hw := hw.symm
    subst hw
    go_wp2_with fail
    refine (unhide S _).mono ?_
    rintro e wz ⟨rfl, hw⟩
    replace hw := hw.symm
    subst hw
    go_wp2_with fail
    refine (unhide R _ (unhide HB3)).mono ?_
    rintro e w4 ⟨rfl, hb⟩
    have HB4 := hide (bstep (unhide HB3) hb)
    clear hb
    go_wp2_with fail
    refine (unhide G _ (unhide HB4)).mono ?_
    rintro e w5 ⟨rfl, hb⟩
    have HB5 := hide (bstep (unhide HB4) hb)
    clear hb
    go_wp2_with fail
    go_ret
    exact ⟨rfl, unhide HB5⟩

set_option maxHeartbeats 3200000 in
set_option maxRecDepth 100000 in
theorem walkYesMode (n mode p : Int) (v : Value) (ys : List Int) (w : World) (hT : Tb w) (hI : Ints w v ys) (hn : 1 ≤ n ∧ n ≤ 7) (hp : M.sclr p = true) (hm : ¬ (mode = 0 ∨ mode = 1)) : Calls Tryd.prog 3 #[.int .i64 n, .int .i64 mode, .int .i64 p, v] w fun e w' => e = .returned (.bool true) ∧ Below w.heap.size w w' := by
  have G := hide (fun (w' : World) (hb : Below w.heap.size w w') => encoderBegun_any w' (hT.below hb))
  have I := hide (fun w => isEncoding_any n w)
  rw [show decide (1 ≤ n ∧ n ≤ 7) = true from decide_eq_true hn] at I
  have O := hide (fun w => Output_yes n w hn)
  have OO := hide (fun w => outputOf_any n w)
  have H := hide (fun w => Has_yes n p w hn hp)
  have S := hide (fun w => isScalar_any p w)
  rw [hp] at S
  have HO := hide (fun w => hasOf_any n p w hn)
  generalize M.hasE n p = hb at *
  obtain ⟨ao, cap, rfl, -, -, -⟩ := hI
  have E := hide (fun w => Enc_mode n mode ao ys.length cap w hn hm)
  have R := hide (fun (w' : World) (_ : Below w.heap.size w w') => (encOf_mode n mode ao ys.length cap w' hn hm).mono (fun e w'' h => (show e = .returned (.tuple #[.string ⟨#[]⟩, .int .i64 4]) ∧ Below w'.heap.size w' w'' from ⟨h.1, by rw [h.2]; exact Below.refl _ _⟩)))
  clear hm
  generalize M.outE n = o at *
  clear hT hn hp
  go_enter Tryd.func3, Tryd.ntmps3
  go_wp2_with fail
  refine (unhide O _).mono ?_
  rintro e w1 ⟨rfl, hb⟩
  have HB1 := hide (hb)
  clear hb
  go_wp2_with fail
  refine (unhide H _).mono ?_
  rintro e w2 ⟨rfl, hb⟩
  have HB2 := hide (bstep (unhide HB1) hb)
  clear hb
  go_wp2_with fail
  refine (unhide E _).mono ?_
  rintro e w3 ⟨rfl, hb⟩
  have HB3 := hide (bstep (unhide HB2) hb)
  clear hb
  go_wp2_with fail
  refine (unhide I _).mono ?_
  rintro e wz ⟨rfl, hw⟩
  replace hw := hw.symm
  subst hw
  go_wp2_with fail
  refine (unhide OO _).mono ?_
  rintro e wz ⟨rfl, hw⟩
  replace hw := hw.symm
  subst hw
  go_wp2_with fail
  refine (unhide S _).mono ?_
  rintro e wz ⟨rfl, hw⟩
  replace hw := hw.symm
  subst hw
  go_wp2_with fail
  refine (unhide R _ (unhide HB3)).mono ?_
  rintro e w4 ⟨rfl, hb⟩
  have HB4 := hide (bstep (unhide HB3) hb)
  clear hb
  go_wp2_with fail
  refine (unhide G _ (unhide HB4)).mono ?_
  rintro e w5 ⟨rfl, hb⟩
  have HB5 := hide (bstep (unhide HB4) hb)
  clear hb
  go_wp2_with fail
  refine (unhide HO _).mono ?_
  rintro e w6 ⟨rfl, hb⟩
  have HB6 := hide (bstep (unhide HB5) hb)
  clear hb
  go_wp2_with fail
  go_ret
  exact ⟨rfl, unhide HB6⟩

set_option maxHeartbeats 3200000 in
set_option maxRecDepth 100000 in
theorem walkYesMany (n mode p : Int) (v : Value) (ys : List Int) (w : World) (hT : Tb w) (hI : Ints w v ys) (hn : 1 ≤ n ∧ n ≤ 7) (hp : M.sclr p = true) (hm : mode = 0 ∨ mode = 1) (hl : 3000 < ys.length) : Calls Tryd.prog 3 #[.int .i64 n, .int .i64 mode, .int .i64 p, v] w fun e w' => e = .returned (.bool true) ∧ Below w.heap.size w w' := by
  have G := hide (fun (w' : World) (hb : Below w.heap.size w w') => encoderBegun_any w' (hT.below hb))
  have I := hide (fun w => isEncoding_any n w)
  rw [show decide (1 ≤ n ∧ n ≤ 7) = true from decide_eq_true hn] at I
  have O := hide (fun w => Output_yes n w hn)
  have OO := hide (fun w => outputOf_any n w)
  have H := hide (fun w => Has_yes n p w hn hp)
  have S := hide (fun w => isScalar_any p w)
  rw [hp] at S
  have HO := hide (fun w => hasOf_any n p w hn)
  generalize M.hasE n p = hb at *
  obtain ⟨ao, cap, rfl, hx, -, -⟩ := hI
  have E := hide (fun w => Enc_many n mode ao ys.length cap w hn hm hl hx)
  have R := hide (fun (w' : World) (_ : Below w.heap.size w w') => (encOf_many n mode ao ys.length cap w' hn hm hl hx).mono (fun e w'' h => (show e = .returned (.tuple #[.string ⟨#[]⟩, .int .i64 2]) ∧ Below w'.heap.size w' w'' from ⟨h.1, by rw [h.2]; exact Below.refl _ _⟩)))
  clear hm hl hx
  generalize M.outE n = o at *
  clear hT hn hp
  go_enter Tryd.func3, Tryd.ntmps3
  go_wp2_with fail
  refine (unhide O _).mono ?_
  rintro e w1 ⟨rfl, hb⟩
  have HB1 := hide (hb)
  clear hb
  go_wp2_with fail
  refine (unhide H _).mono ?_
  rintro e w2 ⟨rfl, hb⟩
  have HB2 := hide (bstep (unhide HB1) hb)
  clear hb
  go_wp2_with fail
  refine (unhide E _).mono ?_
  rintro e w3 ⟨rfl, hb⟩
  have HB3 := hide (bstep (unhide HB2) hb)
  clear hb
  go_wp2_with fail
  refine (unhide I _).mono ?_
  rintro e wz ⟨rfl, hw⟩
  replace hw := hw.symm
  subst hw
  go_wp2_with fail
  refine (unhide OO _).mono ?_
  rintro e wz ⟨rfl, hw⟩
  replace hw := hw.symm
  subst hw
  go_wp2_with fail
  refine (unhide S _).mono ?_
  rintro e wz ⟨rfl, hw⟩
  replace hw := hw.symm
  subst hw
  go_wp2_with fail
  refine (unhide R _ (unhide HB3)).mono ?_
  rintro e w4 ⟨rfl, hb⟩
  have HB4 := hide (bstep (unhide HB3) hb)
  clear hb
  go_wp2_with fail
  refine (unhide G _ (unhide HB4)).mono ?_
  rintro e w5 ⟨rfl, hb⟩
  have HB5 := hide (bstep (unhide HB4) hb)
  clear hb
  go_wp2_with fail
  refine (unhide HO _).mono ?_
  rintro e w6 ⟨rfl, hb⟩
  have HB6 := hide (bstep (unhide HB5) hb)
  clear hb
  go_wp2_with fail
  go_ret
  exact ⟨rfl, unhide HB6⟩

set_option maxHeartbeats 3200000 in
set_option maxRecDepth 100000 in
theorem walkYesRange (n mode p : Int) (v : Value) (ys : List Int) (w : World) (hT : Tb w) (hI : Ints w v ys) (hn : 1 ≤ n ∧ n ≤ 7) (hp : M.sclr p = true) (hm : mode = 0 ∨ mode = 1) (hl : ys.length ≤ 3000) (hs : ys.all M.sclr = false) : Calls Tryd.prog 3 #[.int .i64 n, .int .i64 mode, .int .i64 p, v] w fun e w' => e = .returned (.bool true) ∧ Below w.heap.size w w' := by
  have G := hide (fun (w' : World) (hb : Below w.heap.size w w') => encoderBegun_any w' (hT.below hb))
  have I := hide (fun w => isEncoding_any n w)
  rw [show decide (1 ≤ n ∧ n ≤ 7) = true from decide_eq_true hn] at I
  have O := hide (fun w => Output_yes n w hn)
  have OO := hide (fun w => outputOf_any n w)
  have H := hide (fun w => Has_yes n p w hn hp)
  have S := hide (fun w => isScalar_any p w)
  rw [hp] at S
  have HO := hide (fun w => hasOf_any n p w hn)
  generalize M.hasE n p = hb at *
  have E := hide (fun (w' : World) (hb : Below w.heap.size w w') => Enc_range n mode w' hn hm (hI.below hb) hl hs)
  have R := hide (fun (w' : World) (hb : Below w.heap.size w w') => (encOf_range n mode w' hn hm (hI.below hb) hl hs).mono (fun e w'' h => (show e = .returned (.tuple #[.string ⟨#[]⟩, .int .i64 3]) ∧ Below w'.heap.size w' w'' from ⟨h.1, by rw [h.2]; exact Below.refl _ _⟩)))
  obtain ⟨ao, cap, rfl, -, -, -⟩ := hI
  clear hm hl hs
  generalize M.outE n = o at *
  clear hT hn hp
  go_enter Tryd.func3, Tryd.ntmps3
  go_wp2_with fail
  refine (unhide O _).mono ?_
  rintro e w1 ⟨rfl, hb⟩
  have HB1 := hide (hb)
  clear hb
  go_wp2_with fail
  refine (unhide H _).mono ?_
  rintro e w2 ⟨rfl, hb⟩
  have HB2 := hide (bstep (unhide HB1) hb)
  clear hb
  go_wp2_with fail
  refine (unhide E _ (unhide HB2)).mono ?_
  rintro e w3 ⟨rfl, hb⟩
  have HB3 := hide (bstep (unhide HB2) hb)
  clear hb
  go_wp2_with fail
  refine (unhide I _).mono ?_
  rintro e wz ⟨rfl, hw⟩
  replace hw := hw.symm
  subst hw
  go_wp2_with fail
  refine (unhide OO _).mono ?_
  rintro e wz ⟨rfl, hw⟩
  replace hw := hw.symm
  subst hw
  go_wp2_with fail
  refine (unhide S _).mono ?_
  rintro e wz ⟨rfl, hw⟩
  replace hw := hw.symm
  subst hw
  go_wp2_with fail
  refine (unhide R _ (unhide HB3)).mono ?_
  rintro e w4 ⟨rfl, hb⟩
  have HB4 := hide (bstep (unhide HB3) hb)
  clear hb
  go_wp2_with fail
  refine (unhide G _ (unhide HB4)).mono ?_
  rintro e w5 ⟨rfl, hb⟩
  have HB5 := hide (bstep (unhide HB4) hb)
  clear hb
  go_wp2_with fail
  refine (unhide HO _).mono ?_
  rintro e w6 ⟨rfl, hb⟩
  have HB6 := hide (bstep (unhide HB5) hb)
  clear hb
  go_wp2_with fail
  go_ret
  exact ⟨rfl, unhide HB6⟩

set_option maxHeartbeats 3200000 in
set_option maxRecDepth 100000 in
theorem walkYesOk (n mode p : Int) (v : Value) (ys : List Int) (w : World) (hT : Tb w) (hI : Ints w v ys) (hn : 1 ≤ n ∧ n ≤ 7) (hp : M.sclr p = true) (hm : mode = 0 ∨ mode = 1) (hl : ys.length ≤ 3000) (hs : ys.all M.sclr = true) : Calls Tryd.prog 3 #[.int .i64 n, .int .i64 mode, .int .i64 p, v] w fun e w' => e = .returned (.bool true) ∧ Below w.heap.size w w' := by
  have G := hide (fun (w' : World) (hb : Below w.heap.size w w') => encoderBegun_any w' (hT.below hb))
  have I := hide (fun w => isEncoding_any n w)
  rw [show decide (1 ≤ n ∧ n ≤ 7) = true from decide_eq_true hn] at I
  have O := hide (fun w => Output_yes n w hn)
  have OO := hide (fun w => outputOf_any n w)
  have H := hide (fun w => Has_yes n p w hn hp)
  have S := hide (fun w => isScalar_any p w)
  rw [hp] at S
  have HO := hide (fun w => hasOf_any n p w hn)
  generalize M.hasE n p = hb at *
  have E := hide (fun (w' : World) (hb : Below w.heap.size w w') => Enc_ok n mode w' (hT.below hb) hn hm (hI.below hb) hl hs)
  have R : Hid (∀ (w' : World) (hb : Below w.heap.size w w'), Calls Tryd.prog 13 #[.int .i64 n, .int .i64 mode, v] w' fun e w'' => e = .returned (resW n mode ys) ∧ Below w'.heap.size w' w'') := hide (fun w' hb => by
    rcases hm with rfl | rfl
    · exact encOf_0 n w' hn (hI.below hb) hl hs
    · exact encOf_1 n w' hn (hI.below hb) hl hs)
  obtain ⟨ao, cap, rfl, -, -, -⟩ := hI
  have HV : Hid (resW n mode ys = .tuple #[.string (strOfNums (M.encB n (M.ptsE n ys))), .int .i64 0] ∨ resW n mode ys = .tuple #[.string ⟨#[]⟩, .int .i64 5]) := hide (by unfold resW; split <;> simp)
  generalize strOfNums (M.encB n (M.ptsE n ys)) = bs at *
  generalize resW n mode ys = r at *
  clear hm hl hs
  generalize M.outE n = o at *
  clear hT hn hp
  rcases unhide HV with rfl | rfl
  all_goals
    clear HV
    go_enter Tryd.func3, Tryd.ntmps3
    go_wp2_with fail
    refine (unhide O _).mono ?_
    rintro e w1 ⟨rfl, hb⟩
    have HB1 := hide (hb)
    clear hb
    go_wp2_with fail
    refine (unhide H _).mono ?_
    rintro e w2 ⟨rfl, hb⟩
    have HB2 := hide (bstep (unhide HB1) hb)
    clear hb
    go_wp2_with fail
    refine (unhide E _ (unhide HB2)).mono ?_
    rintro e w3 ⟨rfl, hb⟩
    have HB3 := hide (bstep (unhide HB2) hb)
    clear hb
    go_wp2_with fail
    refine (unhide I _).mono ?_
    rintro e wz ⟨rfl, hw⟩
    replace hw := hw.symm
    subst hw
    go_wp2_with fail
    refine (unhide OO _).mono ?_
    rintro e wz ⟨rfl, hw⟩
    replace hw := hw.symm
    subst hw
    go_wp2_with fail
    refine (unhide S _).mono ?_
    rintro e wz ⟨rfl, hw⟩
    replace hw := hw.symm
    subst hw
    go_wp2_with fail
    refine (unhide R _ (unhide HB3)).mono ?_
    rintro e w4 ⟨rfl, hb⟩
    have HB4 := hide (bstep (unhide HB3) hb)
    clear hb
    go_wp2_with fail
    refine (unhide G _ (unhide HB4)).mono ?_
    rintro e w5 ⟨rfl, hb⟩
    have HB5 := hide (bstep (unhide HB4) hb)
    clear hb
    go_wp2_with fail
    refine (unhide HO _).mono ?_
    rintro e w6 ⟨rfl, hb⟩
    have HB6 := hide (bstep (unhide HB5) hb)
    clear hb
    go_wp2_with fail
    go_ret
    exact ⟨rfl, unhide HB6⟩

theorem walk (n mode p : Int) (v : Value) (ys : List Int) (w : World) (hT : Tb w) (h1 : (Lit.int .i64 n).wf = true) (h2 : (Lit.int .i64 mode).wf = true) (h3 : (Lit.int .i64 p).wf = true) (hI : Ints w v ys) : Calls Tryd.prog 3 #[.int .i64 n, .int .i64 mode, .int .i64 p, v] w fun e w' => e = .returned (.bool true) ∧ Below w.heap.size w w' := by
  by_cases hn : 1 ≤ n ∧ n ≤ 7
  · by_cases hm : mode = 0 ∨ mode = 1
    · by_cases hl : ys.length ≤ 3000
      · cases hs : ys.all M.sclr
        · cases hp : M.sclr p
          · exact walkNoRange n mode p v ys w hT hI hn hp hm hl hs
          · exact walkYesRange n mode p v ys w hT hI hn hp hm hl hs
        · cases hp : M.sclr p
          · exact walkNoOk n mode p v ys w hT hI hn hp hm hl hs
          · exact walkYesOk n mode p v ys w hT hI hn hp hm hl hs
      · cases hp : M.sclr p
        · exact walkNoMany n mode p v ys w hT hI hn hp hm (by omega)
        · exact walkYesMany n mode p v ys w hT hI hn hp hm (by omega)
    · cases hp : M.sclr p
      · exact walkNoMode n mode p v ys w hT hI hn hp hm
      · exact walkYesMode n mode p v ys w hT hI hn hp hm
  · exact walkKind n mode p v ys w hT hI hn

set_option maxRecDepth 100000 in
theorem lifted (os : Os) (started : os.Started) (H : Type) (enc : TypeId × Value → H) :
    ReturnsInHanded {} Tryd.checked os 3 .any (fun w args => (Rows.encoderTellsSpec.pre enc Tryd.prog Tryd.f3 [] false w args ∧ laidMetH Tryd.prog Rows.encoderTellsRow.laid w) ∧ sizedMet enc Tryd.prog Tryd.f3 (OpenSpec.ofChange Rows.encoderTellsSpec) false w args)
      (Rows.encoderTellsSpec.post enc Tryd.prog Tryd.f3 false true false false) := by
  refine returnsInHanded_of_change_and (C := Tryd.checked) (X := fun w _ => laidMetH Tryd.prog Rows.encoderTellsRow.laid w) (fun _ _ _ hh h => h.of_heap hh) own started (by kernel_rfl) Tryd.func3
    (ChangeSpec.witness_shaped (enc := enc) (C := Tryd.checked) (os := os) (X := fun w _ => laidMetH Tryd.prog Rows.encoderTellsRow.laid w) false (World.laidAll Tryd.prog os Rows.encoderTellsRow.laid) #[.int .i64 0, .int .i64 0, .int .i64 0, .slice none 0 0] 8 (World.laidAll_os _ _ _)
      (World.shaped_of_ZipB (by kernel_rfl) (by kernel_rfl)) (by kernel_rfl) (by kernel_rfl) (by kernel_rfl)
      (by rw [MakeChecks.laidMetH_plain _ _ _ (by kernel_rfl)]; exact laidMet_laidAll _ (by kernel_rfl) (by kernel_rfl))) ?_
  intro W base args ds gs before hval0 hW _ hsz0 hL _
  have hval : ∀ (j : Nat) t v, Tryd.f3.params[j]? = some t → args[j]? = some v → Value.okWide Tryd.prog W .any base t v := hval0
  have hW' := hW
  have hT : Tb W := tb_laid hL
  obtain ⟨p, q, hA0, hV, rfl, hfz, hnd⟩ := hW
  have hA : DataW.TrodAll enc Tryd.prog W 0 (fun _ => true) true Tryd.f3.params.toList args.toList ds p := hA0
  rw [Tryd.params3] at hA hval
  obtain ⟨v0, vs0, d0, ds0, p0, q0, hargs, rfl, rfl, h0, r0⟩ := trodAll_cons hA
  obtain ⟨v1, vs1, d1, ds1, p1, q1, rfl, rfl, rfl, h1, r1⟩ := trodAll_cons r0
  obtain ⟨v2, vs2, d2, ds2, p2, q2, rfl, rfl, rfl, h2, r2⟩ := trodAll_cons r1
  obtain ⟨v3, vs3, d3, ds3, p3, q3, rfl, rfl, rfl, h3, r3⟩ := trodAll_cons r2
  obtain ⟨rfl, rfl, rfl⟩ := trodAll_nil r3
  obtain rfl : args = #[v0, v1, v2, v3] := by cases args; simp_all
  obtain ⟨rfl, rfl⟩ := trodVars_none hV
  obtain ⟨a0, rfl, rfl, rfl, w0⟩ := open_int Tryd.underlying3 (hval 0 3 v0 rfl rfl) h0
  obtain ⟨a1, rfl, rfl, rfl, w1⟩ := open_int Tryd.underlying3 (hval 1 3 v1 rfl rfl) h1
  obtain ⟨a2, rfl, rfl, rfl, w2⟩ := open_int Tryd.underlying3 (hval 2 3 v2 rfl rfl) h2
  obtain ⟨a3, len3, cap3, rfl⟩ := okWide_slice Tryd.underlying22 (hval 3 22 v3 rfl rfl)
  have k3 := h3
  have lt3 : ∀ x ∈ p3, x.block < W.heap.size := by obtain ⟨m, hm⟩ := k3; exact DataW.trod_lt m _ _ _ hm
  obtain ⟨z3, w3⟩ : ∃ zs, IsRow .i64 W a3 len3 cap3 zs := by
    obtain ⟨fuel, hf⟩ := h3
    rcases open_ints Tryd.underlying22 Tryd.underlying3 (by kernel_rfl) hf with ⟨hcs, _⟩ | ⟨x, l, c, zs, hcs, _, hl, hm, hz, _, hcell, hwz⟩
    · simp [Value.cells] at hcs
      obtain ⟨rfl, rfl, rfl⟩ := hcs
      exact ⟨[], .inl ⟨rfl, rfl, rfl, rfl⟩⟩
    · simp [Value.cells] at hcs
      obtain ⟨rfl, rfl, rfl⟩ := hcs
      exact ⟨zs, .inr ⟨_, rfl, hl, hm, by simpa using hz, hcell, hwz⟩⟩
  clear hA0 hval0 hL hsz0
  refine (walk a0 a1 a2 (.slice a3 len3 cap3) (z3.take len3) W hT w0 w1 w2 (Ints.of_row w3)).mono fun e W' ⟨he, bel⟩ => ?_
  subst he
  exact ⟨_, rfl, _, _, _, [], _, [], hW', trodAll_mk1 (shut_bool Tryd.underlying4 _), (trodAll_cons_mk (shut_int Tryd.underlying3 w0) (trodAll_cons_mk (shut_int Tryd.underlying3 w1) (trodAll_cons_mk (shut_int Tryd.underlying3 w2) (trodAll_cons_mk (Below.trod laidOut (by kernel_rfl) (of_decide_eq_true (by kernel_rfl)) k3 bel lt3) trodAll_mk0)))), rfl, bel.frame _, fun h => by cases h⟩

theorem said : Rows.EncoderTellsSaid :=
  OpenClaim.holds_of_wide 3 Tryd.f3 rfl rfl rfl rfl rfl rfl rfl ⟨rfl, rfl, rfl, rfl, rfl⟩ rfl rfl rfl rfl rfl (by kernel_rfl) Tryd.func3 (by kernel_rfl)
    (of_decide_eq_true (by kernel_rfl)) (by unfold Func.isWrapper; first | (rw [if_pos (by decide +kernel)]; kernel_rfl) | (rw [if_neg (by decide +kernel)]; exact ⟨rfl, rfl⟩))
    (fun os started H enc _ => lifted os started H enc)

theorem plain (f : FuncId) (fn : Func) (hf : Tryd.pinned.checked.prog.funcNamed Rows.encoderTellsRow.func = some f) (hfn : Tryd.pinned.checked.prog.funcs[f]? = some fn) :
    false = Tryd.pinned.checked.prog.looks [] ∧ ∀ (j : Nat) t, fn.params[j]? = some t → Tryd.pinned.checked.prog.wantsStandIn t = false := by
  obtain rfl : f = 3 := Option.some.inj ((show Tryd.prog.funcNamed Rows.encoderTellsRow.func = some 3 by kernel_rfl).symm.trans hf) |>.symm
  obtain rfl : fn = Tryd.f3 := (Option.some.inj (Tryd.func3.symm.trans hfn)).symm
  refine ⟨by kernel_rfl, fun j t ht => ?_⟩
  rw [Tryd.params3] at ht
  have hm : t = 3 ∨ t = 22 := by
    have := Array.mem_of_getElem? ht
    simp at this
    omega
  rcases hm with rfl | rfl
  · exact (show Tryd.prog.wantsStandIn 3 = false by kernel_rfl)
  · exact (show Tryd.prog.wantsStandIn 22 = false by kernel_rfl)

theorem card : Rows.EncoderTellsCardSaid :=
  Claim7.holds_tied_plain_at .later [] _ _ _ _ said (fun _ h => by cases h) (by kernel_rfl) (fun _ h => by cases h) encoderTells_row_tie rfl ⟨rfl, rfl⟩ (by kernel_rfl) rfl plain (by kernel_rfl)
end Go.Proofs.YthhjfedegbldfadDoor.encoderTells

namespace Go.Proofs.YthhjfedegbldfadDoor
theorem encoderTells_holds : Rows.EncoderTellsCardSaid := encoderTells.card
end Go.Proofs.YthhjfedegbldfadDoor
