/- The contract of cartouchelaw.encoderBegun: true; nothing that was there is written. Condition: strconv.Itoa answers numerals in that world. -/
import Derived.Test.YthhjfedegbldfadDoorEE
namespace Go.Proofs.YthhjfedegbldfadDoor
open Go.RowKit
set_option linter.unusedVariables false

theorem digs_b : M.digs 12354 = [49, 50, 51, 53, 52] := by
  rw [M.digs_hi (by decide), M.digs_hi (by decide), M.digs_hi (by decide), M.digs_hi (by decide), M.digs_lo (by decide)]
  decide
theorem res_b : resW 4 1 [8364, 12354] = .tuple #[.string ⟨#[128, 38, 35, 49, 50, 51, 53, 52, 59]⟩, .int .i64 0] := by
  have h1 : M.hasE 4 8364 = true := by decide +kernel
  have h2 : M.hasE 4 12354 = false := by decide +kernel
  have e : M.ptsE 4 [8364, 12354] = [8364, 38, 35, 49, 50, 51, 53, 52, 59] := by
    show M.ptE 4 8364 ++ (M.ptE 4 12354 ++ []) = _
    rw [M.ptE_yes h1, M.ptE_no h2]
    unfold M.tld
    rw [show (12354 : Int).toNat = 12354 from rfl, digs_b]
    rfl
  rw [resW_yes (.inl rfl), e]
  have : strOfNums (M.encB 4 [8364, 38, 35, 49, 50, 51, 53, 52, 59]) = ⟨#[128, 38, 35, 49, 50, 51, 53, 52, 59]⟩ := by decide +kernel
  rw [this]
theorem res_c : resW 4 0 [12354] = .tuple #[.string ⟨#[]⟩, .int .i64 5] := resW_no rfl (by decide +kernel)

set_option maxHeartbeats 800000 in
set_option maxRecDepth 100000 in
theorem encoderBegun_any (w : World) (hT : Tb w) : Calls Tryd.prog 14 #[] w fun e w' => e = .returned (.bool true) ∧ Below w.heap.size w w' := by
  have o1 := hide (fun w => Output_yes 3 w (by decide))
  rw [show M.outE 3 = 1 from rfl] at o1
  have a1 := hide (fun w => Has_yes 4 8364 w (by decide) (by decide))
  rw [show M.hasE 4 8364 = true from by decide +kernel] at a1
  have a2 := hide (fun w => Has_yes 6 8364 w (by decide) (by decide))
  rw [show M.hasE 6 8364 = false from by decide +kernel] at a2
  have e1 := hide (fun (w' : World) (hb : Below w.heap.size w w') => Enc_ok 4 1 (w'.alloc (.cells #[.int .i64 8364, .int .i64 12354] 3)) (hT.below (bstep hb (balloc _ _))) (by decide) (.inr rfl) (two_ints w' 8364 12354) (by decide) (by decide))
  rw [res_b] at e1
  have e2 := hide (fun (w' : World) (hb : Below w.heap.size w w') => Enc_ok 4 0 (w'.alloc (.cells #[.int .i64 12354] 3)) (hT.below (bstep hb (balloc _ _))) (by decide) (.inl rfl) (one_int w' 12354) (by decide) (by decide))
  rw [res_c] at e2
  clear hT
  go_enter Tryd.func14, Tryd.ntmps14
  go_wp2_with fail
  refine (unhide o1 _).mono ?_
  rintro e w1 ⟨rfl, hb1⟩
  have HB1 := hide hb1
  clear hb1 o1
  go_wp2_with fail
  refine (unhide a1 _).mono ?_
  rintro e w2 ⟨rfl, hb2⟩
  have HB2 := hide (bstep (unhide HB1) hb2)
  clear hb2 a1
  go_wp2_with fail
  refine (unhide a2 _).mono ?_
  rintro e w3 ⟨rfl, hb3⟩
  have HB3 := hide (bstep (unhide HB2) hb3)
  clear hb3 a2
  go_wp2_with fail
  refine (unhide e1 _ (unhide HB3)).mono ?_
  rintro e w4 ⟨rfl, hb4⟩
  have HB4 := hide (bstep (bstep (unhide HB3) (balloc _ _)) hb4)
  clear hb4 e1
  go_wp2_with fail
  refine (unhide e2 _ (unhide HB4)).mono ?_
  rintro e w5 ⟨rfl, hb5⟩
  have HB5 := hide (bstep (bstep (unhide HB4) (balloc _ _)) hb5)
  clear hb5 e2
  go_wp2_with fail
  go_ret
  exact ⟨rfl, unhide HB5⟩
end Go.Proofs.YthhjfedegbldfadDoor
