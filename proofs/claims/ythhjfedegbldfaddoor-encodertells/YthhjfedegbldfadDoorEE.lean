/- The contracts of encoder.Output, Has and Encode: each returns what the plain function of its name computes, errors too; nothing that was there is written. Condition of Encode: strconv.Itoa answers numerals in that world. -/
import Derived.Test.YthhjfedegbldfadDoorEW
import Derived.Test.YthhjfedegbldfadDoorLN
import Derived.Test.YthhjfedegbldfadDoorEnc8
namespace Go.Proofs.YthhjfedegbldfadDoor
open Go.RowKit
set_option linter.unusedVariables false

set_option maxHeartbeats 400000 in
set_option maxRecDepth 100000 in
theorem Output_no (n : Int) (w : World) (hn : ¬ (1 ≤ n ∧ n ≤ 7)) : Calls Tryd.prog 7 #[.int .i64 n] w fun e w' => e = .returned (.tuple #[.int .i64 0, .int .i64 6]) ∧ Below w.heap.size w w' := by
  have HN := hide (fun w => Name_no n w hn)
  clear hn
  go_enter Tryd.func7, Tryd.ntmps7
  go_wp2_with fail
  refine (unhide HN _).mono ?_
  rintro e w1 ⟨rfl, hb1⟩
  have HB1 := hide hb1
  clear hb1 HN
  go_wp2_with fail
  go_ret2
  exact ⟨rfl, unhide HB1⟩
set_option maxHeartbeats 800000 in
set_option maxRecDepth 100000 in
theorem Output_yes (n : Int) (w : World) (hn : 1 ≤ n ∧ n ≤ 7) : Calls Tryd.prog 7 #[.int .i64 n] w fun e w' => e = .returned (.tuple #[.int .i64 (M.outE n), .int .i64 0]) ∧ Below w.heap.size w w' := by
  have HN := hide (fun w => Name_yes n w hn)
  generalize nameI n = nam at HN
  rcases (show n = 1 ∨ n = 2 ∨ n = 3 ∨ n = 4 ∨ n = 5 ∨ n = 6 ∨ n = 7 from by omega) with rfl | rfl | rfl | rfl | rfl | rfl | rfl
  all_goals
    clear hn
    go_enter Tryd.func7, Tryd.ntmps7
    go_wp2_with fail
    refine (unhide HN _).mono ?_
    rintro e w1 ⟨rfl, hb1⟩
    have HB1 := hide hb1
    clear hb1 HN
    go_wp2_with fail
    go_ret2
    exact ⟨rfl, unhide HB1⟩

set_option maxHeartbeats 400000 in
set_option maxRecDepth 100000 in
theorem Has_kind (n p : Int) (w : World) (hn : ¬ (1 ≤ n ∧ n ≤ 7)) : Calls Tryd.prog 8 #[.int .i64 n, .int .i64 p] w fun e w' => e = .returned (.tuple #[.bool false, .int .i64 6]) ∧ Below w.heap.size w w' := by
  have HN := hide (fun w => Output_no n w hn)
  clear hn
  go_enter Tryd.func8, Tryd.ntmps8
  go_wp2_with fail
  refine (unhide HN _).mono ?_
  rintro e w1 ⟨rfl, hb1⟩
  have HB1 := hide hb1
  clear hb1 HN
  go_wp2_with fail
  go_ret2
  exact ⟨rfl, unhide HB1⟩
set_option maxHeartbeats 400000 in
set_option maxRecDepth 100000 in
theorem Has_range (n p : Int) (w : World) (hn : 1 ≤ n ∧ n ≤ 7) (hp : M.sclr p = false) : Calls Tryd.prog 8 #[.int .i64 n, .int .i64 p] w fun e w' => e = .returned (.tuple #[.bool false, .int .i64 3]) ∧ Below w.heap.size w w' := by
  have HN := hide (fun w => Output_yes n w hn)
  have HE := hide (fun w : World => encode_any (w.alloc (.cells #[.int .i64 p] 3)) (one_int w p) (by simp))
  rw [encRes_no (by simp [hp])] at HE
  generalize M.outE n = o at *
  clear hn hp
  go_enter Tryd.func8, Tryd.ntmps8
  go_wp2_with fail
  refine (unhide HN _).mono ?_
  rintro e w1 ⟨rfl, hb1⟩
  have HB1 := hide hb1
  clear hb1 HN
  go_wp2_with fail
  refine (unhide HE _).mono ?_
  rintro e w2 ⟨hb2, rfl⟩
  have HB2 := hide (bstep (bstep (unhide HB1) (balloc _ _)) hb2)
  clear hb2 HE
  go_wp2_with fail
  go_ret2
  exact ⟨rfl, unhide HB2⟩
set_option maxHeartbeats 1600000 in
set_option maxRecDepth 100000 in
theorem Has_yes (n p : Int) (w : World) (hn : 1 ≤ n ∧ n ≤ 7) (hp : M.sclr p = true) : Calls Tryd.prog 8 #[.int .i64 n, .int .i64 p] w fun e w' => e = .returned (.tuple #[.bool (M.hasE n p), .int .i64 0]) ∧ Below w.heap.size w w' := by
  have HN := hide (fun w => Output_yes n w hn)
  have HE := hide (fun w : World => encode_any (w.alloc (.cells #[.int .i64 p] 3)) (one_int w p) (by simp))
  rw [encRes_yes (by simp [hp])] at HE
  generalize strOfNums (M.enc [p]) = es at HE
  have HP := hide hp
  rw [← M.hasE_out]
  rcases M.outE_bd hn with ho | ho | ho | ho
  · rw [ho] at HN ⊢
    clear hn ho hp
    have HK := hide (fun w => knownU_any w)
    go_enter Tryd.func8, Tryd.ntmps8
    go_wp2_with fail
    refine (unhide HN _).mono ?_
    rintro e w1 ⟨rfl, hb1⟩
    have HB1 := hide hb1
    clear hb1 HN
    go_wp2_with fail
    refine (unhide HE _).mono ?_
    rintro e w2 ⟨hb2, rfl⟩
    have HB2 := hide (bstep (bstep (unhide HB1) (balloc _ _)) hb2)
    clear hb2 HE
    go_wp2_with fail
    refine (unhide HK _).mono ?_
    rintro e w3 ⟨rfl, hw⟩
    replace hw := hw.symm
    subst hw
    go_wp2_with fail
    refine (hasU_any p _).mono ?_
    rintro e w3 ⟨rfl, hw⟩
    replace hw := hw.symm
    subst hw
    go_wp2_with fail
    go_ret2
    exact ⟨rfl, unhide HB2⟩
  · rw [ho] at HN ⊢
    clear hn ho hp
    have HK := hide (fun w => knownS_any false 4 rfl w)
    rw [M.hasE_four]
    go_enter Tryd.func8, Tryd.ntmps8
    go_wp2_with fail
    refine (unhide HN _).mono ?_
    rintro e w1 ⟨rfl, hb1⟩
    have HB1 := hide hb1
    clear hb1 HN
    go_wp2_with fail
    refine (unhide HE _).mono ?_
    rintro e w2 ⟨hb2, rfl⟩
    have HB2 := hide (bstep (bstep (unhide HB1) (balloc _ _)) hb2)
    clear hb2 HE
    go_wp2_with fail
    refine (unhide HK _).mono ?_
    rintro e w3 ⟨B, rfl, hP, hb3⟩
    have HB3 := hide (bstep (unhide HB2) hb3)
    have HPt := hide hP
    clear hb3 hP
    go_wp2_with fail
    refine (hasS_any false B p _ (unhide HPt)).mono ?_
    rintro e w4 ⟨rfl, hw⟩
    replace hw := hw.symm
    subst hw
    go_wp2_with fail
    go_ret2
    exact ⟨rfl, unhide HB3⟩
  · rw [ho] at HN ⊢
    clear hn ho hp
    have HK := hide (fun w => knownS_any true 5 rfl w)
    rw [M.hasE_five]
    go_enter Tryd.func8, Tryd.ntmps8
    go_wp2_with fail
    refine (unhide HN _).mono ?_
    rintro e w1 ⟨rfl, hb1⟩
    have HB1 := hide hb1
    clear hb1 HN
    go_wp2_with fail
    refine (unhide HE _).mono ?_
    rintro e w2 ⟨hb2, rfl⟩
    have HB2 := hide (bstep (bstep (unhide HB1) (balloc _ _)) hb2)
    clear hb2 HE
    go_wp2_with fail
    refine (unhide HK _).mono ?_
    rintro e w3 ⟨B, rfl, hP, hb3⟩
    have HB3 := hide (bstep (unhide HB2) hb3)
    have HPt := hide hP
    clear hb3 hP
    go_wp2_with fail
    refine (hasS_any true B p _ (unhide HPt)).mono ?_
    rintro e w4 ⟨rfl, hw⟩
    replace hw := hw.symm
    subst hw
    go_wp2_with fail
    go_ret2
    exact ⟨rfl, unhide HB3⟩
  · rw [ho] at HN ⊢
    clear hn ho hp
    have HK := hide (fun w => knownK_any w)
    rw [M.hasE_six]
    go_enter Tryd.func8, Tryd.ntmps8
    go_wp2_with fail
    refine (unhide HN _).mono ?_
    rintro e w1 ⟨rfl, hb1⟩
    have HB1 := hide hb1
    clear hb1 HN
    go_wp2_with fail
    refine (unhide HE _).mono ?_
    rintro e w2 ⟨hb2, rfl⟩
    have HB2 := hide (bstep (bstep (unhide HB1) (balloc _ _)) hb2)
    clear hb2 HE
    go_wp2_with fail
    refine (unhide HK _).mono ?_
    rintro e w3 ⟨rfl, hw⟩
    replace hw := hw.symm
    subst hw
    go_wp2_with fail
    refine (hasK_any p _ (Gi_of (unhide HP))).mono ?_
    rintro e w4 ⟨rfl, hb4⟩
    have HB4 := hide (bstep (unhide HB2) hb4)
    clear hb4
    go_wp2_with fail
    go_ret2
    exact ⟨rfl, unhide HB4⟩

set_option maxHeartbeats 400000 in
set_option maxRecDepth 100000 in
theorem Enc_kind (n mode : Int) (ao : Option Addr) (len cap : Nat) (w : World) (hn : ¬ (1 ≤ n ∧ n ≤ 7)) : Calls Tryd.prog 9 #[.int .i64 n, .int .i64 mode, .slice ao len cap] w fun e w' => e = .returned (.tuple #[.string ⟨#[]⟩, .int .i64 6]) ∧ Below w.heap.size w w' := by
  have HN := hide (fun w => Output_no n w hn)
  clear hn
  go_enter Tryd.func9, Tryd.ntmps9
  go_wp2_with fail
  refine (unhide HN _).mono ?_
  rintro e w1 ⟨rfl, hb1⟩
  have HB1 := hide hb1
  clear hb1 HN
  go_wp2_with fail
  go_ret2
  exact ⟨rfl, unhide HB1⟩
set_option maxHeartbeats 400000 in
set_option maxRecDepth 100000 in
theorem Enc_mode (n mode : Int) (ao : Option Addr) (len cap : Nat) (w : World) (hn : 1 ≤ n ∧ n ≤ 7) (hm : ¬ (mode = 0 ∨ mode = 1)) : Calls Tryd.prog 9 #[.int .i64 n, .int .i64 mode, .slice ao len cap] w fun e w' => e = .returned (.tuple #[.string ⟨#[]⟩, .int .i64 4]) ∧ Below w.heap.size w w' := by
  have HN := hide (fun w => Output_yes n w hn)
  generalize M.outE n = o at *
  have m0 : (mode != 0) = true := by simp; omega
  have m1 : (mode != 1) = true := by simp; omega
  clear hn hm
  go_enter Tryd.func9, Tryd.ntmps9
  go_wp2_with fail
  refine (unhide HN _).mono ?_
  rintro e w1 ⟨rfl, hb1⟩
  have HB1 := hide hb1
  clear hb1 HN
  go_wp2_with fail
  go_ret2
  exact ⟨rfl, unhide HB1⟩
set_option maxHeartbeats 400000 in
set_option maxRecDepth 100000 in
theorem Enc_many (n mode : Int) (ao : Option Addr) (len cap : Nat) (w : World) (hn : 1 ≤ n ∧ n ≤ 7) (hm : mode = 0 ∨ mode = 1) (hl : 3000 < len) (hx : len ≤ maxLen) : Calls Tryd.prog 9 #[.int .i64 n, .int .i64 mode, .slice ao len cap] w fun e w' => e = .returned (.tuple #[.string ⟨#[]⟩, .int .i64 2]) ∧ Below w.heap.size w w' := by
  have HN := hide (fun w => Output_yes n w hn)
  have HE := hide (fun w => encode_many ao len cap w hl hx)
  generalize M.outE n = o at *
  clear hn hl hx
  rcases hm with rfl | rfl
  all_goals
    go_enter Tryd.func9, Tryd.ntmps9
    go_wp2_with fail
    refine (unhide HN _).mono ?_
    rintro e w1 ⟨rfl, hb1⟩
    have HB1 := hide hb1
    clear hb1 HN
    go_wp2_with fail
    refine (unhide HE _).mono ?_
    rintro e w2 ⟨rfl, hw⟩
    replace hw := hw.symm
    subst hw
    go_wp2_with fail
    go_ret2
    exact ⟨rfl, unhide HB1⟩
set_option maxHeartbeats 400000 in
set_option maxRecDepth 100000 in
theorem Enc_range (n mode : Int) {v : Value} {xs : List Int} (w : World) (hn : 1 ≤ n ∧ n ≤ 7) (hm : mode = 0 ∨ mode = 1) (hI : Ints w v xs) (hl : xs.length ≤ 3000) (hs : xs.all M.sclr = false) : Calls Tryd.prog 9 #[.int .i64 n, .int .i64 mode, v] w fun e w' => e = .returned (.tuple #[.string ⟨#[]⟩, .int .i64 3]) ∧ Below w.heap.size w w' := by
  have HN := hide (fun w => Output_yes n w hn)
  have HE := hide (fun (w' : World) (hb : Below w.heap.size w w') => encode_any w' (hI.below hb) hl)
  rw [encRes_no hs] at HE
  generalize M.outE n = o at *
  obtain ⟨ao, cap, rfl, -, -, -⟩ := hI
  clear hn hs
  rcases hm with rfl | rfl
  all_goals
    go_enter Tryd.func9, Tryd.ntmps9
    go_wp2_with fail
    refine (unhide HN _).mono ?_
    rintro e w1 ⟨rfl, hb1⟩
    have HB1 := hide hb1
    clear hb1 HN
    go_wp2_with fail
    refine (unhide HE _ (unhide HB1)).mono ?_
    rintro e w2 ⟨hb2, rfl⟩
    have HB2 := hide (bstep (unhide HB1) hb2)
    clear hb2 HE
    go_wp2_with fail
    go_ret2
    exact ⟨rfl, unhide HB2⟩

theorem resW_one {n mode : Int} {xs : List Int} (h : M.outE n = 1) : resW n mode xs = .tuple #[.string (strOfNums (M.enc xs)), .int .i64 0] := by
  rw [resW_yes (.inr (List.all_eq_true.2 fun x _ => M.hasE_one h x)), M.ptsE_one h, ← M.encB_out, h, M.encB_1]
set_option maxHeartbeats 1600000 in
set_option maxRecDepth 100000 in
theorem Enc_ok (n mode : Int) {v : Value} {xs : List Int} (w : World) (hT : Tb w) (hn : 1 ≤ n ∧ n ≤ 7) (hm : mode = 0 ∨ mode = 1) (hI : Ints w v xs) (hl : xs.length ≤ 3000) (hs : xs.all M.sclr = true) : Calls Tryd.prog 9 #[.int .i64 n, .int .i64 mode, v] w fun e w' => e = .returned (resW n mode xs) ∧ Below w.heap.size w w' := by
  have HN := hide (fun w => Output_yes n w hn)
  have HE := hide (fun (w' : World) (hb : Below w.heap.size w w') => encode_any w' (hI.below hb) hl)
  rw [encRes_yes hs] at HE
  have m01 : (mode == 0) = false → (mode == 1) = true := by rcases hm with rfl | rfl <;> simp
  have HM := hide hm
  by_cases ho : M.outE n = 1
  · rw [resW_one ho]
    rw [ho] at HN
    generalize strOfNums (M.enc xs) = es at *
    obtain ⟨ao, cap, rfl, -, -, -⟩ := hI
    clear hn hs ho m01
    rcases hm with rfl | rfl
    all_goals
      go_enter Tryd.func9, Tryd.ntmps9
      go_wp2_with fail
      refine (unhide HN _).mono ?_
      rintro e w1 ⟨rfl, hb1⟩
      have HB1 := hide hb1
      clear hb1 HN
      go_wp2_with fail
      refine (unhide HE _ (unhide HB1)).mono ?_
      rintro e w2 ⟨hb2, rfl⟩
      have HB2 := hide (bstep (unhide HB1) hb2)
      clear hb2 HE
      go_wp2_with fail
      go_ret2
      exact ⟨rfl, unhide HB2⟩
  · have HW : Hid (∀ w', Below w.heap.size w w' → Calls Tryd.prog 22 #[.int .i64 (M.outE n), .int .i64 mode, v] w' fun e w'' => e = .returned (resW n mode xs) ∧ Below w'.heap.size w' w'') := hide (fun w' hb => by
      have e : M.outE n = n := by unfold M.outE at ho ⊢; split at ho <;> simp_all
      rw [e] at ho ⊢
      rcases M.outE_bd hn with h | h | h | h
      · rw [e] at h; exact absurd h ho
      · rw [e] at h; exact writeS_any false n (by simpa using h) mode hm v xs w' (hT.below hb) (hI.below hb) hl hs
      · rw [e] at h; exact writeS_any true n (by simpa using h) mode hm v xs w' (hT.below hb) (hI.below hb) hl hs
      · rw [e] at h; subst h; exact writeK_any mode hm v xs w' (hT.below hb) (hI.below hb) hl hs)
    have ho' : (M.outE n == 1) = false := by simpa using ho
    have HV : Hid (resW n mode xs = .tuple #[.string (strOfNums (M.encB n (M.ptsE n xs))), .int .i64 0] ∨ resW n mode xs = .tuple #[.string ⟨#[]⟩, .int .i64 5]) := hide (by unfold resW; split <;> simp)
    generalize strOfNums (M.enc xs) = es at *
    generalize M.outE n = o at *
    obtain ⟨r, HR⟩ : ∃ r, Hid (resW n mode xs = r) := ⟨_, hide rfl⟩
    rw [unhide HR] at HW HV ⊢
    generalize strOfNums (M.encB n (M.ptsE n xs)) = bs at *
    obtain ⟨ao, cap, rfl, -, -, -⟩ := hI
    clear hn hs ho m01 HR hT
    rcases unhide HV with rfl | rfl <;> rcases hm with rfl | rfl
    all_goals
      clear HV
      go_enter Tryd.func9, Tryd.ntmps9
      go_wp2_with fail
      refine (unhide HN _).mono ?_
      rintro e w1 ⟨rfl, hb1⟩
      have HB1 := hide hb1
      clear hb1 HN
      go_wp2_with fail
      refine (unhide HE _ (unhide HB1)).mono ?_
      rintro e w2 ⟨hb2, rfl⟩
      have HB2 := hide (bstep (unhide HB1) hb2)
      clear hb2 HE
      go_wp2_with fail
      refine (unhide HW _ (unhide HB2)).mono ?_
      rintro e w3 ⟨rfl, hb3⟩
      have HB3 := hide (bstep (unhide HB2) hb3)
      clear hb3 HW
      go_wp2_with fail
      go_ret2
      exact ⟨rfl, unhide HB3⟩
end Go.Proofs.YthhjfedegbldfadDoor
