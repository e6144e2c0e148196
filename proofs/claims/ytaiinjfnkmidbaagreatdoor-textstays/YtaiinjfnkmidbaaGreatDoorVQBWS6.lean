/- The walk of TextStays over what text's calls have to answer: true; nothing that was there is written. -/
import Derived.Test.YtaiinjfnkmidbaaGreatDoorQB9
import Derived.Test.YtaiinjfnkmidbaaGreatDoorVQBWT6
namespace Go.Proofs.YtaiinjfnkmidbaaGreatDoor
open Go.RowKit
set_option linter.unusedVariables false

theorem mkB_few (n : Int) : (mkB n).size ≤ 3 := by unfold mkB; split <;> (try split) <;> (try split) <;> decide
/-- What was recoded with every code point that can be written: behind its mark it is decoded to the same. -/
theorem stays_1 {L s : ByteArray} {n : Int} (hn : 1 ≤ n ∧ n ≤ 7) (ho : M.outE n = 1) : M.sn (bl (rcB L (bl s) n)) = (1, 3) ∧ 3 ≤ (rcB L (bl s) n).size ∧ M.decE 1 (bl ((rcB L (bl s) n).extract 3 (rcB L (bl s) n).size)) = whI L (bl s) := by
  have hb := back_is hn (whI_sclr L s) (by rw [List.all_eq_true]; intro x _; exact M.hasE_one ho x)
  rw [ho] at hb
  have e : bl (rcB L (bl s) n) = [239, 187, 191] ++ bl (strOfNums (M.encB n (whI L (bl s)))) := by
    unfold rcB
    rw [bl_app, ho, M.ptsE_one ho]
    rfl
  refine ⟨?_, ?_, ?_⟩
  · rw [e]; unfold M.sn; rw [if_pos ⟨_, rfl⟩]
  · rw [← bl_len, e, List.length_append]; simp
  · rw [bl_extract, e]; exact hb
theorem stays_0 {L s : ByteArray} {n : Int} (hn : 1 ≤ n ∧ n ≤ 7) (ho : M.outE n ≠ 1) (ha : (whI L (bl s)).all (M.hasE n) = true) : M.decE (M.outE n) (bl (rcB L (bl s) n)) = whI L (bl s) := by
  have hb := back_is hn (whI_sclr L s) ha
  have e : bl (rcB L (bl s) n) = bl (strOfNums (M.encB n (whI L (bl s)))) := by
    unfold rcB
    have e2 : mkB (M.outE n) = ⟨#[]⟩ := by
      have := M.outE_bd hn
      unfold mkB
      rw [if_neg ho, if_neg (by omega), if_neg (by omega)]
    rw [bl_app, e2, M.ptsE_all n _ ha]
    rfl
  rw [e]; exact hb
set_option maxHeartbeats 3200000 in
set_option maxRecDepth 100000 in
theorem stays_long (hD : DcSays) (hDE : DcErrs) (hR : RcSays) (hRE : RcErrs) (hRK : RcKind) (hCt : CtSays) (name s : ByteArray) (n : Int) (w : World) (hMx : Mx w) (hT : Tb w) (hn : name.size ≤ maxLen) (hs : s.size ≤ maxLen) (h : 3000 < name.size ∨ 3000 < s.size) :
    Calls Tryz.prog 9 #[.string name, .string s, .int .i64 n] w fun e w' => e = .returned (.bool true) ∧ Below w.heap.size w w' := by
  have HM := hide hMx
  have HT := hide hT
  have GX := hide (fun w h h' => begunX_any hD hR hCt w h h')
  have GE := hide (fun w h => encoderBegun_any w h)
  have GT := hide (fun w => begunT_any w)
  have r1 := hide (fun w hm => hDE name s w hn hs h hm)
  have r2 := hide (fun w hm ht => hRE name s n w hn hs h hm ht)
  clear h
  unfold maxLen at hn hs
  clear hD hDE hR hRE hRK hCt hMx hT
  go_enter Tryz.func9, Tryz.ntmps9
  go_wp2_with fail
  refine (unhide GX _ (unhide HM) (unhide HT)).mono ?_
  rintro e w1 ⟨rfl, hb1⟩
  have HB1 := hide hb1
  clear hb1 GX
  go_wp2_with fail
  refine (unhide GE _ ((unhide HT).below (unhide HB1))).mono ?_
  rintro e w2 ⟨rfl, hb2⟩
  have HB2 := hide (bstep (unhide HB1) hb2)
  clear hb2 GE HB1
  go_wp2_with fail
  refine (unhide GT _).mono ?_
  rintro e w3 ⟨rfl, hb3⟩
  have HB3 := hide (bstep (unhide HB2) hb3)
  clear hb3 GT HB2
  go_wp2_with fail
  refine (unhide r1 _ ((unhide HM).below (unhide HB3))).mono ?_
  rintro e w4 ⟨v4, rfl, hI4, hb4⟩
  have I4 := hide hI4
  obtain ⟨ao, cap, rfl, -⟩ := hI4
  have HB4 := hide (bstep (unhide HB3) hb4)
  clear hb4 HB3 r1
  go_wp2_with fail
  refine (unhide r2 _ ((unhide HM).below (unhide HB4)) ((unhide HT).below (unhide HB4))).mono ?_
  rintro e w5 ⟨rfl, hb5⟩
  have I5 := hide ((unhide I4).below hb5)
  have HB5 := hide (bstep (unhide HB4) hb5)
  clear hb5 HB4 r2 I4
  go_wp2_with fail
  go_ret
  exact ⟨rfl, unhide HB5⟩
set_option maxHeartbeats 3200000 in
set_option maxRecDepth 100000 in
theorem stays_kind (hD : DcSays) (hDE : DcErrs) (hR : RcSays) (hRE : RcErrs) (hRK : RcKind) (hCt : CtSays) (name s : ByteArray) (n : Int) (w : World) (hMx : Mx w) (hT : Tb w) (hn : name.size ≤ maxLen) (hs : s.size ≤ maxLen) (h0 : name.size ≤ 3000) (h1 : s.size ≤ 3000) (h : ¬ (1 ≤ n ∧ n ≤ 7)) :
    Calls Tryz.prog 9 #[.string name, .string s, .int .i64 n] w fun e w' => e = .returned (.bool true) ∧ Below w.heap.size w w' := by
  have HM := hide hMx
  have HT := hide hT
  have GX := hide (fun w h h' => begunX_any hD hR hCt w h h')
  have GE := hide (fun w h => encoderBegun_any w h)
  have GT := hide (fun w => begunT_any w)
  have r1 := hide (fun w hm => hD name s w h0 h1 hm)
  have r2 := hide (fun w hm ht => hRK name s n w h0 h1 h hm ht)
  generalize whI name (bl s) = X at *
  generalize (chI name (bl s)).1 = n1 at *
  generalize (chI name (bl s)).2.1 = y1 at *
  clear h
  unfold maxLen at hn hs
  clear hD hDE hR hRE hRK hCt hMx hT
  go_enter Tryz.func9, Tryz.ntmps9
  go_wp2_with fail
  refine (unhide GX _ (unhide HM) (unhide HT)).mono ?_
  rintro e w1 ⟨rfl, hb1⟩
  have HB1 := hide hb1
  clear hb1 GX
  go_wp2_with fail
  refine (unhide GE _ ((unhide HT).below (unhide HB1))).mono ?_
  rintro e w2 ⟨rfl, hb2⟩
  have HB2 := hide (bstep (unhide HB1) hb2)
  clear hb2 GE HB1
  go_wp2_with fail
  refine (unhide GT _).mono ?_
  rintro e w3 ⟨rfl, hb3⟩
  have HB3 := hide (bstep (unhide HB2) hb3)
  clear hb3 GT HB2
  go_wp2_with fail
  refine (unhide r1 _ ((unhide HM).below (unhide HB3))).mono ?_
  rintro e w4 ⟨v4, rfl, ho4, hb4⟩
  obtain ⟨ao, cap, hsh4⟩ := owns_shape ho4
  subst hsh4
  have I4 := hide (Ints.of_owns ho4)
  have HB4 := hide (bstep (unhide HB3) hb4)
  clear hb4 HB3 r1 ho4
  go_wp2_with fail
  refine (unhide r2 _ ((unhide HM).below (unhide HB4)) ((unhide HT).below (unhide HB4))).mono ?_
  rintro e w5 ⟨rfl, hb5⟩
  have I5 := hide ((unhide I4).below hb5)
  have HB5 := hide (bstep (unhide HB4) hb5)
  clear hb5 HB4 r2 I4
  go_wp2_with fail
  go_ret
  exact ⟨rfl, unhide HB5⟩
set_option maxHeartbeats 3200000 in
set_option maxRecDepth 100000 in
theorem stays_great (hD : DcSays) (hDE : DcErrs) (hR : RcSays) (hRE : RcErrs) (hRK : RcKind) (hCt : CtSays) (name s : ByteArray) (n : Int) (w : World) (hMx : Mx w) (hT : Tb w) (hn : name.size ≤ maxLen) (hs : s.size ≤ maxLen) (h0 : name.size ≤ 3000) (h1 : s.size ≤ 3000) (h : 1 ≤ n ∧ n ≤ 7) (hz : 3000 < (rcB name (bl s) n).size) :
    Calls Tryz.prog 9 #[.string name, .string s, .int .i64 n] w fun e w' => e = .returned (.bool true) ∧ Below w.heap.size w w' := by
  have HM := hide hMx
  have HT := hide hT
  have GX := hide (fun w h h' => begunX_any hD hR hCt w h h')
  have GE := hide (fun w h => encoderBegun_any w h)
  have GT := hide (fun w => begunT_any w)
  have r1 := hide (fun w hm => hD name s w h0 h1 hm)
  have r2 := hide (fun w hm ht => hR name s n w h0 h1 h hm ht)
  have hz1 : (rcB name (bl s) n).size ≤ 200003 := by
    unfold rcB
    rw [ByteArray.size_append]
    have a := mkB_few (M.outE n)
    have b := encB_any h (whI_sclr name s) (by have := whI_few name s; omega)
    omega
  generalize whI name (bl s) = X at *
  generalize rcB name (bl s) n = RC at *
  generalize (chI name (bl s)).1 = n1 at *
  generalize (chI name (bl s)).2.1 = y1 at *
  unfold maxLen at hn hs
  clear hD hDE hR hRE hRK hCt hMx hT
  go_enter Tryz.func9, Tryz.ntmps9
  go_wp2_with fail
  refine (unhide GX _ (unhide HM) (unhide HT)).mono ?_
  rintro e w1 ⟨rfl, hb1⟩
  have HB1 := hide hb1
  clear hb1 GX
  go_wp2_with fail
  refine (unhide GE _ ((unhide HT).below (unhide HB1))).mono ?_
  rintro e w2 ⟨rfl, hb2⟩
  have HB2 := hide (bstep (unhide HB1) hb2)
  clear hb2 GE HB1
  go_wp2_with fail
  refine (unhide GT _).mono ?_
  rintro e w3 ⟨rfl, hb3⟩
  have HB3 := hide (bstep (unhide HB2) hb3)
  clear hb3 GT HB2
  go_wp2_with fail
  refine (unhide r1 _ ((unhide HM).below (unhide HB3))).mono ?_
  rintro e w4 ⟨v4, rfl, ho4, hb4⟩
  obtain ⟨ao, cap, hsh4⟩ := owns_shape ho4
  subst hsh4
  have I4 := hide (Ints.of_owns ho4)
  have HB4 := hide (bstep (unhide HB3) hb4)
  clear hb4 HB3 r1 ho4
  go_wp2_with fail
  refine (unhide r2 _ ((unhide HM).below (unhide HB4)) ((unhide HT).below (unhide HB4))).mono ?_
  rintro e w5 ⟨rfl, hb5⟩
  have I5 := hide ((unhide I4).below hb5)
  have HB5 := hide (bstep (unhide HB4) hb5)
  clear hb5 HB4 r2 I4
  go_wp2_with fail
  go_ret
  exact ⟨rfl, unhide HB5⟩
set_option maxHeartbeats 3200000 in
set_option maxRecDepth 100000 in
theorem stays_one (hD : DcSays) (hDE : DcErrs) (hR : RcSays) (hRE : RcErrs) (hRK : RcKind) (hCt : CtSays) (name s : ByteArray) (n : Int) (w : World) (hMx : Mx w) (hT : Tb w) (hn : name.size ≤ maxLen) (hs : s.size ≤ maxLen) (h0 : name.size ≤ 3000) (h1 : s.size ≤ 3000) (h : 1 ≤ n ∧ n ≤ 7) (hz : (rcB name (bl s) n).size ≤ 3000) (ho : M.outE n = 1) :
    Calls Tryz.prog 9 #[.string name, .string s, .int .i64 n] w fun e w' => e = .returned (.bool true) ∧ Below w.heap.size w w' := by
  have HM := hide hMx
  have HT := hide hT
  have GX := hide (fun w h h' => begunX_any hD hR hCt w h h')
  have GE := hide (fun w h => encoderBegun_any w h)
  have GT := hide (fun w => begunT_any w)
  have r1 := hide (fun w hm => hD name s w h0 h1 hm)
  have r2 := hide (fun w hm ht => hR name s n w h0 h1 h hm ht)
  have HN := hide h
  have HS := hide (whI_sclr name s)
  have hxl : (whI name (bl s)).length ≤ 3000 := by have := whI_few name s; omega
  have OO := hide (fun w => Output_yes n w h)
  have SN := hide (fun w => Sniff_any (rcB name (bl s) n) w (by unfold maxLen; omega))
  obtain ⟨e1, e2, e3⟩ := stays_1 (L := name) (s := s) h ho
  rw [e1] at SN
  rw [ho] at OO
  have DD := hide (fun w => sdecode_any 1 ((rcB name (bl s) n).extract 3 (rcB name (bl s) n).size) w (by decide) (by simp; omega))
  rw [e3] at DD
  dsimp only at SN
  clear e1 e3 ho
  generalize whI name (bl s) = X at *
  generalize rcB name (bl s) n = RC at *
  generalize (chI name (bl s)).1 = n1 at *
  generalize (chI name (bl s)).2.1 = y1 at *
  clear h
  unfold maxLen at hn hs
  clear hD hDE hR hRE hRK hCt hMx hT
  go_enter Tryz.func9, Tryz.ntmps9
  go_wp2_with fail
  refine (unhide GX _ (unhide HM) (unhide HT)).mono ?_
  rintro e w1 ⟨rfl, hb1⟩
  have HB1 := hide hb1
  clear hb1 GX
  go_wp2_with fail
  refine (unhide GE _ ((unhide HT).below (unhide HB1))).mono ?_
  rintro e w2 ⟨rfl, hb2⟩
  have HB2 := hide (bstep (unhide HB1) hb2)
  clear hb2 GE HB1
  go_wp2_with fail
  refine (unhide GT _).mono ?_
  rintro e w3 ⟨rfl, hb3⟩
  have HB3 := hide (bstep (unhide HB2) hb3)
  clear hb3 GT HB2
  go_wp2_with fail
  refine (unhide r1 _ ((unhide HM).below (unhide HB3))).mono ?_
  rintro e w4 ⟨v4, rfl, ho4, hb4⟩
  obtain ⟨ao, cap, hsh4⟩ := owns_shape ho4
  subst hsh4
  have I4 := hide (Ints.of_owns ho4)
  have HB4 := hide (bstep (unhide HB3) hb4)
  clear hb4 HB3 r1 ho4
  go_wp2_with fail
  refine (unhide r2 _ ((unhide HM).below (unhide HB4)) ((unhide HT).below (unhide HB4))).mono ?_
  rintro e w5 ⟨rfl, hb5⟩
  have I5 := hide ((unhide I4).below hb5)
  have HB5 := hide (bstep (unhide HB4) hb5)
  clear hb5 HB4 r2 I4
  go_wp2_with fail
  go_loopw [13] (fun i wr => ∃ k : Nat, k ≤ X.length ∧ i = .int .i64 k ∧ Hid ((X.take k).all (M.hasE n) = true) ∧ Below w5.heap.size w5 wr) (fun i _ => X.length - (intOf i).toNat)
  case atStart => exact ⟨0, by omega, rfl, hide (by simp), Below.refl _ _⟩
  case round =>
    obtain ⟨k, hk, rfl, HA, hB⟩ := hrel
    have HB := hide hB
    clear hB
    by_cases hlt : k < X.length
    · obtain ⟨b, off, rfl, hc⟩ := ints_at ((unhide I5).below (unhide HB)) (by omega)
      have hcell := hc k hlt
      have HSp : Hid (M.sclr (X.getD k 0) = true) := hide (sclr_all (unhide HS) _ (by simp [hlt]))
      obtain ⟨p, HP⟩ : ∃ p, Hid (X.getD k 0 = p) := ⟨_, hide rfl⟩
      rw [unhide HP] at hcell HSp
      have HT1 : Hid ((X.take (k + 1)).all (M.hasE n) = ((X.take k).all (M.hasE n) && M.hasE n p)) := hide (by rw [take_getD hlt (unhide HP), List.all_append]; simp)
      have H := hide (fun w => Has_yes n p w (unhide HN) (unhide HSp))
      clear hc
      go_wp2_with fail
      refine (unhide H _).mono ?_
      rintro e w6 ⟨rfl, hb6⟩
      have HB6 := hide (bstep (unhide HB) hb6)
      clear hb6 H
      cases hq : M.hasE n p
      · go_wp2_with fail
        go_ret
        exact ⟨rfl, bstep (unhide HB5) (unhide HB6)⟩
      · go_wp2_with fail
        go_roundw
        case rel => exact ⟨k + 1, by omega, by go_num, hide (by rw [unhide HT1, unhide HA, hq]; rfl), unhide HB6⟩
        case measure => simp [intOf]; omega
    · have hE : X.take k = X := List.take_of_length_le (by omega)
      rw [hE] at HA
      clear hE
      go_wp2_with fail
      refine (unhide OO _).mono ?_
      rintro e w6 ⟨rfl, hb6⟩
      have HB6 := hide (bstep (unhide HB) hb6)
      clear hb6 HB OO
      go_wp2_with fail
      refine (unhide SN _).mono ?_
      rintro e w7 ⟨rfl, hb7⟩
      have HB7 := hide (bstep (unhide HB6) hb7)
      clear hb7 HB6 SN
      go_wp2_with fail
      refine (unhide DD _).mono ?_
      rintro e w8 ⟨v8, rfl, hI8, hb8⟩
      have J8 := hide hI8
      obtain ⟨a8, c8, rfl, -⟩ := hI8
      have HB8 := hide (bstep (unhide HB7) hb8)
      clear hb8 HB7 DD
      go_wp2_with fail
      refine (same_any _ ((unhide I5).below (unhide HB8)) (unhide J8)).mono ?_
      rintro e w9 ⟨rfl, hb9⟩
      rw [show (X == X) = true from by simp]
      have HB9 := hide (bstep (unhide HB8) hb9)
      clear hb9 HB8
      go_wp2_with fail
      go_ret
      exact ⟨ret_bool (by simp), bstep (unhide HB5) (unhide HB9)⟩
set_option maxHeartbeats 3200000 in
set_option maxRecDepth 100000 in
theorem stays_zero (hD : DcSays) (hDE : DcErrs) (hR : RcSays) (hRE : RcErrs) (hRK : RcKind) (hCt : CtSays) (name s : ByteArray) (n : Int) (w : World) (hMx : Mx w) (hT : Tb w) (hn : name.size ≤ maxLen) (hs : s.size ≤ maxLen) (h0 : name.size ≤ 3000) (h1 : s.size ≤ 3000) (h : 1 ≤ n ∧ n ≤ 7) (hz : (rcB name (bl s) n).size ≤ 3000) (ho : M.outE n ≠ 1) :
    Calls Tryz.prog 9 #[.string name, .string s, .int .i64 n] w fun e w' => e = .returned (.bool true) ∧ Below w.heap.size w w' := by
  have HM := hide hMx
  have HT := hide hT
  have GX := hide (fun w h h' => begunX_any hD hR hCt w h h')
  have GE := hide (fun w h => encoderBegun_any w h)
  have GT := hide (fun w => begunT_any w)
  have r1 := hide (fun w hm => hD name s w h0 h1 hm)
  have r2 := hide (fun w hm ht => hR name s n w h0 h1 h hm ht)
  have HN := hide h
  have HS := hide (whI_sclr name s)
  have hxl : (whI name (bl s)).length ≤ 3000 := by have := whI_few name s; omega
  have OO := hide (fun w => Output_yes n w h)
  have SN := hide (fun w => Sniff_any (rcB name (bl s) n) w (by unfold maxLen; omega))
  have e3 := stays_0 (L := name) (s := s) h ho
  have hon : 1 ≤ M.outE n ∧ M.outE n ≤ 7 := by have := M.outE_bd h; omega
  have DD := hide (fun (ha : (whI name (bl s)).all (M.hasE n) = true) w => e3 ha ▸ sdecode_any (M.outE n) (rcB name (bl s) n) w hon hz)
  generalize (M.sn (bl (rcB name (bl s) n))).1 = k1 at *
  generalize (M.sn (bl (rcB name (bl s) n))).2 = k2 at *
  clear e3
  generalize whI name (bl s) = X at *
  generalize rcB name (bl s) n = RC at *
  generalize (chI name (bl s)).1 = n1 at *
  generalize (chI name (bl s)).2.1 = y1 at *
  generalize M.outE n = on at *
  have hon1 : (on == 1) = false := beq_eq_false_iff_ne.2 ho
  clear h ho
  unfold maxLen at hn hs
  clear hD hDE hR hRE hRK hCt hMx hT
  go_enter Tryz.func9, Tryz.ntmps9
  go_wp2_with fail
  refine (unhide GX _ (unhide HM) (unhide HT)).mono ?_
  rintro e w1 ⟨rfl, hb1⟩
  have HB1 := hide hb1
  clear hb1 GX
  go_wp2_with fail
  refine (unhide GE _ ((unhide HT).below (unhide HB1))).mono ?_
  rintro e w2 ⟨rfl, hb2⟩
  have HB2 := hide (bstep (unhide HB1) hb2)
  clear hb2 GE HB1
  go_wp2_with fail
  refine (unhide GT _).mono ?_
  rintro e w3 ⟨rfl, hb3⟩
  have HB3 := hide (bstep (unhide HB2) hb3)
  clear hb3 GT HB2
  go_wp2_with fail
  refine (unhide r1 _ ((unhide HM).below (unhide HB3))).mono ?_
  rintro e w4 ⟨v4, rfl, ho4, hb4⟩
  obtain ⟨ao, cap, hsh4⟩ := owns_shape ho4
  subst hsh4
  have I4 := hide (Ints.of_owns ho4)
  have HB4 := hide (bstep (unhide HB3) hb4)
  clear hb4 HB3 r1 ho4
  go_wp2_with fail
  refine (unhide r2 _ ((unhide HM).below (unhide HB4)) ((unhide HT).below (unhide HB4))).mono ?_
  rintro e w5 ⟨rfl, hb5⟩
  have I5 := hide ((unhide I4).below hb5)
  have HB5 := hide (bstep (unhide HB4) hb5)
  clear hb5 HB4 r2 I4
  go_wp2_with fail
  go_loopw [13] (fun i wr => ∃ k : Nat, k ≤ X.length ∧ i = .int .i64 k ∧ Hid ((X.take k).all (M.hasE n) = true) ∧ Below w5.heap.size w5 wr) (fun i _ => X.length - (intOf i).toNat)
  case atStart => exact ⟨0, by omega, rfl, hide (by simp), Below.refl _ _⟩
  case round =>
    obtain ⟨k, hk, rfl, HA, hB⟩ := hrel
    have HB := hide hB
    clear hB
    by_cases hlt : k < X.length
    · obtain ⟨b, off, rfl, hc⟩ := ints_at ((unhide I5).below (unhide HB)) (by omega)
      have hcell := hc k hlt
      have HSp : Hid (M.sclr (X.getD k 0) = true) := hide (sclr_all (unhide HS) _ (by simp [hlt]))
      obtain ⟨p, HP⟩ : ∃ p, Hid (X.getD k 0 = p) := ⟨_, hide rfl⟩
      rw [unhide HP] at hcell HSp
      have HT1 : Hid ((X.take (k + 1)).all (M.hasE n) = ((X.take k).all (M.hasE n) && M.hasE n p)) := hide (by rw [take_getD hlt (unhide HP), List.all_append]; simp)
      have H := hide (fun w => Has_yes n p w (unhide HN) (unhide HSp))
      clear hc
      go_wp2_with fail
      refine (unhide H _).mono ?_
      rintro e w6 ⟨rfl, hb6⟩
      have HB6 := hide (bstep (unhide HB) hb6)
      clear hb6 H
      cases hq : M.hasE n p
      · go_wp2_with fail
        go_ret
        exact ⟨rfl, bstep (unhide HB5) (unhide HB6)⟩
      · go_wp2_with fail
        go_roundw
        case rel => exact ⟨k + 1, by omega, by go_num, hide (by rw [unhide HT1, unhide HA, hq]; rfl), unhide HB6⟩
        case measure => simp [intOf]; omega
    · have hE : X.take k = X := List.take_of_length_le (by omega)
      rw [hE] at HA
      clear hE
      go_wp2_with fail
      refine (unhide OO _).mono ?_
      rintro e w6 ⟨rfl, hb6⟩
      have HB6 := hide (bstep (unhide HB) hb6)
      clear hb6 HB OO
      go_wp2_with fail
      refine (unhide SN _).mono ?_
      rintro e w7 ⟨rfl, hb7⟩
      have HB7 := hide (bstep (unhide HB6) hb7)
      clear hb7 HB6 SN
      go_wp2_with fail
      refine (unhide DD (unhide HA) _).mono ?_
      rintro e w8 ⟨v8, rfl, hI8, hb8⟩
      have J8 := hide hI8
      obtain ⟨a8, c8, rfl, -⟩ := hI8
      have HB8 := hide (bstep (unhide HB7) hb8)
      clear hb8 HB7 DD
      go_wp2_with fail
      refine (same_any _ ((unhide I5).below (unhide HB8)) (unhide J8)).mono ?_
      rintro e w9 ⟨rfl, hb9⟩
      rw [show (X == X) = true from by simp]
      have HB9 := hide (bstep (unhide HB8) hb9)
      clear hb9 HB8
      go_wp2_with fail
      go_ret
      exact ⟨ret_bool (by simp), bstep (unhide HB5) (unhide HB9)⟩
theorem stays_walk (hD : DcSays) (hDE : DcErrs) (hR : RcSays) (hRE : RcErrs) (hRK : RcKind) (hCt : CtSays) (name s : ByteArray) (n : Int) (w : World) (hMx : Mx w) (hT : Tb w) (hn : name.size ≤ maxLen) (hs : s.size ≤ maxLen) :
    Calls Tryz.prog 9 #[.string name, .string s, .int .i64 n] w fun e w' => e = .returned (.bool true) ∧ Below w.heap.size w w' := by
  by_cases h : 3000 < name.size ∨ 3000 < s.size
  · exact stays_long hD hDE hR hRE hRK hCt name s n w hMx hT hn hs h
  by_cases h2 : 1 ≤ n ∧ n ≤ 7
  · by_cases hz : 3000 < (rcB name (bl s) n).size
    · exact stays_great hD hDE hR hRE hRK hCt name s n w hMx hT hn hs (by omega) (by omega) h2 hz
    by_cases ho : M.outE n = 1
    · exact stays_one hD hDE hR hRE hRK hCt name s n w hMx hT hn hs (by omega) (by omega) h2 (by omega) ho
    · exact stays_zero hD hDE hR hRE hRK hCt name s n w hMx hT hn hs (by omega) (by omega) h2 (by omega) ho
  · exact stays_kind hD hDE hR hRE hRK hCt name s n w hMx hT hn hs (by omega) (by omega) h2
end Go.Proofs.YtaiinjfnkmidbaaGreatDoor
