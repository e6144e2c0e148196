/- The walk of TextRecode over what text's calls have to answer: true; nothing that was there is written. -/
import Derived.Test.YtaiinjfnkmidbaaGreatDoorQ10
namespace Go.Proofs.YtaiinjfnkmidbaaGreatDoor
open Go.RowKit
set_option linter.unusedVariables false

theorem rcB_few {L s : ByteArray} (hs : s.size ≤ 3000) : (rcB L (bl s) 1).size ≤ 40003 := by
  have h := encB_few (n := 1) (by decide) (xs := whI L (bl s)) (by have := whI_few L s; omega) (whI_sclr L s)
  unfold rcB
  rw [ByteArray.size_append]
  have : (mkB (M.outE 1)).size = 3 := rfl
  omega
set_option maxHeartbeats 3200000 in
set_option maxRecDepth 100000 in
theorem recode_long (hD : DcSays) (hDE : DcErrs) (hR : RcSays) (hRE : RcErrs) (hCt : CtSays) (name other s : ByteArray) (w : World) (hMx : Mx w) (hT : Tb w) (hn : name.size ≤ maxLen) (ho : other.size ≤ maxLen) (hs : s.size ≤ maxLen) (h : 3000 < name.size ∨ 3000 < s.size) :
    Calls Tryz.prog 8 #[.string name, .string other, .string s] w fun e w' => e = .returned (.bool true) ∧ Below w.heap.size w w' := by
  have HM := hide hMx
  have HT := hide hT
  have GX := hide (fun w h h' => begunX_any hD hR hCt w h h')
  have r1 := hide (fun w hm => hDE name s w hn hs h hm)
  have r2 := hide (fun w hm ht => hRE name s 1 w hn hs h hm ht)
  clear hD hDE hR hRE hCt hMx hT h
  unfold maxLen at hn ho hs
  go_enter Tryz.func8, Tryz.ntmps8
  go_wp2_with fail
  refine (unhide GX _ (unhide HM) (unhide HT)).mono ?_
  rintro e w1 ⟨rfl, hb1⟩
  have HB1 := hide hb1
  clear hb1 GX
  go_wp2_with fail
  refine (unhide r1 _ ((unhide HM).below (unhide HB1))).mono ?_
  rintro e w2 ⟨v2, rfl, hI2, hb2⟩
  have HB2 := hide (bstep (unhide HB1) hb2)
  clear hb2 HB1 r1 hI2
  go_wp2_with fail
  refine (unhide r2 _ ((unhide HM).below (unhide HB2)) ((unhide HT).below (unhide HB2))).mono ?_
  rintro e w3 ⟨rfl, hb3⟩
  have HB3 := hide (bstep (unhide HB2) hb3)
  clear hb3 HB2 r2
  go_wp2_with fail
  go_ret
  exact ⟨rfl, unhide HB3⟩
set_option maxHeartbeats 3200000 in
set_option maxRecDepth 100000 in
theorem recode_fine (hD : DcSays) (hDE : DcErrs) (hR : RcSays) (hRE : RcErrs) (hCt : CtSays) (name other s : ByteArray) (w : World) (hMx : Mx w) (hT : Tb w) (hn : name.size ≤ maxLen) (ho : other.size ≤ maxLen) (hs : s.size ≤ maxLen) (h0 : name.size ≤ 3000) (h1 : s.size ≤ 3000) :
    Calls Tryz.prog 8 #[.string name, .string other, .string s] w fun e w' => e = .returned (.bool true) ∧ Below w.heap.size w w' := by
  have HM := hide hMx
  have HT := hide hT
  have GX := hide (fun w h h' => begunX_any hD hR hCt w h h')
  have r1 := hide (fun w hm => hD name s w h0 h1 hm)
  have r2 := hide (fun w hm ht => hR name s 1 w h0 h1 (by decide) hm ht)
  have hz := rcB_few (L := name) h1
  have R3 := hide (fun (h : (rcB name (bl s) 1).size ≤ 3000) (h' : other.size ≤ 3000) w hm => hD other (rcB name (bl s) 1) w h' h hm)
  rw [rc_chI, rc_whI] at R3
  have R4 := hide (fun (h : (rcB name (bl s) 1).size ≤ 3000) (h' : other.size ≤ 3000) w hm ht => hR other (rcB name (bl s) 1) 1 w h' h (by decide) hm ht)
  rw [rc_again] at R4
  dsimp only at R3
  clear hD hDE hR hRE hCt hMx hT
  generalize whI name (bl s) = X at *
  generalize rcB name (bl s) 1 = T at *
  generalize (chI name (bl s)).1 = n1 at *
  generalize (chI name (bl s)).2.1 = y1 at *
  unfold maxLen at hn ho hs
  go_enter Tryz.func8, Tryz.ntmps8
  go_wp2_with fail
  refine (unhide GX _ (unhide HM) (unhide HT)).mono ?_
  rintro e w1 ⟨rfl, hb1⟩
  have HB1 := hide hb1
  clear hb1 GX
  go_wp2_with fail
  refine (unhide r1 _ ((unhide HM).below (unhide HB1))).mono ?_
  rintro e w2 ⟨v2, rfl, ho2, hb2⟩
  obtain ⟨ao2, cap2, hsh2⟩ := owns_shape ho2
  subst hsh2
  have I2 := hide (Ints.of_owns ho2)
  have HB2 := hide (bstep (unhide HB1) hb2)
  clear hb2 HB1 r1 ho2
  go_wp2_with fail
  refine (unhide r2 _ ((unhide HM).below (unhide HB2)) ((unhide HT).below (unhide HB2))).mono ?_
  rintro e w3 ⟨rfl, hb3⟩
  have I3 := hide ((unhide I2).below hb3)
  have HB3 := hide (bstep (unhide HB2) hb3)
  clear hb3 HB2 r2 I2
  by_cases hT3 : T.size ≤ 3000
  · by_cases hO : other.size ≤ 3000
    · have r3 := hide (unhide R3 hT3 hO)
      have r4 := hide (unhide R4 hT3 hO)
      clear R3 R4
      go_wp2_with fail
      refine (unhide r3 _ ((unhide HM).below (unhide HB3))).mono ?_
      rintro e w4 ⟨v4, rfl, ho4, hb4⟩
      obtain ⟨ao4, cap4, hsh4⟩ := owns_shape ho4
      subst hsh4
      have I4 := hide ((unhide I3).below hb4)
      have J4 := hide (Ints.of_owns ho4)
      have HB4 := hide (bstep (unhide HB3) hb4)
      clear hb4 HB3 r3 ho4 I3
      go_wp2_with fail
      refine (unhide r4 _ ((unhide HM).below (unhide HB4)) ((unhide HT).below (unhide HB4))).mono ?_
      rintro e w5 ⟨rfl, hb5⟩
      have I5 := hide ((unhide I4).below hb5)
      have J5 := hide ((unhide J4).below hb5)
      have HB5 := hide (bstep (unhide HB4) hb5)
      clear hb5 HB4 r4 I4 J4
      go_wp2_with fail
      refine (same_any _ (unhide I5) (unhide J5)).mono ?_
      rintro e w6 ⟨rfl, hb6⟩
      rw [show (X == X) = true from by simp]
      have HB6 := hide (bstep (unhide HB5) hb6)
      clear hb6 HB5 I5 J5
      go_wp2_with fail
      go_ret
      exact ⟨ret_bool (by simp), unhide HB6⟩
    · clear R3 R4
      go_wp2_with fail
      go_ret
      exact ⟨rfl, unhide HB3⟩
  · clear R3 R4
    go_wp2_with fail
    go_ret
    exact ⟨rfl, unhide HB3⟩
theorem recode_walk (hD : DcSays) (hDE : DcErrs) (hR : RcSays) (hRE : RcErrs) (hCt : CtSays) (name other s : ByteArray) (w : World) (hMx : Mx w) (hT : Tb w) (hn : name.size ≤ maxLen) (ho : other.size ≤ maxLen) (hs : s.size ≤ maxLen) :
    Calls Tryz.prog 8 #[.string name, .string other, .string s] w fun e w' => e = .returned (.bool true) ∧ Below w.heap.size w w' := by
  by_cases h : 3000 < name.size ∨ 3000 < s.size
  · exact recode_long hD hDE hR hRE hCt name other s w hMx hT hn ho hs h
  · exact recode_fine hD hDE hR hRE hCt name other s w hMx hT hn ho hs (by omega) (by omega)
end Go.Proofs.YtaiinjfnkmidbaaGreatDoor
