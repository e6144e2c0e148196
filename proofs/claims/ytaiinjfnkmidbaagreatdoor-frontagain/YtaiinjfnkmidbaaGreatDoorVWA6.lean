/- The walk of FrontAgain over what front's and text's calls have to answer: true; nothing that was there is written. -/
import Derived.Test.YtaiinjfnkmidbaaGreatDoorQ10
namespace Go.Proofs.YtaiinjfnkmidbaaGreatDoor
open Go.RowKit
set_option linter.unusedVariables false

theorem whI_nil (L : ByteArray) : whI L [] = [] := by
  unfold whI
  rw [List.drop_nil]
  exact congrArg Prod.fst (M.Tot_nil _)
theorem outs_new (L p : ByteArray) : (Fr.new L).outs p true = whI L (bl p) := by
  have := ((Infr.start L).last p).2
  rw [List.nil_append] at this
  rw [this]
  congr 1
theorem new_chk {L : ByteArray} (h : L.size ≤ 3000) : (Fr.new L).chk = 0 := (Infr.start L).chk h
set_option maxHeartbeats 3200000 in
set_option maxRecDepth 100000 in
theorem again_name (hC : ChSays) (hB : BgSays) (hBE : BgErrs) (hF : FdSays) (hK : CkSays) (hD : DcSays) (hR : RcSays) (hCt : CtSays) (name s t : ByteArray) (w : World) (hMx : Mx w) (hT : Tb w) (hn : name.size ≤ maxLen) (hs : s.size ≤ maxLen) (ht : t.size ≤ maxLen) (h : 3000 < name.size) :
    Calls Tryz.prog 6 #[.string name, .string s, .string t] w fun e w' => e = .returned (.bool true) ∧ Below w.heap.size w w' := by
  have HM := hide hMx
  have HT := hide hT
  have GF := hide (fun w h => begunF_any hC hB hF hK w h)
  have GX := hide (fun w h h' => begunX_any hD hR hCt w h h')
  have S2 := hide (fun w => hBE name w hn h)
  dsimp only [Fr.v, Fr.new, M.st0] at S2
  clear hC hB hBE hF hK hD hR hCt hMx hT
  unfold maxLen at hn hs ht
  go_enter Tryz.func6, Tryz.ntmps6
  go_wp2_with fail
  refine (unhide S2 _).mono ?_
  rintro e w1 ⟨rfl, hb1⟩
  have HB1 := hide hb1
  clear hb1 S2
  have P1 := hide (Fb.new w1 (Fr.new ⟨#[]⟩))
  have HB1' := hide (bstep (unhide HB1) (balloc w1 (.cells #[.string ⟨#[]⟩, .int .i64 0, .int .i64 0, .string ⟨#[]⟩, .int .i64 0, .string ⟨#[]⟩, .int .i64 0, .bool false, .bool false] 25)))
  clear HB1
  go_wp2_with fail
  refine (unhide GF _ ((unhide HM).below (unhide HB1'))).mono ?_
  rintro e w2 ⟨rfl, hb2⟩
  have P2 := hide ((unhide P1).on hb2)
  have HB2 := hide (bstep (unhide HB1') hb2)
  clear hb2 HB1' P1 GF
  go_wp2_with fail
  refine (unhide GX _ ((unhide HM).below (unhide HB2)) ((unhide HT).below (unhide HB2))).mono ?_
  rintro e w3 ⟨rfl, hb3⟩
  have P3 := hide ((unhide P2).on hb3)
  have HB3 := hide (bstep (unhide HB2) hb3)
  clear hb3 HB2 P2 GX
  obtain ⟨p0, p1, p2, p3, p4, p5, p6, p7, p8, -, -, -, -, -, -, -, -, -⟩ := unhide P3
  have hlp := (unhide P3).lt
  dsimp only [Fr.new, M.st0] at p0 p1 p2 p3 p4 p5 p6 p7 p8
  go_wp2_with fail
  go_ret
  exact ⟨rfl, unhide HB3⟩
set_option maxHeartbeats 3200000 in
set_option maxRecDepth 100000 in
theorem again_s (hC : ChSays) (hB : BgSays) (hBE : BgErrs) (hF : FdSays) (hK : CkSays) (hD : DcSays) (hR : RcSays) (hCt : CtSays) (name s t : ByteArray) (w : World) (hMx : Mx w) (hT : Tb w) (hn : name.size ≤ maxLen) (hs : s.size ≤ maxLen) (ht : t.size ≤ maxLen) (h0 : name.size ≤ 3000) (h : 3000 < s.size) :
    Calls Tryz.prog 6 #[.string name, .string s, .string t] w fun e w' => e = .returned (.bool true) ∧ Below w.heap.size w w' := by
  have HM := hide hMx
  have HT := hide hT
  have GF := hide (fun w h => begunF_any hC hB hF hK w h)
  have GX := hide (fun w h h' => begunX_any hD hR hCt w h h')
  have S2 := hide (fun w => hB name w h0)
  dsimp only [Fr.v, Fr.new, M.st0] at S2
  clear hC hB hBE hF hK hD hR hCt hMx hT
  unfold maxLen at hn hs ht
  go_enter Tryz.func6, Tryz.ntmps6
  go_wp2_with fail
  refine (unhide S2 _).mono ?_
  rintro e w1 ⟨rfl, hb1⟩
  have HB1 := hide hb1
  clear hb1 S2
  have P1 := hide (Fb.new w1 (Fr.new name))
  have HB1' := hide (bstep (unhide HB1) (balloc w1 (.cells #[.string name, .int .i64 0, .int .i64 0, .string ⟨#[]⟩, .int .i64 0, .string ⟨#[]⟩, .int .i64 0, .bool false, .bool false] 25)))
  clear HB1
  go_wp2_with fail
  refine (unhide GF _ ((unhide HM).below (unhide HB1'))).mono ?_
  rintro e w2 ⟨rfl, hb2⟩
  have P2 := hide ((unhide P1).on hb2)
  have HB2 := hide (bstep (unhide HB1') hb2)
  clear hb2 HB1' P1 GF
  go_wp2_with fail
  refine (unhide GX _ ((unhide HM).below (unhide HB2)) ((unhide HT).below (unhide HB2))).mono ?_
  rintro e w3 ⟨rfl, hb3⟩
  have P3 := hide ((unhide P2).on hb3)
  have HB3 := hide (bstep (unhide HB2) hb3)
  clear hb3 HB2 P2 GX
  go_wp2_with fail
  go_ret
  exact ⟨rfl, unhide HB3⟩
set_option maxHeartbeats 3200000 in
set_option maxRecDepth 100000 in
theorem again_t (hC : ChSays) (hB : BgSays) (hBE : BgErrs) (hF : FdSays) (hK : CkSays) (hD : DcSays) (hR : RcSays) (hCt : CtSays) (name s t : ByteArray) (w : World) (hMx : Mx w) (hT : Tb w) (hn : name.size ≤ maxLen) (hs : s.size ≤ maxLen) (ht : t.size ≤ maxLen) (h0 : name.size ≤ 3000) (h1 : s.size ≤ 3000) (h : 3000 < t.size) :
    Calls Tryz.prog 6 #[.string name, .string s, .string t] w fun e w' => e = .returned (.bool true) ∧ Below w.heap.size w w' := by
  have HM := hide hMx
  have HT := hide hT
  have GF := hide (fun w h => begunF_any hC hB hF hK w h)
  have GX := hide (fun w h h' => begunX_any hD hR hCt w h h')
  have S2 := hide (fun w => hB name w h0)
  dsimp only [Fr.v, Fr.new, M.st0] at S2
  clear hC hB hBE hF hK hD hR hCt hMx hT
  unfold maxLen at hn hs ht
  go_enter Tryz.func6, Tryz.ntmps6
  go_wp2_with fail
  refine (unhide S2 _).mono ?_
  rintro e w1 ⟨rfl, hb1⟩
  have HB1 := hide hb1
  clear hb1 S2
  have P1 := hide (Fb.new w1 (Fr.new name))
  have HB1' := hide (bstep (unhide HB1) (balloc w1 (.cells #[.string name, .int .i64 0, .int .i64 0, .string ⟨#[]⟩, .int .i64 0, .string ⟨#[]⟩, .int .i64 0, .bool false, .bool false] 25)))
  clear HB1
  go_wp2_with fail
  refine (unhide GF _ ((unhide HM).below (unhide HB1'))).mono ?_
  rintro e w2 ⟨rfl, hb2⟩
  have P2 := hide ((unhide P1).on hb2)
  have HB2 := hide (bstep (unhide HB1') hb2)
  clear hb2 HB1' P1 GF
  go_wp2_with fail
  refine (unhide GX _ ((unhide HM).below (unhide HB2)) ((unhide HT).below (unhide HB2))).mono ?_
  rintro e w3 ⟨rfl, hb3⟩
  have P3 := hide ((unhide P2).on hb3)
  have HB3 := hide (bstep (unhide HB2) hb3)
  clear hb3 HB2 P2 GX
  go_wp2_with fail
  go_ret
  exact ⟨rfl, unhide HB3⟩
set_option maxHeartbeats 3200000 in
set_option maxRecDepth 100000 in
theorem again_fine (hC : ChSays) (hB : BgSays) (hBE : BgErrs) (hF : FdSays) (hK : CkSays) (hD : DcSays) (hR : RcSays) (hCt : CtSays) (name s t : ByteArray) (w : World) (hMx : Mx w) (hT : Tb w) (hn : name.size ≤ maxLen) (hs : s.size ≤ maxLen) (ht : t.size ≤ maxLen) (h0 : name.size ≤ 3000) (h1 : s.size ≤ 3000) (h2 : t.size ≤ 3000) :
    Calls Tryz.prog 6 #[.string name, .string s, .string t] w fun e w' => e = .returned (.bool true) ∧ Below w.heap.size w w' := by
  have HM := hide hMx
  have HT := hide hT
  have GF := hide (fun w h => begunF_any hC hB hF hK w h)
  have GX := hide (fun w h h' => begunX_any hD hR hCt w h h')
  have s3 := fun w h => hF (Fr.new name) s true w (new_chk h0) h1 h
  rw [outs_new, show (Fr.new name).nxt s true = Fr.new name from rfl] at s3
  have s4 := fun w h => hF (Fr.new name) t true w (new_chk h0) h2 h
  rw [outs_new, show (Fr.new name).nxt t true = Fr.new name from rfl] at s4
  have s5 := fun w h => hF (Fr.new name) ⟨#[]⟩ true w (new_chk h0) (by decide) h
  rw [outs_new, show (Fr.new name).nxt ⟨#[]⟩ true = Fr.new name from rfl, show bl ⟨#[]⟩ = [] from rfl, whI_nil] at s5
  have s6 := fun w h => hD name s w h0 h1 h
  have s7 := fun w h => hD name t w h0 h2 h
  have S3 := hide s3
  have S4 := hide s4
  have S5 := hide s5
  have S6 := hide s6
  have S7 := hide s7
  dsimp only [Fr.v, Fr.new, M.st0] at S3 S4 S5
  clear s3 s4 s5 s6 s7
  generalize whI name (bl s) = X at *
  generalize whI name (bl t) = Y at *
  generalize (chI name (bl s)).1 = n1 at *
  generalize (chI name (bl s)).2.1 = y1 at *
  generalize (chI name (bl t)).1 = n2 at *
  generalize (chI name (bl t)).2.1 = y2 at *
  have S2 := hide (fun w => hB name w h0)
  dsimp only [Fr.v, Fr.new, M.st0] at S2
  clear hC hB hBE hF hK hD hR hCt hMx hT
  unfold maxLen at hn hs ht
  go_enter Tryz.func6, Tryz.ntmps6
  go_wp2_with fail
  refine (unhide S2 _).mono ?_
  rintro e w1 ⟨rfl, hb1⟩
  have HB1 := hide hb1
  clear hb1 S2
  have P1 := hide (Fb.new w1 (Fr.new name))
  have HB1' := hide (bstep (unhide HB1) (balloc w1 (.cells #[.string name, .int .i64 0, .int .i64 0, .string ⟨#[]⟩, .int .i64 0, .string ⟨#[]⟩, .int .i64 0, .bool false, .bool false] 25)))
  clear HB1
  go_wp2_with fail
  refine (unhide GF _ ((unhide HM).below (unhide HB1'))).mono ?_
  rintro e w2 ⟨rfl, hb2⟩
  have P2 := hide ((unhide P1).on hb2)
  have HB2 := hide (bstep (unhide HB1') hb2)
  clear hb2 HB1' P1 GF
  go_wp2_with fail
  refine (unhide GX _ ((unhide HM).below (unhide HB2)) ((unhide HT).below (unhide HB2))).mono ?_
  rintro e w3 ⟨rfl, hb3⟩
  have P3 := hide ((unhide P2).on hb3)
  have HB3 := hide (bstep (unhide HB2) hb3)
  clear hb3 HB2 P2 GX
  obtain ⟨p0, p1, p2, p3, p4, p5, p6, p7, p8, -, -, -, -, -, -, -, -, -⟩ := unhide P3
  have hlp := (unhide P3).lt
  dsimp only [Fr.new, M.st0] at p0 p1 p2 p3 p4 p5 p6 p7 p8
  go_wp2_with fail
  refine (unhide S3 _ ((unhide HM).below (unhide HB3))).mono ?_
  rintro e w4 ⟨v4, rfl, ho4, hb4⟩
  obtain ⟨ao4, cap4, hsh4⟩ := owns_shape ho4
  subst hsh4
  have P4 := hide (((unhide P3).on hb4).alloc (.cells #[.string name, .int .i64 0, .int .i64 0, .string ⟨#[]⟩, .int .i64 0, .string ⟨#[]⟩, .int .i64 0, .bool false, .bool false] 25))
  have Q4 := hide (Fb.new w4 (Fr.new name))
  have I4 := hide ((Ints.of_owns ho4).below (balloc _ (.cells #[.string name, .int .i64 0, .int .i64 0, .string ⟨#[]⟩, .int .i64 0, .string ⟨#[]⟩, .int .i64 0, .bool false, .bool false] 25)))
  have HB4 := hide (bstep (bstep (unhide HB3) hb4) (balloc _ (.cells #[.string name, .int .i64 0, .int .i64 0, .string ⟨#[]⟩, .int .i64 0, .string ⟨#[]⟩, .int .i64 0, .bool false, .bool false] 25)))
  clear ho4 hb4 S3 HB3 P3 p0 p1 p2 p3 p4 p5 p6 p7 p8 hlp
  go_wp2_with fail
  refine (unhide S4 _ ((unhide HM).below (unhide HB4))).mono ?_
  rintro e w5 ⟨v5, rfl, ho5, hb5⟩
  obtain ⟨ao5, cap5, hsh5⟩ := owns_shape ho5
  subst hsh5
  have P5 := hide (((unhide P4).on hb5).alloc (.cells #[.string name, .int .i64 0, .int .i64 0, .string ⟨#[]⟩, .int .i64 0, .string ⟨#[]⟩, .int .i64 0, .bool false, .bool false] 25))
  have Q5 := hide (((unhide Q4).on hb5).alloc (.cells #[.string name, .int .i64 0, .int .i64 0, .string ⟨#[]⟩, .int .i64 0, .string ⟨#[]⟩, .int .i64 0, .bool false, .bool false] 25))
  have R5 := hide (Fb.new w5 (Fr.new name))
  have I5 := hide (((unhide I4).below hb5).below (balloc _ (.cells #[.string name, .int .i64 0, .int .i64 0, .string ⟨#[]⟩, .int .i64 0, .string ⟨#[]⟩, .int .i64 0, .bool false, .bool false] 25)))
  have J5 := hide ((Ints.of_owns ho5).below (balloc _ (.cells #[.string name, .int .i64 0, .int .i64 0, .string ⟨#[]⟩, .int .i64 0, .string ⟨#[]⟩, .int .i64 0, .bool false, .bool false] 25)))
  have HB5 := hide (bstep (bstep (unhide HB4) hb5) (balloc _ (.cells #[.string name, .int .i64 0, .int .i64 0, .string ⟨#[]⟩, .int .i64 0, .string ⟨#[]⟩, .int .i64 0, .bool false, .bool false] 25)))
  clear ho5 hb5 S4 HB4 P4 Q4 I4
  go_wp2_with fail
  refine (unhide S5 _ ((unhide HM).below (unhide HB5))).mono ?_
  rintro e w6 ⟨v6, rfl, ho6, hb6⟩
  obtain ⟨ao6, cap6, hsh6⟩ := owns_shape ho6
  subst hsh6
  have P6 := hide (((unhide P5).on hb6).alloc (.cells #[.string name, .int .i64 0, .int .i64 0, .string ⟨#[]⟩, .int .i64 0, .string ⟨#[]⟩, .int .i64 0, .bool false, .bool false] 25))
  have Q6 := hide (((unhide Q5).on hb6).alloc (.cells #[.string name, .int .i64 0, .int .i64 0, .string ⟨#[]⟩, .int .i64 0, .string ⟨#[]⟩, .int .i64 0, .bool false, .bool false] 25))
  have R6 := hide (((unhide R5).on hb6).alloc (.cells #[.string name, .int .i64 0, .int .i64 0, .string ⟨#[]⟩, .int .i64 0, .string ⟨#[]⟩, .int .i64 0, .bool false, .bool false] 25))
  have T6 := hide (Fb.new w6 (Fr.new name))
  have I6 := hide (((unhide I5).below hb6).below (balloc _ (.cells #[.string name, .int .i64 0, .int .i64 0, .string ⟨#[]⟩, .int .i64 0, .string ⟨#[]⟩, .int .i64 0, .bool false, .bool false] 25)))
  have J6 := hide (((unhide J5).below hb6).below (balloc _ (.cells #[.string name, .int .i64 0, .int .i64 0, .string ⟨#[]⟩, .int .i64 0, .string ⟨#[]⟩, .int .i64 0, .bool false, .bool false] 25)))
  have HB6 := hide (bstep (bstep (unhide HB5) hb6) (balloc _ (.cells #[.string name, .int .i64 0, .int .i64 0, .string ⟨#[]⟩, .int .i64 0, .string ⟨#[]⟩, .int .i64 0, .bool false, .bool false] 25)))
  clear ho6 hb6 S5 HB5 P5 Q5 R5 I5 J5
  go_wp2_with fail
  refine (unhide S6 _ ((unhide HM).below (unhide HB6))).mono ?_
  rintro e w7 ⟨v7, rfl, ho7, hb7⟩
  obtain ⟨ao7, cap7, hsh7⟩ := owns_shape ho7
  subst hsh7
  have P7 := hide ((unhide P6).on hb7)
  have Q7 := hide ((unhide Q6).on hb7)
  have R7 := hide ((unhide R6).on hb7)
  have T7 := hide ((unhide T6).on hb7)
  have I7 := hide ((unhide I6).below hb7)
  have J7 := hide ((unhide J6).below hb7)
  have K7 := hide (Ints.of_owns ho7)
  have HB7 := hide (bstep (unhide HB6) hb7)
  clear ho7 hb7 S6 HB6 P6 Q6 R6 T6 I6 J6
  go_wp2_with fail
  refine (unhide S7 _ ((unhide HM).below (unhide HB7))).mono ?_
  rintro e w8 ⟨v8, rfl, ho8, hb8⟩
  obtain ⟨ao8, cap8, hsh8⟩ := owns_shape ho8
  subst hsh8
  have P8 := hide ((unhide P7).on hb8)
  have Q8 := hide ((unhide Q7).on hb8)
  have R8 := hide ((unhide R7).on hb8)
  have T8 := hide ((unhide T7).on hb8)
  have I8 := hide ((unhide I7).below hb8)
  have J8 := hide ((unhide J7).below hb8)
  have K8 := hide ((unhide K7).below hb8)
  have N8 := hide (Ints.of_owns ho8)
  have HB8 := hide (bstep (unhide HB7) hb8)
  clear ho8 hb8 S7 HB7 P7 Q7 R7 T7 I7 J7 K7
  obtain ⟨p0, p1, p2, p3, p4, p5, p6, p7, p8, -, -, -, -, -, -, -, -, -⟩ := unhide P8
  have hlp := (unhide P8).lt
  dsimp only [Fr.new, M.st0] at p0 p1 p2 p3 p4 p5 p6 p7 p8
  obtain ⟨q0, q1, q2, q3, q4, q5, q6, q7, q8, -, -, -, -, -, -, -, -, -⟩ := unhide Q8
  have hlq := (unhide Q8).lt
  dsimp only [Fr.new, M.st0] at q0 q1 q2 q3 q4 q5 q6 q7 q8
  obtain ⟨r0, r1, r2, r3, r4, r5, r6, r7, r8, -, -, -, -, -, -, -, -, -⟩ := unhide R8
  have hlr := (unhide R8).lt
  dsimp only [Fr.new, M.st0] at r0 r1 r2 r3 r4 r5 r6 r7 r8
  obtain ⟨t0, t1, t2, t3, t4, t5, t6, t7, t8, -, -, -, -, -, -, -, -, -⟩ := unhide T8
  have hlt := (unhide T8).lt
  dsimp only [Fr.new, M.st0] at t0 t1 t2 t3 t4 t5 t6 t7 t8
  go_wp2_with fail
  refine (same_any _ (unhide I8) (unhide K8)).mono ?_
  rintro e w9 ⟨rfl, hb9⟩
  rw [show (X == X) = true from by simp]
  have J9 := hide ((unhide J8).below hb9)
  have N9 := hide ((unhide N8).below hb9)
  have HB9 := hide (bstep (unhide HB8) hb9)
  clear hb9 HB8 I8 J8 K8 N8 P8 Q8 R8 T8
  go_wp2_with fail
  refine (same_any _ (unhide J9) (unhide N9)).mono ?_
  rintro e w10 ⟨rfl, hb10⟩
  rw [show (Y == Y) = true from by simp]
  have HB10 := hide (bstep (unhide HB9) hb10)
  clear hb10 HB9 J9 N9
  go_wp2_with fail
  go_ret
  exact ⟨rfl, unhide HB10⟩
theorem again_walk (hC : ChSays) (hB : BgSays) (hBE : BgErrs) (hF : FdSays) (hK : CkSays) (hD : DcSays) (hR : RcSays) (hCt : CtSays) (name s t : ByteArray) (w : World) (hMx : Mx w) (hT : Tb w) (hn : name.size ≤ maxLen) (hs : s.size ≤ maxLen) (ht : t.size ≤ maxLen) :
    Calls Tryz.prog 6 #[.string name, .string s, .string t] w fun e w' => e = .returned (.bool true) ∧ Below w.heap.size w w' := by
  by_cases h0 : 3000 < name.size
  · exact again_name hC hB hBE hF hK hD hR hCt name s t w hMx hT hn hs ht h0
  by_cases h1 : 3000 < s.size
  · exact again_s hC hB hBE hF hK hD hR hCt name s t w hMx hT hn hs ht (by omega) h1
  by_cases h2 : 3000 < t.size
  · exact again_t hC hB hBE hF hK hD hR hCt name s t w hMx hT hn hs ht (by omega) (by omega) h2
  exact again_fine hC hB hBE hF hK hD hR hCt name s t w hMx hT hn hs ht (by omega) (by omega) (by omega)
end Go.Proofs.YtaiinjfnkmidbaaGreatDoor
