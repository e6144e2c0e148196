/- The walk of FrontTells over what front's calls have to answer: true; nothing that was there is written. -/
import Derived.Test.YtaiinjfnkmidbaaGreatDoorQC8
namespace Go.Proofs.YtaiinjfnkmidbaaGreatDoor
open Go.RowKit
set_option linter.unusedVariables false

set_option maxHeartbeats 400000 in
set_option maxRecDepth 100000 in
theorem intsAre_bad {v : Value} (ao : Option Addr) (n c : Nat) (q : Int) (w : World) (hq : (q == 0) = false) (h : Ints w v []) :
    Calls Tryz.prog 21 #[v, .int .i64 q, .int .i64 q, .slice ao n c] w fun e w' => e = .returned (.bool true) ∧ Below w.heap.size w w' := by
  have HI := hide h
  obtain ⟨a1, c1, rfl, -⟩ := h
  go_enter Tryz.func21, Tryz.ntmps21
  go_wp2_with fail
  refine (same_any _ (unhide HI) (Ints.nil _)).mono ?_
  rintro e w1 ⟨rfl, hb⟩
  rw [show (([] : List Int) == []) = true from rfl]
  go_wp2_with fail
  go_ret
  exact ⟨rfl, hb⟩
set_option maxHeartbeats 6400000 in
set_option maxRecDepth 100000 in
theorem ft_npk (hC : ChSays) (hCE : ChErrs) (hB : BgSays) (hBE : BgErrs) (hF : FdSays) (hFE : FdErrs) (hK : CkSays) (name s L : ByteArray) (en wy : Int) (W : ByteArray) (ee : Int) (r : ByteArray) (g : Int) (fr st last : Bool) (w : World) (hMx : Mx w) (hn : name.size ≤ maxLen) (hs : s.size ≤ maxLen) (hL : L.size ≤ maxLen) (hW : W.size ≤ maxLen) (hr : r.size ≤ maxLen) (h0 : name.size ≤ 3000) (h1 : s.size ≤ 3000) (hk : (Fr.mk L en wy W ee r (g, fr, st)).chk = 0) :
    Calls Tryz.prog 3 #[.string name, .string s, .agg #[.string L, .int .i64 en, .int .i64 wy, .string W, .int .i64 ee, .string r, .int .i64 g, .bool fr, .bool st], .bool last] w fun e' w' => e' = .returned (.bool true) ∧ Below w.heap.size w w' := by
  have HM := hide hMx
  have GF := hide (fun w h => begunF_any hC hB hF hK w h)
  have CK := fun w hm => hK (Fr.mk L en wy W ee r (g, fr, st)) w hL hW hr hm
  have CS := fun w => checkFront_any (Fr.mk L en wy W ee r (g, fr, st)) w hL hW hr
  have CHH := hide (fun w hm => hC name s w h0 h1 hm)
  have COH := hide (fun w => chooseOf_any name s w h0 (by omega))
  have BGH := hide (fun w => hB name w h0)
  have FD := fun w hm => hF (Fr.mk L en wy W ee r (g, fr, st)) s last w hk h1 hm
  have FR := fun w => frontOf_any (Fr.mk L en wy W ee r (g, fr, st)) s last w hk h1
  unfold FoR at FR
  rw [hk] at CK CS
  generalize (Fr.mk L en wy W ee r (g, fr, st)).nxt s last = NF at *
  generalize (Fr.mk L en wy W ee r (g, fr, st)).outs s last = NO at *
  obtain ⟨L3, en3, wy3, W3, ee3, r3, g3, fr3, st3⟩ := NF
  have CKH := hide CK
  have CSH := hide CS
  have FDH := hide FD
  have FRH := hide FR
  clear FR
  clear CK CS FD hk
  generalize (chI name (bl s)).1 = n1 at *
  generalize (chI name (bl s)).2.1 = n2 at *
  generalize (chI name (bl s)).2.2 = n3 at *
  dsimp only [Fr.v, Fr.new, M.st0] at CKH CSH FDH BGH FRH
  clear hC hCE hB hBE hF hFE hK hMx
  unfold maxLen at hn hs hL hW hr
  go_enter Tryz.func3, Tryz.ntmps3
  go_wp2_with fail
  have S5 : Hid (Fb w.heap.size (Fr.mk L en wy W ee r (g, fr, st)) (w.alloc (.cells #[.string L, .int .i64 en, .int .i64 wy, .string W, .int .i64 ee, .string r, .int .i64 g, .bool fr, .bool st] 25))) := hide (Fb.new w (Fr.mk L en wy W ee r (g, fr, st)))
  have HB : Hid (Below w.heap.size w (w.alloc (.cells #[.string L, .int .i64 en, .int .i64 wy, .string W, .int .i64 ee, .string r, .int .i64 g, .bool fr, .bool st] 25))) := hide (balloc _ _)
  refine (unhide CHH _ ((unhide HM).below (unhide HB))).mono ?_
  rintro e' w1 ⟨rfl, hb1⟩
  have S5 := hide ((unhide S5).on hb1)
  have HB := hide (bstep (unhide HB) hb1)
  clear hb1 CHH
  go_wp2_with fail
  refine (unhide BGH _).mono ?_
  rintro e' w2 ⟨rfl, hb2⟩
  have hst := bstep hb2 (balloc w2 (.cells #[.string name, .int .i64 0, .int .i64 0, .string ⟨#[]⟩, .int .i64 0, .string ⟨#[]⟩, .int .i64 0, .bool false, .bool false] 25))
  have S5 := hide ((unhide S5).on hst)
  have HB := hide (bstep (unhide HB) hst)
  have S13 : Hid (Fb w2.heap.size (Fr.new name) (w2.alloc (.cells #[.string name, .int .i64 0, .int .i64 0, .string ⟨#[]⟩, .int .i64 0, .string ⟨#[]⟩, .int .i64 0, .bool false, .bool false] 25))) := hide (Fb.new w2 (Fr.new name))
  clear hb2 hst BGH
  obtain ⟨B13, hB13⟩ : ∃ B, w2.heap.size = B := ⟨_, rfl⟩
  rw [hB13] at S13
  go_upto_region 3 with fail
  generalize w2.alloc (.cells #[.string name, .int .i64 0, .int .i64 0, .string ⟨#[]⟩, .int .i64 0, .string ⟨#[]⟩, .int .i64 0, .bool false, .bool false] 25) = W2 at *
  clear hB13
  have hl5 := (unhide S5).lt
  obtain ⟨c0, c1, c2, c3, c4, c5, c6, c7, c8, -, -, -, -, -, -, -, -, -⟩ := unhide S5
  dsimp only at c0 c1 c2 c3 c4 c5 c6 c7 c8
  go_wp2_with fail
  refine (unhide FDH _ ((unhide HM).below (unhide HB))).mono ?_
  rintro e' w3 ⟨v3, rfl, hI3, hb3⟩
  obtain ⟨a3, c3', hs3⟩ := owns_shape hI3
  subst hs3
  have I3 := hide (Ints.of_owns hI3)
  clear hI3
  clear c0 c1 c2 c3 c4 c5 c6 c7 c8 hl5
  have hst := bstep hb3 (balloc w3 (.cells #[.string L3, .int .i64 en3, .int .i64 wy3, .string W3, .int .i64 ee3, .string r3, .int .i64 g3, .bool fr3, .bool st3] 25))
  have S5 := hide ((unhide S5).on hst)
  have S13 := hide ((unhide S13).on hst)
  have HB := hide (bstep (unhide HB) hst)
  have I3 := hide ((unhide I3).below (balloc w3 (.cells #[.string L3, .int .i64 en3, .int .i64 wy3, .string W3, .int .i64 ee3, .string r3, .int .i64 g3, .bool fr3, .bool st3] 25)))
  have S16 : Hid (Fb w3.heap.size (Fr.mk L3 en3 wy3 W3 ee3 r3 (g3, fr3, st3)) (w3.alloc (.cells #[.string L3, .int .i64 en3, .int .i64 wy3, .string W3, .int .i64 ee3, .string r3, .int .i64 g3, .bool fr3, .bool st3] 25))) := hide (Fb.new w3 (Fr.mk L3 en3 wy3 W3 ee3 r3 (g3, fr3, st3)))
  clear hb3 hst FDH
  obtain ⟨B16, hB16⟩ : ∃ B, w3.heap.size = B := ⟨_, rfl⟩
  rw [hB16] at S16
  go_upto_region 4 with fail
  generalize w3.alloc (.cells #[.string L3, .int .i64 en3, .int .i64 wy3, .string W3, .int .i64 ee3, .string r3, .int .i64 g3, .bool fr3, .bool st3] 25) = V3 at *
  clear hB16
  have hl5 := (unhide S5).lt
  obtain ⟨c0, c1, c2, c3, c4, c5, c6, c7, c8, -, -, -, -, -, -, -, -, -⟩ := unhide S5
  dsimp only at c0 c1 c2 c3 c4 c5 c6 c7 c8
  go_wp2_with fail
  refine (tooLong_no name _ h0).mono ?_
  rintro e' w9 ⟨rfl, hw9⟩
  replace hw9 := hw9.symm
  subst hw9
  go_wp2_with fail
  refine (tooLong_no s _ h1).mono ?_
  rintro e' w9 ⟨rfl, hw9⟩
  replace hw9 := hw9.symm
  subst hw9
  go_wp2_with fail
  refine (unhide CSH _).mono ?_
  rintro e' w5 ⟨rfl, hb5⟩
  clear c0 c1 c2 c3 c4 c5 c6 c7 c8 hl5
  have S5 := hide ((unhide S5).on hb5)
  have S13 := hide ((unhide S13).on hb5)
  have S16 := hide ((unhide S16).on hb5)
  have I3 := hide ((unhide I3).below hb5)
  have HB := hide (bstep (unhide HB) hb5)
  clear hb5
  go_wp2_with fail
  refine (tooLong_no s _ h1).mono ?_
  rintro e' w9 ⟨rfl, hw9⟩
  replace hw9 := hw9.symm
  subst hw9
  go_wp2_with fail
  refine (unhide COH _).mono ?_
  rintro e' w6 ⟨rfl, hb6⟩
  have R24 : Hid (Fb w5.heap.size (Fr.new ⟨#[]⟩) w6) := hide (((Fb.new w5 (Fr.new ⟨#[]⟩)).alloc (.cells #[.string ⟨#[]⟩, .int .i64 0, .int .i64 0, .string ⟨#[]⟩, .int .i64 0, .string ⟨#[]⟩, .int .i64 0, .bool false, .bool false] 25)).on hb6)
  have R25 : Hid (Fb (w5.heap.size + 1) (Fr.new ⟨#[]⟩) w6) := hide ((Fb.new2 w5 (.cells #[.string ⟨#[]⟩, .int .i64 0, .int .i64 0, .string ⟨#[]⟩, .int .i64 0, .string ⟨#[]⟩, .int .i64 0, .bool false, .bool false] 25)).on hb6)
  have HW : Hid (Below w5.heap.size w5 w6) := hide (bstep (bstep (balloc w5 (.cells #[.string ⟨#[]⟩, .int .i64 0, .int .i64 0, .string ⟨#[]⟩, .int .i64 0, .string ⟨#[]⟩, .int .i64 0, .bool false, .bool false] 25)) (balloc _ (.cells #[.string ⟨#[]⟩, .int .i64 0, .int .i64 0, .string ⟨#[]⟩, .int .i64 0, .string ⟨#[]⟩, .int .i64 0, .bool false, .bool false] 25))) hb6)
  clear hb6 COH
  obtain ⟨b0, b1, b2, b3, b4, b5, b6, b7, b8, g0, g1, g2, g3', g4, g5, g6, g7, g8⟩ := unhide R24
  dsimp only [Fr.new, M.st0] at b0 b1 b2 b3 b4 b5 b6 b7 b8
  have hl6 : w5.heap.size < w6.heap.size := World.block_lt_of_cell? w6 _ b0
  go_upto_region 18 with fail
  have S24 : Hid (Fb w5.heap.size (Fr.new name) ((((((((((w6.setCell ⟨w5.heap.size, 0, none⟩ (.string name)).setCell ⟨w5.heap.size, 1, none⟩ (.int .i64 0)).setCell ⟨w5.heap.size, 2, none⟩ (.int .i64 0)).setCell ⟨w5.heap.size, 3, none⟩ (.string ⟨#[]⟩)).setCell ⟨w5.heap.size, 4, none⟩ (.int .i64 0)).setCell ⟨w5.heap.size, 5, none⟩ (.string ⟨#[]⟩)).setCell ⟨w5.heap.size, 6, none⟩ (.int .i64 0)).setCell ⟨w5.heap.size, 7, none⟩ (.bool false)).setCell ⟨w5.heap.size, 8, none⟩ (.bool false)))) := hide ((unhide R24).put9 (Fr.new name))
  have R25 : Hid (Fb (w5.heap.size + 1) (Fr.new ⟨#[]⟩) ((((((((((w6.setCell ⟨w5.heap.size, 0, none⟩ (.string name)).setCell ⟨w5.heap.size, 1, none⟩ (.int .i64 0)).setCell ⟨w5.heap.size, 2, none⟩ (.int .i64 0)).setCell ⟨w5.heap.size, 3, none⟩ (.string ⟨#[]⟩)).setCell ⟨w5.heap.size, 4, none⟩ (.int .i64 0)).setCell ⟨w5.heap.size, 5, none⟩ (.string ⟨#[]⟩)).setCell ⟨w5.heap.size, 6, none⟩ (.int .i64 0)).setCell ⟨w5.heap.size, 7, none⟩ (.bool false)).setCell ⟨w5.heap.size, 8, none⟩ (.bool false)))) := hide ((unhide R25).far9 (by omega) (Fr.new name))
  have HW : Hid (Below w5.heap.size w5 ((((((((((w6.setCell ⟨w5.heap.size, 0, none⟩ (.string name)).setCell ⟨w5.heap.size, 1, none⟩ (.int .i64 0)).setCell ⟨w5.heap.size, 2, none⟩ (.int .i64 0)).setCell ⟨w5.heap.size, 3, none⟩ (.string ⟨#[]⟩)).setCell ⟨w5.heap.size, 4, none⟩ (.int .i64 0)).setCell ⟨w5.heap.size, 5, none⟩ (.string ⟨#[]⟩)).setCell ⟨w5.heap.size, 6, none⟩ (.int .i64 0)).setCell ⟨w5.heap.size, 7, none⟩ (.bool false)).setCell ⟨w5.heap.size, 8, none⟩ (.bool false)))) := hide (bput9 (unhide HW) (Nat.le_refl _) (Fr.new name))
  clear b0 b1 b2 b3 b4 b5 b6 b7 b8 g0 g1 g2 g3' g4 g5 g6 g7 g8 hl6 R24
  generalize (((((((((w6.setCell ⟨w5.heap.size, 0, none⟩ (.string name)).setCell ⟨w5.heap.size, 1, none⟩ (.int .i64 0)).setCell ⟨w5.heap.size, 2, none⟩ (.int .i64 0)).setCell ⟨w5.heap.size, 3, none⟩ (.string ⟨#[]⟩)).setCell ⟨w5.heap.size, 4, none⟩ (.int .i64 0)).setCell ⟨w5.heap.size, 5, none⟩ (.string ⟨#[]⟩)).setCell ⟨w5.heap.size, 6, none⟩ (.int .i64 0)).setCell ⟨w5.heap.size, 7, none⟩ (.bool false)).setCell ⟨w5.heap.size, 8, none⟩ (.bool false)) = W6 at *
  have hS5 := (unhide S5).on (unhide HW)
  have hl5 := hS5.lt
  obtain ⟨c0, c1, c2, c3, c4, c5, c6, c7, c8, -, -, -, -, -, -, -, -, -⟩ := hS5
  dsimp only at c0 c1 c2 c3 c4 c5 c6 c7 c8
  go_wp2_with fail
  refine (unhide FRH _).mono ?_
  rintro e' w7 ⟨v7, rfl, hI7, hb7⟩
  clear c0 c1 c2 c3 c4 c5 c6 c7 c8 hl5
  obtain ⟨a7, c7', hs7⟩ := owns_shape hI7
  subst hs7
  have hz6 : w5.heap.size + 1 < W6.heap.size := (unhide R25).lt
  have O7 := hide hI7
  have S24 := hide ((unhide S24).on hb7)
  have R25 := hide ((unhide R25).on hb7)
  have HW := hide (bstep (unhide HW) hb7)
  clear hb7 hI7 FRH
  obtain ⟨b0, b1, b2, b3, b4, b5, b6, b7, b8, g0, g1, g2, g3', g4, g5, g6, g7, g8⟩ := unhide R25
  dsimp only [Fr.new, M.st0] at b0 b1 b2 b3 b4 b5 b6 b7 b8
  have hl7 : w5.heap.size + 1 < w7.heap.size := World.block_lt_of_cell? w7 _ b0
  go_upto_region 20 with fail
  have S25 : Hid (Fb (w5.heap.size + 1) (Fr.mk L3 en3 wy3 W3 ee3 r3 (g3, fr3, st3)) ((((((((((w7.setCell ⟨w5.heap.size + 1, 0, none⟩ (.string L3)).setCell ⟨w5.heap.size + 1, 1, none⟩ (.int .i64 en3)).setCell ⟨w5.heap.size + 1, 2, none⟩ (.int .i64 wy3)).setCell ⟨w5.heap.size + 1, 3, none⟩ (.string W3)).setCell ⟨w5.heap.size + 1, 4, none⟩ (.int .i64 ee3)).setCell ⟨w5.heap.size + 1, 5, none⟩ (.string r3)).setCell ⟨w5.heap.size + 1, 6, none⟩ (.int .i64 g3)).setCell ⟨w5.heap.size + 1, 7, none⟩ (.bool fr3)).setCell ⟨w5.heap.size + 1, 8, none⟩ (.bool st3)))) := hide ((unhide R25).put9 (Fr.mk L3 en3 wy3 W3 ee3 r3 (g3, fr3, st3)))
  have S24 : Hid (Fb w5.heap.size (Fr.new name) ((((((((((w7.setCell ⟨w5.heap.size + 1, 0, none⟩ (.string L3)).setCell ⟨w5.heap.size + 1, 1, none⟩ (.int .i64 en3)).setCell ⟨w5.heap.size + 1, 2, none⟩ (.int .i64 wy3)).setCell ⟨w5.heap.size + 1, 3, none⟩ (.string W3)).setCell ⟨w5.heap.size + 1, 4, none⟩ (.int .i64 ee3)).setCell ⟨w5.heap.size + 1, 5, none⟩ (.string r3)).setCell ⟨w5.heap.size + 1, 6, none⟩ (.int .i64 g3)).setCell ⟨w5.heap.size + 1, 7, none⟩ (.bool fr3)).setCell ⟨w5.heap.size + 1, 8, none⟩ (.bool st3)))) := hide ((unhide S24).far9 (by omega) (Fr.mk L3 en3 wy3 W3 ee3 r3 (g3, fr3, st3)))
  have O7 : Hid (((((((((((w7.setCell ⟨w5.heap.size + 1, 0, none⟩ (.string L3)).setCell ⟨w5.heap.size + 1, 1, none⟩ (.int .i64 en3)).setCell ⟨w5.heap.size + 1, 2, none⟩ (.int .i64 wy3)).setCell ⟨w5.heap.size + 1, 3, none⟩ (.string W3)).setCell ⟨w5.heap.size + 1, 4, none⟩ (.int .i64 ee3)).setCell ⟨w5.heap.size + 1, 5, none⟩ (.string r3)).setCell ⟨w5.heap.size + 1, 6, none⟩ (.int .i64 g3)).setCell ⟨w5.heap.size + 1, 7, none⟩ (.bool fr3)).setCell ⟨w5.heap.size + 1, 8, none⟩ (.bool st3))).ownsRow W6.heap.size 3 1 (.slice a7 NO.length c7') NO.length (NO.map (Value.int .i64))) := hide (oput9 (unhide O7) hz6 (Fr.mk L3 en3 wy3 W3 ee3 r3 (g3, fr3, st3)))
  have HW : Hid (Below w5.heap.size w5 ((((((((((w7.setCell ⟨w5.heap.size + 1, 0, none⟩ (.string L3)).setCell ⟨w5.heap.size + 1, 1, none⟩ (.int .i64 en3)).setCell ⟨w5.heap.size + 1, 2, none⟩ (.int .i64 wy3)).setCell ⟨w5.heap.size + 1, 3, none⟩ (.string W3)).setCell ⟨w5.heap.size + 1, 4, none⟩ (.int .i64 ee3)).setCell ⟨w5.heap.size + 1, 5, none⟩ (.string r3)).setCell ⟨w5.heap.size + 1, 6, none⟩ (.int .i64 g3)).setCell ⟨w5.heap.size + 1, 7, none⟩ (.bool fr3)).setCell ⟨w5.heap.size + 1, 8, none⟩ (.bool st3)))) := hide (bput9 (unhide HW) (by omega) (Fr.mk L3 en3 wy3 W3 ee3 r3 (g3, fr3, st3)))
  clear b0 b1 b2 b3 b4 b5 b6 b7 b8 g0 g1 g2 g3' g4 g5 g6 g7 g8 hl7 R25 hz6
  generalize (((((((((w7.setCell ⟨w5.heap.size + 1, 0, none⟩ (.string L3)).setCell ⟨w5.heap.size + 1, 1, none⟩ (.int .i64 en3)).setCell ⟨w5.heap.size + 1, 2, none⟩ (.int .i64 wy3)).setCell ⟨w5.heap.size + 1, 3, none⟩ (.string W3)).setCell ⟨w5.heap.size + 1, 4, none⟩ (.int .i64 ee3)).setCell ⟨w5.heap.size + 1, 5, none⟩ (.string r3)).setCell ⟨w5.heap.size + 1, 6, none⟩ (.int .i64 g3)).setCell ⟨w5.heap.size + 1, 7, none⟩ (.bool fr3)).setCell ⟨w5.heap.size + 1, 8, none⟩ (.bool st3)) = V at *
  have S5 := hide ((unhide S5).on (unhide HW))
  have S13 := hide ((unhide S13).on (unhide HW))
  have S16 := hide ((unhide S16).on (unhide HW))
  have I3 := hide ((unhide I3).below (unhide HW))
  have P3 := hide (Ints.of_owns (unhide O7))
  clear O7
  have HB := hide (bstep (unhide HB) (unhide HW))
  have MV := hide ((unhide HM).below (unhide HB))
  clear HW
  obtain ⟨B24, hB24⟩ : ∃ B, w5.heap.size = B := ⟨_, rfl⟩
  rw [hB24] at S24 S25
  have plt := (unhide S5).lt
  have p0 : ∀ w', Below V.heap.size V w' → w'.cell? ⟨w.heap.size, 0, none⟩ = some (.string L) := fun w' h => (h.cell (p := ⟨w.heap.size, 0, none⟩) plt).trans (unhide S5).c0
  have p1 : ∀ w', Below V.heap.size V w' → w'.cell? ⟨w.heap.size, 1, none⟩ = some (.int .i64 en) := fun w' h => (h.cell (p := ⟨w.heap.size, 1, none⟩) plt).trans (unhide S5).c1
  have p2 : ∀ w', Below V.heap.size V w' → w'.cell? ⟨w.heap.size, 2, none⟩ = some (.int .i64 wy) := fun w' h => (h.cell (p := ⟨w.heap.size, 2, none⟩) plt).trans (unhide S5).c2
  have p3 : ∀ w', Below V.heap.size V w' → w'.cell? ⟨w.heap.size, 3, none⟩ = some (.string W) := fun w' h => (h.cell (p := ⟨w.heap.size, 3, none⟩) plt).trans (unhide S5).c3
  have p4 : ∀ w', Below V.heap.size V w' → w'.cell? ⟨w.heap.size, 4, none⟩ = some (.int .i64 ee) := fun w' h => (h.cell (p := ⟨w.heap.size, 4, none⟩) plt).trans (unhide S5).c4
  have p5 : ∀ w', Below V.heap.size V w' → w'.cell? ⟨w.heap.size, 5, none⟩ = some (.string r) := fun w' h => (h.cell (p := ⟨w.heap.size, 5, none⟩) plt).trans (unhide S5).c5
  have p6 : ∀ w', Below V.heap.size V w' → w'.cell? ⟨w.heap.size, 6, none⟩ = some (.int .i64 g) := fun w' h => (h.cell (p := ⟨w.heap.size, 6, none⟩) plt).trans (unhide S5).c6
  have p7 : ∀ w', Below V.heap.size V w' → w'.cell? ⟨w.heap.size, 7, none⟩ = some (.bool fr) := fun w' h => (h.cell (p := ⟨w.heap.size, 7, none⟩) plt).trans (unhide S5).c7
  have p8 : ∀ w', Below V.heap.size V w' → w'.cell? ⟨w.heap.size, 8, none⟩ = some (.bool st) := fun w' h => (h.cell (p := ⟨w.heap.size, 8, none⟩) plt).trans (unhide S5).c8
  have qlt := (unhide S13).lt
  have q0 : ∀ w', Below V.heap.size V w' → w'.cell? ⟨B13, 0, none⟩ = some (.string name) := fun w' h => (h.cell (p := ⟨B13, 0, none⟩) qlt).trans (unhide S13).c0
  have q1 : ∀ w', Below V.heap.size V w' → w'.cell? ⟨B13, 1, none⟩ = some (.int .i64 0) := fun w' h => (h.cell (p := ⟨B13, 1, none⟩) qlt).trans (unhide S13).c1
  have q2 : ∀ w', Below V.heap.size V w' → w'.cell? ⟨B13, 2, none⟩ = some (.int .i64 0) := fun w' h => (h.cell (p := ⟨B13, 2, none⟩) qlt).trans (unhide S13).c2
  have q3 : ∀ w', Below V.heap.size V w' → w'.cell? ⟨B13, 3, none⟩ = some (.string ⟨#[]⟩) := fun w' h => (h.cell (p := ⟨B13, 3, none⟩) qlt).trans (unhide S13).c3
  have q4 : ∀ w', Below V.heap.size V w' → w'.cell? ⟨B13, 4, none⟩ = some (.int .i64 0) := fun w' h => (h.cell (p := ⟨B13, 4, none⟩) qlt).trans (unhide S13).c4
  have q5 : ∀ w', Below V.heap.size V w' → w'.cell? ⟨B13, 5, none⟩ = some (.string ⟨#[]⟩) := fun w' h => (h.cell (p := ⟨B13, 5, none⟩) qlt).trans (unhide S13).c5
  have q6 : ∀ w', Below V.heap.size V w' → w'.cell? ⟨B13, 6, none⟩ = some (.int .i64 0) := fun w' h => (h.cell (p := ⟨B13, 6, none⟩) qlt).trans (unhide S13).c6
  have q7 : ∀ w', Below V.heap.size V w' → w'.cell? ⟨B13, 7, none⟩ = some (.bool false) := fun w' h => (h.cell (p := ⟨B13, 7, none⟩) qlt).trans (unhide S13).c7
  have q8 : ∀ w', Below V.heap.size V w' → w'.cell? ⟨B13, 8, none⟩ = some (.bool false) := fun w' h => (h.cell (p := ⟨B13, 8, none⟩) qlt).trans (unhide S13).c8
  have xlt := (unhide S16).lt
  have x0 : ∀ w', Below V.heap.size V w' → w'.cell? ⟨B16, 0, none⟩ = some (.string L3) := fun w' h => (h.cell (p := ⟨B16, 0, none⟩) xlt).trans (unhide S16).c0
  have x1 : ∀ w', Below V.heap.size V w' → w'.cell? ⟨B16, 1, none⟩ = some (.int .i64 en3) := fun w' h => (h.cell (p := ⟨B16, 1, none⟩) xlt).trans (unhide S16).c1
  have x2 : ∀ w', Below V.heap.size V w' → w'.cell? ⟨B16, 2, none⟩ = some (.int .i64 wy3) := fun w' h => (h.cell (p := ⟨B16, 2, none⟩) xlt).trans (unhide S16).c2
  have x3 : ∀ w', Below V.heap.size V w' → w'.cell? ⟨B16, 3, none⟩ = some (.string W3) := fun w' h => (h.cell (p := ⟨B16, 3, none⟩) xlt).trans (unhide S16).c3
  have x4 : ∀ w', Below V.heap.size V w' → w'.cell? ⟨B16, 4, none⟩ = some (.int .i64 ee3) := fun w' h => (h.cell (p := ⟨B16, 4, none⟩) xlt).trans (unhide S16).c4
  have x5 : ∀ w', Below V.heap.size V w' → w'.cell? ⟨B16, 5, none⟩ = some (.string r3) := fun w' h => (h.cell (p := ⟨B16, 5, none⟩) xlt).trans (unhide S16).c5
  have x6 : ∀ w', Below V.heap.size V w' → w'.cell? ⟨B16, 6, none⟩ = some (.int .i64 g3) := fun w' h => (h.cell (p := ⟨B16, 6, none⟩) xlt).trans (unhide S16).c6
  have x7 : ∀ w', Below V.heap.size V w' → w'.cell? ⟨B16, 7, none⟩ = some (.bool fr3) := fun w' h => (h.cell (p := ⟨B16, 7, none⟩) xlt).trans (unhide S16).c7
  have x8 : ∀ w', Below V.heap.size V w' → w'.cell? ⟨B16, 8, none⟩ = some (.bool st3) := fun w' h => (h.cell (p := ⟨B16, 8, none⟩) xlt).trans (unhide S16).c8
  have ylt := (unhide S24).lt
  have y0 : ∀ w', Below V.heap.size V w' → w'.cell? ⟨B24, 0, none⟩ = some (.string name) := fun w' h => (h.cell (p := ⟨B24, 0, none⟩) ylt).trans (unhide S24).c0
  have y1 : ∀ w', Below V.heap.size V w' → w'.cell? ⟨B24, 1, none⟩ = some (.int .i64 0) := fun w' h => (h.cell (p := ⟨B24, 1, none⟩) ylt).trans (unhide S24).c1
  have y2 : ∀ w', Below V.heap.size V w' → w'.cell? ⟨B24, 2, none⟩ = some (.int .i64 0) := fun w' h => (h.cell (p := ⟨B24, 2, none⟩) ylt).trans (unhide S24).c2
  have y3 : ∀ w', Below V.heap.size V w' → w'.cell? ⟨B24, 3, none⟩ = some (.string ⟨#[]⟩) := fun w' h => (h.cell (p := ⟨B24, 3, none⟩) ylt).trans (unhide S24).c3
  have y4 : ∀ w', Below V.heap.size V w' → w'.cell? ⟨B24, 4, none⟩ = some (.int .i64 0) := fun w' h => (h.cell (p := ⟨B24, 4, none⟩) ylt).trans (unhide S24).c4
  have y5 : ∀ w', Below V.heap.size V w' → w'.cell? ⟨B24, 5, none⟩ = some (.string ⟨#[]⟩) := fun w' h => (h.cell (p := ⟨B24, 5, none⟩) ylt).trans (unhide S24).c5
  have y6 : ∀ w', Below V.heap.size V w' → w'.cell? ⟨B24, 6, none⟩ = some (.int .i64 0) := fun w' h => (h.cell (p := ⟨B24, 6, none⟩) ylt).trans (unhide S24).c6
  have y7 : ∀ w', Below V.heap.size V w' → w'.cell? ⟨B24, 7, none⟩ = some (.bool false) := fun w' h => (h.cell (p := ⟨B24, 7, none⟩) ylt).trans (unhide S24).c7
  have y8 : ∀ w', Below V.heap.size V w' → w'.cell? ⟨B24, 8, none⟩ = some (.bool false) := fun w' h => (h.cell (p := ⟨B24, 8, none⟩) ylt).trans (unhide S24).c8
  have zlt := (unhide S25).lt
  have z0 : ∀ w', Below V.heap.size V w' → w'.cell? ⟨(B24 + 1), 0, none⟩ = some (.string L3) := fun w' h => (h.cell (p := ⟨(B24 + 1), 0, none⟩) zlt).trans (unhide S25).c0
  have z1 : ∀ w', Below V.heap.size V w' → w'.cell? ⟨(B24 + 1), 1, none⟩ = some (.int .i64 en3) := fun w' h => (h.cell (p := ⟨(B24 + 1), 1, none⟩) zlt).trans (unhide S25).c1
  have z2 : ∀ w', Below V.heap.size V w' → w'.cell? ⟨(B24 + 1), 2, none⟩ = some (.int .i64 wy3) := fun w' h => (h.cell (p := ⟨(B24 + 1), 2, none⟩) zlt).trans (unhide S25).c2
  have z3 : ∀ w', Below V.heap.size V w' → w'.cell? ⟨(B24 + 1), 3, none⟩ = some (.string W3) := fun w' h => (h.cell (p := ⟨(B24 + 1), 3, none⟩) zlt).trans (unhide S25).c3
  have z4 : ∀ w', Below V.heap.size V w' → w'.cell? ⟨(B24 + 1), 4, none⟩ = some (.int .i64 ee3) := fun w' h => (h.cell (p := ⟨(B24 + 1), 4, none⟩) zlt).trans (unhide S25).c4
  have z5 : ∀ w', Below V.heap.size V w' → w'.cell? ⟨(B24 + 1), 5, none⟩ = some (.string r3) := fun w' h => (h.cell (p := ⟨(B24 + 1), 5, none⟩) zlt).trans (unhide S25).c5
  have z6 : ∀ w', Below V.heap.size V w' → w'.cell? ⟨(B24 + 1), 6, none⟩ = some (.int .i64 g3) := fun w' h => (h.cell (p := ⟨(B24 + 1), 6, none⟩) zlt).trans (unhide S25).c6
  have z7 : ∀ w', Below V.heap.size V w' → w'.cell? ⟨(B24 + 1), 7, none⟩ = some (.bool fr3) := fun w' h => (h.cell (p := ⟨(B24 + 1), 7, none⟩) zlt).trans (unhide S25).c7
  have z8 : ∀ w', Below V.heap.size V w' → w'.cell? ⟨(B24 + 1), 8, none⟩ = some (.bool st3) := fun w' h => (h.cell (p := ⟨(B24 + 1), 8, none⟩) zlt).trans (unhide S25).c8
  clear S5 S13 S16 S24 S25
  go_region_held3 (fun w' => Below V.heap.size V w') (first | exact below_drewN (Below.refl _ _) 1 | assumption)
    ((first
      | (go_at_call 19; refine (unhide GF _ ((unhide MV).below (by assumption))).mono ?_; rintro e' z ⟨rfl, hz⟩; have hS := bstep (by assumption) hz; clear hz)
      | (go_at_call 20; refine (unhide CKH _ ((unhide MV).below (by assumption))).mono ?_; rintro e' z ⟨rfl, hz⟩; have hS := bstep (by assumption) hz; clear hz)
      | (go_at_call 16; refine (unhide CSH _).mono ?_; rintro e' z ⟨rfl, hz⟩; have hS := bstep (by assumption) hz; clear hz)
      | (go_at_call 21; refine (intsAre_ok _ ((unhide I3).below (by assumption)) ((unhide P3).below (by assumption))).mono ?_; rintro e' z ⟨rfl, hz⟩; have hS := bstep (by assumption) hz; clear hz)))
  all_goals
    go_wp2_with fail
    go_ret
    exact ⟨ret_bool (by simp), bstep (unhide HB) (by assumption)⟩
set_option maxHeartbeats 6400000 in
set_option maxRecDepth 100000 in
theorem ft_npK (hC : ChSays) (hCE : ChErrs) (hB : BgSays) (hBE : BgErrs) (hF : FdSays) (hFE : FdErrs) (hK : CkSays) (name s L : ByteArray) (en wy : Int) (W : ByteArray) (ee : Int) (r : ByteArray) (g : Int) (fr st last : Bool) (w : World) (hMx : Mx w) (hn : name.size ≤ maxLen) (hs : s.size ≤ maxLen) (hL : L.size ≤ maxLen) (hW : W.size ≤ maxLen) (hr : r.size ≤ maxLen) (h0 : name.size ≤ 3000) (h1 : s.size ≤ 3000) (hk : (Fr.mk L en wy W ee r (g, fr, st)).chk ≠ 0) :
    Calls Tryz.prog 3 #[.string name, .string s, .agg #[.string L, .int .i64 en, .int .i64 wy, .string W, .int .i64 ee, .string r, .int .i64 g, .bool fr, .bool st], .bool last] w fun e' w' => e' = .returned (.bool true) ∧ Below w.heap.size w w' := by
  have HM := hide hMx
  have GF := hide (fun w h => begunF_any hC hB hF hK w h)
  have CK := fun w hm => hK (Fr.mk L en wy W ee r (g, fr, st)) w hL hW hr hm
  have CS := fun w => checkFront_any (Fr.mk L en wy W ee r (g, fr, st)) w hL hW hr
  have CHH := hide (fun w hm => hC name s w h0 h1 hm)
  have COH := hide (fun w => chooseOf_any name s w h0 (by omega))
  have BGH := hide (fun w => hB name w h0)
  have FD := fun w hm => hFE (Fr.mk L en wy W ee r (g, fr, st)) s last w hL hW hr hs (.inl hk) hm
  rw [if_neg hk] at FD
  obtain ⟨q, HQ⟩ : ∃ q, Hid ((Fr.mk L en wy W ee r (g, fr, st)).chk = q) := ⟨_, hide rfl⟩
  rw [unhide HQ] at CK CS FD hk
  have hq0 : (q == 0) = false := by simpa using hk
  have CKH := hide CK
  have CSH := hide CS
  have FDH := hide FD
  clear CK CS FD hk
  generalize (chI name (bl s)).1 = n1 at *
  generalize (chI name (bl s)).2.1 = n2 at *
  generalize (chI name (bl s)).2.2 = n3 at *
  dsimp only [Fr.v, Fr.new, M.st0] at CKH CSH FDH BGH
  clear hC hCE hB hBE hF hFE hK hMx
  unfold maxLen at hn hs hL hW hr
  go_enter Tryz.func3, Tryz.ntmps3
  go_wp2_with fail
  have S5 : Hid (Fb w.heap.size (Fr.mk L en wy W ee r (g, fr, st)) (w.alloc (.cells #[.string L, .int .i64 en, .int .i64 wy, .string W, .int .i64 ee, .string r, .int .i64 g, .bool fr, .bool st] 25))) := hide (Fb.new w (Fr.mk L en wy W ee r (g, fr, st)))
  have HB : Hid (Below w.heap.size w (w.alloc (.cells #[.string L, .int .i64 en, .int .i64 wy, .string W, .int .i64 ee, .string r, .int .i64 g, .bool fr, .bool st] 25))) := hide (balloc _ _)
  refine (unhide CHH _ ((unhide HM).below (unhide HB))).mono ?_
  rintro e' w1 ⟨rfl, hb1⟩
  have S5 := hide ((unhide S5).on hb1)
  have HB := hide (bstep (unhide HB) hb1)
  clear hb1 CHH
  go_wp2_with fail
  refine (unhide BGH _).mono ?_
  rintro e' w2 ⟨rfl, hb2⟩
  have hst := bstep hb2 (balloc w2 (.cells #[.string name, .int .i64 0, .int .i64 0, .string ⟨#[]⟩, .int .i64 0, .string ⟨#[]⟩, .int .i64 0, .bool false, .bool false] 25))
  have S5 := hide ((unhide S5).on hst)
  have HB := hide (bstep (unhide HB) hst)
  have S13 : Hid (Fb w2.heap.size (Fr.new name) (w2.alloc (.cells #[.string name, .int .i64 0, .int .i64 0, .string ⟨#[]⟩, .int .i64 0, .string ⟨#[]⟩, .int .i64 0, .bool false, .bool false] 25))) := hide (Fb.new w2 (Fr.new name))
  clear hb2 hst BGH
  obtain ⟨B13, hB13⟩ : ∃ B, w2.heap.size = B := ⟨_, rfl⟩
  rw [hB13] at S13
  go_upto_region 3 with fail
  generalize w2.alloc (.cells #[.string name, .int .i64 0, .int .i64 0, .string ⟨#[]⟩, .int .i64 0, .string ⟨#[]⟩, .int .i64 0, .bool false, .bool false] 25) = W2 at *
  clear hB13
  have hl5 := (unhide S5).lt
  obtain ⟨c0, c1, c2, c3, c4, c5, c6, c7, c8, -, -, -, -, -, -, -, -, -⟩ := unhide S5
  dsimp only at c0 c1 c2 c3 c4 c5 c6 c7 c8
  go_wp2_with fail
  refine (unhide FDH _ ((unhide HM).below (unhide HB))).mono ?_
  rintro e' w3 ⟨v3, rfl, hI3, hb3⟩
  have I3 := hide hI3
  obtain ⟨a3, c3', hs3, -⟩ := hI3
  subst hs3
  clear c0 c1 c2 c3 c4 c5 c6 c7 c8 hl5
  have hst := bstep hb3 (balloc w3 (.cells #[.string ⟨#[]⟩, .int .i64 0, .int .i64 0, .string ⟨#[]⟩, .int .i64 0, .string ⟨#[]⟩, .int .i64 0, .bool false, .bool false] 25))
  have S5 := hide ((unhide S5).on hst)
  have S13 := hide ((unhide S13).on hst)
  have HB := hide (bstep (unhide HB) hst)
  have I3 := hide ((unhide I3).below (balloc w3 (.cells #[.string ⟨#[]⟩, .int .i64 0, .int .i64 0, .string ⟨#[]⟩, .int .i64 0, .string ⟨#[]⟩, .int .i64 0, .bool false, .bool false] 25)))
  have S16 : Hid (Fb w3.heap.size (Fr.new ⟨#[]⟩) (w3.alloc (.cells #[.string ⟨#[]⟩, .int .i64 0, .int .i64 0, .string ⟨#[]⟩, .int .i64 0, .string ⟨#[]⟩, .int .i64 0, .bool false, .bool false] 25))) := hide (Fb.new w3 (Fr.new ⟨#[]⟩))
  clear hb3 hst FDH
  obtain ⟨B16, hB16⟩ : ∃ B, w3.heap.size = B := ⟨_, rfl⟩
  rw [hB16] at S16
  go_upto_region 4 with fail
  generalize w3.alloc (.cells #[.string ⟨#[]⟩, .int .i64 0, .int .i64 0, .string ⟨#[]⟩, .int .i64 0, .string ⟨#[]⟩, .int .i64 0, .bool false, .bool false] 25) = V3 at *
  clear hB16
  have hl5 := (unhide S5).lt
  obtain ⟨c0, c1, c2, c3, c4, c5, c6, c7, c8, -, -, -, -, -, -, -, -, -⟩ := unhide S5
  dsimp only at c0 c1 c2 c3 c4 c5 c6 c7 c8
  go_wp2_with fail
  refine (tooLong_no name _ h0).mono ?_
  rintro e' w9 ⟨rfl, hw9⟩
  replace hw9 := hw9.symm
  subst hw9
  go_wp2_with fail
  refine (tooLong_no s _ h1).mono ?_
  rintro e' w9 ⟨rfl, hw9⟩
  replace hw9 := hw9.symm
  subst hw9
  go_wp2_with fail
  refine (unhide CSH _).mono ?_
  rintro e' w5 ⟨rfl, hb5⟩
  clear c0 c1 c2 c3 c4 c5 c6 c7 c8 hl5
  have S5 := hide ((unhide S5).on hb5)
  have S13 := hide ((unhide S13).on hb5)
  have S16 := hide ((unhide S16).on hb5)
  have I3 := hide ((unhide I3).below hb5)
  have HB := hide (bstep (unhide HB) hb5)
  clear hb5
  go_wp2_with fail
  refine (unhide COH _).mono ?_
  rintro e' w6 ⟨rfl, hb6⟩
  have R24 : Hid (Fb w5.heap.size (Fr.new ⟨#[]⟩) w6) := hide (((Fb.new w5 (Fr.new ⟨#[]⟩)).alloc (.cells #[.string ⟨#[]⟩, .int .i64 0, .int .i64 0, .string ⟨#[]⟩, .int .i64 0, .string ⟨#[]⟩, .int .i64 0, .bool false, .bool false] 25)).on hb6)
  have R25 : Hid (Fb (w5.heap.size + 1) (Fr.new ⟨#[]⟩) w6) := hide ((Fb.new2 w5 (.cells #[.string ⟨#[]⟩, .int .i64 0, .int .i64 0, .string ⟨#[]⟩, .int .i64 0, .string ⟨#[]⟩, .int .i64 0, .bool false, .bool false] 25)).on hb6)
  have HW : Hid (Below w5.heap.size w5 w6) := hide (bstep (bstep (balloc w5 (.cells #[.string ⟨#[]⟩, .int .i64 0, .int .i64 0, .string ⟨#[]⟩, .int .i64 0, .string ⟨#[]⟩, .int .i64 0, .bool false, .bool false] 25)) (balloc _ (.cells #[.string ⟨#[]⟩, .int .i64 0, .int .i64 0, .string ⟨#[]⟩, .int .i64 0, .string ⟨#[]⟩, .int .i64 0, .bool false, .bool false] 25))) hb6)
  clear hb6 COH
  obtain ⟨b0, b1, b2, b3, b4, b5, b6, b7, b8, g0, g1, g2, g3', g4, g5, g6, g7, g8⟩ := unhide R24
  dsimp only [Fr.new, M.st0] at b0 b1 b2 b3 b4 b5 b6 b7 b8
  have hl6 : w5.heap.size < w6.heap.size := World.block_lt_of_cell? w6 _ b0
  go_upto_region 18 with fail
  have S24 : Hid (Fb w5.heap.size (Fr.new name) ((((((((((w6.setCell ⟨w5.heap.size, 0, none⟩ (.string name)).setCell ⟨w5.heap.size, 1, none⟩ (.int .i64 0)).setCell ⟨w5.heap.size, 2, none⟩ (.int .i64 0)).setCell ⟨w5.heap.size, 3, none⟩ (.string ⟨#[]⟩)).setCell ⟨w5.heap.size, 4, none⟩ (.int .i64 0)).setCell ⟨w5.heap.size, 5, none⟩ (.string ⟨#[]⟩)).setCell ⟨w5.heap.size, 6, none⟩ (.int .i64 0)).setCell ⟨w5.heap.size, 7, none⟩ (.bool false)).setCell ⟨w5.heap.size, 8, none⟩ (.bool false)))) := hide ((unhide R24).put9 (Fr.new name))
  have R25 : Hid (Fb (w5.heap.size + 1) (Fr.new ⟨#[]⟩) ((((((((((w6.setCell ⟨w5.heap.size, 0, none⟩ (.string name)).setCell ⟨w5.heap.size, 1, none⟩ (.int .i64 0)).setCell ⟨w5.heap.size, 2, none⟩ (.int .i64 0)).setCell ⟨w5.heap.size, 3, none⟩ (.string ⟨#[]⟩)).setCell ⟨w5.heap.size, 4, none⟩ (.int .i64 0)).setCell ⟨w5.heap.size, 5, none⟩ (.string ⟨#[]⟩)).setCell ⟨w5.heap.size, 6, none⟩ (.int .i64 0)).setCell ⟨w5.heap.size, 7, none⟩ (.bool false)).setCell ⟨w5.heap.size, 8, none⟩ (.bool false)))) := hide ((unhide R25).far9 (by omega) (Fr.new name))
  have HW : Hid (Below w5.heap.size w5 ((((((((((w6.setCell ⟨w5.heap.size, 0, none⟩ (.string name)).setCell ⟨w5.heap.size, 1, none⟩ (.int .i64 0)).setCell ⟨w5.heap.size, 2, none⟩ (.int .i64 0)).setCell ⟨w5.heap.size, 3, none⟩ (.string ⟨#[]⟩)).setCell ⟨w5.heap.size, 4, none⟩ (.int .i64 0)).setCell ⟨w5.heap.size, 5, none⟩ (.string ⟨#[]⟩)).setCell ⟨w5.heap.size, 6, none⟩ (.int .i64 0)).setCell ⟨w5.heap.size, 7, none⟩ (.bool false)).setCell ⟨w5.heap.size, 8, none⟩ (.bool false)))) := hide (bput9 (unhide HW) (Nat.le_refl _) (Fr.new name))
  clear b0 b1 b2 b3 b4 b5 b6 b7 b8 g0 g1 g2 g3' g4 g5 g6 g7 g8 hl6 R24
  generalize (((((((((w6.setCell ⟨w5.heap.size, 0, none⟩ (.string name)).setCell ⟨w5.heap.size, 1, none⟩ (.int .i64 0)).setCell ⟨w5.heap.size, 2, none⟩ (.int .i64 0)).setCell ⟨w5.heap.size, 3, none⟩ (.string ⟨#[]⟩)).setCell ⟨w5.heap.size, 4, none⟩ (.int .i64 0)).setCell ⟨w5.heap.size, 5, none⟩ (.string ⟨#[]⟩)).setCell ⟨w5.heap.size, 6, none⟩ (.int .i64 0)).setCell ⟨w5.heap.size, 7, none⟩ (.bool false)).setCell ⟨w5.heap.size, 8, none⟩ (.bool false)) = V at *
  go_upto_region 20 with fail
  have S25 : Hid (Fb (w5.heap.size + 1) (Fr.new ⟨#[]⟩) V) := R25
  clear R25
  have S5 := hide ((unhide S5).on (unhide HW))
  have S13 := hide ((unhide S13).on (unhide HW))
  have S16 := hide ((unhide S16).on (unhide HW))
  have I3 := hide ((unhide I3).below (unhide HW))
  have HB := hide (bstep (unhide HB) (unhide HW))
  have MV := hide ((unhide HM).below (unhide HB))
  clear HW
  obtain ⟨B24, hB24⟩ : ∃ B, w5.heap.size = B := ⟨_, rfl⟩
  rw [hB24] at S24 S25
  have plt := (unhide S5).lt
  have p0 : ∀ w', Below V.heap.size V w' → w'.cell? ⟨w.heap.size, 0, none⟩ = some (.string L) := fun w' h => (h.cell (p := ⟨w.heap.size, 0, none⟩) plt).trans (unhide S5).c0
  have p1 : ∀ w', Below V.heap.size V w' → w'.cell? ⟨w.heap.size, 1, none⟩ = some (.int .i64 en) := fun w' h => (h.cell (p := ⟨w.heap.size, 1, none⟩) plt).trans (unhide S5).c1
  have p2 : ∀ w', Below V.heap.size V w' → w'.cell? ⟨w.heap.size, 2, none⟩ = some (.int .i64 wy) := fun w' h => (h.cell (p := ⟨w.heap.size, 2, none⟩) plt).trans (unhide S5).c2
  have p3 : ∀ w', Below V.heap.size V w' → w'.cell? ⟨w.heap.size, 3, none⟩ = some (.string W) := fun w' h => (h.cell (p := ⟨w.heap.size, 3, none⟩) plt).trans (unhide S5).c3
  have p4 : ∀ w', Below V.heap.size V w' → w'.cell? ⟨w.heap.size, 4, none⟩ = some (.int .i64 ee) := fun w' h => (h.cell (p := ⟨w.heap.size, 4, none⟩) plt).trans (unhide S5).c4
  have p5 : ∀ w', Below V.heap.size V w' → w'.cell? ⟨w.heap.size, 5, none⟩ = some (.string r) := fun w' h => (h.cell (p := ⟨w.heap.size, 5, none⟩) plt).trans (unhide S5).c5
  have p6 : ∀ w', Below V.heap.size V w' → w'.cell? ⟨w.heap.size, 6, none⟩ = some (.int .i64 g) := fun w' h => (h.cell (p := ⟨w.heap.size, 6, none⟩) plt).trans (unhide S5).c6
  have p7 : ∀ w', Below V.heap.size V w' → w'.cell? ⟨w.heap.size, 7, none⟩ = some (.bool fr) := fun w' h => (h.cell (p := ⟨w.heap.size, 7, none⟩) plt).trans (unhide S5).c7
  have p8 : ∀ w', Below V.heap.size V w' → w'.cell? ⟨w.heap.size, 8, none⟩ = some (.bool st) := fun w' h => (h.cell (p := ⟨w.heap.size, 8, none⟩) plt).trans (unhide S5).c8
  have qlt := (unhide S13).lt
  have q0 : ∀ w', Below V.heap.size V w' → w'.cell? ⟨B13, 0, none⟩ = some (.string name) := fun w' h => (h.cell (p := ⟨B13, 0, none⟩) qlt).trans (unhide S13).c0
  have q1 : ∀ w', Below V.heap.size V w' → w'.cell? ⟨B13, 1, none⟩ = some (.int .i64 0) := fun w' h => (h.cell (p := ⟨B13, 1, none⟩) qlt).trans (unhide S13).c1
  have q2 : ∀ w', Below V.heap.size V w' → w'.cell? ⟨B13, 2, none⟩ = some (.int .i64 0) := fun w' h => (h.cell (p := ⟨B13, 2, none⟩) qlt).trans (unhide S13).c2
  have q3 : ∀ w', Below V.heap.size V w' → w'.cell? ⟨B13, 3, none⟩ = some (.string ⟨#[]⟩) := fun w' h => (h.cell (p := ⟨B13, 3, none⟩) qlt).trans (unhide S13).c3
  have q4 : ∀ w', Below V.heap.size V w' → w'.cell? ⟨B13, 4, none⟩ = some (.int .i64 0) := fun w' h => (h.cell (p := ⟨B13, 4, none⟩) qlt).trans (unhide S13).c4
  have q5 : ∀ w', Below V.heap.size V w' → w'.cell? ⟨B13, 5, none⟩ = some (.string ⟨#[]⟩) := fun w' h => (h.cell (p := ⟨B13, 5, none⟩) qlt).trans (unhide S13).c5
  have q6 : ∀ w', Below V.heap.size V w' → w'.cell? ⟨B13, 6, none⟩ = some (.int .i64 0) := fun w' h => (h.cell (p := ⟨B13, 6, none⟩) qlt).trans (unhide S13).c6
  have q7 : ∀ w', Below V.heap.size V w' → w'.cell? ⟨B13, 7, none⟩ = some (.bool false) := fun w' h => (h.cell (p := ⟨B13, 7, none⟩) qlt).trans (unhide S13).c7
  have q8 : ∀ w', Below V.heap.size V w' → w'.cell? ⟨B13, 8, none⟩ = some (.bool false) := fun w' h => (h.cell (p := ⟨B13, 8, none⟩) qlt).trans (unhide S13).c8
  have xlt := (unhide S16).lt
  have x0 : ∀ w', Below V.heap.size V w' → w'.cell? ⟨B16, 0, none⟩ = some (.string ⟨#[]⟩) := fun w' h => (h.cell (p := ⟨B16, 0, none⟩) xlt).trans (unhide S16).c0
  have x1 : ∀ w', Below V.heap.size V w' → w'.cell? ⟨B16, 1, none⟩ = some (.int .i64 0) := fun w' h => (h.cell (p := ⟨B16, 1, none⟩) xlt).trans (unhide S16).c1
  have x2 : ∀ w', Below V.heap.size V w' → w'.cell? ⟨B16, 2, none⟩ = some (.int .i64 0) := fun w' h => (h.cell (p := ⟨B16, 2, none⟩) xlt).trans (unhide S16).c2
  have x3 : ∀ w', Below V.heap.size V w' → w'.cell? ⟨B16, 3, none⟩ = some (.string ⟨#[]⟩) := fun w' h => (h.cell (p := ⟨B16, 3, none⟩) xlt).trans (unhide S16).c3
  have x4 : ∀ w', Below V.heap.size V w' → w'.cell? ⟨B16, 4, none⟩ = some (.int .i64 0) := fun w' h => (h.cell (p := ⟨B16, 4, none⟩) xlt).trans (unhide S16).c4
  have x5 : ∀ w', Below V.heap.size V w' → w'.cell? ⟨B16, 5, none⟩ = some (.string ⟨#[]⟩) := fun w' h => (h.cell (p := ⟨B16, 5, none⟩) xlt).trans (unhide S16).c5
  have x6 : ∀ w', Below V.heap.size V w' → w'.cell? ⟨B16, 6, none⟩ = some (.int .i64 0) := fun w' h => (h.cell (p := ⟨B16, 6, none⟩) xlt).trans (unhide S16).c6
  have x7 : ∀ w', Below V.heap.size V w' → w'.cell? ⟨B16, 7, none⟩ = some (.bool false) := fun w' h => (h.cell (p := ⟨B16, 7, none⟩) xlt).trans (unhide S16).c7
  have x8 : ∀ w', Below V.heap.size V w' → w'.cell? ⟨B16, 8, none⟩ = some (.bool false) := fun w' h => (h.cell (p := ⟨B16, 8, none⟩) xlt).trans (unhide S16).c8
  have ylt := (unhide S24).lt
  have y0 : ∀ w', Below V.heap.size V w' → w'.cell? ⟨B24, 0, none⟩ = some (.string name) := fun w' h => (h.cell (p := ⟨B24, 0, none⟩) ylt).trans (unhide S24).c0
  have y1 : ∀ w', Below V.heap.size V w' → w'.cell? ⟨B24, 1, none⟩ = some (.int .i64 0) := fun w' h => (h.cell (p := ⟨B24, 1, none⟩) ylt).trans (unhide S24).c1
  have y2 : ∀ w', Below V.heap.size V w' → w'.cell? ⟨B24, 2, none⟩ = some (.int .i64 0) := fun w' h => (h.cell (p := ⟨B24, 2, none⟩) ylt).trans (unhide S24).c2
  have y3 : ∀ w', Below V.heap.size V w' → w'.cell? ⟨B24, 3, none⟩ = some (.string ⟨#[]⟩) := fun w' h => (h.cell (p := ⟨B24, 3, none⟩) ylt).trans (unhide S24).c3
  have y4 : ∀ w', Below V.heap.size V w' → w'.cell? ⟨B24, 4, none⟩ = some (.int .i64 0) := fun w' h => (h.cell (p := ⟨B24, 4, none⟩) ylt).trans (unhide S24).c4
  have y5 : ∀ w', Below V.heap.size V w' → w'.cell? ⟨B24, 5, none⟩ = some (.string ⟨#[]⟩) := fun w' h => (h.cell (p := ⟨B24, 5, none⟩) ylt).trans (unhide S24).c5
  have y6 : ∀ w', Below V.heap.size V w' → w'.cell? ⟨B24, 6, none⟩ = some (.int .i64 0) := fun w' h => (h.cell (p := ⟨B24, 6, none⟩) ylt).trans (unhide S24).c6
  have y7 : ∀ w', Below V.heap.size V w' → w'.cell? ⟨B24, 7, none⟩ = some (.bool false) := fun w' h => (h.cell (p := ⟨B24, 7, none⟩) ylt).trans (unhide S24).c7
  have y8 : ∀ w', Below V.heap.size V w' → w'.cell? ⟨B24, 8, none⟩ = some (.bool false) := fun w' h => (h.cell (p := ⟨B24, 8, none⟩) ylt).trans (unhide S24).c8
  have zlt := (unhide S25).lt
  have z0 : ∀ w', Below V.heap.size V w' → w'.cell? ⟨(B24 + 1), 0, none⟩ = some (.string ⟨#[]⟩) := fun w' h => (h.cell (p := ⟨(B24 + 1), 0, none⟩) zlt).trans (unhide S25).c0
  have z1 : ∀ w', Below V.heap.size V w' → w'.cell? ⟨(B24 + 1), 1, none⟩ = some (.int .i64 0) := fun w' h => (h.cell (p := ⟨(B24 + 1), 1, none⟩) zlt).trans (unhide S25).c1
  have z2 : ∀ w', Below V.heap.size V w' → w'.cell? ⟨(B24 + 1), 2, none⟩ = some (.int .i64 0) := fun w' h => (h.cell (p := ⟨(B24 + 1), 2, none⟩) zlt).trans (unhide S25).c2
  have z3 : ∀ w', Below V.heap.size V w' → w'.cell? ⟨(B24 + 1), 3, none⟩ = some (.string ⟨#[]⟩) := fun w' h => (h.cell (p := ⟨(B24 + 1), 3, none⟩) zlt).trans (unhide S25).c3
  have z4 : ∀ w', Below V.heap.size V w' → w'.cell? ⟨(B24 + 1), 4, none⟩ = some (.int .i64 0) := fun w' h => (h.cell (p := ⟨(B24 + 1), 4, none⟩) zlt).trans (unhide S25).c4
  have z5 : ∀ w', Below V.heap.size V w' → w'.cell? ⟨(B24 + 1), 5, none⟩ = some (.string ⟨#[]⟩) := fun w' h => (h.cell (p := ⟨(B24 + 1), 5, none⟩) zlt).trans (unhide S25).c5
  have z6 : ∀ w', Below V.heap.size V w' → w'.cell? ⟨(B24 + 1), 6, none⟩ = some (.int .i64 0) := fun w' h => (h.cell (p := ⟨(B24 + 1), 6, none⟩) zlt).trans (unhide S25).c6
  have z7 : ∀ w', Below V.heap.size V w' → w'.cell? ⟨(B24 + 1), 7, none⟩ = some (.bool false) := fun w' h => (h.cell (p := ⟨(B24 + 1), 7, none⟩) zlt).trans (unhide S25).c7
  have z8 : ∀ w', Below V.heap.size V w' → w'.cell? ⟨(B24 + 1), 8, none⟩ = some (.bool false) := fun w' h => (h.cell (p := ⟨(B24 + 1), 8, none⟩) zlt).trans (unhide S25).c8
  clear S5 S13 S16 S24 S25
  go_region_held3 (fun w' => Below V.heap.size V w') (first | exact below_drewN (Below.refl _ _) 1 | assumption)
    ((first
      | (go_at_call 19; refine (unhide GF _ ((unhide MV).below (by assumption))).mono ?_; rintro e' z ⟨rfl, hz⟩; have hS := bstep (by assumption) hz; clear hz)
      | (go_at_call 20; refine (unhide CKH _ ((unhide MV).below (by assumption))).mono ?_; rintro e' z ⟨rfl, hz⟩; have hS := bstep (by assumption) hz; clear hz)
      | (go_at_call 16; refine (unhide CSH _).mono ?_; rintro e' z ⟨rfl, hz⟩; have hS := bstep (by assumption) hz; clear hz)
      | (go_at_call 21; refine (intsAre_bad _ _ _ _ _ hq0 ((unhide I3).below (by assumption))).mono ?_; rintro e' z ⟨rfl, hz⟩; have hS := bstep (by assumption) hz; clear hz)))
  all_goals
    go_wp2_with fail
    go_ret
    exact ⟨ret_bool (by simp), bstep (unhide HB) (by assumption)⟩
set_option maxHeartbeats 6400000 in
set_option maxRecDepth 100000 in
theorem ft_nPk (hC : ChSays) (hCE : ChErrs) (hB : BgSays) (hBE : BgErrs) (hF : FdSays) (hFE : FdErrs) (hK : CkSays) (name s L : ByteArray) (en wy : Int) (W : ByteArray) (ee : Int) (r : ByteArray) (g : Int) (fr st last : Bool) (w : World) (hMx : Mx w) (hn : name.size ≤ maxLen) (hs : s.size ≤ maxLen) (hL : L.size ≤ maxLen) (hW : W.size ≤ maxLen) (hr : r.size ≤ maxLen) (h0 : name.size ≤ 3000) (h1 : 3000 < s.size) (hk : (Fr.mk L en wy W ee r (g, fr, st)).chk = 0) :
    Calls Tryz.prog 3 #[.string name, .string s, .agg #[.string L, .int .i64 en, .int .i64 wy, .string W, .int .i64 ee, .string r, .int .i64 g, .bool fr, .bool st], .bool last] w fun e' w' => e' = .returned (.bool true) ∧ Below w.heap.size w w' := by
  have HM := hide hMx
  have GF := hide (fun w h => begunF_any hC hB hF hK w h)
  have CK := fun w hm => hK (Fr.mk L en wy W ee r (g, fr, st)) w hL hW hr hm
  have CS := fun w => checkFront_any (Fr.mk L en wy W ee r (g, fr, st)) w hL hW hr
  have CHH := hide (fun w hm => hCE name s w hn hs (.inr h1) hm)
  have BGH := hide (fun w => hB name w h0)
  have FD := fun w hm => hFE (Fr.mk L en wy W ee r (g, fr, st)) s last w hL hW hr hs (.inr h1) hm
  rw [if_pos hk] at FD
  rw [hk] at CK CS
  have CKH := hide CK
  have CSH := hide CS
  have FDH := hide FD
  clear CK CS FD hk
  dsimp only [Fr.v, Fr.new, M.st0] at CKH CSH FDH BGH
  clear hC hCE hB hBE hF hFE hK hMx
  unfold maxLen at hn hs hL hW hr
  go_enter Tryz.func3, Tryz.ntmps3
  go_wp2_with fail
  have S5 : Hid (Fb w.heap.size (Fr.mk L en wy W ee r (g, fr, st)) (w.alloc (.cells #[.string L, .int .i64 en, .int .i64 wy, .string W, .int .i64 ee, .string r, .int .i64 g, .bool fr, .bool st] 25))) := hide (Fb.new w (Fr.mk L en wy W ee r (g, fr, st)))
  have HB : Hid (Below w.heap.size w (w.alloc (.cells #[.string L, .int .i64 en, .int .i64 wy, .string W, .int .i64 ee, .string r, .int .i64 g, .bool fr, .bool st] 25))) := hide (balloc _ _)
  refine (unhide CHH _ ((unhide HM).below (unhide HB))).mono ?_
  rintro e' w1 ⟨rfl, hb1⟩
  have S5 := hide ((unhide S5).on hb1)
  have HB := hide (bstep (unhide HB) hb1)
  clear hb1 CHH
  go_wp2_with fail
  refine (unhide BGH _).mono ?_
  rintro e' w2 ⟨rfl, hb2⟩
  have hst := bstep hb2 (balloc w2 (.cells #[.string name, .int .i64 0, .int .i64 0, .string ⟨#[]⟩, .int .i64 0, .string ⟨#[]⟩, .int .i64 0, .bool false, .bool false] 25))
  have S5 := hide ((unhide S5).on hst)
  have HB := hide (bstep (unhide HB) hst)
  have S13 : Hid (Fb w2.heap.size (Fr.new name) (w2.alloc (.cells #[.string name, .int .i64 0, .int .i64 0, .string ⟨#[]⟩, .int .i64 0, .string ⟨#[]⟩, .int .i64 0, .bool false, .bool false] 25))) := hide (Fb.new w2 (Fr.new name))
  clear hb2 hst BGH
  obtain ⟨B13, hB13⟩ : ∃ B, w2.heap.size = B := ⟨_, rfl⟩
  rw [hB13] at S13
  go_upto_region 3 with fail
  generalize w2.alloc (.cells #[.string name, .int .i64 0, .int .i64 0, .string ⟨#[]⟩, .int .i64 0, .string ⟨#[]⟩, .int .i64 0, .bool false, .bool false] 25) = W2 at *
  clear hB13
  have hl5 := (unhide S5).lt
  obtain ⟨c0, c1, c2, c3, c4, c5, c6, c7, c8, -, -, -, -, -, -, -, -, -⟩ := unhide S5
  dsimp only at c0 c1 c2 c3 c4 c5 c6 c7 c8
  go_wp2_with fail
  refine (unhide FDH _ ((unhide HM).below (unhide HB))).mono ?_
  rintro e' w3 ⟨v3, rfl, hI3, hb3⟩
  have I3 := hide hI3
  obtain ⟨a3, c3', hs3, -⟩ := hI3
  subst hs3
  clear c0 c1 c2 c3 c4 c5 c6 c7 c8 hl5
  have hst := bstep hb3 (balloc w3 (.cells #[.string ⟨#[]⟩, .int .i64 0, .int .i64 0, .string ⟨#[]⟩, .int .i64 0, .string ⟨#[]⟩, .int .i64 0, .bool false, .bool false] 25))
  have S5 := hide ((unhide S5).on hst)
  have S13 := hide ((unhide S13).on hst)
  have HB := hide (bstep (unhide HB) hst)
  have I3 := hide ((unhide I3).below (balloc w3 (.cells #[.string ⟨#[]⟩, .int .i64 0, .int .i64 0, .string ⟨#[]⟩, .int .i64 0, .string ⟨#[]⟩, .int .i64 0, .bool false, .bool false] 25)))
  have S16 : Hid (Fb w3.heap.size (Fr.new ⟨#[]⟩) (w3.alloc (.cells #[.string ⟨#[]⟩, .int .i64 0, .int .i64 0, .string ⟨#[]⟩, .int .i64 0, .string ⟨#[]⟩, .int .i64 0, .bool false, .bool false] 25))) := hide (Fb.new w3 (Fr.new ⟨#[]⟩))
  clear hb3 hst FDH
  obtain ⟨B16, hB16⟩ : ∃ B, w3.heap.size = B := ⟨_, rfl⟩
  rw [hB16] at S16
  go_upto_region 4 with fail
  generalize w3.alloc (.cells #[.string ⟨#[]⟩, .int .i64 0, .int .i64 0, .string ⟨#[]⟩, .int .i64 0, .string ⟨#[]⟩, .int .i64 0, .bool false, .bool false] 25) = V3 at *
  clear hB16
  have hl5 := (unhide S5).lt
  obtain ⟨c0, c1, c2, c3, c4, c5, c6, c7, c8, -, -, -, -, -, -, -, -, -⟩ := unhide S5
  dsimp only at c0 c1 c2 c3 c4 c5 c6 c7 c8
  go_wp2_with fail
  refine (tooLong_no name _ h0).mono ?_
  rintro e' w9 ⟨rfl, hw9⟩
  replace hw9 := hw9.symm
  subst hw9
  go_wp2_with fail
  refine (tooLong_yes s _ h1 hs).mono ?_
  rintro e' w9 ⟨rfl, hw9⟩
  replace hw9 := hw9.symm
  subst hw9
  go_wp2_with fail
  refine (unhide CSH _).mono ?_
  rintro e' w5 ⟨rfl, hb5⟩
  clear c0 c1 c2 c3 c4 c5 c6 c7 c8 hl5
  have S5 := hide ((unhide S5).on hb5)
  have S13 := hide ((unhide S13).on hb5)
  have S16 := hide ((unhide S16).on hb5)
  have I3 := hide ((unhide I3).below hb5)
  have HB := hide (bstep (unhide HB) hb5)
  clear hb5
  go_wp2_with fail
  refine (tooLong_yes s _ h1 hs).mono ?_
  rintro e' w9 ⟨rfl, hw9⟩
  replace hw9 := hw9.symm
  subst hw9
  go_upto_region 18 with fail
  have S24 : Hid (Fb w5.heap.size (Fr.new name) ((w5.alloc (.cells #[.string name, .int .i64 0, .int .i64 0, .string ⟨#[]⟩, .int .i64 0, .string ⟨#[]⟩, .int .i64 0, .bool false, .bool false] 25)).alloc (.cells #[.string ⟨#[]⟩, .int .i64 0, .int .i64 0, .string ⟨#[]⟩, .int .i64 0, .string ⟨#[]⟩, .int .i64 0, .bool false, .bool false] 25))) := hide ((Fb.new w5 (Fr.new name)).alloc (.cells #[.string ⟨#[]⟩, .int .i64 0, .int .i64 0, .string ⟨#[]⟩, .int .i64 0, .string ⟨#[]⟩, .int .i64 0, .bool false, .bool false] 25))
  have R25 : Hid (Fb (w5.heap.size + 1) (Fr.new ⟨#[]⟩) ((w5.alloc (.cells #[.string name, .int .i64 0, .int .i64 0, .string ⟨#[]⟩, .int .i64 0, .string ⟨#[]⟩, .int .i64 0, .bool false, .bool false] 25)).alloc (.cells #[.string ⟨#[]⟩, .int .i64 0, .int .i64 0, .string ⟨#[]⟩, .int .i64 0, .string ⟨#[]⟩, .int .i64 0, .bool false, .bool false] 25))) := hide (Fb.new2 w5 (.cells #[.string name, .int .i64 0, .int .i64 0, .string ⟨#[]⟩, .int .i64 0, .string ⟨#[]⟩, .int .i64 0, .bool false, .bool false] 25))
  have HW : Hid (Below w5.heap.size w5 ((w5.alloc (.cells #[.string name, .int .i64 0, .int .i64 0, .string ⟨#[]⟩, .int .i64 0, .string ⟨#[]⟩, .int .i64 0, .bool false, .bool false] 25)).alloc (.cells #[.string ⟨#[]⟩, .int .i64 0, .int .i64 0, .string ⟨#[]⟩, .int .i64 0, .string ⟨#[]⟩, .int .i64 0, .bool false, .bool false] 25))) := hide (bstep (balloc _ _) (balloc _ _))
  generalize (w5.alloc (.cells #[.string name, .int .i64 0, .int .i64 0, .string ⟨#[]⟩, .int .i64 0, .string ⟨#[]⟩, .int .i64 0, .bool false, .bool false] 25)).alloc (.cells #[.string ⟨#[]⟩, .int .i64 0, .int .i64 0, .string ⟨#[]⟩, .int .i64 0, .string ⟨#[]⟩, .int .i64 0, .bool false, .bool false] 25) = V at *
  go_upto_region 20 with fail
  have S25 : Hid (Fb (w5.heap.size + 1) (Fr.new ⟨#[]⟩) V) := R25
  clear R25
  have S5 := hide ((unhide S5).on (unhide HW))
  have S13 := hide ((unhide S13).on (unhide HW))
  have S16 := hide ((unhide S16).on (unhide HW))
  have I3 := hide ((unhide I3).below (unhide HW))
  have HB := hide (bstep (unhide HB) (unhide HW))
  have MV := hide ((unhide HM).below (unhide HB))
  clear HW
  obtain ⟨B24, hB24⟩ : ∃ B, w5.heap.size = B := ⟨_, rfl⟩
  rw [hB24] at S24 S25
  have plt := (unhide S5).lt
  have p0 : ∀ w', Below V.heap.size V w' → w'.cell? ⟨w.heap.size, 0, none⟩ = some (.string L) := fun w' h => (h.cell (p := ⟨w.heap.size, 0, none⟩) plt).trans (unhide S5).c0
  have p1 : ∀ w', Below V.heap.size V w' → w'.cell? ⟨w.heap.size, 1, none⟩ = some (.int .i64 en) := fun w' h => (h.cell (p := ⟨w.heap.size, 1, none⟩) plt).trans (unhide S5).c1
  have p2 : ∀ w', Below V.heap.size V w' → w'.cell? ⟨w.heap.size, 2, none⟩ = some (.int .i64 wy) := fun w' h => (h.cell (p := ⟨w.heap.size, 2, none⟩) plt).trans (unhide S5).c2
  have p3 : ∀ w', Below V.heap.size V w' → w'.cell? ⟨w.heap.size, 3, none⟩ = some (.string W) := fun w' h => (h.cell (p := ⟨w.heap.size, 3, none⟩) plt).trans (unhide S5).c3
  have p4 : ∀ w', Below V.heap.size V w' → w'.cell? ⟨w.heap.size, 4, none⟩ = some (.int .i64 ee) := fun w' h => (h.cell (p := ⟨w.heap.size, 4, none⟩) plt).trans (unhide S5).c4
  have p5 : ∀ w', Below V.heap.size V w' → w'.cell? ⟨w.heap.size, 5, none⟩ = some (.string r) := fun w' h => (h.cell (p := ⟨w.heap.size, 5, none⟩) plt).trans (unhide S5).c5
  have p6 : ∀ w', Below V.heap.size V w' → w'.cell? ⟨w.heap.size, 6, none⟩ = some (.int .i64 g) := fun w' h => (h.cell (p := ⟨w.heap.size, 6, none⟩) plt).trans (unhide S5).c6
  have p7 : ∀ w', Below V.heap.size V w' → w'.cell? ⟨w.heap.size, 7, none⟩ = some (.bool fr) := fun w' h => (h.cell (p := ⟨w.heap.size, 7, none⟩) plt).trans (unhide S5).c7
  have p8 : ∀ w', Below V.heap.size V w' → w'.cell? ⟨w.heap.size, 8, none⟩ = some (.bool st) := fun w' h => (h.cell (p := ⟨w.heap.size, 8, none⟩) plt).trans (unhide S5).c8
  have qlt := (unhide S13).lt
  have q0 : ∀ w', Below V.heap.size V w' → w'.cell? ⟨B13, 0, none⟩ = some (.string name) := fun w' h => (h.cell (p := ⟨B13, 0, none⟩) qlt).trans (unhide S13).c0
  have q1 : ∀ w', Below V.heap.size V w' → w'.cell? ⟨B13, 1, none⟩ = some (.int .i64 0) := fun w' h => (h.cell (p := ⟨B13, 1, none⟩) qlt).trans (unhide S13).c1
  have q2 : ∀ w', Below V.heap.size V w' → w'.cell? ⟨B13, 2, none⟩ = some (.int .i64 0) := fun w' h => (h.cell (p := ⟨B13, 2, none⟩) qlt).trans (unhide S13).c2
  have q3 : ∀ w', Below V.heap.size V w' → w'.cell? ⟨B13, 3, none⟩ = some (.string ⟨#[]⟩) := fun w' h => (h.cell (p := ⟨B13, 3, none⟩) qlt).trans (unhide S13).c3
  have q4 : ∀ w', Below V.heap.size V w' → w'.cell? ⟨B13, 4, none⟩ = some (.int .i64 0) := fun w' h => (h.cell (p := ⟨B13, 4, none⟩) qlt).trans (unhide S13).c4
  have q5 : ∀ w', Below V.heap.size V w' → w'.cell? ⟨B13, 5, none⟩ = some (.string ⟨#[]⟩) := fun w' h => (h.cell (p := ⟨B13, 5, none⟩) qlt).trans (unhide S13).c5
  have q6 : ∀ w', Below V.heap.size V w' → w'.cell? ⟨B13, 6, none⟩ = some (.int .i64 0) := fun w' h => (h.cell (p := ⟨B13, 6, none⟩) qlt).trans (unhide S13).c6
  have q7 : ∀ w', Below V.heap.size V w' → w'.cell? ⟨B13, 7, none⟩ = some (.bool false) := fun w' h => (h.cell (p := ⟨B13, 7, none⟩) qlt).trans (unhide S13).c7
  have q8 : ∀ w', Below V.heap.size V w' → w'.cell? ⟨B13, 8, none⟩ = some (.bool false) := fun w' h => (h.cell (p := ⟨B13, 8, none⟩) qlt).trans (unhide S13).c8
  have xlt := (unhide S16).lt
  have x0 : ∀ w', Below V.heap.size V w' → w'.cell? ⟨B16, 0, none⟩ = some (.string ⟨#[]⟩) := fun w' h => (h.cell (p := ⟨B16, 0, none⟩) xlt).trans (unhide S16).c0
  have x1 : ∀ w', Below V.heap.size V w' → w'.cell? ⟨B16, 1, none⟩ = some (.int .i64 0) := fun w' h => (h.cell (p := ⟨B16, 1, none⟩) xlt).trans (unhide S16).c1
  have x2 : ∀ w', Below V.heap.size V w' → w'.cell? ⟨B16, 2, none⟩ = some (.int .i64 0) := fun w' h => (h.cell (p := ⟨B16, 2, none⟩) xlt).trans (unhide S16).c2
  have x3 : ∀ w', Below V.heap.size V w' → w'.cell? ⟨B16, 3, none⟩ = some (.string ⟨#[]⟩) := fun w' h => (h.cell (p := ⟨B16, 3, none⟩) xlt).trans (unhide S16).c3
  have x4 : ∀ w', Below V.heap.size V w' → w'.cell? ⟨B16, 4, none⟩ = some (.int .i64 0) := fun w' h => (h.cell (p := ⟨B16, 4, none⟩) xlt).trans (unhide S16).c4
  have x5 : ∀ w', Below V.heap.size V w' → w'.cell? ⟨B16, 5, none⟩ = some (.string ⟨#[]⟩) := fun w' h => (h.cell (p := ⟨B16, 5, none⟩) xlt).trans (unhide S16).c5
  have x6 : ∀ w', Below V.heap.size V w' → w'.cell? ⟨B16, 6, none⟩ = some (.int .i64 0) := fun w' h => (h.cell (p := ⟨B16, 6, none⟩) xlt).trans (unhide S16).c6
  have x7 : ∀ w', Below V.heap.size V w' → w'.cell? ⟨B16, 7, none⟩ = some (.bool false) := fun w' h => (h.cell (p := ⟨B16, 7, none⟩) xlt).trans (unhide S16).c7
  have x8 : ∀ w', Below V.heap.size V w' → w'.cell? ⟨B16, 8, none⟩ = some (.bool false) := fun w' h => (h.cell (p := ⟨B16, 8, none⟩) xlt).trans (unhide S16).c8
  have ylt := (unhide S24).lt
  have y0 : ∀ w', Below V.heap.size V w' → w'.cell? ⟨B24, 0, none⟩ = some (.string name) := fun w' h => (h.cell (p := ⟨B24, 0, none⟩) ylt).trans (unhide S24).c0
  have y1 : ∀ w', Below V.heap.size V w' → w'.cell? ⟨B24, 1, none⟩ = some (.int .i64 0) := fun w' h => (h.cell (p := ⟨B24, 1, none⟩) ylt).trans (unhide S24).c1
  have y2 : ∀ w', Below V.heap.size V w' → w'.cell? ⟨B24, 2, none⟩ = some (.int .i64 0) := fun w' h => (h.cell (p := ⟨B24, 2, none⟩) ylt).trans (unhide S24).c2
  have y3 : ∀ w', Below V.heap.size V w' → w'.cell? ⟨B24, 3, none⟩ = some (.string ⟨#[]⟩) := fun w' h => (h.cell (p := ⟨B24, 3, none⟩) ylt).trans (unhide S24).c3
  have y4 : ∀ w', Below V.heap.size V w' → w'.cell? ⟨B24, 4, none⟩ = some (.int .i64 0) := fun w' h => (h.cell (p := ⟨B24, 4, none⟩) ylt).trans (unhide S24).c4
  have y5 : ∀ w', Below V.heap.size V w' → w'.cell? ⟨B24, 5, none⟩ = some (.string ⟨#[]⟩) := fun w' h => (h.cell (p := ⟨B24, 5, none⟩) ylt).trans (unhide S24).c5
  have y6 : ∀ w', Below V.heap.size V w' → w'.cell? ⟨B24, 6, none⟩ = some (.int .i64 0) := fun w' h => (h.cell (p := ⟨B24, 6, none⟩) ylt).trans (unhide S24).c6
  have y7 : ∀ w', Below V.heap.size V w' → w'.cell? ⟨B24, 7, none⟩ = some (.bool false) := fun w' h => (h.cell (p := ⟨B24, 7, none⟩) ylt).trans (unhide S24).c7
  have y8 : ∀ w', Below V.heap.size V w' → w'.cell? ⟨B24, 8, none⟩ = some (.bool false) := fun w' h => (h.cell (p := ⟨B24, 8, none⟩) ylt).trans (unhide S24).c8
  have zlt := (unhide S25).lt
  have z0 : ∀ w', Below V.heap.size V w' → w'.cell? ⟨(B24 + 1), 0, none⟩ = some (.string ⟨#[]⟩) := fun w' h => (h.cell (p := ⟨(B24 + 1), 0, none⟩) zlt).trans (unhide S25).c0
  have z1 : ∀ w', Below V.heap.size V w' → w'.cell? ⟨(B24 + 1), 1, none⟩ = some (.int .i64 0) := fun w' h => (h.cell (p := ⟨(B24 + 1), 1, none⟩) zlt).trans (unhide S25).c1
  have z2 : ∀ w', Below V.heap.size V w' → w'.cell? ⟨(B24 + 1), 2, none⟩ = some (.int .i64 0) := fun w' h => (h.cell (p := ⟨(B24 + 1), 2, none⟩) zlt).trans (unhide S25).c2
  have z3 : ∀ w', Below V.heap.size V w' → w'.cell? ⟨(B24 + 1), 3, none⟩ = some (.string ⟨#[]⟩) := fun w' h => (h.cell (p := ⟨(B24 + 1), 3, none⟩) zlt).trans (unhide S25).c3
  have z4 : ∀ w', Below V.heap.size V w' → w'.cell? ⟨(B24 + 1), 4, none⟩ = some (.int .i64 0) := fun w' h => (h.cell (p := ⟨(B24 + 1), 4, none⟩) zlt).trans (unhide S25).c4
  have z5 : ∀ w', Below V.heap.size V w' → w'.cell? ⟨(B24 + 1), 5, none⟩ = some (.string ⟨#[]⟩) := fun w' h => (h.cell (p := ⟨(B24 + 1), 5, none⟩) zlt).trans (unhide S25).c5
  have z6 : ∀ w', Below V.heap.size V w' → w'.cell? ⟨(B24 + 1), 6, none⟩ = some (.int .i64 0) := fun w' h => (h.cell (p := ⟨(B24 + 1), 6, none⟩) zlt).trans (unhide S25).c6
  have z7 : ∀ w', Below V.heap.size V w' → w'.cell? ⟨(B24 + 1), 7, none⟩ = some (.bool false) := fun w' h => (h.cell (p := ⟨(B24 + 1), 7, none⟩) zlt).trans (unhide S25).c7
  have z8 : ∀ w', Below V.heap.size V w' → w'.cell? ⟨(B24 + 1), 8, none⟩ = some (.bool false) := fun w' h => (h.cell (p := ⟨(B24 + 1), 8, none⟩) zlt).trans (unhide S25).c8
  clear S5 S13 S16 S24 S25
  go_region_held3 (fun w' => Below V.heap.size V w') (first | exact below_drewN (Below.refl _ _) 1 | assumption)
    ((first
      | (go_at_call 19; refine (unhide GF _ ((unhide MV).below (by assumption))).mono ?_; rintro e' z ⟨rfl, hz⟩; have hS := bstep (by assumption) hz; clear hz)
      | (go_at_call 20; refine (unhide CKH _ ((unhide MV).below (by assumption))).mono ?_; rintro e' z ⟨rfl, hz⟩; have hS := bstep (by assumption) hz; clear hz)
      | (go_at_call 16; refine (unhide CSH _).mono ?_; rintro e' z ⟨rfl, hz⟩; have hS := bstep (by assumption) hz; clear hz)
      | (go_at_call 21; refine (intsAre_bad _ _ _ _ _ (by rfl) ((unhide I3).below (by assumption))).mono ?_; rintro e' z ⟨rfl, hz⟩; have hS := bstep (by assumption) hz; clear hz)))
  all_goals
    go_wp2_with fail
    go_ret
    exact ⟨ret_bool (by simp), bstep (unhide HB) (by assumption)⟩
set_option maxHeartbeats 6400000 in
set_option maxRecDepth 100000 in
theorem ft_nPK (hC : ChSays) (hCE : ChErrs) (hB : BgSays) (hBE : BgErrs) (hF : FdSays) (hFE : FdErrs) (hK : CkSays) (name s L : ByteArray) (en wy : Int) (W : ByteArray) (ee : Int) (r : ByteArray) (g : Int) (fr st last : Bool) (w : World) (hMx : Mx w) (hn : name.size ≤ maxLen) (hs : s.size ≤ maxLen) (hL : L.size ≤ maxLen) (hW : W.size ≤ maxLen) (hr : r.size ≤ maxLen) (h0 : name.size ≤ 3000) (h1 : 3000 < s.size) (hk : (Fr.mk L en wy W ee r (g, fr, st)).chk ≠ 0) :
    Calls Tryz.prog 3 #[.string name, .string s, .agg #[.string L, .int .i64 en, .int .i64 wy, .string W, .int .i64 ee, .string r, .int .i64 g, .bool fr, .bool st], .bool last] w fun e' w' => e' = .returned (.bool true) ∧ Below w.heap.size w w' := by
  have HM := hide hMx
  have GF := hide (fun w h => begunF_any hC hB hF hK w h)
  have CK := fun w hm => hK (Fr.mk L en wy W ee r (g, fr, st)) w hL hW hr hm
  have CS := fun w => checkFront_any (Fr.mk L en wy W ee r (g, fr, st)) w hL hW hr
  have CHH := hide (fun w hm => hCE name s w hn hs (.inr h1) hm)
  have BGH := hide (fun w => hB name w h0)
  have FD := fun w hm => hFE (Fr.mk L en wy W ee r (g, fr, st)) s last w hL hW hr hs (.inl hk) hm
  rw [if_neg hk] at FD
  obtain ⟨q, HQ⟩ : ∃ q, Hid ((Fr.mk L en wy W ee r (g, fr, st)).chk = q) := ⟨_, hide rfl⟩
  rw [unhide HQ] at CK CS FD hk
  have hq0 : (q == 0) = false := by simpa using hk
  have CKH := hide CK
  have CSH := hide CS
  have FDH := hide FD
  clear CK CS FD hk
  dsimp only [Fr.v, Fr.new, M.st0] at CKH CSH FDH BGH
  clear hC hCE hB hBE hF hFE hK hMx
  unfold maxLen at hn hs hL hW hr
  go_enter Tryz.func3, Tryz.ntmps3
  go_wp2_with fail
  have S5 : Hid (Fb w.heap.size (Fr.mk L en wy W ee r (g, fr, st)) (w.alloc (.cells #[.string L, .int .i64 en, .int .i64 wy, .string W, .int .i64 ee, .string r, .int .i64 g, .bool fr, .bool st] 25))) := hide (Fb.new w (Fr.mk L en wy W ee r (g, fr, st)))
  have HB : Hid (Below w.heap.size w (w.alloc (.cells #[.string L, .int .i64 en, .int .i64 wy, .string W, .int .i64 ee, .string r, .int .i64 g, .bool fr, .bool st] 25))) := hide (balloc _ _)
  refine (unhide CHH _ ((unhide HM).below (unhide HB))).mono ?_
  rintro e' w1 ⟨rfl, hb1⟩
  have S5 := hide ((unhide S5).on hb1)
  have HB := hide (bstep (unhide HB) hb1)
  clear hb1 CHH
  go_wp2_with fail
  refine (unhide BGH _).mono ?_
  rintro e' w2 ⟨rfl, hb2⟩
  have hst := bstep hb2 (balloc w2 (.cells #[.string name, .int .i64 0, .int .i64 0, .string ⟨#[]⟩, .int .i64 0, .string ⟨#[]⟩, .int .i64 0, .bool false, .bool false] 25))
  have S5 := hide ((unhide S5).on hst)
  have HB := hide (bstep (unhide HB) hst)
  have S13 : Hid (Fb w2.heap.size (Fr.new name) (w2.alloc (.cells #[.string name, .int .i64 0, .int .i64 0, .string ⟨#[]⟩, .int .i64 0, .string ⟨#[]⟩, .int .i64 0, .bool false, .bool false] 25))) := hide (Fb.new w2 (Fr.new name))
  clear hb2 hst BGH
  obtain ⟨B13, hB13⟩ : ∃ B, w2.heap.size = B := ⟨_, rfl⟩
  rw [hB13] at S13
  go_upto_region 3 with fail
  generalize w2.alloc (.cells #[.string name, .int .i64 0, .int .i64 0, .string ⟨#[]⟩, .int .i64 0, .string ⟨#[]⟩, .int .i64 0, .bool false, .bool false] 25) = W2 at *
  clear hB13
  have hl5 := (unhide S5).lt
  obtain ⟨c0, c1, c2, c3, c4, c5, c6, c7, c8, -, -, -, -, -, -, -, -, -⟩ := unhide S5
  dsimp only at c0 c1 c2 c3 c4 c5 c6 c7 c8
  go_wp2_with fail
  refine (unhide FDH _ ((unhide HM).below (unhide HB))).mono ?_
  rintro e' w3 ⟨v3, rfl, hI3, hb3⟩
  have I3 := hide hI3
  obtain ⟨a3, c3', hs3, -⟩ := hI3
  subst hs3
  clear c0 c1 c2 c3 c4 c5 c6 c7 c8 hl5
  have hst := bstep hb3 (balloc w3 (.cells #[.string ⟨#[]⟩, .int .i64 0, .int .i64 0, .string ⟨#[]⟩, .int .i64 0, .string ⟨#[]⟩, .int .i64 0, .bool false, .bool false] 25))
  have S5 := hide ((unhide S5).on hst)
  have S13 := hide ((unhide S13).on hst)
  have HB := hide (bstep (unhide HB) hst)
  have I3 := hide ((unhide I3).below (balloc w3 (.cells #[.string ⟨#[]⟩, .int .i64 0, .int .i64 0, .string ⟨#[]⟩, .int .i64 0, .string ⟨#[]⟩, .int .i64 0, .bool false, .bool false] 25)))
  have S16 : Hid (Fb w3.heap.size (Fr.new ⟨#[]⟩) (w3.alloc (.cells #[.string ⟨#[]⟩, .int .i64 0, .int .i64 0, .string ⟨#[]⟩, .int .i64 0, .string ⟨#[]⟩, .int .i64 0, .bool false, .bool false] 25))) := hide (Fb.new w3 (Fr.new ⟨#[]⟩))
  clear hb3 hst FDH
  obtain ⟨B16, hB16⟩ : ∃ B, w3.heap.size = B := ⟨_, rfl⟩
  rw [hB16] at S16
  go_upto_region 4 with fail
  generalize w3.alloc (.cells #[.string ⟨#[]⟩, .int .i64 0, .int .i64 0, .string ⟨#[]⟩, .int .i64 0, .string ⟨#[]⟩, .int .i64 0, .bool false, .bool false] 25) = V3 at *
  clear hB16
  have hl5 := (unhide S5).lt
  obtain ⟨c0, c1, c2, c3, c4, c5, c6, c7, c8, -, -, -, -, -, -, -, -, -⟩ := unhide S5
  dsimp only at c0 c1 c2 c3 c4 c5 c6 c7 c8
  go_wp2_with fail
  refine (tooLong_no name _ h0).mono ?_
  rintro e' w9 ⟨rfl, hw9⟩
  replace hw9 := hw9.symm
  subst hw9
  go_wp2_with fail
  refine (tooLong_yes s _ h1 hs).mono ?_
  rintro e' w9 ⟨rfl, hw9⟩
  replace hw9 := hw9.symm
  subst hw9
  go_wp2_with fail
  refine (unhide CSH _).mono ?_
  rintro e' w5 ⟨rfl, hb5⟩
  clear c0 c1 c2 c3 c4 c5 c6 c7 c8 hl5
  have S5 := hide ((unhide S5).on hb5)
  have S13 := hide ((unhide S13).on hb5)
  have S16 := hide ((unhide S16).on hb5)
  have I3 := hide ((unhide I3).below hb5)
  have HB := hide (bstep (unhide HB) hb5)
  clear hb5
  go_upto_region 18 with fail
  have S24 : Hid (Fb w5.heap.size (Fr.new name) ((w5.alloc (.cells #[.string name, .int .i64 0, .int .i64 0, .string ⟨#[]⟩, .int .i64 0, .string ⟨#[]⟩, .int .i64 0, .bool false, .bool false] 25)).alloc (.cells #[.string ⟨#[]⟩, .int .i64 0, .int .i64 0, .string ⟨#[]⟩, .int .i64 0, .string ⟨#[]⟩, .int .i64 0, .bool false, .bool false] 25))) := hide ((Fb.new w5 (Fr.new name)).alloc (.cells #[.string ⟨#[]⟩, .int .i64 0, .int .i64 0, .string ⟨#[]⟩, .int .i64 0, .string ⟨#[]⟩, .int .i64 0, .bool false, .bool false] 25))
  have R25 : Hid (Fb (w5.heap.size + 1) (Fr.new ⟨#[]⟩) ((w5.alloc (.cells #[.string name, .int .i64 0, .int .i64 0, .string ⟨#[]⟩, .int .i64 0, .string ⟨#[]⟩, .int .i64 0, .bool false, .bool false] 25)).alloc (.cells #[.string ⟨#[]⟩, .int .i64 0, .int .i64 0, .string ⟨#[]⟩, .int .i64 0, .string ⟨#[]⟩, .int .i64 0, .bool false, .bool false] 25))) := hide (Fb.new2 w5 (.cells #[.string name, .int .i64 0, .int .i64 0, .string ⟨#[]⟩, .int .i64 0, .string ⟨#[]⟩, .int .i64 0, .bool false, .bool false] 25))
  have HW : Hid (Below w5.heap.size w5 ((w5.alloc (.cells #[.string name, .int .i64 0, .int .i64 0, .string ⟨#[]⟩, .int .i64 0, .string ⟨#[]⟩, .int .i64 0, .bool false, .bool false] 25)).alloc (.cells #[.string ⟨#[]⟩, .int .i64 0, .int .i64 0, .string ⟨#[]⟩, .int .i64 0, .string ⟨#[]⟩, .int .i64 0, .bool false, .bool false] 25))) := hide (bstep (balloc _ _) (balloc _ _))
  generalize (w5.alloc (.cells #[.string name, .int .i64 0, .int .i64 0, .string ⟨#[]⟩, .int .i64 0, .string ⟨#[]⟩, .int .i64 0, .bool false, .bool false] 25)).alloc (.cells #[.string ⟨#[]⟩, .int .i64 0, .int .i64 0, .string ⟨#[]⟩, .int .i64 0, .string ⟨#[]⟩, .int .i64 0, .bool false, .bool false] 25) = V at *
  go_upto_region 20 with fail
  have S25 : Hid (Fb (w5.heap.size + 1) (Fr.new ⟨#[]⟩) V) := R25
  clear R25
  have S5 := hide ((unhide S5).on (unhide HW))
  have S13 := hide ((unhide S13).on (unhide HW))
  have S16 := hide ((unhide S16).on (unhide HW))
  have I3 := hide ((unhide I3).below (unhide HW))
  have HB := hide (bstep (unhide HB) (unhide HW))
  have MV := hide ((unhide HM).below (unhide HB))
  clear HW
  obtain ⟨B24, hB24⟩ : ∃ B, w5.heap.size = B := ⟨_, rfl⟩
  rw [hB24] at S24 S25
  have plt := (unhide S5).lt
  have p0 : ∀ w', Below V.heap.size V w' → w'.cell? ⟨w.heap.size, 0, none⟩ = some (.string L) := fun w' h => (h.cell (p := ⟨w.heap.size, 0, none⟩) plt).trans (unhide S5).c0
  have p1 : ∀ w', Below V.heap.size V w' → w'.cell? ⟨w.heap.size, 1, none⟩ = some (.int .i64 en) := fun w' h => (h.cell (p := ⟨w.heap.size, 1, none⟩) plt).trans (unhide S5).c1
  have p2 : ∀ w', Below V.heap.size V w' → w'.cell? ⟨w.heap.size, 2, none⟩ = some (.int .i64 wy) := fun w' h => (h.cell (p := ⟨w.heap.size, 2, none⟩) plt).trans (unhide S5).c2
  have p3 : ∀ w', Below V.heap.size V w' → w'.cell? ⟨w.heap.size, 3, none⟩ = some (.string W) := fun w' h => (h.cell (p := ⟨w.heap.size, 3, none⟩) plt).trans (unhide S5).c3
  have p4 : ∀ w', Below V.heap.size V w' → w'.cell? ⟨w.heap.size, 4, none⟩ = some (.int .i64 ee) := fun w' h => (h.cell (p := ⟨w.heap.size, 4, none⟩) plt).trans (unhide S5).c4
  have p5 : ∀ w', Below V.heap.size V w' → w'.cell? ⟨w.heap.size, 5, none⟩ = some (.string r) := fun w' h => (h.cell (p := ⟨w.heap.size, 5, none⟩) plt).trans (unhide S5).c5
  have p6 : ∀ w', Below V.heap.size V w' → w'.cell? ⟨w.heap.size, 6, none⟩ = some (.int .i64 g) := fun w' h => (h.cell (p := ⟨w.heap.size, 6, none⟩) plt).trans (unhide S5).c6
  have p7 : ∀ w', Below V.heap.size V w' → w'.cell? ⟨w.heap.size, 7, none⟩ = some (.bool fr) := fun w' h => (h.cell (p := ⟨w.heap.size, 7, none⟩) plt).trans (unhide S5).c7
  have p8 : ∀ w', Below V.heap.size V w' → w'.cell? ⟨w.heap.size, 8, none⟩ = some (.bool st) := fun w' h => (h.cell (p := ⟨w.heap.size, 8, none⟩) plt).trans (unhide S5).c8
  have qlt := (unhide S13).lt
  have q0 : ∀ w', Below V.heap.size V w' → w'.cell? ⟨B13, 0, none⟩ = some (.string name) := fun w' h => (h.cell (p := ⟨B13, 0, none⟩) qlt).trans (unhide S13).c0
  have q1 : ∀ w', Below V.heap.size V w' → w'.cell? ⟨B13, 1, none⟩ = some (.int .i64 0) := fun w' h => (h.cell (p := ⟨B13, 1, none⟩) qlt).trans (unhide S13).c1
  have q2 : ∀ w', Below V.heap.size V w' → w'.cell? ⟨B13, 2, none⟩ = some (.int .i64 0) := fun w' h => (h.cell (p := ⟨B13, 2, none⟩) qlt).trans (unhide S13).c2
  have q3 : ∀ w', Below V.heap.size V w' → w'.cell? ⟨B13, 3, none⟩ = some (.string ⟨#[]⟩) := fun w' h => (h.cell (p := ⟨B13, 3, none⟩) qlt).trans (unhide S13).c3
  have q4 : ∀ w', Below V.heap.size V w' → w'.cell? ⟨B13, 4, none⟩ = some (.int .i64 0) := fun w' h => (h.cell (p := ⟨B13, 4, none⟩) qlt).trans (unhide S13).c4
  have q5 : ∀ w', Below V.heap.size V w' → w'.cell? ⟨B13, 5, none⟩ = some (.string ⟨#[]⟩) := fun w' h => (h.cell (p := ⟨B13, 5, none⟩) qlt).trans (unhide S13).c5
  have q6 : ∀ w', Below V.heap.size V w' → w'.cell? ⟨B13, 6, none⟩ = some (.int .i64 0) := fun w' h => (h.cell (p := ⟨B13, 6, none⟩) qlt).trans (unhide S13).c6
  have q7 : ∀ w', Below V.heap.size V w' → w'.cell? ⟨B13, 7, none⟩ = some (.bool false) := fun w' h => (h.cell (p := ⟨B13, 7, none⟩) qlt).trans (unhide S13).c7
  have q8 : ∀ w', Below V.heap.size V w' → w'.cell? ⟨B13, 8, none⟩ = some (.bool false) := fun w' h => (h.cell (p := ⟨B13, 8, none⟩) qlt).trans (unhide S13).c8
  have xlt := (unhide S16).lt
  have x0 : ∀ w', Below V.heap.size V w' → w'.cell? ⟨B16, 0, none⟩ = some (.string ⟨#[]⟩) := fun w' h => (h.cell (p := ⟨B16, 0, none⟩) xlt).trans (unhide S16).c0
  have x1 : ∀ w', Below V.heap.size V w' → w'.cell? ⟨B16, 1, none⟩ = some (.int .i64 0) := fun w' h => (h.cell (p := ⟨B16, 1, none⟩) xlt).trans (unhide S16).c1
  have x2 : ∀ w', Below V.heap.size V w' → w'.cell? ⟨B16, 2, none⟩ = some (.int .i64 0) := fun w' h => (h.cell (p := ⟨B16, 2, none⟩) xlt).trans (unhide S16).c2
  have x3 : ∀ w', Below V.heap.size V w' → w'.cell? ⟨B16, 3, none⟩ = some (.string ⟨#[]⟩) := fun w' h => (h.cell (p := ⟨B16, 3, none⟩) xlt).trans (unhide S16).c3
  have x4 : ∀ w', Below V.heap.size V w' → w'.cell? ⟨B16, 4, none⟩ = some (.int .i64 0) := fun w' h => (h.cell (p := ⟨B16, 4, none⟩) xlt).trans (unhide S16).c4
  have x5 : ∀ w', Below V.heap.size V w' → w'.cell? ⟨B16, 5, none⟩ = some (.string ⟨#[]⟩) := fun w' h => (h.cell (p := ⟨B16, 5, none⟩) xlt).trans (unhide S16).c5
  have x6 : ∀ w', Below V.heap.size V w' → w'.cell? ⟨B16, 6, none⟩ = some (.int .i64 0) := fun w' h => (h.cell (p := ⟨B16, 6, none⟩) xlt).trans (unhide S16).c6
  have x7 : ∀ w', Below V.heap.size V w' → w'.cell? ⟨B16, 7, none⟩ = some (.bool false) := fun w' h => (h.cell (p := ⟨B16, 7, none⟩) xlt).trans (unhide S16).c7
  have x8 : ∀ w', Below V.heap.size V w' → w'.cell? ⟨B16, 8, none⟩ = some (.bool false) := fun w' h => (h.cell (p := ⟨B16, 8, none⟩) xlt).trans (unhide S16).c8
  have ylt := (unhide S24).lt
  have y0 : ∀ w', Below V.heap.size V w' → w'.cell? ⟨B24, 0, none⟩ = some (.string name) := fun w' h => (h.cell (p := ⟨B24, 0, none⟩) ylt).trans (unhide S24).c0
  have y1 : ∀ w', Below V.heap.size V w' → w'.cell? ⟨B24, 1, none⟩ = some (.int .i64 0) := fun w' h => (h.cell (p := ⟨B24, 1, none⟩) ylt).trans (unhide S24).c1
  have y2 : ∀ w', Below V.heap.size V w' → w'.cell? ⟨B24, 2, none⟩ = some (.int .i64 0) := fun w' h => (h.cell (p := ⟨B24, 2, none⟩) ylt).trans (unhide S24).c2
  have y3 : ∀ w', Below V.heap.size V w' → w'.cell? ⟨B24, 3, none⟩ = some (.string ⟨#[]⟩) := fun w' h => (h.cell (p := ⟨B24, 3, none⟩) ylt).trans (unhide S24).c3
  have y4 : ∀ w', Below V.heap.size V w' → w'.cell? ⟨B24, 4, none⟩ = some (.int .i64 0) := fun w' h => (h.cell (p := ⟨B24, 4, none⟩) ylt).trans (unhide S24).c4
  have y5 : ∀ w', Below V.heap.size V w' → w'.cell? ⟨B24, 5, none⟩ = some (.string ⟨#[]⟩) := fun w' h => (h.cell (p := ⟨B24, 5, none⟩) ylt).trans (unhide S24).c5
  have y6 : ∀ w', Below V.heap.size V w' → w'.cell? ⟨B24, 6, none⟩ = some (.int .i64 0) := fun w' h => (h.cell (p := ⟨B24, 6, none⟩) ylt).trans (unhide S24).c6
  have y7 : ∀ w', Below V.heap.size V w' → w'.cell? ⟨B24, 7, none⟩ = some (.bool false) := fun w' h => (h.cell (p := ⟨B24, 7, none⟩) ylt).trans (unhide S24).c7
  have y8 : ∀ w', Below V.heap.size V w' → w'.cell? ⟨B24, 8, none⟩ = some (.bool false) := fun w' h => (h.cell (p := ⟨B24, 8, none⟩) ylt).trans (unhide S24).c8
  have zlt := (unhide S25).lt
  have z0 : ∀ w', Below V.heap.size V w' → w'.cell? ⟨(B24 + 1), 0, none⟩ = some (.string ⟨#[]⟩) := fun w' h => (h.cell (p := ⟨(B24 + 1), 0, none⟩) zlt).trans (unhide S25).c0
  have z1 : ∀ w', Below V.heap.size V w' → w'.cell? ⟨(B24 + 1), 1, none⟩ = some (.int .i64 0) := fun w' h => (h.cell (p := ⟨(B24 + 1), 1, none⟩) zlt).trans (unhide S25).c1
  have z2 : ∀ w', Below V.heap.size V w' → w'.cell? ⟨(B24 + 1), 2, none⟩ = some (.int .i64 0) := fun w' h => (h.cell (p := ⟨(B24 + 1), 2, none⟩) zlt).trans (unhide S25).c2
  have z3 : ∀ w', Below V.heap.size V w' → w'.cell? ⟨(B24 + 1), 3, none⟩ = some (.string ⟨#[]⟩) := fun w' h => (h.cell (p := ⟨(B24 + 1), 3, none⟩) zlt).trans (unhide S25).c3
  have z4 : ∀ w', Below V.heap.size V w' → w'.cell? ⟨(B24 + 1), 4, none⟩ = some (.int .i64 0) := fun w' h => (h.cell (p := ⟨(B24 + 1), 4, none⟩) zlt).trans (unhide S25).c4
  have z5 : ∀ w', Below V.heap.size V w' → w'.cell? ⟨(B24 + 1), 5, none⟩ = some (.string ⟨#[]⟩) := fun w' h => (h.cell (p := ⟨(B24 + 1), 5, none⟩) zlt).trans (unhide S25).c5
  have z6 : ∀ w', Below V.heap.size V w' → w'.cell? ⟨(B24 + 1), 6, none⟩ = some (.int .i64 0) := fun w' h => (h.cell (p := ⟨(B24 + 1), 6, none⟩) zlt).trans (unhide S25).c6
  have z7 : ∀ w', Below V.heap.size V w' → w'.cell? ⟨(B24 + 1), 7, none⟩ = some (.bool false) := fun w' h => (h.cell (p := ⟨(B24 + 1), 7, none⟩) zlt).trans (unhide S25).c7
  have z8 : ∀ w', Below V.heap.size V w' → w'.cell? ⟨(B24 + 1), 8, none⟩ = some (.bool false) := fun w' h => (h.cell (p := ⟨(B24 + 1), 8, none⟩) zlt).trans (unhide S25).c8
  clear S5 S13 S16 S24 S25
  go_region_held3 (fun w' => Below V.heap.size V w') (first | exact below_drewN (Below.refl _ _) 1 | assumption)
    ((first
      | (go_at_call 19; refine (unhide GF _ ((unhide MV).below (by assumption))).mono ?_; rintro e' z ⟨rfl, hz⟩; have hS := bstep (by assumption) hz; clear hz)
      | (go_at_call 20; refine (unhide CKH _ ((unhide MV).below (by assumption))).mono ?_; rintro e' z ⟨rfl, hz⟩; have hS := bstep (by assumption) hz; clear hz)
      | (go_at_call 16; refine (unhide CSH _).mono ?_; rintro e' z ⟨rfl, hz⟩; have hS := bstep (by assumption) hz; clear hz)
      | (go_at_call 21; refine (intsAre_bad _ _ _ _ _ hq0 ((unhide I3).below (by assumption))).mono ?_; rintro e' z ⟨rfl, hz⟩; have hS := bstep (by assumption) hz; clear hz)))
  all_goals
    go_wp2_with fail
    go_ret
    exact ⟨ret_bool (by simp), bstep (unhide HB) (by assumption)⟩
set_option maxHeartbeats 6400000 in
set_option maxRecDepth 100000 in
theorem ft_Npk (hC : ChSays) (hCE : ChErrs) (hB : BgSays) (hBE : BgErrs) (hF : FdSays) (hFE : FdErrs) (hK : CkSays) (name s L : ByteArray) (en wy : Int) (W : ByteArray) (ee : Int) (r : ByteArray) (g : Int) (fr st last : Bool) (w : World) (hMx : Mx w) (hn : name.size ≤ maxLen) (hs : s.size ≤ maxLen) (hL : L.size ≤ maxLen) (hW : W.size ≤ maxLen) (hr : r.size ≤ maxLen) (h0 : 3000 < name.size) (h1 : s.size ≤ 3000) (hk : (Fr.mk L en wy W ee r (g, fr, st)).chk = 0) :
    Calls Tryz.prog 3 #[.string name, .string s, .agg #[.string L, .int .i64 en, .int .i64 wy, .string W, .int .i64 ee, .string r, .int .i64 g, .bool fr, .bool st], .bool last] w fun e' w' => e' = .returned (.bool true) ∧ Below w.heap.size w w' := by
  have HM := hide hMx
  have GF := hide (fun w h => begunF_any hC hB hF hK w h)
  have CK := fun w hm => hK (Fr.mk L en wy W ee r (g, fr, st)) w hL hW hr hm
  have CS := fun w => checkFront_any (Fr.mk L en wy W ee r (g, fr, st)) w hL hW hr
  have CHH := hide (fun w hm => hCE name s w hn hs (.inl h0) hm)
  have BGH := hide (fun w => hBE name w hn h0)
  have FD := fun w hm => hF (Fr.mk L en wy W ee r (g, fr, st)) s last w hk h1 hm
  have FR := fun w => frontOf_any (Fr.mk L en wy W ee r (g, fr, st)) s last w hk h1
  unfold FoR at FR
  rw [hk] at CK CS
  generalize (Fr.mk L en wy W ee r (g, fr, st)).nxt s last = NF at *
  generalize (Fr.mk L en wy W ee r (g, fr, st)).outs s last = NO at *
  obtain ⟨L3, en3, wy3, W3, ee3, r3, g3, fr3, st3⟩ := NF
  have CKH := hide CK
  have CSH := hide CS
  have FDH := hide FD
  have FRH := hide FR
  clear FR
  clear CK CS FD hk
  dsimp only [Fr.v, Fr.new, M.st0] at CKH CSH FDH BGH FRH
  clear hC hCE hB hBE hF hFE hK hMx
  unfold maxLen at hn hs hL hW hr
  go_enter Tryz.func3, Tryz.ntmps3
  go_wp2_with fail
  have S5 : Hid (Fb w.heap.size (Fr.mk L en wy W ee r (g, fr, st)) (w.alloc (.cells #[.string L, .int .i64 en, .int .i64 wy, .string W, .int .i64 ee, .string r, .int .i64 g, .bool fr, .bool st] 25))) := hide (Fb.new w (Fr.mk L en wy W ee r (g, fr, st)))
  have HB : Hid (Below w.heap.size w (w.alloc (.cells #[.string L, .int .i64 en, .int .i64 wy, .string W, .int .i64 ee, .string r, .int .i64 g, .bool fr, .bool st] 25))) := hide (balloc _ _)
  refine (unhide CHH _ ((unhide HM).below (unhide HB))).mono ?_
  rintro e' w1 ⟨rfl, hb1⟩
  have S5 := hide ((unhide S5).on hb1)
  have HB := hide (bstep (unhide HB) hb1)
  clear hb1 CHH
  go_wp2_with fail
  refine (unhide BGH _).mono ?_
  rintro e' w2 ⟨rfl, hb2⟩
  have hst := bstep hb2 (balloc w2 (.cells #[.string ⟨#[]⟩, .int .i64 0, .int .i64 0, .string ⟨#[]⟩, .int .i64 0, .string ⟨#[]⟩, .int .i64 0, .bool false, .bool false] 25))
  have S5 := hide ((unhide S5).on hst)
  have HB := hide (bstep (unhide HB) hst)
  have S13 : Hid (Fb w2.heap.size (Fr.new ⟨#[]⟩) (w2.alloc (.cells #[.string ⟨#[]⟩, .int .i64 0, .int .i64 0, .string ⟨#[]⟩, .int .i64 0, .string ⟨#[]⟩, .int .i64 0, .bool false, .bool false] 25))) := hide (Fb.new w2 (Fr.new ⟨#[]⟩))
  clear hb2 hst BGH
  obtain ⟨B13, hB13⟩ : ∃ B, w2.heap.size = B := ⟨_, rfl⟩
  rw [hB13] at S13
  go_upto_region 3 with fail
  generalize w2.alloc (.cells #[.string ⟨#[]⟩, .int .i64 0, .int .i64 0, .string ⟨#[]⟩, .int .i64 0, .string ⟨#[]⟩, .int .i64 0, .bool false, .bool false] 25) = W2 at *
  clear hB13
  have hl5 := (unhide S5).lt
  obtain ⟨c0, c1, c2, c3, c4, c5, c6, c7, c8, -, -, -, -, -, -, -, -, -⟩ := unhide S5
  dsimp only at c0 c1 c2 c3 c4 c5 c6 c7 c8
  go_wp2_with fail
  refine (unhide FDH _ ((unhide HM).below (unhide HB))).mono ?_
  rintro e' w3 ⟨v3, rfl, hI3, hb3⟩
  obtain ⟨a3, c3', hs3⟩ := owns_shape hI3
  subst hs3
  have I3 := hide (Ints.of_owns hI3)
  clear hI3
  clear c0 c1 c2 c3 c4 c5 c6 c7 c8 hl5
  have hst := bstep hb3 (balloc w3 (.cells #[.string L3, .int .i64 en3, .int .i64 wy3, .string W3, .int .i64 ee3, .string r3, .int .i64 g3, .bool fr3, .bool st3] 25))
  have S5 := hide ((unhide S5).on hst)
  have S13 := hide ((unhide S13).on hst)
  have HB := hide (bstep (unhide HB) hst)
  have I3 := hide ((unhide I3).below (balloc w3 (.cells #[.string L3, .int .i64 en3, .int .i64 wy3, .string W3, .int .i64 ee3, .string r3, .int .i64 g3, .bool fr3, .bool st3] 25)))
  have S16 : Hid (Fb w3.heap.size (Fr.mk L3 en3 wy3 W3 ee3 r3 (g3, fr3, st3)) (w3.alloc (.cells #[.string L3, .int .i64 en3, .int .i64 wy3, .string W3, .int .i64 ee3, .string r3, .int .i64 g3, .bool fr3, .bool st3] 25))) := hide (Fb.new w3 (Fr.mk L3 en3 wy3 W3 ee3 r3 (g3, fr3, st3)))
  clear hb3 hst FDH
  obtain ⟨B16, hB16⟩ : ∃ B, w3.heap.size = B := ⟨_, rfl⟩
  rw [hB16] at S16
  go_upto_region 4 with fail
  generalize w3.alloc (.cells #[.string L3, .int .i64 en3, .int .i64 wy3, .string W3, .int .i64 ee3, .string r3, .int .i64 g3, .bool fr3, .bool st3] 25) = V3 at *
  clear hB16
  have hl5 := (unhide S5).lt
  obtain ⟨c0, c1, c2, c3, c4, c5, c6, c7, c8, -, -, -, -, -, -, -, -, -⟩ := unhide S5
  dsimp only at c0 c1 c2 c3 c4 c5 c6 c7 c8
  go_wp2_with fail
  refine (tooLong_yes name _ h0 hn).mono ?_
  rintro e' w9 ⟨rfl, hw9⟩
  replace hw9 := hw9.symm
  subst hw9
  go_wp2_with fail
  refine (unhide CSH _).mono ?_
  rintro e' w5 ⟨rfl, hb5⟩
  clear c0 c1 c2 c3 c4 c5 c6 c7 c8 hl5
  have S5 := hide ((unhide S5).on hb5)
  have S13 := hide ((unhide S13).on hb5)
  have S16 := hide ((unhide S16).on hb5)
  have I3 := hide ((unhide I3).below hb5)
  have HB := hide (bstep (unhide HB) hb5)
  clear hb5
  go_wp2_with fail
  refine (tooLong_no s _ h1).mono ?_
  rintro e' w9 ⟨rfl, hw9⟩
  replace hw9 := hw9.symm
  subst hw9
  go_upto_region 18 with fail
  have S24 : Hid (Fb w5.heap.size (Fr.new ⟨#[]⟩) ((w5.alloc (.cells #[.string ⟨#[]⟩, .int .i64 0, .int .i64 0, .string ⟨#[]⟩, .int .i64 0, .string ⟨#[]⟩, .int .i64 0, .bool false, .bool false] 25)).alloc (.cells #[.string ⟨#[]⟩, .int .i64 0, .int .i64 0, .string ⟨#[]⟩, .int .i64 0, .string ⟨#[]⟩, .int .i64 0, .bool false, .bool false] 25))) := hide ((Fb.new w5 (Fr.new ⟨#[]⟩)).alloc (.cells #[.string ⟨#[]⟩, .int .i64 0, .int .i64 0, .string ⟨#[]⟩, .int .i64 0, .string ⟨#[]⟩, .int .i64 0, .bool false, .bool false] 25))
  have R25 : Hid (Fb (w5.heap.size + 1) (Fr.new ⟨#[]⟩) ((w5.alloc (.cells #[.string ⟨#[]⟩, .int .i64 0, .int .i64 0, .string ⟨#[]⟩, .int .i64 0, .string ⟨#[]⟩, .int .i64 0, .bool false, .bool false] 25)).alloc (.cells #[.string ⟨#[]⟩, .int .i64 0, .int .i64 0, .string ⟨#[]⟩, .int .i64 0, .string ⟨#[]⟩, .int .i64 0, .bool false, .bool false] 25))) := hide (Fb.new2 w5 (.cells #[.string ⟨#[]⟩, .int .i64 0, .int .i64 0, .string ⟨#[]⟩, .int .i64 0, .string ⟨#[]⟩, .int .i64 0, .bool false, .bool false] 25))
  have HW : Hid (Below w5.heap.size w5 ((w5.alloc (.cells #[.string ⟨#[]⟩, .int .i64 0, .int .i64 0, .string ⟨#[]⟩, .int .i64 0, .string ⟨#[]⟩, .int .i64 0, .bool false, .bool false] 25)).alloc (.cells #[.string ⟨#[]⟩, .int .i64 0, .int .i64 0, .string ⟨#[]⟩, .int .i64 0, .string ⟨#[]⟩, .int .i64 0, .bool false, .bool false] 25))) := hide (bstep (balloc _ _) (balloc _ _))
  generalize (w5.alloc (.cells #[.string ⟨#[]⟩, .int .i64 0, .int .i64 0, .string ⟨#[]⟩, .int .i64 0, .string ⟨#[]⟩, .int .i64 0, .bool false, .bool false] 25)).alloc (.cells #[.string ⟨#[]⟩, .int .i64 0, .int .i64 0, .string ⟨#[]⟩, .int .i64 0, .string ⟨#[]⟩, .int .i64 0, .bool false, .bool false] 25) = W6 at *
  have hS5 := (unhide S5).on (unhide HW)
  have hl5 := hS5.lt
  obtain ⟨c0, c1, c2, c3, c4, c5, c6, c7, c8, -, -, -, -, -, -, -, -, -⟩ := hS5
  dsimp only at c0 c1 c2 c3 c4 c5 c6 c7 c8
  go_wp2_with fail
  refine (unhide FRH _).mono ?_
  rintro e' w7 ⟨v7, rfl, hI7, hb7⟩
  clear c0 c1 c2 c3 c4 c5 c6 c7 c8 hl5
  obtain ⟨a7, c7', hs7⟩ := owns_shape hI7
  subst hs7
  have hz6 : w5.heap.size + 1 < W6.heap.size := (unhide R25).lt
  have O7 := hide hI7
  have S24 := hide ((unhide S24).on hb7)
  have R25 := hide ((unhide R25).on hb7)
  have HW := hide (bstep (unhide HW) hb7)
  clear hb7 hI7 FRH
  obtain ⟨b0, b1, b2, b3, b4, b5, b6, b7, b8, g0, g1, g2, g3', g4, g5, g6, g7, g8⟩ := unhide R25
  dsimp only [Fr.new, M.st0] at b0 b1 b2 b3 b4 b5 b6 b7 b8
  have hl7 : w5.heap.size + 1 < w7.heap.size := World.block_lt_of_cell? w7 _ b0
  go_upto_region 20 with fail
  have S25 : Hid (Fb (w5.heap.size + 1) (Fr.mk L3 en3 wy3 W3 ee3 r3 (g3, fr3, st3)) ((((((((((w7.setCell ⟨w5.heap.size + 1, 0, none⟩ (.string L3)).setCell ⟨w5.heap.size + 1, 1, none⟩ (.int .i64 en3)).setCell ⟨w5.heap.size + 1, 2, none⟩ (.int .i64 wy3)).setCell ⟨w5.heap.size + 1, 3, none⟩ (.string W3)).setCell ⟨w5.heap.size + 1, 4, none⟩ (.int .i64 ee3)).setCell ⟨w5.heap.size + 1, 5, none⟩ (.string r3)).setCell ⟨w5.heap.size + 1, 6, none⟩ (.int .i64 g3)).setCell ⟨w5.heap.size + 1, 7, none⟩ (.bool fr3)).setCell ⟨w5.heap.size + 1, 8, none⟩ (.bool st3)))) := hide ((unhide R25).put9 (Fr.mk L3 en3 wy3 W3 ee3 r3 (g3, fr3, st3)))
  have S24 : Hid (Fb w5.heap.size (Fr.new ⟨#[]⟩) ((((((((((w7.setCell ⟨w5.heap.size + 1, 0, none⟩ (.string L3)).setCell ⟨w5.heap.size + 1, 1, none⟩ (.int .i64 en3)).setCell ⟨w5.heap.size + 1, 2, none⟩ (.int .i64 wy3)).setCell ⟨w5.heap.size + 1, 3, none⟩ (.string W3)).setCell ⟨w5.heap.size + 1, 4, none⟩ (.int .i64 ee3)).setCell ⟨w5.heap.size + 1, 5, none⟩ (.string r3)).setCell ⟨w5.heap.size + 1, 6, none⟩ (.int .i64 g3)).setCell ⟨w5.heap.size + 1, 7, none⟩ (.bool fr3)).setCell ⟨w5.heap.size + 1, 8, none⟩ (.bool st3)))) := hide ((unhide S24).far9 (by omega) (Fr.mk L3 en3 wy3 W3 ee3 r3 (g3, fr3, st3)))
  have O7 : Hid (((((((((((w7.setCell ⟨w5.heap.size + 1, 0, none⟩ (.string L3)).setCell ⟨w5.heap.size + 1, 1, none⟩ (.int .i64 en3)).setCell ⟨w5.heap.size + 1, 2, none⟩ (.int .i64 wy3)).setCell ⟨w5.heap.size + 1, 3, none⟩ (.string W3)).setCell ⟨w5.heap.size + 1, 4, none⟩ (.int .i64 ee3)).setCell ⟨w5.heap.size + 1, 5, none⟩ (.string r3)).setCell ⟨w5.heap.size + 1, 6, none⟩ (.int .i64 g3)).setCell ⟨w5.heap.size + 1, 7, none⟩ (.bool fr3)).setCell ⟨w5.heap.size + 1, 8, none⟩ (.bool st3))).ownsRow W6.heap.size 3 1 (.slice a7 NO.length c7') NO.length (NO.map (Value.int .i64))) := hide (oput9 (unhide O7) hz6 (Fr.mk L3 en3 wy3 W3 ee3 r3 (g3, fr3, st3)))
  have HW : Hid (Below w5.heap.size w5 ((((((((((w7.setCell ⟨w5.heap.size + 1, 0, none⟩ (.string L3)).setCell ⟨w5.heap.size + 1, 1, none⟩ (.int .i64 en3)).setCell ⟨w5.heap.size + 1, 2, none⟩ (.int .i64 wy3)).setCell ⟨w5.heap.size + 1, 3, none⟩ (.string W3)).setCell ⟨w5.heap.size + 1, 4, none⟩ (.int .i64 ee3)).setCell ⟨w5.heap.size + 1, 5, none⟩ (.string r3)).setCell ⟨w5.heap.size + 1, 6, none⟩ (.int .i64 g3)).setCell ⟨w5.heap.size + 1, 7, none⟩ (.bool fr3)).setCell ⟨w5.heap.size + 1, 8, none⟩ (.bool st3)))) := hide (bput9 (unhide HW) (by omega) (Fr.mk L3 en3 wy3 W3 ee3 r3 (g3, fr3, st3)))
  clear b0 b1 b2 b3 b4 b5 b6 b7 b8 g0 g1 g2 g3' g4 g5 g6 g7 g8 hl7 R25 hz6
  generalize (((((((((w7.setCell ⟨w5.heap.size + 1, 0, none⟩ (.string L3)).setCell ⟨w5.heap.size + 1, 1, none⟩ (.int .i64 en3)).setCell ⟨w5.heap.size + 1, 2, none⟩ (.int .i64 wy3)).setCell ⟨w5.heap.size + 1, 3, none⟩ (.string W3)).setCell ⟨w5.heap.size + 1, 4, none⟩ (.int .i64 ee3)).setCell ⟨w5.heap.size + 1, 5, none⟩ (.string r3)).setCell ⟨w5.heap.size + 1, 6, none⟩ (.int .i64 g3)).setCell ⟨w5.heap.size + 1, 7, none⟩ (.bool fr3)).setCell ⟨w5.heap.size + 1, 8, none⟩ (.bool st3)) = V at *
  have S5 := hide ((unhide S5).on (unhide HW))
  have S13 := hide ((unhide S13).on (unhide HW))
  have S16 := hide ((unhide S16).on (unhide HW))
  have I3 := hide ((unhide I3).below (unhide HW))
  have P3 := hide (Ints.of_owns (unhide O7))
  clear O7
  have HB := hide (bstep (unhide HB) (unhide HW))
  have MV := hide ((unhide HM).below (unhide HB))
  clear HW
  obtain ⟨B24, hB24⟩ : ∃ B, w5.heap.size = B := ⟨_, rfl⟩
  rw [hB24] at S24 S25
  have plt := (unhide S5).lt
  have p0 : ∀ w', Below V.heap.size V w' → w'.cell? ⟨w.heap.size, 0, none⟩ = some (.string L) := fun w' h => (h.cell (p := ⟨w.heap.size, 0, none⟩) plt).trans (unhide S5).c0
  have p1 : ∀ w', Below V.heap.size V w' → w'.cell? ⟨w.heap.size, 1, none⟩ = some (.int .i64 en) := fun w' h => (h.cell (p := ⟨w.heap.size, 1, none⟩) plt).trans (unhide S5).c1
  have p2 : ∀ w', Below V.heap.size V w' → w'.cell? ⟨w.heap.size, 2, none⟩ = some (.int .i64 wy) := fun w' h => (h.cell (p := ⟨w.heap.size, 2, none⟩) plt).trans (unhide S5).c2
  have p3 : ∀ w', Below V.heap.size V w' → w'.cell? ⟨w.heap.size, 3, none⟩ = some (.string W) := fun w' h => (h.cell (p := ⟨w.heap.size, 3, none⟩) plt).trans (unhide S5).c3
  have p4 : ∀ w', Below V.heap.size V w' → w'.cell? ⟨w.heap.size, 4, none⟩ = some (.int .i64 ee) := fun w' h => (h.cell (p := ⟨w.heap.size, 4, none⟩) plt).trans (unhide S5).c4
  have p5 : ∀ w', Below V.heap.size V w' → w'.cell? ⟨w.heap.size, 5, none⟩ = some (.string r) := fun w' h => (h.cell (p := ⟨w.heap.size, 5, none⟩) plt).trans (unhide S5).c5
  have p6 : ∀ w', Below V.heap.size V w' → w'.cell? ⟨w.heap.size, 6, none⟩ = some (.int .i64 g) := fun w' h => (h.cell (p := ⟨w.heap.size, 6, none⟩) plt).trans (unhide S5).c6
  have p7 : ∀ w', Below V.heap.size V w' → w'.cell? ⟨w.heap.size, 7, none⟩ = some (.bool fr) := fun w' h => (h.cell (p := ⟨w.heap.size, 7, none⟩) plt).trans (unhide S5).c7
  have p8 : ∀ w', Below V.heap.size V w' → w'.cell? ⟨w.heap.size, 8, none⟩ = some (.bool st) := fun w' h => (h.cell (p := ⟨w.heap.size, 8, none⟩) plt).trans (unhide S5).c8
  have qlt := (unhide S13).lt
  have q0 : ∀ w', Below V.heap.size V w' → w'.cell? ⟨B13, 0, none⟩ = some (.string ⟨#[]⟩) := fun w' h => (h.cell (p := ⟨B13, 0, none⟩) qlt).trans (unhide S13).c0
  have q1 : ∀ w', Below V.heap.size V w' → w'.cell? ⟨B13, 1, none⟩ = some (.int .i64 0) := fun w' h => (h.cell (p := ⟨B13, 1, none⟩) qlt).trans (unhide S13).c1
  have q2 : ∀ w', Below V.heap.size V w' → w'.cell? ⟨B13, 2, none⟩ = some (.int .i64 0) := fun w' h => (h.cell (p := ⟨B13, 2, none⟩) qlt).trans (unhide S13).c2
  have q3 : ∀ w', Below V.heap.size V w' → w'.cell? ⟨B13, 3, none⟩ = some (.string ⟨#[]⟩) := fun w' h => (h.cell (p := ⟨B13, 3, none⟩) qlt).trans (unhide S13).c3
  have q4 : ∀ w', Below V.heap.size V w' → w'.cell? ⟨B13, 4, none⟩ = some (.int .i64 0) := fun w' h => (h.cell (p := ⟨B13, 4, none⟩) qlt).trans (unhide S13).c4
  have q5 : ∀ w', Below V.heap.size V w' → w'.cell? ⟨B13, 5, none⟩ = some (.string ⟨#[]⟩) := fun w' h => (h.cell (p := ⟨B13, 5, none⟩) qlt).trans (unhide S13).c5
  have q6 : ∀ w', Below V.heap.size V w' → w'.cell? ⟨B13, 6, none⟩ = some (.int .i64 0) := fun w' h => (h.cell (p := ⟨B13, 6, none⟩) qlt).trans (unhide S13).c6
  have q7 : ∀ w', Below V.heap.size V w' → w'.cell? ⟨B13, 7, none⟩ = some (.bool false) := fun w' h => (h.cell (p := ⟨B13, 7, none⟩) qlt).trans (unhide S13).c7
  have q8 : ∀ w', Below V.heap.size V w' → w'.cell? ⟨B13, 8, none⟩ = some (.bool false) := fun w' h => (h.cell (p := ⟨B13, 8, none⟩) qlt).trans (unhide S13).c8
  have xlt := (unhide S16).lt
  have x0 : ∀ w', Below V.heap.size V w' → w'.cell? ⟨B16, 0, none⟩ = some (.string L3) := fun w' h => (h.cell (p := ⟨B16, 0, none⟩) xlt).trans (unhide S16).c0
  have x1 : ∀ w', Below V.heap.size V w' → w'.cell? ⟨B16, 1, none⟩ = some (.int .i64 en3) := fun w' h => (h.cell (p := ⟨B16, 1, none⟩) xlt).trans (unhide S16).c1
  have x2 : ∀ w', Below V.heap.size V w' → w'.cell? ⟨B16, 2, none⟩ = some (.int .i64 wy3) := fun w' h => (h.cell (p := ⟨B16, 2, none⟩) xlt).trans (unhide S16).c2
  have x3 : ∀ w', Below V.heap.size V w' → w'.cell? ⟨B16, 3, none⟩ = some (.string W3) := fun w' h => (h.cell (p := ⟨B16, 3, none⟩) xlt).trans (unhide S16).c3
  have x4 : ∀ w', Below V.heap.size V w' → w'.cell? ⟨B16, 4, none⟩ = some (.int .i64 ee3) := fun w' h => (h.cell (p := ⟨B16, 4, none⟩) xlt).trans (unhide S16).c4
  have x5 : ∀ w', Below V.heap.size V w' → w'.cell? ⟨B16, 5, none⟩ = some (.string r3) := fun w' h => (h.cell (p := ⟨B16, 5, none⟩) xlt).trans (unhide S16).c5
  have x6 : ∀ w', Below V.heap.size V w' → w'.cell? ⟨B16, 6, none⟩ = some (.int .i64 g3) := fun w' h => (h.cell (p := ⟨B16, 6, none⟩) xlt).trans (unhide S16).c6
  have x7 : ∀ w', Below V.heap.size V w' → w'.cell? ⟨B16, 7, none⟩ = some (.bool fr3) := fun w' h => (h.cell (p := ⟨B16, 7, none⟩) xlt).trans (unhide S16).c7
  have x8 : ∀ w', Below V.heap.size V w' → w'.cell? ⟨B16, 8, none⟩ = some (.bool st3) := fun w' h => (h.cell (p := ⟨B16, 8, none⟩) xlt).trans (unhide S16).c8
  have ylt := (unhide S24).lt
  have y0 : ∀ w', Below V.heap.size V w' → w'.cell? ⟨B24, 0, none⟩ = some (.string ⟨#[]⟩) := fun w' h => (h.cell (p := ⟨B24, 0, none⟩) ylt).trans (unhide S24).c0
  have y1 : ∀ w', Below V.heap.size V w' → w'.cell? ⟨B24, 1, none⟩ = some (.int .i64 0) := fun w' h => (h.cell (p := ⟨B24, 1, none⟩) ylt).trans (unhide S24).c1
  have y2 : ∀ w', Below V.heap.size V w' → w'.cell? ⟨B24, 2, none⟩ = some (.int .i64 0) := fun w' h => (h.cell (p := ⟨B24, 2, none⟩) ylt).trans (unhide S24).c2
  have y3 : ∀ w', Below V.heap.size V w' → w'.cell? ⟨B24, 3, none⟩ = some (.string ⟨#[]⟩) := fun w' h => (h.cell (p := ⟨B24, 3, none⟩) ylt).trans (unhide S24).c3
  have y4 : ∀ w', Below V.heap.size V w' → w'.cell? ⟨B24, 4, none⟩ = some (.int .i64 0) := fun w' h => (h.cell (p := ⟨B24, 4, none⟩) ylt).trans (unhide S24).c4
  have y5 : ∀ w', Below V.heap.size V w' → w'.cell? ⟨B24, 5, none⟩ = some (.string ⟨#[]⟩) := fun w' h => (h.cell (p := ⟨B24, 5, none⟩) ylt).trans (unhide S24).c5
  have y6 : ∀ w', Below V.heap.size V w' → w'.cell? ⟨B24, 6, none⟩ = some (.int .i64 0) := fun w' h => (h.cell (p := ⟨B24, 6, none⟩) ylt).trans (unhide S24).c6
  have y7 : ∀ w', Below V.heap.size V w' → w'.cell? ⟨B24, 7, none⟩ = some (.bool false) := fun w' h => (h.cell (p := ⟨B24, 7, none⟩) ylt).trans (unhide S24).c7
  have y8 : ∀ w', Below V.heap.size V w' → w'.cell? ⟨B24, 8, none⟩ = some (.bool false) := fun w' h => (h.cell (p := ⟨B24, 8, none⟩) ylt).trans (unhide S24).c8
  have zlt := (unhide S25).lt
  have z0 : ∀ w', Below V.heap.size V w' → w'.cell? ⟨(B24 + 1), 0, none⟩ = some (.string L3) := fun w' h => (h.cell (p := ⟨(B24 + 1), 0, none⟩) zlt).trans (unhide S25).c0
  have z1 : ∀ w', Below V.heap.size V w' → w'.cell? ⟨(B24 + 1), 1, none⟩ = some (.int .i64 en3) := fun w' h => (h.cell (p := ⟨(B24 + 1), 1, none⟩) zlt).trans (unhide S25).c1
  have z2 : ∀ w', Below V.heap.size V w' → w'.cell? ⟨(B24 + 1), 2, none⟩ = some (.int .i64 wy3) := fun w' h => (h.cell (p := ⟨(B24 + 1), 2, none⟩) zlt).trans (unhide S25).c2
  have z3 : ∀ w', Below V.heap.size V w' → w'.cell? ⟨(B24 + 1), 3, none⟩ = some (.string W3) := fun w' h => (h.cell (p := ⟨(B24 + 1), 3, none⟩) zlt).trans (unhide S25).c3
  have z4 : ∀ w', Below V.heap.size V w' → w'.cell? ⟨(B24 + 1), 4, none⟩ = some (.int .i64 ee3) := fun w' h => (h.cell (p := ⟨(B24 + 1), 4, none⟩) zlt).trans (unhide S25).c4
  have z5 : ∀ w', Below V.heap.size V w' → w'.cell? ⟨(B24 + 1), 5, none⟩ = some (.string r3) := fun w' h => (h.cell (p := ⟨(B24 + 1), 5, none⟩) zlt).trans (unhide S25).c5
  have z6 : ∀ w', Below V.heap.size V w' → w'.cell? ⟨(B24 + 1), 6, none⟩ = some (.int .i64 g3) := fun w' h => (h.cell (p := ⟨(B24 + 1), 6, none⟩) zlt).trans (unhide S25).c6
  have z7 : ∀ w', Below V.heap.size V w' → w'.cell? ⟨(B24 + 1), 7, none⟩ = some (.bool fr3) := fun w' h => (h.cell (p := ⟨(B24 + 1), 7, none⟩) zlt).trans (unhide S25).c7
  have z8 : ∀ w', Below V.heap.size V w' → w'.cell? ⟨(B24 + 1), 8, none⟩ = some (.bool st3) := fun w' h => (h.cell (p := ⟨(B24 + 1), 8, none⟩) zlt).trans (unhide S25).c8
  clear S5 S13 S16 S24 S25
  go_region_held3 (fun w' => Below V.heap.size V w') (first | exact below_drewN (Below.refl _ _) 1 | assumption)
    ((first
      | (go_at_call 19; refine (unhide GF _ ((unhide MV).below (by assumption))).mono ?_; rintro e' z ⟨rfl, hz⟩; have hS := bstep (by assumption) hz; clear hz)
      | (go_at_call 20; refine (unhide CKH _ ((unhide MV).below (by assumption))).mono ?_; rintro e' z ⟨rfl, hz⟩; have hS := bstep (by assumption) hz; clear hz)
      | (go_at_call 16; refine (unhide CSH _).mono ?_; rintro e' z ⟨rfl, hz⟩; have hS := bstep (by assumption) hz; clear hz)
      | (go_at_call 21; refine (intsAre_ok _ ((unhide I3).below (by assumption)) ((unhide P3).below (by assumption))).mono ?_; rintro e' z ⟨rfl, hz⟩; have hS := bstep (by assumption) hz; clear hz)))
  all_goals
    go_wp2_with fail
    go_ret
    exact ⟨ret_bool (by simp), bstep (unhide HB) (by assumption)⟩
set_option maxHeartbeats 6400000 in
set_option maxRecDepth 100000 in
theorem ft_NpK (hC : ChSays) (hCE : ChErrs) (hB : BgSays) (hBE : BgErrs) (hF : FdSays) (hFE : FdErrs) (hK : CkSays) (name s L : ByteArray) (en wy : Int) (W : ByteArray) (ee : Int) (r : ByteArray) (g : Int) (fr st last : Bool) (w : World) (hMx : Mx w) (hn : name.size ≤ maxLen) (hs : s.size ≤ maxLen) (hL : L.size ≤ maxLen) (hW : W.size ≤ maxLen) (hr : r.size ≤ maxLen) (h0 : 3000 < name.size) (h1 : s.size ≤ 3000) (hk : (Fr.mk L en wy W ee r (g, fr, st)).chk ≠ 0) :
    Calls Tryz.prog 3 #[.string name, .string s, .agg #[.string L, .int .i64 en, .int .i64 wy, .string W, .int .i64 ee, .string r, .int .i64 g, .bool fr, .bool st], .bool last] w fun e' w' => e' = .returned (.bool true) ∧ Below w.heap.size w w' := by
  have HM := hide hMx
  have GF := hide (fun w h => begunF_any hC hB hF hK w h)
  have CK := fun w hm => hK (Fr.mk L en wy W ee r (g, fr, st)) w hL hW hr hm
  have CS := fun w => checkFront_any (Fr.mk L en wy W ee r (g, fr, st)) w hL hW hr
  have CHH := hide (fun w hm => hCE name s w hn hs (.inl h0) hm)
  have BGH := hide (fun w => hBE name w hn h0)
  have FD := fun w hm => hFE (Fr.mk L en wy W ee r (g, fr, st)) s last w hL hW hr hs (.inl hk) hm
  rw [if_neg hk] at FD
  obtain ⟨q, HQ⟩ : ∃ q, Hid ((Fr.mk L en wy W ee r (g, fr, st)).chk = q) := ⟨_, hide rfl⟩
  rw [unhide HQ] at CK CS FD hk
  have hq0 : (q == 0) = false := by simpa using hk
  have CKH := hide CK
  have CSH := hide CS
  have FDH := hide FD
  clear CK CS FD hk
  dsimp only [Fr.v, Fr.new, M.st0] at CKH CSH FDH BGH
  clear hC hCE hB hBE hF hFE hK hMx
  unfold maxLen at hn hs hL hW hr
  go_enter Tryz.func3, Tryz.ntmps3
  go_wp2_with fail
  have S5 : Hid (Fb w.heap.size (Fr.mk L en wy W ee r (g, fr, st)) (w.alloc (.cells #[.string L, .int .i64 en, .int .i64 wy, .string W, .int .i64 ee, .string r, .int .i64 g, .bool fr, .bool st] 25))) := hide (Fb.new w (Fr.mk L en wy W ee r (g, fr, st)))
  have HB : Hid (Below w.heap.size w (w.alloc (.cells #[.string L, .int .i64 en, .int .i64 wy, .string W, .int .i64 ee, .string r, .int .i64 g, .bool fr, .bool st] 25))) := hide (balloc _ _)
  refine (unhide CHH _ ((unhide HM).below (unhide HB))).mono ?_
  rintro e' w1 ⟨rfl, hb1⟩
  have S5 := hide ((unhide S5).on hb1)
  have HB := hide (bstep (unhide HB) hb1)
  clear hb1 CHH
  go_wp2_with fail
  refine (unhide BGH _).mono ?_
  rintro e' w2 ⟨rfl, hb2⟩
  have hst := bstep hb2 (balloc w2 (.cells #[.string ⟨#[]⟩, .int .i64 0, .int .i64 0, .string ⟨#[]⟩, .int .i64 0, .string ⟨#[]⟩, .int .i64 0, .bool false, .bool false] 25))
  have S5 := hide ((unhide S5).on hst)
  have HB := hide (bstep (unhide HB) hst)
  have S13 : Hid (Fb w2.heap.size (Fr.new ⟨#[]⟩) (w2.alloc (.cells #[.string ⟨#[]⟩, .int .i64 0, .int .i64 0, .string ⟨#[]⟩, .int .i64 0, .string ⟨#[]⟩, .int .i64 0, .bool false, .bool false] 25))) := hide (Fb.new w2 (Fr.new ⟨#[]⟩))
  clear hb2 hst BGH
  obtain ⟨B13, hB13⟩ : ∃ B, w2.heap.size = B := ⟨_, rfl⟩
  rw [hB13] at S13
  go_upto_region 3 with fail
  generalize w2.alloc (.cells #[.string ⟨#[]⟩, .int .i64 0, .int .i64 0, .string ⟨#[]⟩, .int .i64 0, .string ⟨#[]⟩, .int .i64 0, .bool false, .bool false] 25) = W2 at *
  clear hB13
  have hl5 := (unhide S5).lt
  obtain ⟨c0, c1, c2, c3, c4, c5, c6, c7, c8, -, -, -, -, -, -, -, -, -⟩ := unhide S5
  dsimp only at c0 c1 c2 c3 c4 c5 c6 c7 c8
  go_wp2_with fail
  refine (unhide FDH _ ((unhide HM).below (unhide HB))).mono ?_
  rintro e' w3 ⟨v3, rfl, hI3, hb3⟩
  have I3 := hide hI3
  obtain ⟨a3, c3', hs3, -⟩ := hI3
  subst hs3
  clear c0 c1 c2 c3 c4 c5 c6 c7 c8 hl5
  have hst := bstep hb3 (balloc w3 (.cells #[.string ⟨#[]⟩, .int .i64 0, .int .i64 0, .string ⟨#[]⟩, .int .i64 0, .string ⟨#[]⟩, .int .i64 0, .bool false, .bool false] 25))
  have S5 := hide ((unhide S5).on hst)
  have S13 := hide ((unhide S13).on hst)
  have HB := hide (bstep (unhide HB) hst)
  have I3 := hide ((unhide I3).below (balloc w3 (.cells #[.string ⟨#[]⟩, .int .i64 0, .int .i64 0, .string ⟨#[]⟩, .int .i64 0, .string ⟨#[]⟩, .int .i64 0, .bool false, .bool false] 25)))
  have S16 : Hid (Fb w3.heap.size (Fr.new ⟨#[]⟩) (w3.alloc (.cells #[.string ⟨#[]⟩, .int .i64 0, .int .i64 0, .string ⟨#[]⟩, .int .i64 0, .string ⟨#[]⟩, .int .i64 0, .bool false, .bool false] 25))) := hide (Fb.new w3 (Fr.new ⟨#[]⟩))
  clear hb3 hst FDH
  obtain ⟨B16, hB16⟩ : ∃ B, w3.heap.size = B := ⟨_, rfl⟩
  rw [hB16] at S16
  go_upto_region 4 with fail
  generalize w3.alloc (.cells #[.string ⟨#[]⟩, .int .i64 0, .int .i64 0, .string ⟨#[]⟩, .int .i64 0, .string ⟨#[]⟩, .int .i64 0, .bool false, .bool false] 25) = V3 at *
  clear hB16
  have hl5 := (unhide S5).lt
  obtain ⟨c0, c1, c2, c3, c4, c5, c6, c7, c8, -, -, -, -, -, -, -, -, -⟩ := unhide S5
  dsimp only at c0 c1 c2 c3 c4 c5 c6 c7 c8
  go_wp2_with fail
  refine (tooLong_yes name _ h0 hn).mono ?_
  rintro e' w9 ⟨rfl, hw9⟩
  replace hw9 := hw9.symm
  subst hw9
  go_wp2_with fail
  refine (unhide CSH _).mono ?_
  rintro e' w5 ⟨rfl, hb5⟩
  clear c0 c1 c2 c3 c4 c5 c6 c7 c8 hl5
  have S5 := hide ((unhide S5).on hb5)
  have S13 := hide ((unhide S13).on hb5)
  have S16 := hide ((unhide S16).on hb5)
  have I3 := hide ((unhide I3).below hb5)
  have HB := hide (bstep (unhide HB) hb5)
  clear hb5
  go_upto_region 18 with fail
  have S24 : Hid (Fb w5.heap.size (Fr.new ⟨#[]⟩) ((w5.alloc (.cells #[.string ⟨#[]⟩, .int .i64 0, .int .i64 0, .string ⟨#[]⟩, .int .i64 0, .string ⟨#[]⟩, .int .i64 0, .bool false, .bool false] 25)).alloc (.cells #[.string ⟨#[]⟩, .int .i64 0, .int .i64 0, .string ⟨#[]⟩, .int .i64 0, .string ⟨#[]⟩, .int .i64 0, .bool false, .bool false] 25))) := hide ((Fb.new w5 (Fr.new ⟨#[]⟩)).alloc (.cells #[.string ⟨#[]⟩, .int .i64 0, .int .i64 0, .string ⟨#[]⟩, .int .i64 0, .string ⟨#[]⟩, .int .i64 0, .bool false, .bool false] 25))
  have R25 : Hid (Fb (w5.heap.size + 1) (Fr.new ⟨#[]⟩) ((w5.alloc (.cells #[.string ⟨#[]⟩, .int .i64 0, .int .i64 0, .string ⟨#[]⟩, .int .i64 0, .string ⟨#[]⟩, .int .i64 0, .bool false, .bool false] 25)).alloc (.cells #[.string ⟨#[]⟩, .int .i64 0, .int .i64 0, .string ⟨#[]⟩, .int .i64 0, .string ⟨#[]⟩, .int .i64 0, .bool false, .bool false] 25))) := hide (Fb.new2 w5 (.cells #[.string ⟨#[]⟩, .int .i64 0, .int .i64 0, .string ⟨#[]⟩, .int .i64 0, .string ⟨#[]⟩, .int .i64 0, .bool false, .bool false] 25))
  have HW : Hid (Below w5.heap.size w5 ((w5.alloc (.cells #[.string ⟨#[]⟩, .int .i64 0, .int .i64 0, .string ⟨#[]⟩, .int .i64 0, .string ⟨#[]⟩, .int .i64 0, .bool false, .bool false] 25)).alloc (.cells #[.string ⟨#[]⟩, .int .i64 0, .int .i64 0, .string ⟨#[]⟩, .int .i64 0, .string ⟨#[]⟩, .int .i64 0, .bool false, .bool false] 25))) := hide (bstep (balloc _ _) (balloc _ _))
  generalize (w5.alloc (.cells #[.string ⟨#[]⟩, .int .i64 0, .int .i64 0, .string ⟨#[]⟩, .int .i64 0, .string ⟨#[]⟩, .int .i64 0, .bool false, .bool false] 25)).alloc (.cells #[.string ⟨#[]⟩, .int .i64 0, .int .i64 0, .string ⟨#[]⟩, .int .i64 0, .string ⟨#[]⟩, .int .i64 0, .bool false, .bool false] 25) = V at *
  go_upto_region 20 with fail
  have S25 : Hid (Fb (w5.heap.size + 1) (Fr.new ⟨#[]⟩) V) := R25
  clear R25
  have S5 := hide ((unhide S5).on (unhide HW))
  have S13 := hide ((unhide S13).on (unhide HW))
  have S16 := hide ((unhide S16).on (unhide HW))
  have I3 := hide ((unhide I3).below (unhide HW))
  have HB := hide (bstep (unhide HB) (unhide HW))
  have MV := hide ((unhide HM).below (unhide HB))
  clear HW
  obtain ⟨B24, hB24⟩ : ∃ B, w5.heap.size = B := ⟨_, rfl⟩
  rw [hB24] at S24 S25
  have plt := (unhide S5).lt
  have p0 : ∀ w', Below V.heap.size V w' → w'.cell? ⟨w.heap.size, 0, none⟩ = some (.string L) := fun w' h => (h.cell (p := ⟨w.heap.size, 0, none⟩) plt).trans (unhide S5).c0
  have p1 : ∀ w', Below V.heap.size V w' → w'.cell? ⟨w.heap.size, 1, none⟩ = some (.int .i64 en) := fun w' h => (h.cell (p := ⟨w.heap.size, 1, none⟩) plt).trans (unhide S5).c1
  have p2 : ∀ w', Below V.heap.size V w' → w'.cell? ⟨w.heap.size, 2, none⟩ = some (.int .i64 wy) := fun w' h => (h.cell (p := ⟨w.heap.size, 2, none⟩) plt).trans (unhide S5).c2
  have p3 : ∀ w', Below V.heap.size V w' → w'.cell? ⟨w.heap.size, 3, none⟩ = some (.string W) := fun w' h => (h.cell (p := ⟨w.heap.size, 3, none⟩) plt).trans (unhide S5).c3
  have p4 : ∀ w', Below V.heap.size V w' → w'.cell? ⟨w.heap.size, 4, none⟩ = some (.int .i64 ee) := fun w' h => (h.cell (p := ⟨w.heap.size, 4, none⟩) plt).trans (unhide S5).c4
  have p5 : ∀ w', Below V.heap.size V w' → w'.cell? ⟨w.heap.size, 5, none⟩ = some (.string r) := fun w' h => (h.cell (p := ⟨w.heap.size, 5, none⟩) plt).trans (unhide S5).c5
  have p6 : ∀ w', Below V.heap.size V w' → w'.cell? ⟨w.heap.size, 6, none⟩ = some (.int .i64 g) := fun w' h => (h.cell (p := ⟨w.heap.size, 6, none⟩) plt).trans (unhide S5).c6
  have p7 : ∀ w', Below V.heap.size V w' → w'.cell? ⟨w.heap.size, 7, none⟩ = some (.bool fr) := fun w' h => (h.cell (p := ⟨w.heap.size, 7, none⟩) plt).trans (unhide S5).c7
  have p8 : ∀ w', Below V.heap.size V w' → w'.cell? ⟨w.heap.size, 8, none⟩ = some (.bool st) := fun w' h => (h.cell (p := ⟨w.heap.size, 8, none⟩) plt).trans (unhide S5).c8
  have qlt := (unhide S13).lt
  have q0 : ∀ w', Below V.heap.size V w' → w'.cell? ⟨B13, 0, none⟩ = some (.string ⟨#[]⟩) := fun w' h => (h.cell (p := ⟨B13, 0, none⟩) qlt).trans (unhide S13).c0
  have q1 : ∀ w', Below V.heap.size V w' → w'.cell? ⟨B13, 1, none⟩ = some (.int .i64 0) := fun w' h => (h.cell (p := ⟨B13, 1, none⟩) qlt).trans (unhide S13).c1
  have q2 : ∀ w', Below V.heap.size V w' → w'.cell? ⟨B13, 2, none⟩ = some (.int .i64 0) := fun w' h => (h.cell (p := ⟨B13, 2, none⟩) qlt).trans (unhide S13).c2
  have q3 : ∀ w', Below V.heap.size V w' → w'.cell? ⟨B13, 3, none⟩ = some (.string ⟨#[]⟩) := fun w' h => (h.cell (p := ⟨B13, 3, none⟩) qlt).trans (unhide S13).c3
  have q4 : ∀ w', Below V.heap.size V w' → w'.cell? ⟨B13, 4, none⟩ = some (.int .i64 0) := fun w' h => (h.cell (p := ⟨B13, 4, none⟩) qlt).trans (unhide S13).c4
  have q5 : ∀ w', Below V.heap.size V w' → w'.cell? ⟨B13, 5, none⟩ = some (.string ⟨#[]⟩) := fun w' h => (h.cell (p := ⟨B13, 5, none⟩) qlt).trans (unhide S13).c5
  have q6 : ∀ w', Below V.heap.size V w' → w'.cell? ⟨B13, 6, none⟩ = some (.int .i64 0) := fun w' h => (h.cell (p := ⟨B13, 6, none⟩) qlt).trans (unhide S13).c6
  have q7 : ∀ w', Below V.heap.size V w' → w'.cell? ⟨B13, 7, none⟩ = some (.bool false) := fun w' h => (h.cell (p := ⟨B13, 7, none⟩) qlt).trans (unhide S13).c7
  have q8 : ∀ w', Below V.heap.size V w' → w'.cell? ⟨B13, 8, none⟩ = some (.bool false) := fun w' h => (h.cell (p := ⟨B13, 8, none⟩) qlt).trans (unhide S13).c8
  have xlt := (unhide S16).lt
  have x0 : ∀ w', Below V.heap.size V w' → w'.cell? ⟨B16, 0, none⟩ = some (.string ⟨#[]⟩) := fun w' h => (h.cell (p := ⟨B16, 0, none⟩) xlt).trans (unhide S16).c0
  have x1 : ∀ w', Below V.heap.size V w' → w'.cell? ⟨B16, 1, none⟩ = some (.int .i64 0) := fun w' h => (h.cell (p := ⟨B16, 1, none⟩) xlt).trans (unhide S16).c1
  have x2 : ∀ w', Below V.heap.size V w' → w'.cell? ⟨B16, 2, none⟩ = some (.int .i64 0) := fun w' h => (h.cell (p := ⟨B16, 2, none⟩) xlt).trans (unhide S16).c2
  have x3 : ∀ w', Below V.heap.size V w' → w'.cell? ⟨B16, 3, none⟩ = some (.string ⟨#[]⟩) := fun w' h => (h.cell (p := ⟨B16, 3, none⟩) xlt).trans (unhide S16).c3
  have x4 : ∀ w', Below V.heap.size V w' → w'.cell? ⟨B16, 4, none⟩ = some (.int .i64 0) := fun w' h => (h.cell (p := ⟨B16, 4, none⟩) xlt).trans (unhide S16).c4
  have x5 : ∀ w', Below V.heap.size V w' → w'.cell? ⟨B16, 5, none⟩ = some (.string ⟨#[]⟩) := fun w' h => (h.cell (p := ⟨B16, 5, none⟩) xlt).trans (unhide S16).c5
  have x6 : ∀ w', Below V.heap.size V w' → w'.cell? ⟨B16, 6, none⟩ = some (.int .i64 0) := fun w' h => (h.cell (p := ⟨B16, 6, none⟩) xlt).trans (unhide S16).c6
  have x7 : ∀ w', Below V.heap.size V w' → w'.cell? ⟨B16, 7, none⟩ = some (.bool false) := fun w' h => (h.cell (p := ⟨B16, 7, none⟩) xlt).trans (unhide S16).c7
  have x8 : ∀ w', Below V.heap.size V w' → w'.cell? ⟨B16, 8, none⟩ = some (.bool false) := fun w' h => (h.cell (p := ⟨B16, 8, none⟩) xlt).trans (unhide S16).c8
  have ylt := (unhide S24).lt
  have y0 : ∀ w', Below V.heap.size V w' → w'.cell? ⟨B24, 0, none⟩ = some (.string ⟨#[]⟩) := fun w' h => (h.cell (p := ⟨B24, 0, none⟩) ylt).trans (unhide S24).c0
  have y1 : ∀ w', Below V.heap.size V w' → w'.cell? ⟨B24, 1, none⟩ = some (.int .i64 0) := fun w' h => (h.cell (p := ⟨B24, 1, none⟩) ylt).trans (unhide S24).c1
  have y2 : ∀ w', Below V.heap.size V w' → w'.cell? ⟨B24, 2, none⟩ = some (.int .i64 0) := fun w' h => (h.cell (p := ⟨B24, 2, none⟩) ylt).trans (unhide S24).c2
  have y3 : ∀ w', Below V.heap.size V w' → w'.cell? ⟨B24, 3, none⟩ = some (.string ⟨#[]⟩) := fun w' h => (h.cell (p := ⟨B24, 3, none⟩) ylt).trans (unhide S24).c3
  have y4 : ∀ w', Below V.heap.size V w' → w'.cell? ⟨B24, 4, none⟩ = some (.int .i64 0) := fun w' h => (h.cell (p := ⟨B24, 4, none⟩) ylt).trans (unhide S24).c4
  have y5 : ∀ w', Below V.heap.size V w' → w'.cell? ⟨B24, 5, none⟩ = some (.string ⟨#[]⟩) := fun w' h => (h.cell (p := ⟨B24, 5, none⟩) ylt).trans (unhide S24).c5
  have y6 : ∀ w', Below V.heap.size V w' → w'.cell? ⟨B24, 6, none⟩ = some (.int .i64 0) := fun w' h => (h.cell (p := ⟨B24, 6, none⟩) ylt).trans (unhide S24).c6
  have y7 : ∀ w', Below V.heap.size V w' → w'.cell? ⟨B24, 7, none⟩ = some (.bool false) := fun w' h => (h.cell (p := ⟨B24, 7, none⟩) ylt).trans (unhide S24).c7
  have y8 : ∀ w', Below V.heap.size V w' → w'.cell? ⟨B24, 8, none⟩ = some (.bool false) := fun w' h => (h.cell (p := ⟨B24, 8, none⟩) ylt).trans (unhide S24).c8
  have zlt := (unhide S25).lt
  have z0 : ∀ w', Below V.heap.size V w' → w'.cell? ⟨(B24 + 1), 0, none⟩ = some (.string ⟨#[]⟩) := fun w' h => (h.cell (p := ⟨(B24 + 1), 0, none⟩) zlt).trans (unhide S25).c0
  have z1 : ∀ w', Below V.heap.size V w' → w'.cell? ⟨(B24 + 1), 1, none⟩ = some (.int .i64 0) := fun w' h => (h.cell (p := ⟨(B24 + 1), 1, none⟩) zlt).trans (unhide S25).c1
  have z2 : ∀ w', Below V.heap.size V w' → w'.cell? ⟨(B24 + 1), 2, none⟩ = some (.int .i64 0) := fun w' h => (h.cell (p := ⟨(B24 + 1), 2, none⟩) zlt).trans (unhide S25).c2
  have z3 : ∀ w', Below V.heap.size V w' → w'.cell? ⟨(B24 + 1), 3, none⟩ = some (.string ⟨#[]⟩) := fun w' h => (h.cell (p := ⟨(B24 + 1), 3, none⟩) zlt).trans (unhide S25).c3
  have z4 : ∀ w', Below V.heap.size V w' → w'.cell? ⟨(B24 + 1), 4, none⟩ = some (.int .i64 0) := fun w' h => (h.cell (p := ⟨(B24 + 1), 4, none⟩) zlt).trans (unhide S25).c4
  have z5 : ∀ w', Below V.heap.size V w' → w'.cell? ⟨(B24 + 1), 5, none⟩ = some (.string ⟨#[]⟩) := fun w' h => (h.cell (p := ⟨(B24 + 1), 5, none⟩) zlt).trans (unhide S25).c5
  have z6 : ∀ w', Below V.heap.size V w' → w'.cell? ⟨(B24 + 1), 6, none⟩ = some (.int .i64 0) := fun w' h => (h.cell (p := ⟨(B24 + 1), 6, none⟩) zlt).trans (unhide S25).c6
  have z7 : ∀ w', Below V.heap.size V w' → w'.cell? ⟨(B24 + 1), 7, none⟩ = some (.bool false) := fun w' h => (h.cell (p := ⟨(B24 + 1), 7, none⟩) zlt).trans (unhide S25).c7
  have z8 : ∀ w', Below V.heap.size V w' → w'.cell? ⟨(B24 + 1), 8, none⟩ = some (.bool false) := fun w' h => (h.cell (p := ⟨(B24 + 1), 8, none⟩) zlt).trans (unhide S25).c8
  clear S5 S13 S16 S24 S25
  go_region_held3 (fun w' => Below V.heap.size V w') (first | exact below_drewN (Below.refl _ _) 1 | assumption)
    ((first
      | (go_at_call 19; refine (unhide GF _ ((unhide MV).below (by assumption))).mono ?_; rintro e' z ⟨rfl, hz⟩; have hS := bstep (by assumption) hz; clear hz)
      | (go_at_call 20; refine (unhide CKH _ ((unhide MV).below (by assumption))).mono ?_; rintro e' z ⟨rfl, hz⟩; have hS := bstep (by assumption) hz; clear hz)
      | (go_at_call 16; refine (unhide CSH _).mono ?_; rintro e' z ⟨rfl, hz⟩; have hS := bstep (by assumption) hz; clear hz)
      | (go_at_call 21; refine (intsAre_bad _ _ _ _ _ hq0 ((unhide I3).below (by assumption))).mono ?_; rintro e' z ⟨rfl, hz⟩; have hS := bstep (by assumption) hz; clear hz)))
  all_goals
    go_wp2_with fail
    go_ret
    exact ⟨ret_bool (by simp), bstep (unhide HB) (by assumption)⟩
set_option maxHeartbeats 6400000 in
set_option maxRecDepth 100000 in
theorem ft_NPk (hC : ChSays) (hCE : ChErrs) (hB : BgSays) (hBE : BgErrs) (hF : FdSays) (hFE : FdErrs) (hK : CkSays) (name s L : ByteArray) (en wy : Int) (W : ByteArray) (ee : Int) (r : ByteArray) (g : Int) (fr st last : Bool) (w : World) (hMx : Mx w) (hn : name.size ≤ maxLen) (hs : s.size ≤ maxLen) (hL : L.size ≤ maxLen) (hW : W.size ≤ maxLen) (hr : r.size ≤ maxLen) (h0 : 3000 < name.size) (h1 : 3000 < s.size) (hk : (Fr.mk L en wy W ee r (g, fr, st)).chk = 0) :
    Calls Tryz.prog 3 #[.string name, .string s, .agg #[.string L, .int .i64 en, .int .i64 wy, .string W, .int .i64 ee, .string r, .int .i64 g, .bool fr, .bool st], .bool last] w fun e' w' => e' = .returned (.bool true) ∧ Below w.heap.size w w' := by
  have HM := hide hMx
  have GF := hide (fun w h => begunF_any hC hB hF hK w h)
  have CK := fun w hm => hK (Fr.mk L en wy W ee r (g, fr, st)) w hL hW hr hm
  have CS := fun w => checkFront_any (Fr.mk L en wy W ee r (g, fr, st)) w hL hW hr
  have CHH := hide (fun w hm => hCE name s w hn hs (.inl h0) hm)
  have BGH := hide (fun w => hBE name w hn h0)
  have FD := fun w hm => hFE (Fr.mk L en wy W ee r (g, fr, st)) s last w hL hW hr hs (.inr h1) hm
  rw [if_pos hk] at FD
  rw [hk] at CK CS
  have CKH := hide CK
  have CSH := hide CS
  have FDH := hide FD
  clear CK CS FD hk
  dsimp only [Fr.v, Fr.new, M.st0] at CKH CSH FDH BGH
  clear hC hCE hB hBE hF hFE hK hMx
  unfold maxLen at hn hs hL hW hr
  go_enter Tryz.func3, Tryz.ntmps3
  go_wp2_with fail
  have S5 : Hid (Fb w.heap.size (Fr.mk L en wy W ee r (g, fr, st)) (w.alloc (.cells #[.string L, .int .i64 en, .int .i64 wy, .string W, .int .i64 ee, .string r, .int .i64 g, .bool fr, .bool st] 25))) := hide (Fb.new w (Fr.mk L en wy W ee r (g, fr, st)))
  have HB : Hid (Below w.heap.size w (w.alloc (.cells #[.string L, .int .i64 en, .int .i64 wy, .string W, .int .i64 ee, .string r, .int .i64 g, .bool fr, .bool st] 25))) := hide (balloc _ _)
  refine (unhide CHH _ ((unhide HM).below (unhide HB))).mono ?_
  rintro e' w1 ⟨rfl, hb1⟩
  have S5 := hide ((unhide S5).on hb1)
  have HB := hide (bstep (unhide HB) hb1)
  clear hb1 CHH
  go_wp2_with fail
  refine (unhide BGH _).mono ?_
  rintro e' w2 ⟨rfl, hb2⟩
  have hst := bstep hb2 (balloc w2 (.cells #[.string ⟨#[]⟩, .int .i64 0, .int .i64 0, .string ⟨#[]⟩, .int .i64 0, .string ⟨#[]⟩, .int .i64 0, .bool false, .bool false] 25))
  have S5 := hide ((unhide S5).on hst)
  have HB := hide (bstep (unhide HB) hst)
  have S13 : Hid (Fb w2.heap.size (Fr.new ⟨#[]⟩) (w2.alloc (.cells #[.string ⟨#[]⟩, .int .i64 0, .int .i64 0, .string ⟨#[]⟩, .int .i64 0, .string ⟨#[]⟩, .int .i64 0, .bool false, .bool false] 25))) := hide (Fb.new w2 (Fr.new ⟨#[]⟩))
  clear hb2 hst BGH
  obtain ⟨B13, hB13⟩ : ∃ B, w2.heap.size = B := ⟨_, rfl⟩
  rw [hB13] at S13
  go_upto_region 3 with fail
  generalize w2.alloc (.cells #[.string ⟨#[]⟩, .int .i64 0, .int .i64 0, .string ⟨#[]⟩, .int .i64 0, .string ⟨#[]⟩, .int .i64 0, .bool false, .bool false] 25) = W2 at *
  clear hB13
  have hl5 := (unhide S5).lt
  obtain ⟨c0, c1, c2, c3, c4, c5, c6, c7, c8, -, -, -, -, -, -, -, -, -⟩ := unhide S5
  dsimp only at c0 c1 c2 c3 c4 c5 c6 c7 c8
  go_wp2_with fail
  refine (unhide FDH _ ((unhide HM).below (unhide HB))).mono ?_
  rintro e' w3 ⟨v3, rfl, hI3, hb3⟩
  have I3 := hide hI3
  obtain ⟨a3, c3', hs3, -⟩ := hI3
  subst hs3
  clear c0 c1 c2 c3 c4 c5 c6 c7 c8 hl5
  have hst := bstep hb3 (balloc w3 (.cells #[.string ⟨#[]⟩, .int .i64 0, .int .i64 0, .string ⟨#[]⟩, .int .i64 0, .string ⟨#[]⟩, .int .i64 0, .bool false, .bool false] 25))
  have S5 := hide ((unhide S5).on hst)
  have S13 := hide ((unhide S13).on hst)
  have HB := hide (bstep (unhide HB) hst)
  have I3 := hide ((unhide I3).below (balloc w3 (.cells #[.string ⟨#[]⟩, .int .i64 0, .int .i64 0, .string ⟨#[]⟩, .int .i64 0, .string ⟨#[]⟩, .int .i64 0, .bool false, .bool false] 25)))
  have S16 : Hid (Fb w3.heap.size (Fr.new ⟨#[]⟩) (w3.alloc (.cells #[.string ⟨#[]⟩, .int .i64 0, .int .i64 0, .string ⟨#[]⟩, .int .i64 0, .string ⟨#[]⟩, .int .i64 0, .bool false, .bool false] 25))) := hide (Fb.new w3 (Fr.new ⟨#[]⟩))
  clear hb3 hst FDH
  obtain ⟨B16, hB16⟩ : ∃ B, w3.heap.size = B := ⟨_, rfl⟩
  rw [hB16] at S16
  go_upto_region 4 with fail
  generalize w3.alloc (.cells #[.string ⟨#[]⟩, .int .i64 0, .int .i64 0, .string ⟨#[]⟩, .int .i64 0, .string ⟨#[]⟩, .int .i64 0, .bool false, .bool false] 25) = V3 at *
  clear hB16
  have hl5 := (unhide S5).lt
  obtain ⟨c0, c1, c2, c3, c4, c5, c6, c7, c8, -, -, -, -, -, -, -, -, -⟩ := unhide S5
  dsimp only at c0 c1 c2 c3 c4 c5 c6 c7 c8
  go_wp2_with fail
  refine (tooLong_yes name _ h0 hn).mono ?_
  rintro e' w9 ⟨rfl, hw9⟩
  replace hw9 := hw9.symm
  subst hw9
  go_wp2_with fail
  refine (unhide CSH _).mono ?_
  rintro e' w5 ⟨rfl, hb5⟩
  clear c0 c1 c2 c3 c4 c5 c6 c7 c8 hl5
  have S5 := hide ((unhide S5).on hb5)
  have S13 := hide ((unhide S13).on hb5)
  have S16 := hide ((unhide S16).on hb5)
  have I3 := hide ((unhide I3).below hb5)
  have HB := hide (bstep (unhide HB) hb5)
  clear hb5
  go_wp2_with fail
  refine (tooLong_yes s _ h1 hs).mono ?_
  rintro e' w9 ⟨rfl, hw9⟩
  replace hw9 := hw9.symm
  subst hw9
  go_upto_region 18 with fail
  have S24 : Hid (Fb w5.heap.size (Fr.new ⟨#[]⟩) ((w5.alloc (.cells #[.string ⟨#[]⟩, .int .i64 0, .int .i64 0, .string ⟨#[]⟩, .int .i64 0, .string ⟨#[]⟩, .int .i64 0, .bool false, .bool false] 25)).alloc (.cells #[.string ⟨#[]⟩, .int .i64 0, .int .i64 0, .string ⟨#[]⟩, .int .i64 0, .string ⟨#[]⟩, .int .i64 0, .bool false, .bool false] 25))) := hide ((Fb.new w5 (Fr.new ⟨#[]⟩)).alloc (.cells #[.string ⟨#[]⟩, .int .i64 0, .int .i64 0, .string ⟨#[]⟩, .int .i64 0, .string ⟨#[]⟩, .int .i64 0, .bool false, .bool false] 25))
  have R25 : Hid (Fb (w5.heap.size + 1) (Fr.new ⟨#[]⟩) ((w5.alloc (.cells #[.string ⟨#[]⟩, .int .i64 0, .int .i64 0, .string ⟨#[]⟩, .int .i64 0, .string ⟨#[]⟩, .int .i64 0, .bool false, .bool false] 25)).alloc (.cells #[.string ⟨#[]⟩, .int .i64 0, .int .i64 0, .string ⟨#[]⟩, .int .i64 0, .string ⟨#[]⟩, .int .i64 0, .bool false, .bool false] 25))) := hide (Fb.new2 w5 (.cells #[.string ⟨#[]⟩, .int .i64 0, .int .i64 0, .string ⟨#[]⟩, .int .i64 0, .string ⟨#[]⟩, .int .i64 0, .bool false, .bool false] 25))
  have HW : Hid (Below w5.heap.size w5 ((w5.alloc (.cells #[.string ⟨#[]⟩, .int .i64 0, .int .i64 0, .string ⟨#[]⟩, .int .i64 0, .string ⟨#[]⟩, .int .i64 0, .bool false, .bool false] 25)).alloc (.cells #[.string ⟨#[]⟩, .int .i64 0, .int .i64 0, .string ⟨#[]⟩, .int .i64 0, .string ⟨#[]⟩, .int .i64 0, .bool false, .bool false] 25))) := hide (bstep (balloc _ _) (balloc _ _))
  generalize (w5.alloc (.cells #[.string ⟨#[]⟩, .int .i64 0, .int .i64 0, .string ⟨#[]⟩, .int .i64 0, .string ⟨#[]⟩, .int .i64 0, .bool false, .bool false] 25)).alloc (.cells #[.string ⟨#[]⟩, .int .i64 0, .int .i64 0, .string ⟨#[]⟩, .int .i64 0, .string ⟨#[]⟩, .int .i64 0, .bool false, .bool false] 25) = V at *
  go_upto_region 20 with fail
  have S25 : Hid (Fb (w5.heap.size + 1) (Fr.new ⟨#[]⟩) V) := R25
  clear R25
  have S5 := hide ((unhide S5).on (unhide HW))
  have S13 := hide ((unhide S13).on (unhide HW))
  have S16 := hide ((unhide S16).on (unhide HW))
  have I3 := hide ((unhide I3).below (unhide HW))
  have HB := hide (bstep (unhide HB) (unhide HW))
  have MV := hide ((unhide HM).below (unhide HB))
  clear HW
  obtain ⟨B24, hB24⟩ : ∃ B, w5.heap.size = B := ⟨_, rfl⟩
  rw [hB24] at S24 S25
  have plt := (unhide S5).lt
  have p0 : ∀ w', Below V.heap.size V w' → w'.cell? ⟨w.heap.size, 0, none⟩ = some (.string L) := fun w' h => (h.cell (p := ⟨w.heap.size, 0, none⟩) plt).trans (unhide S5).c0
  have p1 : ∀ w', Below V.heap.size V w' → w'.cell? ⟨w.heap.size, 1, none⟩ = some (.int .i64 en) := fun w' h => (h.cell (p := ⟨w.heap.size, 1, none⟩) plt).trans (unhide S5).c1
  have p2 : ∀ w', Below V.heap.size V w' → w'.cell? ⟨w.heap.size, 2, none⟩ = some (.int .i64 wy) := fun w' h => (h.cell (p := ⟨w.heap.size, 2, none⟩) plt).trans (unhide S5).c2
  have p3 : ∀ w', Below V.heap.size V w' → w'.cell? ⟨w.heap.size, 3, none⟩ = some (.string W) := fun w' h => (h.cell (p := ⟨w.heap.size, 3, none⟩) plt).trans (unhide S5).c3
  have p4 : ∀ w', Below V.heap.size V w' → w'.cell? ⟨w.heap.size, 4, none⟩ = some (.int .i64 ee) := fun w' h => (h.cell (p := ⟨w.heap.size, 4, none⟩) plt).trans (unhide S5).c4
  have p5 : ∀ w', Below V.heap.size V w' → w'.cell? ⟨w.heap.size, 5, none⟩ = some (.string r) := fun w' h => (h.cell (p := ⟨w.heap.size, 5, none⟩) plt).trans (unhide S5).c5
  have p6 : ∀ w', Below V.heap.size V w' → w'.cell? ⟨w.heap.size, 6, none⟩ = some (.int .i64 g) := fun w' h => (h.cell (p := ⟨w.heap.size, 6, none⟩) plt).trans (unhide S5).c6
  have p7 : ∀ w', Below V.heap.size V w' → w'.cell? ⟨w.heap.size, 7, none⟩ = some (.bool fr) := fun w' h => (h.cell (p := ⟨w.heap.size, 7, none⟩) plt).trans (unhide S5).c7
  have p8 : ∀ w', Below V.heap.size V w' → w'.cell? ⟨w.heap.size, 8, none⟩ = some (.bool st) := fun w' h => (h.cell (p := ⟨w.heap.size, 8, none⟩) plt).trans (unhide S5).c8
  have qlt := (unhide S13).lt
  have q0 : ∀ w', Below V.heap.size V w' → w'.cell? ⟨B13, 0, none⟩ = some (.string ⟨#[]⟩) := fun w' h => (h.cell (p := ⟨B13, 0, none⟩) qlt).trans (unhide S13).c0
  have q1 : ∀ w', Below V.heap.size V w' → w'.cell? ⟨B13, 1, none⟩ = some (.int .i64 0) := fun w' h => (h.cell (p := ⟨B13, 1, none⟩) qlt).trans (unhide S13).c1
  have q2 : ∀ w', Below V.heap.size V w' → w'.cell? ⟨B13, 2, none⟩ = some (.int .i64 0) := fun w' h => (h.cell (p := ⟨B13, 2, none⟩) qlt).trans (unhide S13).c2
  have q3 : ∀ w', Below V.heap.size V w' → w'.cell? ⟨B13, 3, none⟩ = some (.string ⟨#[]⟩) := fun w' h => (h.cell (p := ⟨B13, 3, none⟩) qlt).trans (unhide S13).c3
  have q4 : ∀ w', Below V.heap.size V w' → w'.cell? ⟨B13, 4, none⟩ = some (.int .i64 0) := fun w' h => (h.cell (p := ⟨B13, 4, none⟩) qlt).trans (unhide S13).c4
  have q5 : ∀ w', Below V.heap.size V w' → w'.cell? ⟨B13, 5, none⟩ = some (.string ⟨#[]⟩) := fun w' h => (h.cell (p := ⟨B13, 5, none⟩) qlt).trans (unhide S13).c5
  have q6 : ∀ w', Below V.heap.size V w' → w'.cell? ⟨B13, 6, none⟩ = some (.int .i64 0) := fun w' h => (h.cell (p := ⟨B13, 6, none⟩) qlt).trans (unhide S13).c6
  have q7 : ∀ w', Below V.heap.size V w' → w'.cell? ⟨B13, 7, none⟩ = some (.bool false) := fun w' h => (h.cell (p := ⟨B13, 7, none⟩) qlt).trans (unhide S13).c7
  have q8 : ∀ w', Below V.heap.size V w' → w'.cell? ⟨B13, 8, none⟩ = some (.bool false) := fun w' h => (h.cell (p := ⟨B13, 8, none⟩) qlt).trans (unhide S13).c8
  have xlt := (unhide S16).lt
  have x0 : ∀ w', Below V.heap.size V w' → w'.cell? ⟨B16, 0, none⟩ = some (.string ⟨#[]⟩) := fun w' h => (h.cell (p := ⟨B16, 0, none⟩) xlt).trans (unhide S16).c0
  have x1 : ∀ w', Below V.heap.size V w' → w'.cell? ⟨B16, 1, none⟩ = some (.int .i64 0) := fun w' h => (h.cell (p := ⟨B16, 1, none⟩) xlt).trans (unhide S16).c1
  have x2 : ∀ w', Below V.heap.size V w' → w'.cell? ⟨B16, 2, none⟩ = some (.int .i64 0) := fun w' h => (h.cell (p := ⟨B16, 2, none⟩) xlt).trans (unhide S16).c2
  have x3 : ∀ w', Below V.heap.size V w' → w'.cell? ⟨B16, 3, none⟩ = some (.string ⟨#[]⟩) := fun w' h => (h.cell (p := ⟨B16, 3, none⟩) xlt).trans (unhide S16).c3
  have x4 : ∀ w', Below V.heap.size V w' → w'.cell? ⟨B16, 4, none⟩ = some (.int .i64 0) := fun w' h => (h.cell (p := ⟨B16, 4, none⟩) xlt).trans (unhide S16).c4
  have x5 : ∀ w', Below V.heap.size V w' → w'.cell? ⟨B16, 5, none⟩ = some (.string ⟨#[]⟩) := fun w' h => (h.cell (p := ⟨B16, 5, none⟩) xlt).trans (unhide S16).c5
  have x6 : ∀ w', Below V.heap.size V w' → w'.cell? ⟨B16, 6, none⟩ = some (.int .i64 0) := fun w' h => (h.cell (p := ⟨B16, 6, none⟩) xlt).trans (unhide S16).c6
  have x7 : ∀ w', Below V.heap.size V w' → w'.cell? ⟨B16, 7, none⟩ = some (.bool false) := fun w' h => (h.cell (p := ⟨B16, 7, none⟩) xlt).trans (unhide S16).c7
  have x8 : ∀ w', Below V.heap.size V w' → w'.cell? ⟨B16, 8, none⟩ = some (.bool false) := fun w' h => (h.cell (p := ⟨B16, 8, none⟩) xlt).trans (unhide S16).c8
  have ylt := (unhide S24).lt
  have y0 : ∀ w', Below V.heap.size V w' → w'.cell? ⟨B24, 0, none⟩ = some (.string ⟨#[]⟩) := fun w' h => (h.cell (p := ⟨B24, 0, none⟩) ylt).trans (unhide S24).c0
  have y1 : ∀ w', Below V.heap.size V w' → w'.cell? ⟨B24, 1, none⟩ = some (.int .i64 0) := fun w' h => (h.cell (p := ⟨B24, 1, none⟩) ylt).trans (unhide S24).c1
  have y2 : ∀ w', Below V.heap.size V w' → w'.cell? ⟨B24, 2, none⟩ = some (.int .i64 0) := fun w' h => (h.cell (p := ⟨B24, 2, none⟩) ylt).trans (unhide S24).c2
  have y3 : ∀ w', Below V.heap.size V w' → w'.cell? ⟨B24, 3, none⟩ = some (.string ⟨#[]⟩) := fun w' h => (h.cell (p := ⟨B24, 3, none⟩) ylt).trans (unhide S24).c3
  have y4 : ∀ w', Below V.heap.size V w' → w'.cell? ⟨B24, 4, none⟩ = some (.int .i64 0) := fun w' h => (h.cell (p := ⟨B24, 4, none⟩) ylt).trans (unhide S24).c4
  have y5 : ∀ w', Below V.heap.size V w' → w'.cell? ⟨B24, 5, none⟩ = some (.string ⟨#[]⟩) := fun w' h => (h.cell (p := ⟨B24, 5, none⟩) ylt).trans (unhide S24).c5
  have y6 : ∀ w', Below V.heap.size V w' → w'.cell? ⟨B24, 6, none⟩ = some (.int .i64 0) := fun w' h => (h.cell (p := ⟨B24, 6, none⟩) ylt).trans (unhide S24).c6
  have y7 : ∀ w', Below V.heap.size V w' → w'.cell? ⟨B24, 7, none⟩ = some (.bool false) := fun w' h => (h.cell (p := ⟨B24, 7, none⟩) ylt).trans (unhide S24).c7
  have y8 : ∀ w', Below V.heap.size V w' → w'.cell? ⟨B24, 8, none⟩ = some (.bool false) := fun w' h => (h.cell (p := ⟨B24, 8, none⟩) ylt).trans (unhide S24).c8
  have zlt := (unhide S25).lt
  have z0 : ∀ w', Below V.heap.size V w' → w'.cell? ⟨(B24 + 1), 0, none⟩ = some (.string ⟨#[]⟩) := fun w' h => (h.cell (p := ⟨(B24 + 1), 0, none⟩) zlt).trans (unhide S25).c0
  have z1 : ∀ w', Below V.heap.size V w' → w'.cell? ⟨(B24 + 1), 1, none⟩ = some (.int .i64 0) := fun w' h => (h.cell (p := ⟨(B24 + 1), 1, none⟩) zlt).trans (unhide S25).c1
  have z2 : ∀ w', Below V.heap.size V w' → w'.cell? ⟨(B24 + 1), 2, none⟩ = some (.int .i64 0) := fun w' h => (h.cell (p := ⟨(B24 + 1), 2, none⟩) zlt).trans (unhide S25).c2
  have z3 : ∀ w', Below V.heap.size V w' → w'.cell? ⟨(B24 + 1), 3, none⟩ = some (.string ⟨#[]⟩) := fun w' h => (h.cell (p := ⟨(B24 + 1), 3, none⟩) zlt).trans (unhide S25).c3
  have z4 : ∀ w', Below V.heap.size V w' → w'.cell? ⟨(B24 + 1), 4, none⟩ = some (.int .i64 0) := fun w' h => (h.cell (p := ⟨(B24 + 1), 4, none⟩) zlt).trans (unhide S25).c4
  have z5 : ∀ w', Below V.heap.size V w' → w'.cell? ⟨(B24 + 1), 5, none⟩ = some (.string ⟨#[]⟩) := fun w' h => (h.cell (p := ⟨(B24 + 1), 5, none⟩) zlt).trans (unhide S25).c5
  have z6 : ∀ w', Below V.heap.size V w' → w'.cell? ⟨(B24 + 1), 6, none⟩ = some (.int .i64 0) := fun w' h => (h.cell (p := ⟨(B24 + 1), 6, none⟩) zlt).trans (unhide S25).c6
  have z7 : ∀ w', Below V.heap.size V w' → w'.cell? ⟨(B24 + 1), 7, none⟩ = some (.bool false) := fun w' h => (h.cell (p := ⟨(B24 + 1), 7, none⟩) zlt).trans (unhide S25).c7
  have z8 : ∀ w', Below V.heap.size V w' → w'.cell? ⟨(B24 + 1), 8, none⟩ = some (.bool false) := fun w' h => (h.cell (p := ⟨(B24 + 1), 8, none⟩) zlt).trans (unhide S25).c8
  clear S5 S13 S16 S24 S25
  go_region_held3 (fun w' => Below V.heap.size V w') (first | exact below_drewN (Below.refl _ _) 1 | assumption)
    ((first
      | (go_at_call 19; refine (unhide GF _ ((unhide MV).below (by assumption))).mono ?_; rintro e' z ⟨rfl, hz⟩; have hS := bstep (by assumption) hz; clear hz)
      | (go_at_call 20; refine (unhide CKH _ ((unhide MV).below (by assumption))).mono ?_; rintro e' z ⟨rfl, hz⟩; have hS := bstep (by assumption) hz; clear hz)
      | (go_at_call 16; refine (unhide CSH _).mono ?_; rintro e' z ⟨rfl, hz⟩; have hS := bstep (by assumption) hz; clear hz)
      | (go_at_call 21; refine (intsAre_bad _ _ _ _ _ (by rfl) ((unhide I3).below (by assumption))).mono ?_; rintro e' z ⟨rfl, hz⟩; have hS := bstep (by assumption) hz; clear hz)))
  all_goals
    go_wp2_with fail
    go_ret
    exact ⟨ret_bool (by simp), bstep (unhide HB) (by assumption)⟩
set_option maxHeartbeats 6400000 in
set_option maxRecDepth 100000 in
theorem ft_NPK (hC : ChSays) (hCE : ChErrs) (hB : BgSays) (hBE : BgErrs) (hF : FdSays) (hFE : FdErrs) (hK : CkSays) (name s L : ByteArray) (en wy : Int) (W : ByteArray) (ee : Int) (r : ByteArray) (g : Int) (fr st last : Bool) (w : World) (hMx : Mx w) (hn : name.size ≤ maxLen) (hs : s.size ≤ maxLen) (hL : L.size ≤ maxLen) (hW : W.size ≤ maxLen) (hr : r.size ≤ maxLen) (h0 : 3000 < name.size) (h1 : 3000 < s.size) (hk : (Fr.mk L en wy W ee r (g, fr, st)).chk ≠ 0) :
    Calls Tryz.prog 3 #[.string name, .string s, .agg #[.string L, .int .i64 en, .int .i64 wy, .string W, .int .i64 ee, .string r, .int .i64 g, .bool fr, .bool st], .bool last] w fun e' w' => e' = .returned (.bool true) ∧ Below w.heap.size w w' := by
  have HM := hide hMx
  have GF := hide (fun w h => begunF_any hC hB hF hK w h)
  have CK := fun w hm => hK (Fr.mk L en wy W ee r (g, fr, st)) w hL hW hr hm
  have CS := fun w => checkFront_any (Fr.mk L en wy W ee r (g, fr, st)) w hL hW hr
  have CHH := hide (fun w hm => hCE name s w hn hs (.inl h0) hm)
  have BGH := hide (fun w => hBE name w hn h0)
  have FD := fun w hm => hFE (Fr.mk L en wy W ee r (g, fr, st)) s last w hL hW hr hs (.inl hk) hm
  rw [if_neg hk] at FD
  obtain ⟨q, HQ⟩ : ∃ q, Hid ((Fr.mk L en wy W ee r (g, fr, st)).chk = q) := ⟨_, hide rfl⟩
  rw [unhide HQ] at CK CS FD hk
  have hq0 : (q == 0) = false := by simpa using hk
  have CKH := hide CK
  have CSH := hide CS
  have FDH := hide FD
  clear CK CS FD hk
  dsimp only [Fr.v, Fr.new, M.st0] at CKH CSH FDH BGH
  clear hC hCE hB hBE hF hFE hK hMx
  unfold maxLen at hn hs hL hW hr
  go_enter Tryz.func3, Tryz.ntmps3
  go_wp2_with fail
  have S5 : Hid (Fb w.heap.size (Fr.mk L en wy W ee r (g, fr, st)) (w.alloc (.cells #[.string L, .int .i64 en, .int .i64 wy, .string W, .int .i64 ee, .string r, .int .i64 g, .bool fr, .bool st] 25))) := hide (Fb.new w (Fr.mk L en wy W ee r (g, fr, st)))
  have HB : Hid (Below w.heap.size w (w.alloc (.cells #[.string L, .int .i64 en, .int .i64 wy, .string W, .int .i64 ee, .string r, .int .i64 g, .bool fr, .bool st] 25))) := hide (balloc _ _)
  refine (unhide CHH _ ((unhide HM).below (unhide HB))).mono ?_
  rintro e' w1 ⟨rfl, hb1⟩
  have S5 := hide ((unhide S5).on hb1)
  have HB := hide (bstep (unhide HB) hb1)
  clear hb1 CHH
  go_wp2_with fail
  refine (unhide BGH _).mono ?_
  rintro e' w2 ⟨rfl, hb2⟩
  have hst := bstep hb2 (balloc w2 (.cells #[.string ⟨#[]⟩, .int .i64 0, .int .i64 0, .string ⟨#[]⟩, .int .i64 0, .string ⟨#[]⟩, .int .i64 0, .bool false, .bool false] 25))
  have S5 := hide ((unhide S5).on hst)
  have HB := hide (bstep (unhide HB) hst)
  have S13 : Hid (Fb w2.heap.size (Fr.new ⟨#[]⟩) (w2.alloc (.cells #[.string ⟨#[]⟩, .int .i64 0, .int .i64 0, .string ⟨#[]⟩, .int .i64 0, .string ⟨#[]⟩, .int .i64 0, .bool false, .bool false] 25))) := hide (Fb.new w2 (Fr.new ⟨#[]⟩))
  clear hb2 hst BGH
  obtain ⟨B13, hB13⟩ : ∃ B, w2.heap.size = B := ⟨_, rfl⟩
  rw [hB13] at S13
  go_upto_region 3 with fail
  generalize w2.alloc (.cells #[.string ⟨#[]⟩, .int .i64 0, .int .i64 0, .string ⟨#[]⟩, .int .i64 0, .string ⟨#[]⟩, .int .i64 0, .bool false, .bool false] 25) = W2 at *
  clear hB13
  have hl5 := (unhide S5).lt
  obtain ⟨c0, c1, c2, c3, c4, c5, c6, c7, c8, -, -, -, -, -, -, -, -, -⟩ := unhide S5
  dsimp only at c0 c1 c2 c3 c4 c5 c6 c7 c8
  go_wp2_with fail
  refine (unhide FDH _ ((unhide HM).below (unhide HB))).mono ?_
  rintro e' w3 ⟨v3, rfl, hI3, hb3⟩
  have I3 := hide hI3
  obtain ⟨a3, c3', hs3, -⟩ := hI3
  subst hs3
  clear c0 c1 c2 c3 c4 c5 c6 c7 c8 hl5
  have hst := bstep hb3 (balloc w3 (.cells #[.string ⟨#[]⟩, .int .i64 0, .int .i64 0, .string ⟨#[]⟩, .int .i64 0, .string ⟨#[]⟩, .int .i64 0, .bool false, .bool false] 25))
  have S5 := hide ((unhide S5).on hst)
  have S13 := hide ((unhide S13).on hst)
  have HB := hide (bstep (unhide HB) hst)
  have I3 := hide ((unhide I3).below (balloc w3 (.cells #[.string ⟨#[]⟩, .int .i64 0, .int .i64 0, .string ⟨#[]⟩, .int .i64 0, .string ⟨#[]⟩, .int .i64 0, .bool false, .bool false] 25)))
  have S16 : Hid (Fb w3.heap.size (Fr.new ⟨#[]⟩) (w3.alloc (.cells #[.string ⟨#[]⟩, .int .i64 0, .int .i64 0, .string ⟨#[]⟩, .int .i64 0, .string ⟨#[]⟩, .int .i64 0, .bool false, .bool false] 25))) := hide (Fb.new w3 (Fr.new ⟨#[]⟩))
  clear hb3 hst FDH
  obtain ⟨B16, hB16⟩ : ∃ B, w3.heap.size = B := ⟨_, rfl⟩
  rw [hB16] at S16
  go_upto_region 4 with fail
  generalize w3.alloc (.cells #[.string ⟨#[]⟩, .int .i64 0, .int .i64 0, .string ⟨#[]⟩, .int .i64 0, .string ⟨#[]⟩, .int .i64 0, .bool false, .bool false] 25) = V3 at *
  clear hB16
  have hl5 := (unhide S5).lt
  obtain ⟨c0, c1, c2, c3, c4, c5, c6, c7, c8, -, -, -, -, -, -, -, -, -⟩ := unhide S5
  dsimp only at c0 c1 c2 c3 c4 c5 c6 c7 c8
  go_wp2_with fail
  refine (tooLong_yes name _ h0 hn).mono ?_
  rintro e' w9 ⟨rfl, hw9⟩
  replace hw9 := hw9.symm
  subst hw9
  go_wp2_with fail
  refine (unhide CSH _).mono ?_
  rintro e' w5 ⟨rfl, hb5⟩
  clear c0 c1 c2 c3 c4 c5 c6 c7 c8 hl5
  have S5 := hide ((unhide S5).on hb5)
  have S13 := hide ((unhide S13).on hb5)
  have S16 := hide ((unhide S16).on hb5)
  have I3 := hide ((unhide I3).below hb5)
  have HB := hide (bstep (unhide HB) hb5)
  clear hb5
  go_upto_region 18 with fail
  have S24 : Hid (Fb w5.heap.size (Fr.new ⟨#[]⟩) ((w5.alloc (.cells #[.string ⟨#[]⟩, .int .i64 0, .int .i64 0, .string ⟨#[]⟩, .int .i64 0, .string ⟨#[]⟩, .int .i64 0, .bool false, .bool false] 25)).alloc (.cells #[.string ⟨#[]⟩, .int .i64 0, .int .i64 0, .string ⟨#[]⟩, .int .i64 0, .string ⟨#[]⟩, .int .i64 0, .bool false, .bool false] 25))) := hide ((Fb.new w5 (Fr.new ⟨#[]⟩)).alloc (.cells #[.string ⟨#[]⟩, .int .i64 0, .int .i64 0, .string ⟨#[]⟩, .int .i64 0, .string ⟨#[]⟩, .int .i64 0, .bool false, .bool false] 25))
  have R25 : Hid (Fb (w5.heap.size + 1) (Fr.new ⟨#[]⟩) ((w5.alloc (.cells #[.string ⟨#[]⟩, .int .i64 0, .int .i64 0, .string ⟨#[]⟩, .int .i64 0, .string ⟨#[]⟩, .int .i64 0, .bool false, .bool false] 25)).alloc (.cells #[.string ⟨#[]⟩, .int .i64 0, .int .i64 0, .string ⟨#[]⟩, .int .i64 0, .string ⟨#[]⟩, .int .i64 0, .bool false, .bool false] 25))) := hide (Fb.new2 w5 (.cells #[.string ⟨#[]⟩, .int .i64 0, .int .i64 0, .string ⟨#[]⟩, .int .i64 0, .string ⟨#[]⟩, .int .i64 0, .bool false, .bool false] 25))
  have HW : Hid (Below w5.heap.size w5 ((w5.alloc (.cells #[.string ⟨#[]⟩, .int .i64 0, .int .i64 0, .string ⟨#[]⟩, .int .i64 0, .string ⟨#[]⟩, .int .i64 0, .bool false, .bool false] 25)).alloc (.cells #[.string ⟨#[]⟩, .int .i64 0, .int .i64 0, .string ⟨#[]⟩, .int .i64 0, .string ⟨#[]⟩, .int .i64 0, .bool false, .bool false] 25))) := hide (bstep (balloc _ _) (balloc _ _))
  generalize (w5.alloc (.cells #[.string ⟨#[]⟩, .int .i64 0, .int .i64 0, .string ⟨#[]⟩, .int .i64 0, .string ⟨#[]⟩, .int .i64 0, .bool false, .bool false] 25)).alloc (.cells #[.string ⟨#[]⟩, .int .i64 0, .int .i64 0, .string ⟨#[]⟩, .int .i64 0, .string ⟨#[]⟩, .int .i64 0, .bool false, .bool false] 25) = V at *
  go_upto_region 20 with fail
  have S25 : Hid (Fb (w5.heap.size + 1) (Fr.new ⟨#[]⟩) V) := R25
  clear R25
  have S5 := hide ((unhide S5).on (unhide HW))
  have S13 := hide ((unhide S13).on (unhide HW))
  have S16 := hide ((unhide S16).on (unhide HW))
  have I3 := hide ((unhide I3).below (unhide HW))
  have HB := hide (bstep (unhide HB) (unhide HW))
  have MV := hide ((unhide HM).below (unhide HB))
  clear HW
  obtain ⟨B24, hB24⟩ : ∃ B, w5.heap.size = B := ⟨_, rfl⟩
  rw [hB24] at S24 S25
  have plt := (unhide S5).lt
  have p0 : ∀ w', Below V.heap.size V w' → w'.cell? ⟨w.heap.size, 0, none⟩ = some (.string L) := fun w' h => (h.cell (p := ⟨w.heap.size, 0, none⟩) plt).trans (unhide S5).c0
  have p1 : ∀ w', Below V.heap.size V w' → w'.cell? ⟨w.heap.size, 1, none⟩ = some (.int .i64 en) := fun w' h => (h.cell (p := ⟨w.heap.size, 1, none⟩) plt).trans (unhide S5).c1
  have p2 : ∀ w', Below V.heap.size V w' → w'.cell? ⟨w.heap.size, 2, none⟩ = some (.int .i64 wy) := fun w' h => (h.cell (p := ⟨w.heap.size, 2, none⟩) plt).trans (unhide S5).c2
  have p3 : ∀ w', Below V.heap.size V w' → w'.cell? ⟨w.heap.size, 3, none⟩ = some (.string W) := fun w' h => (h.cell (p := ⟨w.heap.size, 3, none⟩) plt).trans (unhide S5).c3
  have p4 : ∀ w', Below V.heap.size V w' → w'.cell? ⟨w.heap.size, 4, none⟩ = some (.int .i64 ee) := fun w' h => (h.cell (p := ⟨w.heap.size, 4, none⟩) plt).trans (unhide S5).c4
  have p5 : ∀ w', Below V.heap.size V w' → w'.cell? ⟨w.heap.size, 5, none⟩ = some (.string r) := fun w' h => (h.cell (p := ⟨w.heap.size, 5, none⟩) plt).trans (unhide S5).c5
  have p6 : ∀ w', Below V.heap.size V w' → w'.cell? ⟨w.heap.size, 6, none⟩ = some (.int .i64 g) := fun w' h => (h.cell (p := ⟨w.heap.size, 6, none⟩) plt).trans (unhide S5).c6
  have p7 : ∀ w', Below V.heap.size V w' → w'.cell? ⟨w.heap.size, 7, none⟩ = some (.bool fr) := fun w' h => (h.cell (p := ⟨w.heap.size, 7, none⟩) plt).trans (unhide S5).c7
  have p8 : ∀ w', Below V.heap.size V w' → w'.cell? ⟨w.heap.size, 8, none⟩ = some (.bool st) := fun w' h => (h.cell (p := ⟨w.heap.size, 8, none⟩) plt).trans (unhide S5).c8
  have qlt := (unhide S13).lt
  have q0 : ∀ w', Below V.heap.size V w' → w'.cell? ⟨B13, 0, none⟩ = some (.string ⟨#[]⟩) := fun w' h => (h.cell (p := ⟨B13, 0, none⟩) qlt).trans (unhide S13).c0
  have q1 : ∀ w', Below V.heap.size V w' → w'.cell? ⟨B13, 1, none⟩ = some (.int .i64 0) := fun w' h => (h.cell (p := ⟨B13, 1, none⟩) qlt).trans (unhide S13).c1
  have q2 : ∀ w', Below V.heap.size V w' → w'.cell? ⟨B13, 2, none⟩ = some (.int .i64 0) := fun w' h => (h.cell (p := ⟨B13, 2, none⟩) qlt).trans (unhide S13).c2
  have q3 : ∀ w', Below V.heap.size V w' → w'.cell? ⟨B13, 3, none⟩ = some (.string ⟨#[]⟩) := fun w' h => (h.cell (p := ⟨B13, 3, none⟩) qlt).trans (unhide S13).c3
  have q4 : ∀ w', Below V.heap.size V w' → w'.cell? ⟨B13, 4, none⟩ = some (.int .i64 0) := fun w' h => (h.cell (p := ⟨B13, 4, none⟩) qlt).trans (unhide S13).c4
  have q5 : ∀ w', Below V.heap.size V w' → w'.cell? ⟨B13, 5, none⟩ = some (.string ⟨#[]⟩) := fun w' h => (h.cell (p := ⟨B13, 5, none⟩) qlt).trans (unhide S13).c5
  have q6 : ∀ w', Below V.heap.size V w' → w'.cell? ⟨B13, 6, none⟩ = some (.int .i64 0) := fun w' h => (h.cell (p := ⟨B13, 6, none⟩) qlt).trans (unhide S13).c6
  have q7 : ∀ w', Below V.heap.size V w' → w'.cell? ⟨B13, 7, none⟩ = some (.bool false) := fun w' h => (h.cell (p := ⟨B13, 7, none⟩) qlt).trans (unhide S13).c7
  have q8 : ∀ w', Below V.heap.size V w' → w'.cell? ⟨B13, 8, none⟩ = some (.bool false) := fun w' h => (h.cell (p := ⟨B13, 8, none⟩) qlt).trans (unhide S13).c8
  have xlt := (unhide S16).lt
  have x0 : ∀ w', Below V.heap.size V w' → w'.cell? ⟨B16, 0, none⟩ = some (.string ⟨#[]⟩) := fun w' h => (h.cell (p := ⟨B16, 0, none⟩) xlt).trans (unhide S16).c0
  have x1 : ∀ w', Below V.heap.size V w' → w'.cell? ⟨B16, 1, none⟩ = some (.int .i64 0) := fun w' h => (h.cell (p := ⟨B16, 1, none⟩) xlt).trans (unhide S16).c1
  have x2 : ∀ w', Below V.heap.size V w' → w'.cell? ⟨B16, 2, none⟩ = some (.int .i64 0) := fun w' h => (h.cell (p := ⟨B16, 2, none⟩) xlt).trans (unhide S16).c2
  have x3 : ∀ w', Below V.heap.size V w' → w'.cell? ⟨B16, 3, none⟩ = some (.string ⟨#[]⟩) := fun w' h => (h.cell (p := ⟨B16, 3, none⟩) xlt).trans (unhide S16).c3
  have x4 : ∀ w', Below V.heap.size V w' → w'.cell? ⟨B16, 4, none⟩ = some (.int .i64 0) := fun w' h => (h.cell (p := ⟨B16, 4, none⟩) xlt).trans (unhide S16).c4
  have x5 : ∀ w', Below V.heap.size V w' → w'.cell? ⟨B16, 5, none⟩ = some (.string ⟨#[]⟩) := fun w' h => (h.cell (p := ⟨B16, 5, none⟩) xlt).trans (unhide S16).c5
  have x6 : ∀ w', Below V.heap.size V w' → w'.cell? ⟨B16, 6, none⟩ = some (.int .i64 0) := fun w' h => (h.cell (p := ⟨B16, 6, none⟩) xlt).trans (unhide S16).c6
  have x7 : ∀ w', Below V.heap.size V w' → w'.cell? ⟨B16, 7, none⟩ = some (.bool false) := fun w' h => (h.cell (p := ⟨B16, 7, none⟩) xlt).trans (unhide S16).c7
  have x8 : ∀ w', Below V.heap.size V w' → w'.cell? ⟨B16, 8, none⟩ = some (.bool false) := fun w' h => (h.cell (p := ⟨B16, 8, none⟩) xlt).trans (unhide S16).c8
  have ylt := (unhide S24).lt
  have y0 : ∀ w', Below V.heap.size V w' → w'.cell? ⟨B24, 0, none⟩ = some (.string ⟨#[]⟩) := fun w' h => (h.cell (p := ⟨B24, 0, none⟩) ylt).trans (unhide S24).c0
  have y1 : ∀ w', Below V.heap.size V w' → w'.cell? ⟨B24, 1, none⟩ = some (.int .i64 0) := fun w' h => (h.cell (p := ⟨B24, 1, none⟩) ylt).trans (unhide S24).c1
  have y2 : ∀ w', Below V.heap.size V w' → w'.cell? ⟨B24, 2, none⟩ = some (.int .i64 0) := fun w' h => (h.cell (p := ⟨B24, 2, none⟩) ylt).trans (unhide S24).c2
  have y3 : ∀ w', Below V.heap.size V w' → w'.cell? ⟨B24, 3, none⟩ = some (.string ⟨#[]⟩) := fun w' h => (h.cell (p := ⟨B24, 3, none⟩) ylt).trans (unhide S24).c3
  have y4 : ∀ w', Below V.heap.size V w' → w'.cell? ⟨B24, 4, none⟩ = some (.int .i64 0) := fun w' h => (h.cell (p := ⟨B24, 4, none⟩) ylt).trans (unhide S24).c4
  have y5 : ∀ w', Below V.heap.size V w' → w'.cell? ⟨B24, 5, none⟩ = some (.string ⟨#[]⟩) := fun w' h => (h.cell (p := ⟨B24, 5, none⟩) ylt).trans (unhide S24).c5
  have y6 : ∀ w', Below V.heap.size V w' → w'.cell? ⟨B24, 6, none⟩ = some (.int .i64 0) := fun w' h => (h.cell (p := ⟨B24, 6, none⟩) ylt).trans (unhide S24).c6
  have y7 : ∀ w', Below V.heap.size V w' → w'.cell? ⟨B24, 7, none⟩ = some (.bool false) := fun w' h => (h.cell (p := ⟨B24, 7, none⟩) ylt).trans (unhide S24).c7
  have y8 : ∀ w', Below V.heap.size V w' → w'.cell? ⟨B24, 8, none⟩ = some (.bool false) := fun w' h => (h.cell (p := ⟨B24, 8, none⟩) ylt).trans (unhide S24).c8
  have zlt := (unhide S25).lt
  have z0 : ∀ w', Below V.heap.size V w' → w'.cell? ⟨(B24 + 1), 0, none⟩ = some (.string ⟨#[]⟩) := fun w' h => (h.cell (p := ⟨(B24 + 1), 0, none⟩) zlt).trans (unhide S25).c0
  have z1 : ∀ w', Below V.heap.size V w' → w'.cell? ⟨(B24 + 1), 1, none⟩ = some (.int .i64 0) := fun w' h => (h.cell (p := ⟨(B24 + 1), 1, none⟩) zlt).trans (unhide S25).c1
  have z2 : ∀ w', Below V.heap.size V w' → w'.cell? ⟨(B24 + 1), 2, none⟩ = some (.int .i64 0) := fun w' h => (h.cell (p := ⟨(B24 + 1), 2, none⟩) zlt).trans (unhide S25).c2
  have z3 : ∀ w', Below V.heap.size V w' → w'.cell? ⟨(B24 + 1), 3, none⟩ = some (.string ⟨#[]⟩) := fun w' h => (h.cell (p := ⟨(B24 + 1), 3, none⟩) zlt).trans (unhide S25).c3
  have z4 : ∀ w', Below V.heap.size V w' → w'.cell? ⟨(B24 + 1), 4, none⟩ = some (.int .i64 0) := fun w' h => (h.cell (p := ⟨(B24 + 1), 4, none⟩) zlt).trans (unhide S25).c4
  have z5 : ∀ w', Below V.heap.size V w' → w'.cell? ⟨(B24 + 1), 5, none⟩ = some (.string ⟨#[]⟩) := fun w' h => (h.cell (p := ⟨(B24 + 1), 5, none⟩) zlt).trans (unhide S25).c5
  have z6 : ∀ w', Below V.heap.size V w' → w'.cell? ⟨(B24 + 1), 6, none⟩ = some (.int .i64 0) := fun w' h => (h.cell (p := ⟨(B24 + 1), 6, none⟩) zlt).trans (unhide S25).c6
  have z7 : ∀ w', Below V.heap.size V w' → w'.cell? ⟨(B24 + 1), 7, none⟩ = some (.bool false) := fun w' h => (h.cell (p := ⟨(B24 + 1), 7, none⟩) zlt).trans (unhide S25).c7
  have z8 : ∀ w', Below V.heap.size V w' → w'.cell? ⟨(B24 + 1), 8, none⟩ = some (.bool false) := fun w' h => (h.cell (p := ⟨(B24 + 1), 8, none⟩) zlt).trans (unhide S25).c8
  clear S5 S13 S16 S24 S25
  go_region_held3 (fun w' => Below V.heap.size V w') (first | exact below_drewN (Below.refl _ _) 1 | assumption)
    ((first
      | (go_at_call 19; refine (unhide GF _ ((unhide MV).below (by assumption))).mono ?_; rintro e' z ⟨rfl, hz⟩; have hS := bstep (by assumption) hz; clear hz)
      | (go_at_call 20; refine (unhide CKH _ ((unhide MV).below (by assumption))).mono ?_; rintro e' z ⟨rfl, hz⟩; have hS := bstep (by assumption) hz; clear hz)
      | (go_at_call 16; refine (unhide CSH _).mono ?_; rintro e' z ⟨rfl, hz⟩; have hS := bstep (by assumption) hz; clear hz)
      | (go_at_call 21; refine (intsAre_bad _ _ _ _ _ hq0 ((unhide I3).below (by assumption))).mono ?_; rintro e' z ⟨rfl, hz⟩; have hS := bstep (by assumption) hz; clear hz)))
  all_goals
    go_wp2_with fail
    go_ret
    exact ⟨ret_bool (by simp), bstep (unhide HB) (by assumption)⟩
theorem ftells_walk (hC : ChSays) (hCE : ChErrs) (hB : BgSays) (hBE : BgErrs) (hF : FdSays) (hFE : FdErrs) (hK : CkSays) (name s L : ByteArray) (en wy : Int) (W : ByteArray) (ee : Int) (r : ByteArray) (g : Int) (fr st last : Bool) (w : World) (hMx : Mx w) (hn : name.size ≤ maxLen) (hs : s.size ≤ maxLen) (hL : L.size ≤ maxLen) (hW : W.size ≤ maxLen) (hr : r.size ≤ maxLen) :
    Calls Tryz.prog 3 #[.string name, .string s, .agg #[.string L, .int .i64 en, .int .i64 wy, .string W, .int .i64 ee, .string r, .int .i64 g, .bool fr, .bool st], .bool last] w fun e' w' => e' = .returned (.bool true) ∧ Below w.heap.size w w' := by
  by_cases h0 : name.size ≤ 3000
  · by_cases h1 : s.size ≤ 3000
    · by_cases hk : (Fr.mk L en wy W ee r (g, fr, st)).chk = 0
      · exact ft_npk hC hCE hB hBE hF hFE hK name s L en wy W ee r g fr st last w hMx hn hs hL hW hr h0 h1 hk
      · exact ft_npK hC hCE hB hBE hF hFE hK name s L en wy W ee r g fr st last w hMx hn hs hL hW hr h0 h1 hk
    · by_cases hk : (Fr.mk L en wy W ee r (g, fr, st)).chk = 0
      · exact ft_nPk hC hCE hB hBE hF hFE hK name s L en wy W ee r g fr st last w hMx hn hs hL hW hr h0 (by omega) hk
      · exact ft_nPK hC hCE hB hBE hF hFE hK name s L en wy W ee r g fr st last w hMx hn hs hL hW hr h0 (by omega) hk
  · by_cases h1 : s.size ≤ 3000
    · by_cases hk : (Fr.mk L en wy W ee r (g, fr, st)).chk = 0
      · exact ft_Npk hC hCE hB hBE hF hFE hK name s L en wy W ee r g fr st last w hMx hn hs hL hW hr (by omega) h1 hk
      · exact ft_NpK hC hCE hB hBE hF hFE hK name s L en wy W ee r g fr st last w hMx hn hs hL hW hr (by omega) h1 hk
    · by_cases hk : (Fr.mk L en wy W ee r (g, fr, st)).chk = 0
      · exact ft_NPk hC hCE hB hBE hF hFE hK name s L en wy W ee r g fr st last w hMx hn hs hL hW hr (by omega) (by omega) hk
      · exact ft_NPK hC hCE hB hBE hF hFE hK name s L en wy W ee r g fr st last w hMx hn hs hL hW hr (by omega) (by omega) hk
end Go.Proofs.YtaiinjfnkmidbaaGreatDoor
