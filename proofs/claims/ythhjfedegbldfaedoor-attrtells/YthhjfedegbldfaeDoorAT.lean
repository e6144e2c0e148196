/- The walk of AttrTells over what attr's calls have to answer: true; nothing that was there is written. -/
import Derived.Test.YthhjfedegbldfaeDoorAE
import Derived.Test.YthhjfedegbldfaeDoorTL
import Derived.Test.YthhjfedegbldfaeDoorRJ
import Derived.Deep.RegionHeld3
namespace Go.Proofs.YthhjfedegbldfaeDoor
open Go.RowKit
set_option linter.unusedVariables false

theorem drop2 {w w' : World} {p q : Addr} {u v : Value} {D : Nat} {w0 : World} (h : Below D w0 w) (hp : D ≤ p.block) (hq : D ≤ q.block) : Below D w0 ((w.setCell p u).setCell q v) := (h.setCell hp _).setCell hq _
set_option maxHeartbeats 6400000 in
set_option maxRecDepth 100000 in
theorem tells_good (hB : ∀ w : World, Mx w → Calls Tryd.prog 15 #[] w fun e w' => e = .returned (.bool true) ∧ Below w.heap.size w w') (hN : NextSays) (hA : AllSays) (hC : ChsSays) (s : ByteArray) (k : Nat) (w : World) (hMx : Mx w) (hk : k ≤ s.size) (hs : s.size ≤ 3000) :
    Calls Tryd.prog 3 #[.string s, .int .i64 (k : Int)] w fun e w' => e = .returned (.bool true) ∧ Below w.heap.size w w' := by
  have HMx := hide hMx
  clear hMx
  have HN := hide (fun w => hN s k w hk hs)
  have HRa := hide (fun w => attrAt_any s k w hk hs)
  have HAl := hide (fun w => hA s k w hk hs)
  have HRs : Hid (∀ w : World, Calls Tryd.prog 14 #[.string s, .int .i64 (k : Int)] w fun e w' => ∃ v, e = .returned (.tuple #[v, .int .i64 ((attrsI (bl s) k).2 : Int)]) ∧ Ats w' v (txts (attrsI (bl s) k).1) ∧ Below w.heap.size w w') := hide (fun w => (attrsAt_any s k w hk hs).mono fun e w' h => by
    obtain ⟨v, h1, h2, h3⟩ := h
    exact ⟨v, h1, Ats.of_owns h2, h3⟩)
  have HCh := hide (fun w => hC s w hs)
  have HRc := hide (fun w => charsetOf_any s w hs)
  have HB := hide hB
  generalize strOfNums (attrI (bl s) k).1.1 = X at HN HRa
  generalize strOfNums (attrI (bl s) k).1.2 = Y at HN HRa
  generalize (attrI (bl s) k).2.1 = q at HN HRa
  generalize (attrI (bl s) k).2.2 = t at HN HRa
  generalize txts (attrsI (bl s) k).1 = K at HAl HRs
  generalize (attrsI (bl s) k).2 = E at HAl HRs
  generalize chsI (bl s) = R at HCh HRc
  clear hB hN hA hC
  go_enter Tryd.func3, Tryd.ntmps3
  go_wp2_with fail
  refine (unhide HN _).mono ?_
  rintro e w1 ⟨rfl, hb1⟩
  have HB1 := hide (bstep hb1 (balloc _ (.cells #[.string X, .string Y] 23)))
  have a0 : (w1.alloc (.cells #[.string X, .string Y] 23)).cell? ⟨w1.heap.size, 0, none⟩ = some (.string X) := by simp
  have a1 : (w1.alloc (.cells #[.string X, .string Y] 23)).cell? ⟨w1.heap.size, 1, none⟩ = some (.string Y) := by simp
  clear hb1 HN
  go_wp2_with fail
  refine (unhide HAl _).mono ?_
  rintro e w2 ⟨v, rfl, hv2, hb2⟩
  have HB2 := hide (bstep (unhide HB1) hb2)
  have HV2 := hide hv2
  replace a0 := (hb2.cell (p := ⟨w1.heap.size, 0, none⟩) (World.block_lt_of_cell? _ _ a0)).trans a0
  replace a1 := (hb2.cell (p := ⟨w1.heap.size, 1, none⟩) (World.block_lt_of_cell? _ _ a1)).trans a1
  clear hb2 HAl HB1 hv2
  generalize w1.heap.size = A at *
  go_wp2_with fail
  refine (unhide HCh _ (by first | exact unhide HMx | exact (unhide HMx).below (unhide (by assumption)) | exact (unhide HMx).below (bstep (unhide (by assumption)) (balloc _ _)))).mono ?_
  rintro e w3 ⟨rfl, hb3⟩
  have HB3 := hide (bstep (unhide HB2) hb3)
  have HV3 := hide ((unhide HV2).below hb3)
  replace a0 := (hb3.cell (p := ⟨A, 0, none⟩) (World.block_lt_of_cell? _ _ a0)).trans a0
  replace a1 := (hb3.cell (p := ⟨A, 1, none⟩) (World.block_lt_of_cell? _ _ a1)).trans a1
  clear hb3 HCh HB2 HV2
  go_wp2_with fail
  refine (tooLong_no s _ hs).mono ?_
  rintro e w4 ⟨rfl, hw⟩
  replace hw := hw.symm
  subst hw
  have hkI : ¬ (s.size : Int) < (k : Int) := by omega
  go_wp2_with fail
  have hAl : A < w3.heap.size := World.block_lt_of_cell? w3 _ a0
  have HX4 := hide (balloc w3 (.cells #[.string ⟨#[]⟩, .string ⟨#[]⟩] 23))
  replace a0 := (World.cell?_alloc_lt w3 (.cells #[.string ⟨#[]⟩, .string ⟨#[]⟩] 23) ⟨A, 0, none⟩ hAl).trans a0
  replace a1 := (World.cell?_alloc_lt w3 (.cells #[.string ⟨#[]⟩, .string ⟨#[]⟩] 23) ⟨A, 1, none⟩ hAl).trans a1
  have o0 : (w3.alloc (.cells #[.string ⟨#[]⟩, .string ⟨#[]⟩] 23)).cell? ⟨w3.heap.size, 0, none⟩ = some (.string ⟨#[]⟩) := by simp
  have o1 : (w3.alloc (.cells #[.string ⟨#[]⟩, .string ⟨#[]⟩] 23)).cell? ⟨w3.heap.size, 1, none⟩ = some (.string ⟨#[]⟩) := by simp
  have f0 : (w3.alloc (.cells #[.string ⟨#[]⟩, .string ⟨#[]⟩] 23)).frozen? ⟨w3.heap.size, 0, none⟩ = false := by simp
  have f1 : (w3.alloc (.cells #[.string ⟨#[]⟩, .string ⟨#[]⟩] 23)).frozen? ⟨w3.heap.size, 1, none⟩ = false := by simp
  generalize w3.alloc (.cells #[.string ⟨#[]⟩, .string ⟨#[]⟩] 23) = w4 at *
  obtain ⟨D, hD⟩ : ∃ D, w3.heap.size = D := ⟨_, rfl⟩
  rw [hD] at o0 o1 f0 f1 hAl ⊢
  refine (unhide HRc _).mono ?_
  rintro e w5 ⟨rfl, hb5⟩
  have HX5 := hide (bstep (unhide HX4) hb5)
  replace a0 := (hb5.cell (p := ⟨A, 0, none⟩) (World.block_lt_of_cell? _ _ a0)).trans a0
  replace a1 := (hb5.cell (p := ⟨A, 1, none⟩) (World.block_lt_of_cell? _ _ a1)).trans a1
  replace f0 := (hb5.frozen (p := ⟨D, 0, none⟩) (World.block_lt_of_cell? _ _ o0)).trans f0
  replace f1 := (hb5.frozen (p := ⟨D, 1, none⟩) (World.block_lt_of_cell? _ _ o1)).trans f1
  replace o0 := (hb5.cell (p := ⟨D, 0, none⟩) (World.block_lt_of_cell? _ _ o0)).trans o0
  replace o1 := (hb5.cell (p := ⟨D, 1, none⟩) (World.block_lt_of_cell? _ _ o1)).trans o1
  clear hb5 HRc HX4
  go_wp2_with fail
  refine (unhide HRa _).mono ?_
  rintro e w6 ⟨rfl, hb6⟩
  have HX6 := hide (bstep (unhide HX5) hb6)
  replace a0 := (hb6.cell (p := ⟨A, 0, none⟩) (World.block_lt_of_cell? _ _ a0)).trans a0
  replace a1 := (hb6.cell (p := ⟨A, 1, none⟩) (World.block_lt_of_cell? _ _ a1)).trans a1
  replace f0 := (hb6.frozen (p := ⟨D, 0, none⟩) (World.block_lt_of_cell? _ _ o0)).trans f0
  replace f1 := (hb6.frozen (p := ⟨D, 1, none⟩) (World.block_lt_of_cell? _ _ o1)).trans f1
  replace o0 := (hb6.cell (p := ⟨D, 0, none⟩) (World.block_lt_of_cell? _ _ o0)).trans o0
  replace o1 := (hb6.cell (p := ⟨D, 1, none⟩) (World.block_lt_of_cell? _ _ o1)).trans o1
  clear hb6 HRa HX5
  go_wp2_with fail
  have HX7 := hide (((unhide HX6).setCell (p := ⟨D, 0, none⟩) (Nat.le_of_eq hD) (.string X)).setCell (p := ⟨D, 1, none⟩) (Nat.le_of_eq hD) (.string Y))
  have hne : A ≠ D := by omega
  have b0 : ((w6.setCell ⟨D, 0, none⟩ (.string X)).setCell ⟨D, 1, none⟩ (.string Y)).cell? ⟨A, 0, none⟩ = some (.string X) := by
    rw [World.cell?_setCell_other _ _ _ _ (by intro e; exact hne (congrArg Addr.block e).symm), World.cell?_setCell_other _ _ _ _ (by intro e; exact hne (congrArg Addr.block e).symm), a0]
  have b1 : ((w6.setCell ⟨D, 0, none⟩ (.string X)).setCell ⟨D, 1, none⟩ (.string Y)).cell? ⟨A, 1, none⟩ = some (.string Y) := by
    rw [World.cell?_setCell_other _ _ _ _ (by intro e; exact hne (congrArg Addr.block e).symm), World.cell?_setCell_other _ _ _ _ (by intro e; exact hne (congrArg Addr.block e).symm), a1]
  have p0 : ((w6.setCell ⟨D, 0, none⟩ (.string X)).setCell ⟨D, 1, none⟩ (.string Y)).cell? ⟨D, 0, none⟩ = some (.string X) := by
    rw [World.cell?_setCell_other _ _ _ _ (by intro e; exact absurd (congrArg Addr.off e) (by simp)), World.cell?_setCell_same _ _ _ o0]
  have p1 : ((w6.setCell ⟨D, 0, none⟩ (.string X)).setCell ⟨D, 1, none⟩ (.string Y)).cell? ⟨D, 1, none⟩ = some (.string Y) := by
    have o1' : (w6.setCell ⟨D, 0, none⟩ (.string X)).cell? ⟨D, 1, none⟩ = some (.string ⟨#[]⟩) := by rw [World.cell?_setCell_other _ _ _ _ (by intro e; exact absurd (congrArg Addr.off e) (by simp)), o1]
    rw [World.cell?_setCell_same _ _ _ o1']
  clear a0 a1 o0 o1 f0 f1 HX6
  generalize (w6.setCell ⟨D, 0, none⟩ (.string X)).setCell ⟨D, 1, none⟩ (.string Y) = w7 at *
  refine (unhide HRs _).mono ?_
  rintro e W ⟨u, rfl, hu, hb8⟩
  have HX8 := hide (bstep (unhide HX7) hb8)
  have HU := hide hu
  replace b0 := (hb8.cell (p := ⟨A, 0, none⟩) (World.block_lt_of_cell? _ _ b0)).trans b0
  replace b1 := (hb8.cell (p := ⟨A, 1, none⟩) (World.block_lt_of_cell? _ _ b1)).trans b1
  replace p0 := (hb8.cell (p := ⟨D, 0, none⟩) (World.block_lt_of_cell? _ _ p0)).trans p0
  replace p1 := (hb8.cell (p := ⟨D, 1, none⟩) (World.block_lt_of_cell? _ _ p1)).trans p1
  have HV := hide ((unhide HV3).below (unhide HX8))
  have HBW := hide (bstep (unhide HB3) (unhide HX8))
  clear hb8 hu HX7 HRs HX8 HV3 HB3
  go_wp2_with fail
  refine (unhide HB _ (by first | exact unhide HMx | exact (unhide HMx).below (unhide (by assumption)) | exact (unhide HMx).below (bstep (unhide (by assumption)) (balloc _ _)))).mono ?_
  rintro e w9 ⟨rfl, hb9⟩
  have HB9 := hide (bstep (unhide HBW) hb9)
  have HV9 := hide ((unhide HV).below hb9)
  have HU9 := hide ((unhide HU).below hb9)
  replace b0 := (hb9.cell (p := ⟨A, 0, none⟩) (World.block_lt_of_cell? _ _ b0)).trans b0
  replace b1 := (hb9.cell (p := ⟨A, 1, none⟩) (World.block_lt_of_cell? _ _ b1)).trans b1
  replace p0 := (hb9.cell (p := ⟨D, 0, none⟩) (World.block_lt_of_cell? _ _ p0)).trans p0
  replace p1 := (hb9.cell (p := ⟨D, 1, none⟩) (World.block_lt_of_cell? _ _ p1)).trans p1
  clear hb9 HB HBW HV HU
  go_wp2_with fail
  refine (sameAttrs_any _ (unhide HV9) (unhide HU9)).mono ?_
  rintro e w10 ⟨rfl, hb10⟩
  have HB10 := hide (bstep (unhide HB9) hb10)
  clear hb10 HB9 HV9 HU9
  rw [decide_eq_true rfl]
  go_wp2_with fail
  go_ret
  exact ⟨ret_bool (by simp), unhide HB10⟩
theorem tells_long_e (s : ByteArray) (k : Int) (h : 3000 < s.size) : badE s k = 2 := by
  unfold badE; rw [if_pos h]
set_option maxHeartbeats 6400000 in
set_option maxRecDepth 100000 in
theorem tells_long (hB : ∀ w : World, Mx w → Calls Tryd.prog 15 #[] w fun e w' => e = .returned (.bool true) ∧ Below w.heap.size w w') (hN : NextErrs) (hA : AllErrs) (hC : ChsErrs) (s : ByteArray) (k : Int) (w : World) (hMx : Mx w) (hs : s.size ≤ maxLen) (h1 : -9223372036854775808 ≤ k) (h2 : k < 9223372036854775808) (h : 3000 < s.size) :
    Calls Tryd.prog 3 #[.string s, .int .i64 k] w fun e w' => e = .returned (.bool true) ∧ Below w.heap.size w w' := by
  have HMx := hide hMx
  clear hMx
  have he := tells_long_e s k h
  have HN := hide (fun w => hN s k w hs h1 h2 (by rw [he]; decide))
  have HAl := hide (fun w => hA s k w hs h1 h2 (by rw [he]; decide))
  rw [he] at HN HAl
  have HCh := hide (fun w => hC s w hs h)
  have HB := hide hB
  have HTL := hide (fun w => tooLong_yes s w h hs)
  clear hB hN hA hC he
  unfold maxLen at hs
  go_enter Tryd.func3, Tryd.ntmps3
  go_wp2_with fail
  refine (unhide HN _).mono ?_
  rintro e w1 ⟨rfl, hb1⟩
  have HB1 := hide (bstep hb1 (balloc _ (.cells #[.string ⟨#[]⟩, .string ⟨#[]⟩] 23)))
  have a0 : (w1.alloc (.cells #[.string ⟨#[]⟩, .string ⟨#[]⟩] 23)).cell? ⟨w1.heap.size, 0, none⟩ = some (.string ⟨#[]⟩) := by simp
  have a1 : (w1.alloc (.cells #[.string ⟨#[]⟩, .string ⟨#[]⟩] 23)).cell? ⟨w1.heap.size, 1, none⟩ = some (.string ⟨#[]⟩) := by simp
  clear hb1 HN
  go_wp2_with fail
  refine (unhide HAl _).mono ?_
  rintro e w2 ⟨v, rfl, hv2, hb2⟩
  have HB2 := hide (bstep (unhide HB1) hb2)
  have HV2 := hide hv2
  replace a0 := (hb2.cell (p := ⟨w1.heap.size, 0, none⟩) (World.block_lt_of_cell? _ _ a0)).trans a0
  replace a1 := (hb2.cell (p := ⟨w1.heap.size, 1, none⟩) (World.block_lt_of_cell? _ _ a1)).trans a1
  clear hb2 HAl HB1 hv2
  generalize w1.heap.size = A at *
  go_wp2_with fail
  refine (unhide HCh _ (by first | exact unhide HMx | exact (unhide HMx).below (unhide (by assumption)) | exact (unhide HMx).below (bstep (unhide (by assumption)) (balloc _ _)))).mono ?_
  rintro e w3 ⟨rfl, hb3⟩
  have HB3 := hide (bstep (bstep (unhide HB2) hb3) (balloc _ (.cells #[.string ⟨#[]⟩, .string ⟨#[]⟩] 23)))
  have HV3 := hide (((unhide HV2).below hb3).below (balloc _ (.cells #[.string ⟨#[]⟩, .string ⟨#[]⟩] 23)))
  replace a0 := (hb3.cell (p := ⟨A, 0, none⟩) (World.block_lt_of_cell? _ _ a0)).trans a0
  replace a1 := (hb3.cell (p := ⟨A, 1, none⟩) (World.block_lt_of_cell? _ _ a1)).trans a1
  clear hb3 HCh HB2 HV2
  go_wp2_with fail
  refine (unhide HTL _).mono ?_
  rintro e w4 ⟨rfl, hw⟩
  replace hw := hw.symm
  subst hw
  go_wp2_with fail
  have hAl : A < w3.heap.size := World.block_lt_of_cell? w3 _ a0
  replace a0 := (World.cell?_alloc_lt w3 (.cells #[.string ⟨#[]⟩, .string ⟨#[]⟩] 23) ⟨A, 0, none⟩ hAl).trans a0
  replace a1 := (World.cell?_alloc_lt w3 (.cells #[.string ⟨#[]⟩, .string ⟨#[]⟩] 23) ⟨A, 1, none⟩ hAl).trans a1
  have o0 : (w3.alloc (.cells #[.string ⟨#[]⟩, .string ⟨#[]⟩] 23)).cell? ⟨w3.heap.size, 0, none⟩ = some (.string ⟨#[]⟩) := by simp
  have o1 : (w3.alloc (.cells #[.string ⟨#[]⟩, .string ⟨#[]⟩] 23)).cell? ⟨w3.heap.size, 1, none⟩ = some (.string ⟨#[]⟩) := by simp
  clear hAl
  generalize w3.alloc (.cells #[.string ⟨#[]⟩, .string ⟨#[]⟩] 23) = w4 at *
  generalize w3.heap.size = D at *
  refine (unhide HB _ (by first | exact unhide HMx | exact (unhide HMx).below (unhide (by assumption)) | exact (unhide HMx).below (bstep (unhide (by assumption)) (balloc _ _)))).mono ?_
  rintro e w6 ⟨rfl, hb6⟩
  have HB6 := hide (bstep (unhide HB3) hb6)
  have HV6 := hide ((unhide HV3).below hb6)
  replace a0 := (hb6.cell (p := ⟨A, 0, none⟩) (World.block_lt_of_cell? _ _ a0)).trans a0
  replace a1 := (hb6.cell (p := ⟨A, 1, none⟩) (World.block_lt_of_cell? _ _ a1)).trans a1
  replace o0 := (hb6.cell (p := ⟨D, 0, none⟩) (World.block_lt_of_cell? _ _ o0)).trans o0
  replace o1 := (hb6.cell (p := ⟨D, 1, none⟩) (World.block_lt_of_cell? _ _ o1)).trans o1
  clear hb6 HB3 HV3
  go_wp2_with fail
  refine (sameAttrs_any (L := []) _ (unhide HV6) ⟨_, _, rfl, by simp [maxLen], .inl rfl⟩).mono ?_
  rintro e w10 ⟨rfl, hb10⟩
  have HB10 := hide (bstep (unhide HB6) hb10)
  clear hb10 HB6 HV6
  rw [decide_eq_true rfl]
  go_wp2_with fail
  go_ret
  exact ⟨ret_bool (by simp), unhide HB10⟩
theorem tells_range_e (s : ByteArray) (k : Int) (hs3 : s.size ≤ 3000) (h : k < 0 ∨ (s.size : Int) < k) : badE s k = 3 := by
  unfold badE; rw [if_neg (by omega), if_pos h]
set_option maxHeartbeats 6400000 in
set_option maxRecDepth 100000 in
theorem tells_range (hB : ∀ w : World, Mx w → Calls Tryd.prog 15 #[] w fun e w' => e = .returned (.bool true) ∧ Below w.heap.size w w') (hN : NextErrs) (hA : AllErrs) (hC : ChsSays) (s : ByteArray) (k : Int) (w : World) (hMx : Mx w) (hs : s.size ≤ maxLen) (h1 : -9223372036854775808 ≤ k) (h2 : k < 9223372036854775808) (hs3 : s.size ≤ 3000) (h : k < 0 ∨ (s.size : Int) < k) :
    Calls Tryd.prog 3 #[.string s, .int .i64 k] w fun e w' => e = .returned (.bool true) ∧ Below w.heap.size w w' := by
  have HMx := hide hMx
  clear hMx
  have he := tells_range_e s k hs3 h
  have HN := hide (fun w => hN s k w hs h1 h2 (by rw [he]; decide))
  have HAl := hide (fun w => hA s k w hs h1 h2 (by rw [he]; decide))
  rw [he] at HN HAl
  have HCh := hide (fun w => hC s w hs3)
  have HRc := hide (fun w => charsetOf_any s w hs3)
  generalize chsI (bl s) = R at HCh HRc
  have hbad : (decide (k < 0) || decide ((s.size : Int) < k)) = true := by rw [Bool.or_eq_true, decide_eq_true_eq, decide_eq_true_eq]; exact h
  have HB := hide hB
  have HTL := hide (fun w => tooLong_no s w hs3)
  clear hB hN hA hC he
  unfold maxLen at hs
  rcases h with h | h
  all_goals
    go_enter Tryd.func3, Tryd.ntmps3
    go_wp2_with fail
    refine (unhide HN _).mono ?_
    rintro e w1 ⟨rfl, hb1⟩
    have HB1 := hide (bstep hb1 (balloc _ (.cells #[.string ⟨#[]⟩, .string ⟨#[]⟩] 23)))
    have a0 : (w1.alloc (.cells #[.string ⟨#[]⟩, .string ⟨#[]⟩] 23)).cell? ⟨w1.heap.size, 0, none⟩ = some (.string ⟨#[]⟩) := by simp
    have a1 : (w1.alloc (.cells #[.string ⟨#[]⟩, .string ⟨#[]⟩] 23)).cell? ⟨w1.heap.size, 1, none⟩ = some (.string ⟨#[]⟩) := by simp
    clear hb1 HN
    go_wp2_with fail
    refine (unhide HAl _).mono ?_
    rintro e w2 ⟨v, rfl, hv2, hb2⟩
    have HB2 := hide (bstep (unhide HB1) hb2)
    have HV2 := hide hv2
    replace a0 := (hb2.cell (p := ⟨w1.heap.size, 0, none⟩) (World.block_lt_of_cell? _ _ a0)).trans a0
    replace a1 := (hb2.cell (p := ⟨w1.heap.size, 1, none⟩) (World.block_lt_of_cell? _ _ a1)).trans a1
    clear hb2 HAl HB1 hv2
    generalize w1.heap.size = A at *
    go_wp2_with fail
    refine (unhide HCh _ (by first | exact unhide HMx | exact (unhide HMx).below (unhide (by assumption)) | exact (unhide HMx).below (bstep (unhide (by assumption)) (balloc _ _)))).mono ?_
    rintro e w3 ⟨rfl, hb3⟩
    have HB3 := hide (bstep (bstep (unhide HB2) hb3) (balloc _ (.cells #[.string ⟨#[]⟩, .string ⟨#[]⟩] 23)))
    have HV3 := hide (((unhide HV2).below hb3).below (balloc _ (.cells #[.string ⟨#[]⟩, .string ⟨#[]⟩] 23)))
    replace a0 := (hb3.cell (p := ⟨A, 0, none⟩) (World.block_lt_of_cell? _ _ a0)).trans a0
    replace a1 := (hb3.cell (p := ⟨A, 1, none⟩) (World.block_lt_of_cell? _ _ a1)).trans a1
    clear hb3 HCh HB2 HV2
    go_wp2_with fail
    refine (unhide HTL _).mono ?_
    rintro e w4 ⟨rfl, hw⟩
    replace hw := hw.symm
    subst hw
    go_wp2_with fail
    have hAl : A < w3.heap.size := World.block_lt_of_cell? w3 _ a0
    replace a0 := (World.cell?_alloc_lt w3 (.cells #[.string ⟨#[]⟩, .string ⟨#[]⟩] 23) ⟨A, 0, none⟩ hAl).trans a0
    replace a1 := (World.cell?_alloc_lt w3 (.cells #[.string ⟨#[]⟩, .string ⟨#[]⟩] 23) ⟨A, 1, none⟩ hAl).trans a1
    have o0 : (w3.alloc (.cells #[.string ⟨#[]⟩, .string ⟨#[]⟩] 23)).cell? ⟨w3.heap.size, 0, none⟩ = some (.string ⟨#[]⟩) := by simp
    have o1 : (w3.alloc (.cells #[.string ⟨#[]⟩, .string ⟨#[]⟩] 23)).cell? ⟨w3.heap.size, 1, none⟩ = some (.string ⟨#[]⟩) := by simp
    clear hAl
    generalize w3.alloc (.cells #[.string ⟨#[]⟩, .string ⟨#[]⟩] 23) = w4 at *
    generalize w3.heap.size = D at *
    refine (unhide HRc _).mono ?_
    rintro e w5 ⟨rfl, hb5⟩
    have HB5 := hide (bstep (unhide HB3) hb5)
    have HV5 := hide ((unhide HV3).below hb5)
    replace a0 := (hb5.cell (p := ⟨A, 0, none⟩) (World.block_lt_of_cell? _ _ a0)).trans a0
    replace a1 := (hb5.cell (p := ⟨A, 1, none⟩) (World.block_lt_of_cell? _ _ a1)).trans a1
    replace o0 := (hb5.cell (p := ⟨D, 0, none⟩) (World.block_lt_of_cell? _ _ o0)).trans o0
    replace o1 := (hb5.cell (p := ⟨D, 1, none⟩) (World.block_lt_of_cell? _ _ o1)).trans o1
    clear hb5 HB3 HV3
    go_wp2_with fail
    refine (unhide HB _ (by first | exact unhide HMx | exact (unhide HMx).below (unhide (by assumption)) | exact (unhide HMx).below (bstep (unhide (by assumption)) (balloc _ _)))).mono ?_
    rintro e w6 ⟨rfl, hb6⟩
    have HB6 := hide (bstep (unhide HB5) hb6)
    have HV6 := hide ((unhide HV5).below hb6)
    replace a0 := (hb6.cell (p := ⟨A, 0, none⟩) (World.block_lt_of_cell? _ _ a0)).trans a0
    replace a1 := (hb6.cell (p := ⟨A, 1, none⟩) (World.block_lt_of_cell? _ _ a1)).trans a1
    replace o0 := (hb6.cell (p := ⟨D, 0, none⟩) (World.block_lt_of_cell? _ _ o0)).trans o0
    replace o1 := (hb6.cell (p := ⟨D, 1, none⟩) (World.block_lt_of_cell? _ _ o1)).trans o1
    clear hb6 HB5 HV5
    go_wp2_with fail
    refine (sameAttrs_any (L := []) _ (unhide HV6) ⟨_, _, rfl, by simp [maxLen], .inl rfl⟩).mono ?_
    rintro e w10 ⟨rfl, hb10⟩
    have HB10 := hide (bstep (unhide HB6) hb10)
    clear hb10 HB6 HV6
    rw [decide_eq_true rfl]
    go_wp2_with fail
    go_ret
    exact ⟨ret_bool (by simp), unhide HB10⟩
theorem tells_walk (hN : NextSays) (hA : AllSays) (hC : ChsSays) (hN' : NextErrs) (hA' : AllErrs) (hC' : ChsErrs) (s : ByteArray) (k : Int) (w : World) (hMx : Mx w) (hs : s.size ≤ maxLen) (h1 : -9223372036854775808 ≤ k) (h2 : k < 9223372036854775808) :
    Calls Tryd.prog 3 #[.string s, .int .i64 k] w fun e w' => e = .returned (.bool true) ∧ Below w.heap.size w w' := by
  have HMx := hide hMx
  clear hMx
  have hB := attrBegun_any hN hA hC
  by_cases hl : s.size ≤ 3000
  · by_cases h : k < 0 ∨ (s.size : Int) < k
    · exact tells_range hB hN' hA' hC s k w (unhide HMx) hs h1 h2 hl h
    · obtain ⟨n, rfl⟩ := Int.eq_ofNat_of_zero_le (show 0 ≤ k by omega)
      exact tells_good hB hN hA hC s n w (unhide HMx) (by omega) hl
  · exact tells_long hB hN' hA' hC' s k w (unhide HMx) hs h1 h2 (by omega)
end Go.Proofs.YthhjfedegbldfaeDoor
