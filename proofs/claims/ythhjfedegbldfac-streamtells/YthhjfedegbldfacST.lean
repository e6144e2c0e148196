/- Proved: for every integer encoding, every state s, every text bytes and both values of last the law StreamTells returns true and leaves all of them as they were. No condition. -/
import Derived.Test.YthhjfedegbldfacFP
import Derived.Test.YthhjfedegbldfacFE
import Derived.Test.YthhjfedegbldfacCS
import Derived.OpenShut
import Derived.ShutString
import Derived.ChangeOld
namespace Go.Proofs.Ythhjfedegbldfac.streamTells
open Go.ChangeShapes Go.WideShapes Go.ChangeAt Go.RowKit
open Go.ChangeMaps (open_string shut_string)
open Go.Proofs.Ythhjfedegbldfac
set_option linter.unusedVariables false

theorem own : ownKnob Try.prog.godebug = none := by kernel_rfl
theorem laidOut : laidOutB Try.prog = true := by kernel_rfl
set_option maxRecDepth 100000 in
theorem open_state {H : Type} {enc : TypeId × Value → H} {W : World} {base b0 : Nat} {spare : Nat → Bool} {held : Bool} {rr : Reach} {v : Value} {d : DataW H} {ps : List MemPlace} (hv : Value.okWide Try.prog W rr b0 40 v) (h : DataW.Trod enc Try.prog W base spare held 40 v d ps) :
    ∃ (e : Int) (r : ByteArray) (g : Int) (fr st : Bool), v = .agg #[.int .i64 e, .string r, .int .i64 g, .bool fr, .bool st] ∧ r.size ≤ maxLen := by
  have hC : Try.prog.cellsOf 40 = 5 := by kernel_rfl
  have k3 : Try.prog.cellsOf 3 = 1 := by kernel_rfl
  have k9 : Try.prog.cellsOf 9 = 1 := by kernel_rfl
  have k4 : Try.prog.cellsOf 4 = 1 := by kernel_rfl
  obtain ⟨cs, rfl, hsz⟩ := okWide_struct Try.underlying40 hv
  rw [hC] at hsz
  obtain ⟨l⟩ := cs
  match l, hsz with
  | [c0, c1, c2, c3, c4], _ =>
    obtain ⟨fuel, hf⟩ := h
    obtain ⟨xs, n, _, _, _, hlen, hfld⟩ := DataW.trod_struct Try.underlying40 hf
    match xs, hlen with
    | [y0, y1, y2, y3, y4], _ =>
      have h0 : DataW.trod enc Try.prog W base spare held n 3 [c0] = some y0 := by simpa [Value.cells, k3] using hfld 0 _ rfl
      have h1 : DataW.trod enc Try.prog W base spare held n 9 [c1] = some y1 := by simpa [Value.cells, k9] using hfld 1 _ rfl
      have h2 : DataW.trod enc Try.prog W base spare held n 3 [c2] = some y2 := by simpa [Value.cells, k3] using hfld 2 _ rfl
      have h3 : DataW.trod enc Try.prog W base spare held n 4 [c3] = some y3 := by simpa [Value.cells, k4] using hfld 3 _ rfl
      have h4 : DataW.trod enc Try.prog W base spare held n 4 [c4] = some y4 := by simpa [Value.cells, k4] using hfld 4 _ rfl
      obtain ⟨e, e0, _⟩ := DataW.trod_int Try.underlying3 h0
      obtain ⟨r, e1, _, hr⟩ := DataW.trod_string Try.underlying9 h1
      obtain ⟨g, e2, _⟩ := DataW.trod_int Try.underlying3 h2
      obtain ⟨fr, e3, _⟩ := DataW.trod_bool Try.underlying4 h3
      obtain ⟨st, e4, _⟩ := DataW.trod_bool Try.underlying4 h4
      simp only [List.cons.injEq, and_true] at e0 e1 e2 e3 e4
      subst e0 e1 e2 e3 e4
      exact ⟨e, r, g, fr, st, rfl, hr⟩

set_option maxHeartbeats 4000000 in
set_option maxRecDepth 100000 in
theorem yesshortright (n e : Int) (r : ByteArray) (g : Int) (fr st : Bool) (p : ByteArray) (last : Bool) (w : World) (hrm : r.size ≤ maxLen) (hpm : p.size ≤ maxLen) (hn : 1 ≤ n ∧ n ≤ 7) (hp : p.size ≤ 3000) (hk : chk e r (g, fr, st) = 0) :
    Calls Try.prog 6 #[.int .i64 n, .agg #[.int .i64 e, .string r, .int .i64 g, .bool fr, .bool st], .string p, .bool last] w fun e' w' => e' = .returned (.bool true) ∧ Below w.heap.size w w' := by
  have CK := fun w => check_any e r (g, fr, st) w hrm
  have CS := fun w => checkState_any e r (g, fr, st) w hrm
  rw [hk] at CK CS
  have hok := chk_ok.1 hk
  have FD : ∀ w, Calls Try.prog 19 #[sv e r (g, fr, st), .string p, .bool last] w (Fed e r (g, fr, st) p last w) := by
    intro w
    cases last
    · exact feed_more e r (g, fr, st) p w hok.1 hok.2.1 hok.2.2 hp
    · exact feed_last e r (g, fr, st) p w hok.1 hok.2.1 hok.2.2 hp
  have FR := fun w => feedOf_any e r (g, fr, st) p last w hok.1 hok.2.2 (by have := hok.2.1.2; omega)
  clear hok
  have CKH := hide CK
  have CSH := hide CS
  have FDH := hide FD
  have FRH := hide FR
  clear FR
  clear CK CS FD hk
  unfold sv at CKH CSH FDH FRH
  unfold Fed sv at FDH
  unfold FedR sv at FRH
  go_enter Try.func6, Try.ntmps6
  go_wp2_with fail
  have S5 : Hid (Sc w.heap.size e r (g, fr, st) (w.alloc (.cells #[.int .i64 e, .string r, .int .i64 g, .bool fr, .bool st] 40))) := hide (Sc.new w e r (g, fr, st))
  have HB : Hid (Below w.heap.size w (w.alloc (.cells #[.int .i64 e, .string r, .int .i64 g, .bool fr, .bool st] 40))) := hide (balloc _ _)
  refine (sdecode_any n p _ hn hp).mono ?_
  rintro e' w1 ⟨v1, rfl, hI1, hb1⟩
  obtain ⟨L1, HL1⟩ : ∃ L, Hid (M.decE n (bl p) = L) := ⟨_, hide rfl⟩
  rw [unhide HL1] at hI1
  obtain ⟨a1, c1, hs1, -⟩ := id hI1
  subst hs1
  have I1 := hide hI1
  clear hI1
  have S5 := hide ((unhide S5).on hb1)
  have HB := hide (bstep (unhide HB) hb1)
  clear hb1
  go_wp2_with fail
  refine (open_yes n _ hn).mono ?_
  rintro e' w2 ⟨rfl, hb2⟩
  have hst := bstep hb2 (balloc w2 (.cells #[.int .i64 n, .string ⟨#[]⟩, .int .i64 0, .bool false, .bool false] 40))
  have S5 := hide ((unhide S5).on hst)
  have HB := hide (bstep (unhide HB) hst)
  have I1 := hide ((unhide I1).below hst)
  have S11 : Hid (Sc w2.heap.size n ⟨#[]⟩ M.st0 (w2.alloc (.cells #[.int .i64 n, .string ⟨#[]⟩, .int .i64 0, .bool false, .bool false] 40))) := hide (Sc.new w2 n ⟨#[]⟩ M.st0)
  clear hb2 hst
  obtain ⟨B11, hB11⟩ : ∃ B, w2.heap.size = B := ⟨_, rfl⟩
  rw [hB11] at S11
  unfold sv M.st0
  go_upto_region 3 with fail
  generalize w2.alloc (.cells #[.int .i64 n, .string ⟨#[]⟩, .int .i64 0, .bool false, .bool false] 40) = W2 at *
  clear hB11
  have hl5 := (unhide S5).lt
  obtain ⟨c0, c1, c2, c3, c4, -, -, -, -, -⟩ := unhide S5
  go_wp2_with fail
  refine (unhide FDH _).mono ?_
  rintro e' w3 ⟨v3, r3, t3, L3, rfl, hI3, hb3, k1, k2⟩
  obtain ⟨a3, c3', hs3⟩ := owns_shape hI3
  subst hs3
  have I3 := hide (Ints.of_owns hI3)
  have K1 := hide k1
  have K2 := hide k2
  clear hI3 k1 k2
  clear c0 c1 c2 c3 c4 hl5
  have hst := bstep hb3 (balloc w3 (.cells #[.int .i64 e, .string r3, .int .i64 t3.1, .bool t3.2.1, .bool t3.2.2] 40))
  have S5 := hide ((unhide S5).on hst)
  have S11 := hide ((unhide S11).on hst)
  have HB := hide (bstep (unhide HB) hst)
  have I1 := hide ((unhide I1).below hst)
  have I3 := hide ((unhide I3).below (balloc w3 (.cells #[.int .i64 e, .string r3, .int .i64 t3.1, .bool t3.2.1, .bool t3.2.2] 40)))
  have S14 : Hid (Sc w3.heap.size e r3 t3 (w3.alloc (.cells #[.int .i64 e, .string r3, .int .i64 t3.1, .bool t3.2.1, .bool t3.2.2] 40))) := hide (Sc.new w3 e r3 t3)
  clear hb3 hst
  obtain ⟨B14, hB14⟩ : ∃ B, w3.heap.size = B := ⟨_, rfl⟩
  rw [hB14] at S14
  skip
  go_upto_region 4 with fail
  generalize w3.alloc (.cells #[.int .i64 e, .string r3, .int .i64 t3.1, .bool t3.2.1, .bool t3.2.2] 40) = W3 at *
  clear hB14
  have hl5 := (unhide S5).lt
  obtain ⟨c0, c1, c2, c3, c4, -, -, -, -, -⟩ := unhide S5
  go_wp2_with fail
  refine (isEncoding_yes n _ hn).mono ?_
  rintro e' w9 ⟨rfl, hw9⟩
  replace hw9 := hw9.symm
  subst hw9
  go_wp2_with fail
  refine (tooLong_no p _ hp).mono ?_
  rintro e' w9 ⟨rfl, hw9⟩
  replace hw9 := hw9.symm
  subst hw9
  go_wp2_with fail
  refine (unhide CSH _).mono ?_
  rintro e' w5 ⟨rfl, hb5⟩
  clear c0 c1 c2 c3 c4 hl5
  have S5 := hide ((unhide S5).on hb5)
  have S11 := hide ((unhide S11).on hb5)
  have S14 := hide ((unhide S14).on hb5)
  have I1 := hide ((unhide I1).below hb5)
  have I3 := hide ((unhide I3).below hb5)
  have HB := hide (bstep (unhide HB) hb5)
  clear hb5
  go_wp2_with fail
  refine (tooLong_no p _ hp).mono ?_
  rintro e' w9 ⟨rfl, hw9⟩
  replace hw9 := hw9.symm
  subst hw9
  go_wp2_with fail
  refine (decodeOf_any n p _ hn hp).mono ?_
  rintro e' w6 ⟨v6, rfl, hI6, hb6⟩
  rw [unhide HL1] at hI6
  obtain ⟨a6, c6, hs6⟩ := owns_shape hI6
  subst hs6
  have O6 : Hid (w6.ownsRow (w5.heap.size + 2) 3 1 (.slice a6 L1.length c6) L1.length (L1.map (Value.int .i64))) := hide (by simpa using hI6)
  have R21 : Hid (Rc w5.heap.size w6) := hide (Rc.below (w := (w5.alloc (.cells #[.int .i64 0, .string ⟨#[]⟩, .int .i64 0, .bool false, .bool false] 40)).alloc (.cells #[.int .i64 0, .string ⟨#[]⟩, .int .i64 0, .bool false, .bool false] 40)) (by constructor <;> simp [go_sem]) hb6 (by simp; omega))
  have R22 : Hid (Rc (w5.heap.size + 1) w6) := hide (Rc.below (w := (w5.alloc (.cells #[.int .i64 0, .string ⟨#[]⟩, .int .i64 0, .bool false, .bool false] 40)).alloc (.cells #[.int .i64 0, .string ⟨#[]⟩, .int .i64 0, .bool false, .bool false] 40)) (by constructor <;> simp [go_sem]) hb6 (by simp))
  have HW : Hid (Below w5.heap.size w5 w6) := hide (bstep (bstep (balloc w5 (.cells #[.int .i64 0, .string ⟨#[]⟩, .int .i64 0, .bool false, .bool false] 40)) (balloc _ (.cells #[.int .i64 0, .string ⟨#[]⟩, .int .i64 0, .bool false, .bool false] 40))) hb6)
  clear hI6 hb6
  obtain ⟨b0, b1, b2, b3, b4, g0, g1, g2, g3, g4⟩ := unhide R21
  have hl6 : w5.heap.size < w6.heap.size := World.block_lt_of_cell? w6 _ b0
  go_upto_region 18 with fail
  have S21 : Hid (Sc w5.heap.size n ⟨#[]⟩ M.st0 (((((w6.setCell ⟨w5.heap.size, 0, none⟩ (.int .i64 n)).setCell ⟨w5.heap.size, 1, none⟩ (.string ⟨#[]⟩)).setCell ⟨w5.heap.size, 2, none⟩ (.int .i64 0)).setCell ⟨w5.heap.size, 3, none⟩ (.bool false)).setCell ⟨w5.heap.size, 4, none⟩ (.bool false))) := hide (Sc.put (unhide R21) n ⟨#[]⟩ M.st0)
  have R22 : Hid (Rc (w5.heap.size + 1) (((((w6.setCell ⟨w5.heap.size, 0, none⟩ (.int .i64 n)).setCell ⟨w5.heap.size, 1, none⟩ (.string ⟨#[]⟩)).setCell ⟨w5.heap.size, 2, none⟩ (.int .i64 0)).setCell ⟨w5.heap.size, 3, none⟩ (.bool false)).setCell ⟨w5.heap.size, 4, none⟩ (.bool false))) := hide (((((((unhide R22).far _ _ (by simp)).far _ _ (by simp)).far _ _ (by simp)).far _ _ (by simp)).far _ _ (by simp)))
  have O6 : Hid ((((((w6.setCell ⟨w5.heap.size, 0, none⟩ (.int .i64 n)).setCell ⟨w5.heap.size, 1, none⟩ (.string ⟨#[]⟩)).setCell ⟨w5.heap.size, 2, none⟩ (.int .i64 0)).setCell ⟨w5.heap.size, 3, none⟩ (.bool false)).setCell ⟨w5.heap.size, 4, none⟩ (.bool false)).ownsRow (w5.heap.size + 2) 3 1 (.slice a6 L1.length c6) L1.length (L1.map (Value.int .i64))) := hide (oset5 (t := M.st0) (unhide O6) (by omega))
  have HW : Hid (Below w5.heap.size w5 (((((w6.setCell ⟨w5.heap.size, 0, none⟩ (.int .i64 n)).setCell ⟨w5.heap.size, 1, none⟩ (.string ⟨#[]⟩)).setCell ⟨w5.heap.size, 2, none⟩ (.int .i64 0)).setCell ⟨w5.heap.size, 3, none⟩ (.bool false)).setCell ⟨w5.heap.size, 4, none⟩ (.bool false))) := hide (bset5 (t := M.st0) (unhide HW) (Nat.le_refl _))
  clear b0 b1 b2 b3 b4 g0 g1 g2 g3 g4 hl6 R21
  generalize ((((w6.setCell ⟨w5.heap.size, 0, none⟩ (.int .i64 n)).setCell ⟨w5.heap.size, 1, none⟩ (.string ⟨#[]⟩)).setCell ⟨w5.heap.size, 2, none⟩ (.int .i64 0)).setCell ⟨w5.heap.size, 3, none⟩ (.bool false)).setCell ⟨w5.heap.size, 4, none⟩ (.bool false) = W6 at *
  have hS5 := (unhide S5).on (unhide HW)
  have hl5 := hS5.lt
  obtain ⟨c0, c1, c2, c3, c4, -, -, -, -, -⟩ := hS5
  go_wp2_with fail
  refine (unhide FRH _).mono ?_
  rintro e' w7 ⟨v7, r7, t7, L7, rfl, hI7, hb7, k1, k2⟩
  have heq : L7 = L3 ∧ r7 = r3 ∧ t7 = t3 := by
    cases last
    · obtain ⟨x1, x2, x3⟩ := k1 rfl
      obtain ⟨y1, y2, y3⟩ := unhide K1 rfl
      exact ⟨x1.trans y1.symm, by rw [bl_inj x2, bl_inj y2], x3.trans y3.symm⟩
    · obtain ⟨x1, x2, x3⟩ := k2 rfl
      obtain ⟨y1, y2, y3⟩ := unhide K2 rfl
      exact ⟨x1.trans y1.symm, x2.trans y2.symm, x3.trans y3.symm⟩
  obtain ⟨h1, h2, h3⟩ := heq
  subst h1 h2 h3
  clear k1 k2 K1 K2 c0 c1 c2 c3 c4 hl5
  obtain ⟨a7, c7, hs7⟩ := owns_shape hI7
  subst hs7
  have hz6 : w5.heap.size + 1 < W6.heap.size := World.block_lt_of_cell? W6 _ (unhide R22).b0
  have O7 := hide hI7
  have S21 := hide ((unhide S21).on hb7)
  have R22 := hide ((unhide R22).below hb7 (World.block_lt_of_cell? W6 _ (unhide R22).b0))
  have O6 := hide (owns_below (unhide O6) hb7)
  have HW := hide (bstep (unhide HW) hb7)
  clear hb7 hI7
  obtain ⟨b0, b1, b2, b3, b4, g0, g1, g2, g3, g4⟩ := unhide R22
  have hl7 : w5.heap.size + 1 < w7.heap.size := World.block_lt_of_cell? w7 _ b0
  go_upto_region 20 with fail
  have S22 : Hid (Sc (w5.heap.size + 1) e r7 t7 (((((w7.setCell ⟨w5.heap.size + 1, 0, none⟩ (.int .i64 e)).setCell ⟨w5.heap.size + 1, 1, none⟩ (.string r7)).setCell ⟨w5.heap.size + 1, 2, none⟩ (.int .i64 t7.1)).setCell ⟨w5.heap.size + 1, 3, none⟩ (.bool t7.2.1)).setCell ⟨w5.heap.size + 1, 4, none⟩ (.bool t7.2.2))) := hide (Sc.put (unhide R22) e r7 t7)
  have S21 : Hid (Sc w5.heap.size n ⟨#[]⟩ M.st0 (((((w7.setCell ⟨w5.heap.size + 1, 0, none⟩ (.int .i64 e)).setCell ⟨w5.heap.size + 1, 1, none⟩ (.string r7)).setCell ⟨w5.heap.size + 1, 2, none⟩ (.int .i64 t7.1)).setCell ⟨w5.heap.size + 1, 3, none⟩ (.bool t7.2.1)).setCell ⟨w5.heap.size + 1, 4, none⟩ (.bool t7.2.2))) := hide ((unhide S21).below (bset5 (e := e) (r := r7) (t := t7) (Below.refl (w5.heap.size + 1) w7) (Nat.le_refl _)) (by omega))
  have O6 : Hid ((((((w7.setCell ⟨w5.heap.size + 1, 0, none⟩ (.int .i64 e)).setCell ⟨w5.heap.size + 1, 1, none⟩ (.string r7)).setCell ⟨w5.heap.size + 1, 2, none⟩ (.int .i64 t7.1)).setCell ⟨w5.heap.size + 1, 3, none⟩ (.bool t7.2.1)).setCell ⟨w5.heap.size + 1, 4, none⟩ (.bool t7.2.2)).ownsRow (w5.heap.size + 2) 3 1 (.slice a6 L1.length c6) L1.length (L1.map (Value.int .i64))) := hide (oset5 (unhide O6) (by omega))
  have O7 : Hid ((((((w7.setCell ⟨w5.heap.size + 1, 0, none⟩ (.int .i64 e)).setCell ⟨w5.heap.size + 1, 1, none⟩ (.string r7)).setCell ⟨w5.heap.size + 1, 2, none⟩ (.int .i64 t7.1)).setCell ⟨w5.heap.size + 1, 3, none⟩ (.bool t7.2.1)).setCell ⟨w5.heap.size + 1, 4, none⟩ (.bool t7.2.2)).ownsRow W6.heap.size 3 1 (.slice a7 L7.length c7) L7.length (L7.map (Value.int .i64))) := hide (oset5 (unhide O7) hz6)
  have HW : Hid (Below w5.heap.size w5 (((((w7.setCell ⟨w5.heap.size + 1, 0, none⟩ (.int .i64 e)).setCell ⟨w5.heap.size + 1, 1, none⟩ (.string r7)).setCell ⟨w5.heap.size + 1, 2, none⟩ (.int .i64 t7.1)).setCell ⟨w5.heap.size + 1, 3, none⟩ (.bool t7.2.1)).setCell ⟨w5.heap.size + 1, 4, none⟩ (.bool t7.2.2))) := hide (bset5 (unhide HW) (by omega))
  clear b0 b1 b2 b3 b4 g0 g1 g2 g3 g4 hl7 R22 hz6
  generalize ((((w7.setCell ⟨w5.heap.size + 1, 0, none⟩ (.int .i64 e)).setCell ⟨w5.heap.size + 1, 1, none⟩ (.string r7)).setCell ⟨w5.heap.size + 1, 2, none⟩ (.int .i64 t7.1)).setCell ⟨w5.heap.size + 1, 3, none⟩ (.bool t7.2.1)).setCell ⟨w5.heap.size + 1, 4, none⟩ (.bool t7.2.2) = W at *
  have S5 := hide ((unhide S5).on (unhide HW))
  have S11 := hide ((unhide S11).on (unhide HW))
  have S14 := hide ((unhide S14).on (unhide HW))
  have I1 := hide ((unhide I1).below (unhide HW))
  have P1 := hide (Ints.of_owns (unhide O6))
  clear O6
  have I3 := hide ((unhide I3).below (unhide HW))
  have P3 := hide (Ints.of_owns (unhide O7))
  clear O7
  have HB := hide (bstep (unhide HB) (unhide HW))
  clear HW
  obtain ⟨B21, hB21⟩ : ∃ B, w5.heap.size = B := ⟨_, rfl⟩
  rw [hB21] at S21 S22
  have plt := (unhide S5).lt
  have p0 : ∀ w', Below W.heap.size W w' → w'.cell? ⟨w.heap.size, 0, none⟩ = some (.int .i64 e) := fun w' h => (h.cell (p := ⟨w.heap.size, 0, none⟩) plt).trans (unhide S5).c0
  have p1 : ∀ w', Below W.heap.size W w' → w'.cell? ⟨w.heap.size, 1, none⟩ = some (.string r) := fun w' h => (h.cell (p := ⟨w.heap.size, 1, none⟩) plt).trans (unhide S5).c1
  have p2 : ∀ w', Below W.heap.size W w' → w'.cell? ⟨w.heap.size, 2, none⟩ = some (.int .i64 g) := fun w' h => (h.cell (p := ⟨w.heap.size, 2, none⟩) plt).trans (unhide S5).c2
  have p3 : ∀ w', Below W.heap.size W w' → w'.cell? ⟨w.heap.size, 3, none⟩ = some (.bool fr) := fun w' h => (h.cell (p := ⟨w.heap.size, 3, none⟩) plt).trans (unhide S5).c3
  have p4 : ∀ w', Below W.heap.size W w' → w'.cell? ⟨w.heap.size, 4, none⟩ = some (.bool st) := fun w' h => (h.cell (p := ⟨w.heap.size, 4, none⟩) plt).trans (unhide S5).c4
  have qlt := (unhide S11).lt
  have q0 : ∀ w', Below W.heap.size W w' → w'.cell? ⟨B11, 0, none⟩ = some (.int .i64 n) := fun w' h => (h.cell (p := ⟨B11, 0, none⟩) qlt).trans (unhide S11).c0
  have q1 : ∀ w', Below W.heap.size W w' → w'.cell? ⟨B11, 1, none⟩ = some (.string ⟨#[]⟩) := fun w' h => (h.cell (p := ⟨B11, 1, none⟩) qlt).trans (unhide S11).c1
  have q2 : ∀ w', Below W.heap.size W w' → w'.cell? ⟨B11, 2, none⟩ = some (.int .i64 0) := fun w' h => (h.cell (p := ⟨B11, 2, none⟩) qlt).trans (unhide S11).c2
  have q3 : ∀ w', Below W.heap.size W w' → w'.cell? ⟨B11, 3, none⟩ = some (.bool false) := fun w' h => (h.cell (p := ⟨B11, 3, none⟩) qlt).trans (unhide S11).c3
  have q4 : ∀ w', Below W.heap.size W w' → w'.cell? ⟨B11, 4, none⟩ = some (.bool false) := fun w' h => (h.cell (p := ⟨B11, 4, none⟩) qlt).trans (unhide S11).c4
  have xlt := (unhide S14).lt
  have x0 : ∀ w', Below W.heap.size W w' → w'.cell? ⟨B14, 0, none⟩ = some (.int .i64 e) := fun w' h => (h.cell (p := ⟨B14, 0, none⟩) xlt).trans (unhide S14).c0
  have x1 : ∀ w', Below W.heap.size W w' → w'.cell? ⟨B14, 1, none⟩ = some (.string r7) := fun w' h => (h.cell (p := ⟨B14, 1, none⟩) xlt).trans (unhide S14).c1
  have x2 : ∀ w', Below W.heap.size W w' → w'.cell? ⟨B14, 2, none⟩ = some (.int .i64 t7.1) := fun w' h => (h.cell (p := ⟨B14, 2, none⟩) xlt).trans (unhide S14).c2
  have x3 : ∀ w', Below W.heap.size W w' → w'.cell? ⟨B14, 3, none⟩ = some (.bool t7.2.1) := fun w' h => (h.cell (p := ⟨B14, 3, none⟩) xlt).trans (unhide S14).c3
  have x4 : ∀ w', Below W.heap.size W w' → w'.cell? ⟨B14, 4, none⟩ = some (.bool t7.2.2) := fun w' h => (h.cell (p := ⟨B14, 4, none⟩) xlt).trans (unhide S14).c4
  have ylt := (unhide S21).lt
  have y0 : ∀ w', Below W.heap.size W w' → w'.cell? ⟨B21, 0, none⟩ = some (.int .i64 n) := fun w' h => (h.cell (p := ⟨B21, 0, none⟩) ylt).trans (unhide S21).c0
  have y1 : ∀ w', Below W.heap.size W w' → w'.cell? ⟨B21, 1, none⟩ = some (.string ⟨#[]⟩) := fun w' h => (h.cell (p := ⟨B21, 1, none⟩) ylt).trans (unhide S21).c1
  have y2 : ∀ w', Below W.heap.size W w' → w'.cell? ⟨B21, 2, none⟩ = some (.int .i64 0) := fun w' h => (h.cell (p := ⟨B21, 2, none⟩) ylt).trans (unhide S21).c2
  have y3 : ∀ w', Below W.heap.size W w' → w'.cell? ⟨B21, 3, none⟩ = some (.bool false) := fun w' h => (h.cell (p := ⟨B21, 3, none⟩) ylt).trans (unhide S21).c3
  have y4 : ∀ w', Below W.heap.size W w' → w'.cell? ⟨B21, 4, none⟩ = some (.bool false) := fun w' h => (h.cell (p := ⟨B21, 4, none⟩) ylt).trans (unhide S21).c4
  have zlt := (unhide S22).lt
  have z0 : ∀ w', Below W.heap.size W w' → w'.cell? ⟨(B21 + 1), 0, none⟩ = some (.int .i64 e) := fun w' h => (h.cell (p := ⟨(B21 + 1), 0, none⟩) zlt).trans (unhide S22).c0
  have z1 : ∀ w', Below W.heap.size W w' → w'.cell? ⟨(B21 + 1), 1, none⟩ = some (.string r7) := fun w' h => (h.cell (p := ⟨(B21 + 1), 1, none⟩) zlt).trans (unhide S22).c1
  have z2 : ∀ w', Below W.heap.size W w' → w'.cell? ⟨(B21 + 1), 2, none⟩ = some (.int .i64 t7.1) := fun w' h => (h.cell (p := ⟨(B21 + 1), 2, none⟩) zlt).trans (unhide S22).c2
  have z3 : ∀ w', Below W.heap.size W w' → w'.cell? ⟨(B21 + 1), 3, none⟩ = some (.bool t7.2.1) := fun w' h => (h.cell (p := ⟨(B21 + 1), 3, none⟩) zlt).trans (unhide S22).c3
  have z4 : ∀ w', Below W.heap.size W w' → w'.cell? ⟨(B21 + 1), 4, none⟩ = some (.bool t7.2.2) := fun w' h => (h.cell (p := ⟨(B21 + 1), 4, none⟩) zlt).trans (unhide S22).c4
  clear S5 S11 S14 S21 S22
  go_region_held3 (fun w' => Below W.heap.size W w') (first | exact below_drewN (Below.refl _ _) 1 | assumption)
    ((first
      | (go_at_call 23; refine (begunT_any _).mono ?_; rintro e' z ⟨rfl, hz⟩; have hS := bstep (by assumption) hz; clear hz)
      | (go_at_call 24; refine (unhide CKH _).mono ?_; rintro e' z ⟨rfl, hz⟩; have hS := bstep (by assumption) hz; clear hz)
      | (go_at_call 21; refine (unhide CSH _).mono ?_; rintro e' z ⟨rfl, hz⟩; have hS := bstep (by assumption) hz; clear hz)
      | (go_at_call_of 15 (Value.slice a1 L1.length c1); refine (intsAre_ok _ ((unhide I1).below (by assumption)) ((unhide P1).below (by assumption))).mono ?_; rintro e' z ⟨rfl, hz⟩; have hS := bstep (by assumption) hz; clear hz)
      | (go_at_call_of 15 (Value.slice a3 L7.length c3'); refine (intsAre_ok _ ((unhide I3).below (by assumption)) ((unhide P3).below (by assumption))).mono ?_; rintro e' z ⟨rfl, hz⟩; have hS := bstep (by assumption) hz; clear hz)))
  all_goals
    go_wp2_with fail
    go_ret
    exact ⟨ret_bool (by simp), bstep (unhide HB) (by assumption)⟩

set_option maxHeartbeats 4000000 in
set_option maxRecDepth 100000 in
theorem yesshortwrong (n e : Int) (r : ByteArray) (g : Int) (fr st : Bool) (p : ByteArray) (last : Bool) (w : World) (hrm : r.size ≤ maxLen) (hpm : p.size ≤ maxLen) (hn : 1 ≤ n ∧ n ≤ 7) (hp : p.size ≤ 3000) (hk : chk e r (g, fr, st) ≠ 0) :
    Calls Try.prog 6 #[.int .i64 n, .agg #[.int .i64 e, .string r, .int .i64 g, .bool fr, .bool st], .string p, .bool last] w fun e' w' => e' = .returned (.bool true) ∧ Below w.heap.size w w' := by
  have CK := fun w => check_any e r (g, fr, st) w hrm
  have CS := fun w => checkState_any e r (g, fr, st) w hrm
  have FD := fun w => feed_err e r (g, fr, st) p last w hrm (by simpa using hk)
  obtain ⟨q, HQ⟩ : ∃ q, Hid (chk e r (g, fr, st) = q) := ⟨_, hide rfl⟩
  rw [unhide HQ] at CK CS FD hk
  have hq0 : (q == 0) = false := by simpa using hk
  have CKH := hide CK
  have CSH := hide CS
  have FDH := hide FD
  clear CK CS FD hk
  unfold sv at CKH CSH FDH
  go_enter Try.func6, Try.ntmps6
  go_wp2_with fail
  have S5 : Hid (Sc w.heap.size e r (g, fr, st) (w.alloc (.cells #[.int .i64 e, .string r, .int .i64 g, .bool fr, .bool st] 40))) := hide (Sc.new w e r (g, fr, st))
  have HB : Hid (Below w.heap.size w (w.alloc (.cells #[.int .i64 e, .string r, .int .i64 g, .bool fr, .bool st] 40))) := hide (balloc _ _)
  refine (sdecode_any n p _ hn hp).mono ?_
  rintro e' w1 ⟨v1, rfl, hI1, hb1⟩
  obtain ⟨L1, HL1⟩ : ∃ L, Hid (M.decE n (bl p) = L) := ⟨_, hide rfl⟩
  rw [unhide HL1] at hI1
  obtain ⟨a1, c1, hs1, -⟩ := id hI1
  subst hs1
  have I1 := hide hI1
  clear hI1
  have S5 := hide ((unhide S5).on hb1)
  have HB := hide (bstep (unhide HB) hb1)
  clear hb1
  go_wp2_with fail
  refine (open_yes n _ hn).mono ?_
  rintro e' w2 ⟨rfl, hb2⟩
  have hst := bstep hb2 (balloc w2 (.cells #[.int .i64 n, .string ⟨#[]⟩, .int .i64 0, .bool false, .bool false] 40))
  have S5 := hide ((unhide S5).on hst)
  have HB := hide (bstep (unhide HB) hst)
  have I1 := hide ((unhide I1).below hst)
  have S11 : Hid (Sc w2.heap.size n ⟨#[]⟩ M.st0 (w2.alloc (.cells #[.int .i64 n, .string ⟨#[]⟩, .int .i64 0, .bool false, .bool false] 40))) := hide (Sc.new w2 n ⟨#[]⟩ M.st0)
  clear hb2 hst
  obtain ⟨B11, hB11⟩ : ∃ B, w2.heap.size = B := ⟨_, rfl⟩
  rw [hB11] at S11
  unfold sv M.st0
  go_upto_region 3 with fail
  generalize w2.alloc (.cells #[.int .i64 n, .string ⟨#[]⟩, .int .i64 0, .bool false, .bool false] 40) = W2 at *
  clear hB11
  have hl5 := (unhide S5).lt
  obtain ⟨c0, c1, c2, c3, c4, -, -, -, -, -⟩ := unhide S5
  go_wp2_with fail
  refine (unhide FDH _).mono ?_
  rintro e' w3 ⟨rfl, hb3⟩
  clear c0 c1 c2 c3 c4 hl5
  have hst := bstep hb3 (balloc w3 (.cells #[.int .i64 0, .string ⟨#[]⟩, .int .i64 0, .bool false, .bool false] 40))
  have S5 := hide ((unhide S5).on hst)
  have S11 := hide ((unhide S11).on hst)
  have HB := hide (bstep (unhide HB) hst)
  have I1 := hide ((unhide I1).below hst)
  have S14 : Hid (Sc w3.heap.size 0 ⟨#[]⟩ M.st0 (w3.alloc (.cells #[.int .i64 0, .string ⟨#[]⟩, .int .i64 0, .bool false, .bool false] 40))) := hide (Sc.new w3 0 ⟨#[]⟩ M.st0)
  clear hb3 hst
  obtain ⟨B14, hB14⟩ : ∃ B, w3.heap.size = B := ⟨_, rfl⟩
  rw [hB14] at S14
  try unfold M.st0
  go_upto_region 4 with fail
  generalize w3.alloc (.cells #[.int .i64 0, .string ⟨#[]⟩, .int .i64 0, .bool false, .bool false] 40) = W3 at *
  clear hB14
  have hl5 := (unhide S5).lt
  obtain ⟨c0, c1, c2, c3, c4, -, -, -, -, -⟩ := unhide S5
  go_wp2_with fail
  refine (isEncoding_yes n _ hn).mono ?_
  rintro e' w9 ⟨rfl, hw9⟩
  replace hw9 := hw9.symm
  subst hw9
  go_wp2_with fail
  refine (tooLong_no p _ hp).mono ?_
  rintro e' w9 ⟨rfl, hw9⟩
  replace hw9 := hw9.symm
  subst hw9
  go_wp2_with fail
  refine (unhide CSH _).mono ?_
  rintro e' w5 ⟨rfl, hb5⟩
  clear c0 c1 c2 c3 c4 hl5
  have S5 := hide ((unhide S5).on hb5)
  have S11 := hide ((unhide S11).on hb5)
  have S14 := hide ((unhide S14).on hb5)
  have I1 := hide ((unhide I1).below hb5)
  have HB := hide (bstep (unhide HB) hb5)
  clear hb5
  go_wp2_with fail
  refine (decodeOf_any n p _ hn hp).mono ?_
  rintro e' w6 ⟨v6, rfl, hI6, hb6⟩
  rw [unhide HL1] at hI6
  obtain ⟨a6, c6, hs6⟩ := owns_shape hI6
  subst hs6
  have O6 : Hid (w6.ownsRow (w5.heap.size + 2) 3 1 (.slice a6 L1.length c6) L1.length (L1.map (Value.int .i64))) := hide (by simpa using hI6)
  have R21 : Hid (Rc w5.heap.size w6) := hide (Rc.below (w := (w5.alloc (.cells #[.int .i64 0, .string ⟨#[]⟩, .int .i64 0, .bool false, .bool false] 40)).alloc (.cells #[.int .i64 0, .string ⟨#[]⟩, .int .i64 0, .bool false, .bool false] 40)) (by constructor <;> simp [go_sem]) hb6 (by simp; omega))
  have R22 : Hid (Rc (w5.heap.size + 1) w6) := hide (Rc.below (w := (w5.alloc (.cells #[.int .i64 0, .string ⟨#[]⟩, .int .i64 0, .bool false, .bool false] 40)).alloc (.cells #[.int .i64 0, .string ⟨#[]⟩, .int .i64 0, .bool false, .bool false] 40)) (by constructor <;> simp [go_sem]) hb6 (by simp))
  have HW : Hid (Below w5.heap.size w5 w6) := hide (bstep (bstep (balloc w5 (.cells #[.int .i64 0, .string ⟨#[]⟩, .int .i64 0, .bool false, .bool false] 40)) (balloc _ (.cells #[.int .i64 0, .string ⟨#[]⟩, .int .i64 0, .bool false, .bool false] 40))) hb6)
  clear hI6 hb6
  obtain ⟨b0, b1, b2, b3, b4, g0, g1, g2, g3, g4⟩ := unhide R21
  have hl6 : w5.heap.size < w6.heap.size := World.block_lt_of_cell? w6 _ b0
  go_upto_region 18 with fail
  have S21 : Hid (Sc w5.heap.size n ⟨#[]⟩ M.st0 (((((w6.setCell ⟨w5.heap.size, 0, none⟩ (.int .i64 n)).setCell ⟨w5.heap.size, 1, none⟩ (.string ⟨#[]⟩)).setCell ⟨w5.heap.size, 2, none⟩ (.int .i64 0)).setCell ⟨w5.heap.size, 3, none⟩ (.bool false)).setCell ⟨w5.heap.size, 4, none⟩ (.bool false))) := hide (Sc.put (unhide R21) n ⟨#[]⟩ M.st0)
  have R22 : Hid (Rc (w5.heap.size + 1) (((((w6.setCell ⟨w5.heap.size, 0, none⟩ (.int .i64 n)).setCell ⟨w5.heap.size, 1, none⟩ (.string ⟨#[]⟩)).setCell ⟨w5.heap.size, 2, none⟩ (.int .i64 0)).setCell ⟨w5.heap.size, 3, none⟩ (.bool false)).setCell ⟨w5.heap.size, 4, none⟩ (.bool false))) := hide (((((((unhide R22).far _ _ (by simp)).far _ _ (by simp)).far _ _ (by simp)).far _ _ (by simp)).far _ _ (by simp)))
  have O6 : Hid ((((((w6.setCell ⟨w5.heap.size, 0, none⟩ (.int .i64 n)).setCell ⟨w5.heap.size, 1, none⟩ (.string ⟨#[]⟩)).setCell ⟨w5.heap.size, 2, none⟩ (.int .i64 0)).setCell ⟨w5.heap.size, 3, none⟩ (.bool false)).setCell ⟨w5.heap.size, 4, none⟩ (.bool false)).ownsRow (w5.heap.size + 2) 3 1 (.slice a6 L1.length c6) L1.length (L1.map (Value.int .i64))) := hide (oset5 (t := M.st0) (unhide O6) (by omega))
  have HW : Hid (Below w5.heap.size w5 (((((w6.setCell ⟨w5.heap.size, 0, none⟩ (.int .i64 n)).setCell ⟨w5.heap.size, 1, none⟩ (.string ⟨#[]⟩)).setCell ⟨w5.heap.size, 2, none⟩ (.int .i64 0)).setCell ⟨w5.heap.size, 3, none⟩ (.bool false)).setCell ⟨w5.heap.size, 4, none⟩ (.bool false))) := hide (bset5 (t := M.st0) (unhide HW) (Nat.le_refl _))
  clear b0 b1 b2 b3 b4 g0 g1 g2 g3 g4 hl6 R21
  generalize ((((w6.setCell ⟨w5.heap.size, 0, none⟩ (.int .i64 n)).setCell ⟨w5.heap.size, 1, none⟩ (.string ⟨#[]⟩)).setCell ⟨w5.heap.size, 2, none⟩ (.int .i64 0)).setCell ⟨w5.heap.size, 3, none⟩ (.bool false)).setCell ⟨w5.heap.size, 4, none⟩ (.bool false) = W at *
  go_upto_region 20 with fail
  have S22 : Hid (Sc (w5.heap.size + 1) 0 ⟨#[]⟩ M.st0 W) := hide ⟨(unhide R22).b0, (unhide R22).b1, (unhide R22).b2, (unhide R22).b3, (unhide R22).b4, (unhide R22).g0, (unhide R22).g1, (unhide R22).g2, (unhide R22).g3, (unhide R22).g4⟩
  clear R22
  have S5 := hide ((unhide S5).on (unhide HW))
  have S11 := hide ((unhide S11).on (unhide HW))
  have S14 := hide ((unhide S14).on (unhide HW))
  have I1 := hide ((unhide I1).below (unhide HW))
  have P1 := hide (Ints.of_owns (unhide O6))
  clear O6
  have HB := hide (bstep (unhide HB) (unhide HW))
  clear HW
  obtain ⟨B21, hB21⟩ : ∃ B, w5.heap.size = B := ⟨_, rfl⟩
  rw [hB21] at S21 S22
  have plt := (unhide S5).lt
  have p0 : ∀ w', Below W.heap.size W w' → w'.cell? ⟨w.heap.size, 0, none⟩ = some (.int .i64 e) := fun w' h => (h.cell (p := ⟨w.heap.size, 0, none⟩) plt).trans (unhide S5).c0
  have p1 : ∀ w', Below W.heap.size W w' → w'.cell? ⟨w.heap.size, 1, none⟩ = some (.string r) := fun w' h => (h.cell (p := ⟨w.heap.size, 1, none⟩) plt).trans (unhide S5).c1
  have p2 : ∀ w', Below W.heap.size W w' → w'.cell? ⟨w.heap.size, 2, none⟩ = some (.int .i64 g) := fun w' h => (h.cell (p := ⟨w.heap.size, 2, none⟩) plt).trans (unhide S5).c2
  have p3 : ∀ w', Below W.heap.size W w' → w'.cell? ⟨w.heap.size, 3, none⟩ = some (.bool fr) := fun w' h => (h.cell (p := ⟨w.heap.size, 3, none⟩) plt).trans (unhide S5).c3
  have p4 : ∀ w', Below W.heap.size W w' → w'.cell? ⟨w.heap.size, 4, none⟩ = some (.bool st) := fun w' h => (h.cell (p := ⟨w.heap.size, 4, none⟩) plt).trans (unhide S5).c4
  have qlt := (unhide S11).lt
  have q0 : ∀ w', Below W.heap.size W w' → w'.cell? ⟨B11, 0, none⟩ = some (.int .i64 n) := fun w' h => (h.cell (p := ⟨B11, 0, none⟩) qlt).trans (unhide S11).c0
  have q1 : ∀ w', Below W.heap.size W w' → w'.cell? ⟨B11, 1, none⟩ = some (.string ⟨#[]⟩) := fun w' h => (h.cell (p := ⟨B11, 1, none⟩) qlt).trans (unhide S11).c1
  have q2 : ∀ w', Below W.heap.size W w' → w'.cell? ⟨B11, 2, none⟩ = some (.int .i64 0) := fun w' h => (h.cell (p := ⟨B11, 2, none⟩) qlt).trans (unhide S11).c2
  have q3 : ∀ w', Below W.heap.size W w' → w'.cell? ⟨B11, 3, none⟩ = some (.bool false) := fun w' h => (h.cell (p := ⟨B11, 3, none⟩) qlt).trans (unhide S11).c3
  have q4 : ∀ w', Below W.heap.size W w' → w'.cell? ⟨B11, 4, none⟩ = some (.bool false) := fun w' h => (h.cell (p := ⟨B11, 4, none⟩) qlt).trans (unhide S11).c4
  have xlt := (unhide S14).lt
  have x0 : ∀ w', Below W.heap.size W w' → w'.cell? ⟨B14, 0, none⟩ = some (.int .i64 0) := fun w' h => (h.cell (p := ⟨B14, 0, none⟩) xlt).trans (unhide S14).c0
  have x1 : ∀ w', Below W.heap.size W w' → w'.cell? ⟨B14, 1, none⟩ = some (.string ⟨#[]⟩) := fun w' h => (h.cell (p := ⟨B14, 1, none⟩) xlt).trans (unhide S14).c1
  have x2 : ∀ w', Below W.heap.size W w' → w'.cell? ⟨B14, 2, none⟩ = some (.int .i64 0) := fun w' h => (h.cell (p := ⟨B14, 2, none⟩) xlt).trans (unhide S14).c2
  have x3 : ∀ w', Below W.heap.size W w' → w'.cell? ⟨B14, 3, none⟩ = some (.bool false) := fun w' h => (h.cell (p := ⟨B14, 3, none⟩) xlt).trans (unhide S14).c3
  have x4 : ∀ w', Below W.heap.size W w' → w'.cell? ⟨B14, 4, none⟩ = some (.bool false) := fun w' h => (h.cell (p := ⟨B14, 4, none⟩) xlt).trans (unhide S14).c4
  have ylt := (unhide S21).lt
  have y0 : ∀ w', Below W.heap.size W w' → w'.cell? ⟨B21, 0, none⟩ = some (.int .i64 n) := fun w' h => (h.cell (p := ⟨B21, 0, none⟩) ylt).trans (unhide S21).c0
  have y1 : ∀ w', Below W.heap.size W w' → w'.cell? ⟨B21, 1, none⟩ = some (.string ⟨#[]⟩) := fun w' h => (h.cell (p := ⟨B21, 1, none⟩) ylt).trans (unhide S21).c1
  have y2 : ∀ w', Below W.heap.size W w' → w'.cell? ⟨B21, 2, none⟩ = some (.int .i64 0) := fun w' h => (h.cell (p := ⟨B21, 2, none⟩) ylt).trans (unhide S21).c2
  have y3 : ∀ w', Below W.heap.size W w' → w'.cell? ⟨B21, 3, none⟩ = some (.bool false) := fun w' h => (h.cell (p := ⟨B21, 3, none⟩) ylt).trans (unhide S21).c3
  have y4 : ∀ w', Below W.heap.size W w' → w'.cell? ⟨B21, 4, none⟩ = some (.bool false) := fun w' h => (h.cell (p := ⟨B21, 4, none⟩) ylt).trans (unhide S21).c4
  have zlt := (unhide S22).lt
  have z0 : ∀ w', Below W.heap.size W w' → w'.cell? ⟨(B21 + 1), 0, none⟩ = some (.int .i64 0) := fun w' h => (h.cell (p := ⟨(B21 + 1), 0, none⟩) zlt).trans (unhide S22).c0
  have z1 : ∀ w', Below W.heap.size W w' → w'.cell? ⟨(B21 + 1), 1, none⟩ = some (.string ⟨#[]⟩) := fun w' h => (h.cell (p := ⟨(B21 + 1), 1, none⟩) zlt).trans (unhide S22).c1
  have z2 : ∀ w', Below W.heap.size W w' → w'.cell? ⟨(B21 + 1), 2, none⟩ = some (.int .i64 0) := fun w' h => (h.cell (p := ⟨(B21 + 1), 2, none⟩) zlt).trans (unhide S22).c2
  have z3 : ∀ w', Below W.heap.size W w' → w'.cell? ⟨(B21 + 1), 3, none⟩ = some (.bool false) := fun w' h => (h.cell (p := ⟨(B21 + 1), 3, none⟩) zlt).trans (unhide S22).c3
  have z4 : ∀ w', Below W.heap.size W w' → w'.cell? ⟨(B21 + 1), 4, none⟩ = some (.bool false) := fun w' h => (h.cell (p := ⟨(B21 + 1), 4, none⟩) zlt).trans (unhide S22).c4
  clear S5 S11 S14 S21 S22
  go_region_held3 (fun w' => Below W.heap.size W w') (first | exact below_drewN (Below.refl _ _) 1 | assumption)
    ((first
      | (go_at_call 23; refine (begunT_any _).mono ?_; rintro e' z ⟨rfl, hz⟩; have hS := bstep (by assumption) hz; clear hz)
      | (go_at_call 24; refine (unhide CKH _).mono ?_; rintro e' z ⟨rfl, hz⟩; have hS := bstep (by assumption) hz; clear hz)
      | (go_at_call 21; refine (unhide CSH _).mono ?_; rintro e' z ⟨rfl, hz⟩; have hS := bstep (by assumption) hz; clear hz)
      | (go_at_call_of 15 (Value.slice a1 L1.length c1); refine (intsAre_ok _ ((unhide I1).below (by assumption)) ((unhide P1).below (by assumption))).mono ?_; rintro e' z ⟨rfl, hz⟩; have hS := bstep (by assumption) hz; clear hz)
      | (go_at_call 15; refine (intsAre_err _ _ _ _ (by first | rfl | exact hq0) _).mono ?_; rintro e' z ⟨rfl, hz⟩; have hS := bstep (by assumption) hz; clear hz)))
  all_goals
    go_wp2_with fail
    go_ret
    exact ⟨ret_bool (by simp), bstep (unhide HB) (by assumption)⟩

set_option maxHeartbeats 4000000 in
set_option maxRecDepth 100000 in
theorem yeslongright (n e : Int) (r : ByteArray) (g : Int) (fr st : Bool) (p : ByteArray) (last : Bool) (w : World) (hrm : r.size ≤ maxLen) (hpm : p.size ≤ maxLen) (hn : 1 ≤ n ∧ n ≤ 7) (hp : 3000 < p.size) (hk : chk e r (g, fr, st) = 0) :
    Calls Try.prog 6 #[.int .i64 n, .agg #[.int .i64 e, .string r, .int .i64 g, .bool fr, .bool st], .string p, .bool last] w fun e' w' => e' = .returned (.bool true) ∧ Below w.heap.size w w' := by
  have CK := fun w => check_any e r (g, fr, st) w hrm
  have CS := fun w => checkState_any e r (g, fr, st) w hrm
  rw [hk] at CK CS
  have FD := fun w => feed_long e r (g, fr, st) p last w hrm hk hp hpm
  have CKH := hide CK
  have CSH := hide CS
  have FDH := hide FD
  clear CK CS FD hk
  unfold sv at CKH CSH FDH
  go_enter Try.func6, Try.ntmps6
  go_wp2_with fail
  have S5 : Hid (Sc w.heap.size e r (g, fr, st) (w.alloc (.cells #[.int .i64 e, .string r, .int .i64 g, .bool fr, .bool st] 40))) := hide (Sc.new w e r (g, fr, st))
  have HB : Hid (Below w.heap.size w (w.alloc (.cells #[.int .i64 e, .string r, .int .i64 g, .bool fr, .bool st] 40))) := hide (balloc _ _)
  refine (sdecode_long n p _ hn hp hpm).mono ?_
  rintro e' w1 ⟨rfl, hb1⟩
  have S5 := hide ((unhide S5).on hb1)
  have HB := hide (bstep (unhide HB) hb1)
  clear hb1
  go_wp2_with fail
  refine (open_yes n _ hn).mono ?_
  rintro e' w2 ⟨rfl, hb2⟩
  have hst := bstep hb2 (balloc w2 (.cells #[.int .i64 n, .string ⟨#[]⟩, .int .i64 0, .bool false, .bool false] 40))
  have S5 := hide ((unhide S5).on hst)
  have HB := hide (bstep (unhide HB) hst)
  have S11 : Hid (Sc w2.heap.size n ⟨#[]⟩ M.st0 (w2.alloc (.cells #[.int .i64 n, .string ⟨#[]⟩, .int .i64 0, .bool false, .bool false] 40))) := hide (Sc.new w2 n ⟨#[]⟩ M.st0)
  clear hb2 hst
  obtain ⟨B11, hB11⟩ : ∃ B, w2.heap.size = B := ⟨_, rfl⟩
  rw [hB11] at S11
  unfold sv M.st0
  go_upto_region 3 with fail
  generalize w2.alloc (.cells #[.int .i64 n, .string ⟨#[]⟩, .int .i64 0, .bool false, .bool false] 40) = W2 at *
  clear hB11
  have hl5 := (unhide S5).lt
  obtain ⟨c0, c1, c2, c3, c4, -, -, -, -, -⟩ := unhide S5
  go_wp2_with fail
  refine (unhide FDH _).mono ?_
  rintro e' w3 ⟨rfl, hb3⟩
  clear c0 c1 c2 c3 c4 hl5
  have hst := bstep hb3 (balloc w3 (.cells #[.int .i64 0, .string ⟨#[]⟩, .int .i64 0, .bool false, .bool false] 40))
  have S5 := hide ((unhide S5).on hst)
  have S11 := hide ((unhide S11).on hst)
  have HB := hide (bstep (unhide HB) hst)
  have S14 : Hid (Sc w3.heap.size 0 ⟨#[]⟩ M.st0 (w3.alloc (.cells #[.int .i64 0, .string ⟨#[]⟩, .int .i64 0, .bool false, .bool false] 40))) := hide (Sc.new w3 0 ⟨#[]⟩ M.st0)
  clear hb3 hst
  obtain ⟨B14, hB14⟩ : ∃ B, w3.heap.size = B := ⟨_, rfl⟩
  rw [hB14] at S14
  try unfold M.st0
  go_upto_region 4 with fail
  generalize w3.alloc (.cells #[.int .i64 0, .string ⟨#[]⟩, .int .i64 0, .bool false, .bool false] 40) = W3 at *
  clear hB14
  have hl5 := (unhide S5).lt
  obtain ⟨c0, c1, c2, c3, c4, -, -, -, -, -⟩ := unhide S5
  go_wp2_with fail
  refine (isEncoding_yes n _ hn).mono ?_
  rintro e' w9 ⟨rfl, hw9⟩
  replace hw9 := hw9.symm
  subst hw9
  go_wp2_with fail
  refine (tooLong_yes p _ hp hpm).mono ?_
  rintro e' w9 ⟨rfl, hw9⟩
  replace hw9 := hw9.symm
  subst hw9
  go_wp2_with fail
  refine (unhide CSH _).mono ?_
  rintro e' w5 ⟨rfl, hb5⟩
  clear c0 c1 c2 c3 c4 hl5
  have S5 := hide ((unhide S5).on hb5)
  have S11 := hide ((unhide S11).on hb5)
  have S14 := hide ((unhide S14).on hb5)
  have HB := hide (bstep (unhide HB) hb5)
  clear hb5
  go_wp2_with fail
  refine (tooLong_yes p _ hp hpm).mono ?_
  rintro e' w9 ⟨rfl, hw9⟩
  replace hw9 := hw9.symm
  subst hw9
  go_upto_region 18 with fail
  have S21 : Hid (Sc w5.heap.size n ⟨#[]⟩ M.st0 ((w5.alloc (.cells #[.int .i64 n, .string ⟨#[]⟩, .int .i64 0, .bool false, .bool false] 40)).alloc (.cells #[.int .i64 0, .string ⟨#[]⟩, .int .i64 0, .bool false, .bool false] 40))) := hide (by constructor <;> simp [go_sem, M.st0])
  have R22 : Hid (Rc (w5.heap.size + 1) ((w5.alloc (.cells #[.int .i64 n, .string ⟨#[]⟩, .int .i64 0, .bool false, .bool false] 40)).alloc (.cells #[.int .i64 0, .string ⟨#[]⟩, .int .i64 0, .bool false, .bool false] 40))) := hide (by constructor <;> simp [go_sem])
  have HW : Hid (Below w5.heap.size w5 ((w5.alloc (.cells #[.int .i64 n, .string ⟨#[]⟩, .int .i64 0, .bool false, .bool false] 40)).alloc (.cells #[.int .i64 0, .string ⟨#[]⟩, .int .i64 0, .bool false, .bool false] 40))) := hide (bstep (balloc _ _) (balloc _ _))
  generalize (w5.alloc (.cells #[.int .i64 n, .string ⟨#[]⟩, .int .i64 0, .bool false, .bool false] 40)).alloc (.cells #[.int .i64 0, .string ⟨#[]⟩, .int .i64 0, .bool false, .bool false] 40) = W at *
  go_upto_region 20 with fail
  have S22 : Hid (Sc (w5.heap.size + 1) 0 ⟨#[]⟩ M.st0 W) := hide ⟨(unhide R22).b0, (unhide R22).b1, (unhide R22).b2, (unhide R22).b3, (unhide R22).b4, (unhide R22).g0, (unhide R22).g1, (unhide R22).g2, (unhide R22).g3, (unhide R22).g4⟩
  clear R22
  have S5 := hide ((unhide S5).on (unhide HW))
  have S11 := hide ((unhide S11).on (unhide HW))
  have S14 := hide ((unhide S14).on (unhide HW))
  have HB := hide (bstep (unhide HB) (unhide HW))
  clear HW
  obtain ⟨B21, hB21⟩ : ∃ B, w5.heap.size = B := ⟨_, rfl⟩
  rw [hB21] at S21 S22
  have plt := (unhide S5).lt
  have p0 : ∀ w', Below W.heap.size W w' → w'.cell? ⟨w.heap.size, 0, none⟩ = some (.int .i64 e) := fun w' h => (h.cell (p := ⟨w.heap.size, 0, none⟩) plt).trans (unhide S5).c0
  have p1 : ∀ w', Below W.heap.size W w' → w'.cell? ⟨w.heap.size, 1, none⟩ = some (.string r) := fun w' h => (h.cell (p := ⟨w.heap.size, 1, none⟩) plt).trans (unhide S5).c1
  have p2 : ∀ w', Below W.heap.size W w' → w'.cell? ⟨w.heap.size, 2, none⟩ = some (.int .i64 g) := fun w' h => (h.cell (p := ⟨w.heap.size, 2, none⟩) plt).trans (unhide S5).c2
  have p3 : ∀ w', Below W.heap.size W w' → w'.cell? ⟨w.heap.size, 3, none⟩ = some (.bool fr) := fun w' h => (h.cell (p := ⟨w.heap.size, 3, none⟩) plt).trans (unhide S5).c3
  have p4 : ∀ w', Below W.heap.size W w' → w'.cell? ⟨w.heap.size, 4, none⟩ = some (.bool st) := fun w' h => (h.cell (p := ⟨w.heap.size, 4, none⟩) plt).trans (unhide S5).c4
  have qlt := (unhide S11).lt
  have q0 : ∀ w', Below W.heap.size W w' → w'.cell? ⟨B11, 0, none⟩ = some (.int .i64 n) := fun w' h => (h.cell (p := ⟨B11, 0, none⟩) qlt).trans (unhide S11).c0
  have q1 : ∀ w', Below W.heap.size W w' → w'.cell? ⟨B11, 1, none⟩ = some (.string ⟨#[]⟩) := fun w' h => (h.cell (p := ⟨B11, 1, none⟩) qlt).trans (unhide S11).c1
  have q2 : ∀ w', Below W.heap.size W w' → w'.cell? ⟨B11, 2, none⟩ = some (.int .i64 0) := fun w' h => (h.cell (p := ⟨B11, 2, none⟩) qlt).trans (unhide S11).c2
  have q3 : ∀ w', Below W.heap.size W w' → w'.cell? ⟨B11, 3, none⟩ = some (.bool false) := fun w' h => (h.cell (p := ⟨B11, 3, none⟩) qlt).trans (unhide S11).c3
  have q4 : ∀ w', Below W.heap.size W w' → w'.cell? ⟨B11, 4, none⟩ = some (.bool false) := fun w' h => (h.cell (p := ⟨B11, 4, none⟩) qlt).trans (unhide S11).c4
  have xlt := (unhide S14).lt
  have x0 : ∀ w', Below W.heap.size W w' → w'.cell? ⟨B14, 0, none⟩ = some (.int .i64 0) := fun w' h => (h.cell (p := ⟨B14, 0, none⟩) xlt).trans (unhide S14).c0
  have x1 : ∀ w', Below W.heap.size W w' → w'.cell? ⟨B14, 1, none⟩ = some (.string ⟨#[]⟩) := fun w' h => (h.cell (p := ⟨B14, 1, none⟩) xlt).trans (unhide S14).c1
  have x2 : ∀ w', Below W.heap.size W w' → w'.cell? ⟨B14, 2, none⟩ = some (.int .i64 0) := fun w' h => (h.cell (p := ⟨B14, 2, none⟩) xlt).trans (unhide S14).c2
  have x3 : ∀ w', Below W.heap.size W w' → w'.cell? ⟨B14, 3, none⟩ = some (.bool false) := fun w' h => (h.cell (p := ⟨B14, 3, none⟩) xlt).trans (unhide S14).c3
  have x4 : ∀ w', Below W.heap.size W w' → w'.cell? ⟨B14, 4, none⟩ = some (.bool false) := fun w' h => (h.cell (p := ⟨B14, 4, none⟩) xlt).trans (unhide S14).c4
  have ylt := (unhide S21).lt
  have y0 : ∀ w', Below W.heap.size W w' → w'.cell? ⟨B21, 0, none⟩ = some (.int .i64 n) := fun w' h => (h.cell (p := ⟨B21, 0, none⟩) ylt).trans (unhide S21).c0
  have y1 : ∀ w', Below W.heap.size W w' → w'.cell? ⟨B21, 1, none⟩ = some (.string ⟨#[]⟩) := fun w' h => (h.cell (p := ⟨B21, 1, none⟩) ylt).trans (unhide S21).c1
  have y2 : ∀ w', Below W.heap.size W w' → w'.cell? ⟨B21, 2, none⟩ = some (.int .i64 0) := fun w' h => (h.cell (p := ⟨B21, 2, none⟩) ylt).trans (unhide S21).c2
  have y3 : ∀ w', Below W.heap.size W w' → w'.cell? ⟨B21, 3, none⟩ = some (.bool false) := fun w' h => (h.cell (p := ⟨B21, 3, none⟩) ylt).trans (unhide S21).c3
  have y4 : ∀ w', Below W.heap.size W w' → w'.cell? ⟨B21, 4, none⟩ = some (.bool false) := fun w' h => (h.cell (p := ⟨B21, 4, none⟩) ylt).trans (unhide S21).c4
  have zlt := (unhide S22).lt
  have z0 : ∀ w', Below W.heap.size W w' → w'.cell? ⟨(B21 + 1), 0, none⟩ = some (.int .i64 0) := fun w' h => (h.cell (p := ⟨(B21 + 1), 0, none⟩) zlt).trans (unhide S22).c0
  have z1 : ∀ w', Below W.heap.size W w' → w'.cell? ⟨(B21 + 1), 1, none⟩ = some (.string ⟨#[]⟩) := fun w' h => (h.cell (p := ⟨(B21 + 1), 1, none⟩) zlt).trans (unhide S22).c1
  have z2 : ∀ w', Below W.heap.size W w' → w'.cell? ⟨(B21 + 1), 2, none⟩ = some (.int .i64 0) := fun w' h => (h.cell (p := ⟨(B21 + 1), 2, none⟩) zlt).trans (unhide S22).c2
  have z3 : ∀ w', Below W.heap.size W w' → w'.cell? ⟨(B21 + 1), 3, none⟩ = some (.bool false) := fun w' h => (h.cell (p := ⟨(B21 + 1), 3, none⟩) zlt).trans (unhide S22).c3
  have z4 : ∀ w', Below W.heap.size W w' → w'.cell? ⟨(B21 + 1), 4, none⟩ = some (.bool false) := fun w' h => (h.cell (p := ⟨(B21 + 1), 4, none⟩) zlt).trans (unhide S22).c4
  clear S5 S11 S14 S21 S22
  go_region_held3 (fun w' => Below W.heap.size W w') (first | exact below_drewN (Below.refl _ _) 1 | assumption)
    ((first
      | (go_at_call 23; refine (begunT_any _).mono ?_; rintro e' z ⟨rfl, hz⟩; have hS := bstep (by assumption) hz; clear hz)
      | (go_at_call 24; refine (unhide CKH _).mono ?_; rintro e' z ⟨rfl, hz⟩; have hS := bstep (by assumption) hz; clear hz)
      | (go_at_call 21; refine (unhide CSH _).mono ?_; rintro e' z ⟨rfl, hz⟩; have hS := bstep (by assumption) hz; clear hz)
      | (go_at_call 15; refine (intsAre_err _ _ _ _ (by first | rfl) _).mono ?_; rintro e' z ⟨rfl, hz⟩; have hS := bstep (by assumption) hz; clear hz)))
  all_goals
    go_wp2_with fail
    go_ret
    exact ⟨ret_bool (by simp), bstep (unhide HB) (by assumption)⟩

set_option maxHeartbeats 4000000 in
set_option maxRecDepth 100000 in
theorem yeslongwrong (n e : Int) (r : ByteArray) (g : Int) (fr st : Bool) (p : ByteArray) (last : Bool) (w : World) (hrm : r.size ≤ maxLen) (hpm : p.size ≤ maxLen) (hn : 1 ≤ n ∧ n ≤ 7) (hp : 3000 < p.size) (hk : chk e r (g, fr, st) ≠ 0) :
    Calls Try.prog 6 #[.int .i64 n, .agg #[.int .i64 e, .string r, .int .i64 g, .bool fr, .bool st], .string p, .bool last] w fun e' w' => e' = .returned (.bool true) ∧ Below w.heap.size w w' := by
  have CK := fun w => check_any e r (g, fr, st) w hrm
  have CS := fun w => checkState_any e r (g, fr, st) w hrm
  have FD := fun w => feed_err e r (g, fr, st) p last w hrm (by simpa using hk)
  obtain ⟨q, HQ⟩ : ∃ q, Hid (chk e r (g, fr, st) = q) := ⟨_, hide rfl⟩
  rw [unhide HQ] at CK CS FD hk
  have hq0 : (q == 0) = false := by simpa using hk
  have CKH := hide CK
  have CSH := hide CS
  have FDH := hide FD
  clear CK CS FD hk
  unfold sv at CKH CSH FDH
  go_enter Try.func6, Try.ntmps6
  go_wp2_with fail
  have S5 : Hid (Sc w.heap.size e r (g, fr, st) (w.alloc (.cells #[.int .i64 e, .string r, .int .i64 g, .bool fr, .bool st] 40))) := hide (Sc.new w e r (g, fr, st))
  have HB : Hid (Below w.heap.size w (w.alloc (.cells #[.int .i64 e, .string r, .int .i64 g, .bool fr, .bool st] 40))) := hide (balloc _ _)
  refine (sdecode_long n p _ hn hp hpm).mono ?_
  rintro e' w1 ⟨rfl, hb1⟩
  have S5 := hide ((unhide S5).on hb1)
  have HB := hide (bstep (unhide HB) hb1)
  clear hb1
  go_wp2_with fail
  refine (open_yes n _ hn).mono ?_
  rintro e' w2 ⟨rfl, hb2⟩
  have hst := bstep hb2 (balloc w2 (.cells #[.int .i64 n, .string ⟨#[]⟩, .int .i64 0, .bool false, .bool false] 40))
  have S5 := hide ((unhide S5).on hst)
  have HB := hide (bstep (unhide HB) hst)
  have S11 : Hid (Sc w2.heap.size n ⟨#[]⟩ M.st0 (w2.alloc (.cells #[.int .i64 n, .string ⟨#[]⟩, .int .i64 0, .bool false, .bool false] 40))) := hide (Sc.new w2 n ⟨#[]⟩ M.st0)
  clear hb2 hst
  obtain ⟨B11, hB11⟩ : ∃ B, w2.heap.size = B := ⟨_, rfl⟩
  rw [hB11] at S11
  unfold sv M.st0
  go_upto_region 3 with fail
  generalize w2.alloc (.cells #[.int .i64 n, .string ⟨#[]⟩, .int .i64 0, .bool false, .bool false] 40) = W2 at *
  clear hB11
  have hl5 := (unhide S5).lt
  obtain ⟨c0, c1, c2, c3, c4, -, -, -, -, -⟩ := unhide S5
  go_wp2_with fail
  refine (unhide FDH _).mono ?_
  rintro e' w3 ⟨rfl, hb3⟩
  clear c0 c1 c2 c3 c4 hl5
  have hst := bstep hb3 (balloc w3 (.cells #[.int .i64 0, .string ⟨#[]⟩, .int .i64 0, .bool false, .bool false] 40))
  have S5 := hide ((unhide S5).on hst)
  have S11 := hide ((unhide S11).on hst)
  have HB := hide (bstep (unhide HB) hst)
  have S14 : Hid (Sc w3.heap.size 0 ⟨#[]⟩ M.st0 (w3.alloc (.cells #[.int .i64 0, .string ⟨#[]⟩, .int .i64 0, .bool false, .bool false] 40))) := hide (Sc.new w3 0 ⟨#[]⟩ M.st0)
  clear hb3 hst
  obtain ⟨B14, hB14⟩ : ∃ B, w3.heap.size = B := ⟨_, rfl⟩
  rw [hB14] at S14
  try unfold M.st0
  go_upto_region 4 with fail
  generalize w3.alloc (.cells #[.int .i64 0, .string ⟨#[]⟩, .int .i64 0, .bool false, .bool false] 40) = W3 at *
  clear hB14
  have hl5 := (unhide S5).lt
  obtain ⟨c0, c1, c2, c3, c4, -, -, -, -, -⟩ := unhide S5
  go_wp2_with fail
  refine (isEncoding_yes n _ hn).mono ?_
  rintro e' w9 ⟨rfl, hw9⟩
  replace hw9 := hw9.symm
  subst hw9
  go_wp2_with fail
  refine (tooLong_yes p _ hp hpm).mono ?_
  rintro e' w9 ⟨rfl, hw9⟩
  replace hw9 := hw9.symm
  subst hw9
  go_wp2_with fail
  refine (unhide CSH _).mono ?_
  rintro e' w5 ⟨rfl, hb5⟩
  clear c0 c1 c2 c3 c4 hl5
  have S5 := hide ((unhide S5).on hb5)
  have S11 := hide ((unhide S11).on hb5)
  have S14 := hide ((unhide S14).on hb5)
  have HB := hide (bstep (unhide HB) hb5)
  clear hb5
  go_upto_region 18 with fail
  have S21 : Hid (Sc w5.heap.size n ⟨#[]⟩ M.st0 ((w5.alloc (.cells #[.int .i64 n, .string ⟨#[]⟩, .int .i64 0, .bool false, .bool false] 40)).alloc (.cells #[.int .i64 0, .string ⟨#[]⟩, .int .i64 0, .bool false, .bool false] 40))) := hide (by constructor <;> simp [go_sem, M.st0])
  have R22 : Hid (Rc (w5.heap.size + 1) ((w5.alloc (.cells #[.int .i64 n, .string ⟨#[]⟩, .int .i64 0, .bool false, .bool false] 40)).alloc (.cells #[.int .i64 0, .string ⟨#[]⟩, .int .i64 0, .bool false, .bool false] 40))) := hide (by constructor <;> simp [go_sem])
  have HW : Hid (Below w5.heap.size w5 ((w5.alloc (.cells #[.int .i64 n, .string ⟨#[]⟩, .int .i64 0, .bool false, .bool false] 40)).alloc (.cells #[.int .i64 0, .string ⟨#[]⟩, .int .i64 0, .bool false, .bool false] 40))) := hide (bstep (balloc _ _) (balloc _ _))
  generalize (w5.alloc (.cells #[.int .i64 n, .string ⟨#[]⟩, .int .i64 0, .bool false, .bool false] 40)).alloc (.cells #[.int .i64 0, .string ⟨#[]⟩, .int .i64 0, .bool false, .bool false] 40) = W at *
  go_upto_region 20 with fail
  have S22 : Hid (Sc (w5.heap.size + 1) 0 ⟨#[]⟩ M.st0 W) := hide ⟨(unhide R22).b0, (unhide R22).b1, (unhide R22).b2, (unhide R22).b3, (unhide R22).b4, (unhide R22).g0, (unhide R22).g1, (unhide R22).g2, (unhide R22).g3, (unhide R22).g4⟩
  clear R22
  have S5 := hide ((unhide S5).on (unhide HW))
  have S11 := hide ((unhide S11).on (unhide HW))
  have S14 := hide ((unhide S14).on (unhide HW))
  have HB := hide (bstep (unhide HB) (unhide HW))
  clear HW
  obtain ⟨B21, hB21⟩ : ∃ B, w5.heap.size = B := ⟨_, rfl⟩
  rw [hB21] at S21 S22
  have plt := (unhide S5).lt
  have p0 : ∀ w', Below W.heap.size W w' → w'.cell? ⟨w.heap.size, 0, none⟩ = some (.int .i64 e) := fun w' h => (h.cell (p := ⟨w.heap.size, 0, none⟩) plt).trans (unhide S5).c0
  have p1 : ∀ w', Below W.heap.size W w' → w'.cell? ⟨w.heap.size, 1, none⟩ = some (.string r) := fun w' h => (h.cell (p := ⟨w.heap.size, 1, none⟩) plt).trans (unhide S5).c1
  have p2 : ∀ w', Below W.heap.size W w' → w'.cell? ⟨w.heap.size, 2, none⟩ = some (.int .i64 g) := fun w' h => (h.cell (p := ⟨w.heap.size, 2, none⟩) plt).trans (unhide S5).c2
  have p3 : ∀ w', Below W.heap.size W w' → w'.cell? ⟨w.heap.size, 3, none⟩ = some (.bool fr) := fun w' h => (h.cell (p := ⟨w.heap.size, 3, none⟩) plt).trans (unhide S5).c3
  have p4 : ∀ w', Below W.heap.size W w' → w'.cell? ⟨w.heap.size, 4, none⟩ = some (.bool st) := fun w' h => (h.cell (p := ⟨w.heap.size, 4, none⟩) plt).trans (unhide S5).c4
  have qlt := (unhide S11).lt
  have q0 : ∀ w', Below W.heap.size W w' → w'.cell? ⟨B11, 0, none⟩ = some (.int .i64 n) := fun w' h => (h.cell (p := ⟨B11, 0, none⟩) qlt).trans (unhide S11).c0
  have q1 : ∀ w', Below W.heap.size W w' → w'.cell? ⟨B11, 1, none⟩ = some (.string ⟨#[]⟩) := fun w' h => (h.cell (p := ⟨B11, 1, none⟩) qlt).trans (unhide S11).c1
  have q2 : ∀ w', Below W.heap.size W w' → w'.cell? ⟨B11, 2, none⟩ = some (.int .i64 0) := fun w' h => (h.cell (p := ⟨B11, 2, none⟩) qlt).trans (unhide S11).c2
  have q3 : ∀ w', Below W.heap.size W w' → w'.cell? ⟨B11, 3, none⟩ = some (.bool false) := fun w' h => (h.cell (p := ⟨B11, 3, none⟩) qlt).trans (unhide S11).c3
  have q4 : ∀ w', Below W.heap.size W w' → w'.cell? ⟨B11, 4, none⟩ = some (.bool false) := fun w' h => (h.cell (p := ⟨B11, 4, none⟩) qlt).trans (unhide S11).c4
  have xlt := (unhide S14).lt
  have x0 : ∀ w', Below W.heap.size W w' → w'.cell? ⟨B14, 0, none⟩ = some (.int .i64 0) := fun w' h => (h.cell (p := ⟨B14, 0, none⟩) xlt).trans (unhide S14).c0
  have x1 : ∀ w', Below W.heap.size W w' → w'.cell? ⟨B14, 1, none⟩ = some (.string ⟨#[]⟩) := fun w' h => (h.cell (p := ⟨B14, 1, none⟩) xlt).trans (unhide S14).c1
  have x2 : ∀ w', Below W.heap.size W w' → w'.cell? ⟨B14, 2, none⟩ = some (.int .i64 0) := fun w' h => (h.cell (p := ⟨B14, 2, none⟩) xlt).trans (unhide S14).c2
  have x3 : ∀ w', Below W.heap.size W w' → w'.cell? ⟨B14, 3, none⟩ = some (.bool false) := fun w' h => (h.cell (p := ⟨B14, 3, none⟩) xlt).trans (unhide S14).c3
  have x4 : ∀ w', Below W.heap.size W w' → w'.cell? ⟨B14, 4, none⟩ = some (.bool false) := fun w' h => (h.cell (p := ⟨B14, 4, none⟩) xlt).trans (unhide S14).c4
  have ylt := (unhide S21).lt
  have y0 : ∀ w', Below W.heap.size W w' → w'.cell? ⟨B21, 0, none⟩ = some (.int .i64 n) := fun w' h => (h.cell (p := ⟨B21, 0, none⟩) ylt).trans (unhide S21).c0
  have y1 : ∀ w', Below W.heap.size W w' → w'.cell? ⟨B21, 1, none⟩ = some (.string ⟨#[]⟩) := fun w' h => (h.cell (p := ⟨B21, 1, none⟩) ylt).trans (unhide S21).c1
  have y2 : ∀ w', Below W.heap.size W w' → w'.cell? ⟨B21, 2, none⟩ = some (.int .i64 0) := fun w' h => (h.cell (p := ⟨B21, 2, none⟩) ylt).trans (unhide S21).c2
  have y3 : ∀ w', Below W.heap.size W w' → w'.cell? ⟨B21, 3, none⟩ = some (.bool false) := fun w' h => (h.cell (p := ⟨B21, 3, none⟩) ylt).trans (unhide S21).c3
  have y4 : ∀ w', Below W.heap.size W w' → w'.cell? ⟨B21, 4, none⟩ = some (.bool false) := fun w' h => (h.cell (p := ⟨B21, 4, none⟩) ylt).trans (unhide S21).c4
  have zlt := (unhide S22).lt
  have z0 : ∀ w', Below W.heap.size W w' → w'.cell? ⟨(B21 + 1), 0, none⟩ = some (.int .i64 0) := fun w' h => (h.cell (p := ⟨(B21 + 1), 0, none⟩) zlt).trans (unhide S22).c0
  have z1 : ∀ w', Below W.heap.size W w' → w'.cell? ⟨(B21 + 1), 1, none⟩ = some (.string ⟨#[]⟩) := fun w' h => (h.cell (p := ⟨(B21 + 1), 1, none⟩) zlt).trans (unhide S22).c1
  have z2 : ∀ w', Below W.heap.size W w' → w'.cell? ⟨(B21 + 1), 2, none⟩ = some (.int .i64 0) := fun w' h => (h.cell (p := ⟨(B21 + 1), 2, none⟩) zlt).trans (unhide S22).c2
  have z3 : ∀ w', Below W.heap.size W w' → w'.cell? ⟨(B21 + 1), 3, none⟩ = some (.bool false) := fun w' h => (h.cell (p := ⟨(B21 + 1), 3, none⟩) zlt).trans (unhide S22).c3
  have z4 : ∀ w', Below W.heap.size W w' → w'.cell? ⟨(B21 + 1), 4, none⟩ = some (.bool false) := fun w' h => (h.cell (p := ⟨(B21 + 1), 4, none⟩) zlt).trans (unhide S22).c4
  clear S5 S11 S14 S21 S22
  go_region_held3 (fun w' => Below W.heap.size W w') (first | exact below_drewN (Below.refl _ _) 1 | assumption)
    ((first
      | (go_at_call 23; refine (begunT_any _).mono ?_; rintro e' z ⟨rfl, hz⟩; have hS := bstep (by assumption) hz; clear hz)
      | (go_at_call 24; refine (unhide CKH _).mono ?_; rintro e' z ⟨rfl, hz⟩; have hS := bstep (by assumption) hz; clear hz)
      | (go_at_call 21; refine (unhide CSH _).mono ?_; rintro e' z ⟨rfl, hz⟩; have hS := bstep (by assumption) hz; clear hz)
      | (go_at_call 15; refine (intsAre_err _ _ _ _ (by first | rfl | exact hq0) _).mono ?_; rintro e' z ⟨rfl, hz⟩; have hS := bstep (by assumption) hz; clear hz)))
  all_goals
    go_wp2_with fail
    go_ret
    exact ⟨ret_bool (by simp), bstep (unhide HB) (by assumption)⟩

set_option maxHeartbeats 4000000 in
set_option maxRecDepth 100000 in
theorem noshortright (n e : Int) (r : ByteArray) (g : Int) (fr st : Bool) (p : ByteArray) (last : Bool) (w : World) (hrm : r.size ≤ maxLen) (hpm : p.size ≤ maxLen) (hn : ¬ (1 ≤ n ∧ n ≤ 7)) (hp : p.size ≤ 3000) (hk : chk e r (g, fr, st) = 0) :
    Calls Try.prog 6 #[.int .i64 n, .agg #[.int .i64 e, .string r, .int .i64 g, .bool fr, .bool st], .string p, .bool last] w fun e' w' => e' = .returned (.bool true) ∧ Below w.heap.size w w' := by
  have CK := fun w => check_any e r (g, fr, st) w hrm
  have CS := fun w => checkState_any e r (g, fr, st) w hrm
  rw [hk] at CK CS
  have hok := chk_ok.1 hk
  have FD : ∀ w, Calls Try.prog 19 #[sv e r (g, fr, st), .string p, .bool last] w (Fed e r (g, fr, st) p last w) := by
    intro w
    cases last
    · exact feed_more e r (g, fr, st) p w hok.1 hok.2.1 hok.2.2 hp
    · exact feed_last e r (g, fr, st) p w hok.1 hok.2.1 hok.2.2 hp
  have FR := fun w => feedOf_any e r (g, fr, st) p last w hok.1 hok.2.2 (by have := hok.2.1.2; omega)
  clear hok
  have CKH := hide CK
  have CSH := hide CS
  have FDH := hide FD
  have FRH := hide FR
  clear FR
  clear CK CS FD hk
  unfold sv at CKH CSH FDH FRH
  unfold Fed sv at FDH
  unfold FedR sv at FRH
  go_enter Try.func6, Try.ntmps6
  go_wp2_with fail
  have S5 : Hid (Sc w.heap.size e r (g, fr, st) (w.alloc (.cells #[.int .i64 e, .string r, .int .i64 g, .bool fr, .bool st] 40))) := hide (Sc.new w e r (g, fr, st))
  have HB : Hid (Below w.heap.size w (w.alloc (.cells #[.int .i64 e, .string r, .int .i64 g, .bool fr, .bool st] 40))) := hide (balloc _ _)
  refine (sdecode_kind n p _ hn).mono ?_
  rintro e' w1 ⟨rfl, hw⟩
  have hb1 : Below (w.alloc (.cells #[.int .i64 e, .string r, .int .i64 g, .bool fr, .bool st] 40)).heap.size (w.alloc (.cells #[.int .i64 e, .string r, .int .i64 g, .bool fr, .bool st] 40)) w1 := by rw [hw]; exact Below.refl _ _
  clear hw
  have S5 := hide ((unhide S5).on hb1)
  have HB := hide (bstep (unhide HB) hb1)
  clear hb1
  go_wp2_with fail
  refine (open_no n _ hn).mono ?_
  rintro e' w2 ⟨rfl, hb2⟩
  have hst := bstep hb2 (balloc w2 (.cells #[.int .i64 0, .string ⟨#[]⟩, .int .i64 0, .bool false, .bool false] 40))
  have S5 := hide ((unhide S5).on hst)
  have HB := hide (bstep (unhide HB) hst)
  have S11 : Hid (Sc w2.heap.size 0 ⟨#[]⟩ M.st0 (w2.alloc (.cells #[.int .i64 0, .string ⟨#[]⟩, .int .i64 0, .bool false, .bool false] 40))) := hide (Sc.new w2 0 ⟨#[]⟩ M.st0)
  clear hb2 hst
  obtain ⟨B11, hB11⟩ : ∃ B, w2.heap.size = B := ⟨_, rfl⟩
  rw [hB11] at S11
  unfold sv M.st0
  go_upto_region 3 with fail
  generalize w2.alloc (.cells #[.int .i64 0, .string ⟨#[]⟩, .int .i64 0, .bool false, .bool false] 40) = W2 at *
  clear hB11
  have hl5 := (unhide S5).lt
  obtain ⟨c0, c1, c2, c3, c4, -, -, -, -, -⟩ := unhide S5
  go_wp2_with fail
  refine (unhide FDH _).mono ?_
  rintro e' w3 ⟨v3, r3, t3, L3, rfl, hI3, hb3, k1, k2⟩
  obtain ⟨a3, c3', hs3⟩ := owns_shape hI3
  subst hs3
  have I3 := hide (Ints.of_owns hI3)
  have K1 := hide k1
  have K2 := hide k2
  clear hI3 k1 k2
  clear c0 c1 c2 c3 c4 hl5
  have hst := bstep hb3 (balloc w3 (.cells #[.int .i64 e, .string r3, .int .i64 t3.1, .bool t3.2.1, .bool t3.2.2] 40))
  have S5 := hide ((unhide S5).on hst)
  have S11 := hide ((unhide S11).on hst)
  have HB := hide (bstep (unhide HB) hst)
  have I3 := hide ((unhide I3).below (balloc w3 (.cells #[.int .i64 e, .string r3, .int .i64 t3.1, .bool t3.2.1, .bool t3.2.2] 40)))
  have S14 : Hid (Sc w3.heap.size e r3 t3 (w3.alloc (.cells #[.int .i64 e, .string r3, .int .i64 t3.1, .bool t3.2.1, .bool t3.2.2] 40))) := hide (Sc.new w3 e r3 t3)
  clear hb3 hst
  obtain ⟨B14, hB14⟩ : ∃ B, w3.heap.size = B := ⟨_, rfl⟩
  rw [hB14] at S14
  skip
  go_upto_region 4 with fail
  generalize w3.alloc (.cells #[.int .i64 e, .string r3, .int .i64 t3.1, .bool t3.2.1, .bool t3.2.2] 40) = W3 at *
  clear hB14
  have hl5 := (unhide S5).lt
  obtain ⟨c0, c1, c2, c3, c4, -, -, -, -, -⟩ := unhide S5
  go_wp2_with fail
  refine (isEncoding_no n _ hn).mono ?_
  rintro e' w9 ⟨rfl, hw9⟩
  replace hw9 := hw9.symm
  subst hw9
  go_wp2_with fail
  refine (unhide CSH _).mono ?_
  rintro e' w5 ⟨rfl, hb5⟩
  clear c0 c1 c2 c3 c4 hl5
  have S5 := hide ((unhide S5).on hb5)
  have S11 := hide ((unhide S11).on hb5)
  have S14 := hide ((unhide S14).on hb5)
  have I3 := hide ((unhide I3).below hb5)
  have HB := hide (bstep (unhide HB) hb5)
  clear hb5
  go_wp2_with fail
  refine (tooLong_no p _ hp).mono ?_
  rintro e' w9 ⟨rfl, hw9⟩
  replace hw9 := hw9.symm
  subst hw9
  go_upto_region 18 with fail
  have S21 : Hid (Sc w5.heap.size 0 ⟨#[]⟩ M.st0 ((w5.alloc (.cells #[.int .i64 0, .string ⟨#[]⟩, .int .i64 0, .bool false, .bool false] 40)).alloc (.cells #[.int .i64 0, .string ⟨#[]⟩, .int .i64 0, .bool false, .bool false] 40))) := hide (by constructor <;> simp [go_sem, M.st0])
  have R22 : Hid (Rc (w5.heap.size + 1) ((w5.alloc (.cells #[.int .i64 0, .string ⟨#[]⟩, .int .i64 0, .bool false, .bool false] 40)).alloc (.cells #[.int .i64 0, .string ⟨#[]⟩, .int .i64 0, .bool false, .bool false] 40))) := hide (by constructor <;> simp [go_sem])
  have HW : Hid (Below w5.heap.size w5 ((w5.alloc (.cells #[.int .i64 0, .string ⟨#[]⟩, .int .i64 0, .bool false, .bool false] 40)).alloc (.cells #[.int .i64 0, .string ⟨#[]⟩, .int .i64 0, .bool false, .bool false] 40))) := hide (bstep (balloc _ _) (balloc _ _))
  generalize (w5.alloc (.cells #[.int .i64 0, .string ⟨#[]⟩, .int .i64 0, .bool false, .bool false] 40)).alloc (.cells #[.int .i64 0, .string ⟨#[]⟩, .int .i64 0, .bool false, .bool false] 40) = W6 at *
  have hS5 := (unhide S5).on (unhide HW)
  have hl5 := hS5.lt
  obtain ⟨c0, c1, c2, c3, c4, -, -, -, -, -⟩ := hS5
  go_wp2_with fail
  refine (unhide FRH _).mono ?_
  rintro e' w7 ⟨v7, r7, t7, L7, rfl, hI7, hb7, k1, k2⟩
  have heq : L7 = L3 ∧ r7 = r3 ∧ t7 = t3 := by
    cases last
    · obtain ⟨x1, x2, x3⟩ := k1 rfl
      obtain ⟨y1, y2, y3⟩ := unhide K1 rfl
      exact ⟨x1.trans y1.symm, by rw [bl_inj x2, bl_inj y2], x3.trans y3.symm⟩
    · obtain ⟨x1, x2, x3⟩ := k2 rfl
      obtain ⟨y1, y2, y3⟩ := unhide K2 rfl
      exact ⟨x1.trans y1.symm, x2.trans y2.symm, x3.trans y3.symm⟩
  obtain ⟨h1, h2, h3⟩ := heq
  subst h1 h2 h3
  clear k1 k2 K1 K2 c0 c1 c2 c3 c4 hl5
  obtain ⟨a7, c7, hs7⟩ := owns_shape hI7
  subst hs7
  have hz6 : w5.heap.size + 1 < W6.heap.size := World.block_lt_of_cell? W6 _ (unhide R22).b0
  have O7 := hide hI7
  have S21 := hide ((unhide S21).on hb7)
  have R22 := hide ((unhide R22).below hb7 (World.block_lt_of_cell? W6 _ (unhide R22).b0))
  have HW := hide (bstep (unhide HW) hb7)
  clear hb7 hI7
  obtain ⟨b0, b1, b2, b3, b4, g0, g1, g2, g3, g4⟩ := unhide R22
  have hl7 : w5.heap.size + 1 < w7.heap.size := World.block_lt_of_cell? w7 _ b0
  go_upto_region 20 with fail
  have S22 : Hid (Sc (w5.heap.size + 1) e r7 t7 (((((w7.setCell ⟨w5.heap.size + 1, 0, none⟩ (.int .i64 e)).setCell ⟨w5.heap.size + 1, 1, none⟩ (.string r7)).setCell ⟨w5.heap.size + 1, 2, none⟩ (.int .i64 t7.1)).setCell ⟨w5.heap.size + 1, 3, none⟩ (.bool t7.2.1)).setCell ⟨w5.heap.size + 1, 4, none⟩ (.bool t7.2.2))) := hide (Sc.put (unhide R22) e r7 t7)
  have S21 : Hid (Sc w5.heap.size 0 ⟨#[]⟩ M.st0 (((((w7.setCell ⟨w5.heap.size + 1, 0, none⟩ (.int .i64 e)).setCell ⟨w5.heap.size + 1, 1, none⟩ (.string r7)).setCell ⟨w5.heap.size + 1, 2, none⟩ (.int .i64 t7.1)).setCell ⟨w5.heap.size + 1, 3, none⟩ (.bool t7.2.1)).setCell ⟨w5.heap.size + 1, 4, none⟩ (.bool t7.2.2))) := hide ((unhide S21).below (bset5 (e := e) (r := r7) (t := t7) (Below.refl (w5.heap.size + 1) w7) (Nat.le_refl _)) (by omega))
  have O7 : Hid ((((((w7.setCell ⟨w5.heap.size + 1, 0, none⟩ (.int .i64 e)).setCell ⟨w5.heap.size + 1, 1, none⟩ (.string r7)).setCell ⟨w5.heap.size + 1, 2, none⟩ (.int .i64 t7.1)).setCell ⟨w5.heap.size + 1, 3, none⟩ (.bool t7.2.1)).setCell ⟨w5.heap.size + 1, 4, none⟩ (.bool t7.2.2)).ownsRow W6.heap.size 3 1 (.slice a7 L7.length c7) L7.length (L7.map (Value.int .i64))) := hide (oset5 (unhide O7) hz6)
  have HW : Hid (Below w5.heap.size w5 (((((w7.setCell ⟨w5.heap.size + 1, 0, none⟩ (.int .i64 e)).setCell ⟨w5.heap.size + 1, 1, none⟩ (.string r7)).setCell ⟨w5.heap.size + 1, 2, none⟩ (.int .i64 t7.1)).setCell ⟨w5.heap.size + 1, 3, none⟩ (.bool t7.2.1)).setCell ⟨w5.heap.size + 1, 4, none⟩ (.bool t7.2.2))) := hide (bset5 (unhide HW) (by omega))
  clear b0 b1 b2 b3 b4 g0 g1 g2 g3 g4 hl7 R22 hz6
  generalize ((((w7.setCell ⟨w5.heap.size + 1, 0, none⟩ (.int .i64 e)).setCell ⟨w5.heap.size + 1, 1, none⟩ (.string r7)).setCell ⟨w5.heap.size + 1, 2, none⟩ (.int .i64 t7.1)).setCell ⟨w5.heap.size + 1, 3, none⟩ (.bool t7.2.1)).setCell ⟨w5.heap.size + 1, 4, none⟩ (.bool t7.2.2) = W at *
  have S5 := hide ((unhide S5).on (unhide HW))
  have S11 := hide ((unhide S11).on (unhide HW))
  have S14 := hide ((unhide S14).on (unhide HW))
  have I3 := hide ((unhide I3).below (unhide HW))
  have P3 := hide (Ints.of_owns (unhide O7))
  clear O7
  have HB := hide (bstep (unhide HB) (unhide HW))
  clear HW
  obtain ⟨B21, hB21⟩ : ∃ B, w5.heap.size = B := ⟨_, rfl⟩
  rw [hB21] at S21 S22
  have plt := (unhide S5).lt
  have p0 : ∀ w', Below W.heap.size W w' → w'.cell? ⟨w.heap.size, 0, none⟩ = some (.int .i64 e) := fun w' h => (h.cell (p := ⟨w.heap.size, 0, none⟩) plt).trans (unhide S5).c0
  have p1 : ∀ w', Below W.heap.size W w' → w'.cell? ⟨w.heap.size, 1, none⟩ = some (.string r) := fun w' h => (h.cell (p := ⟨w.heap.size, 1, none⟩) plt).trans (unhide S5).c1
  have p2 : ∀ w', Below W.heap.size W w' → w'.cell? ⟨w.heap.size, 2, none⟩ = some (.int .i64 g) := fun w' h => (h.cell (p := ⟨w.heap.size, 2, none⟩) plt).trans (unhide S5).c2
  have p3 : ∀ w', Below W.heap.size W w' → w'.cell? ⟨w.heap.size, 3, none⟩ = some (.bool fr) := fun w' h => (h.cell (p := ⟨w.heap.size, 3, none⟩) plt).trans (unhide S5).c3
  have p4 : ∀ w', Below W.heap.size W w' → w'.cell? ⟨w.heap.size, 4, none⟩ = some (.bool st) := fun w' h => (h.cell (p := ⟨w.heap.size, 4, none⟩) plt).trans (unhide S5).c4
  have qlt := (unhide S11).lt
  have q0 : ∀ w', Below W.heap.size W w' → w'.cell? ⟨B11, 0, none⟩ = some (.int .i64 0) := fun w' h => (h.cell (p := ⟨B11, 0, none⟩) qlt).trans (unhide S11).c0
  have q1 : ∀ w', Below W.heap.size W w' → w'.cell? ⟨B11, 1, none⟩ = some (.string ⟨#[]⟩) := fun w' h => (h.cell (p := ⟨B11, 1, none⟩) qlt).trans (unhide S11).c1
  have q2 : ∀ w', Below W.heap.size W w' → w'.cell? ⟨B11, 2, none⟩ = some (.int .i64 0) := fun w' h => (h.cell (p := ⟨B11, 2, none⟩) qlt).trans (unhide S11).c2
  have q3 : ∀ w', Below W.heap.size W w' → w'.cell? ⟨B11, 3, none⟩ = some (.bool false) := fun w' h => (h.cell (p := ⟨B11, 3, none⟩) qlt).trans (unhide S11).c3
  have q4 : ∀ w', Below W.heap.size W w' → w'.cell? ⟨B11, 4, none⟩ = some (.bool false) := fun w' h => (h.cell (p := ⟨B11, 4, none⟩) qlt).trans (unhide S11).c4
  have xlt := (unhide S14).lt
  have x0 : ∀ w', Below W.heap.size W w' → w'.cell? ⟨B14, 0, none⟩ = some (.int .i64 e) := fun w' h => (h.cell (p := ⟨B14, 0, none⟩) xlt).trans (unhide S14).c0
  have x1 : ∀ w', Below W.heap.size W w' → w'.cell? ⟨B14, 1, none⟩ = some (.string r7) := fun w' h => (h.cell (p := ⟨B14, 1, none⟩) xlt).trans (unhide S14).c1
  have x2 : ∀ w', Below W.heap.size W w' → w'.cell? ⟨B14, 2, none⟩ = some (.int .i64 t7.1) := fun w' h => (h.cell (p := ⟨B14, 2, none⟩) xlt).trans (unhide S14).c2
  have x3 : ∀ w', Below W.heap.size W w' → w'.cell? ⟨B14, 3, none⟩ = some (.bool t7.2.1) := fun w' h => (h.cell (p := ⟨B14, 3, none⟩) xlt).trans (unhide S14).c3
  have x4 : ∀ w', Below W.heap.size W w' → w'.cell? ⟨B14, 4, none⟩ = some (.bool t7.2.2) := fun w' h => (h.cell (p := ⟨B14, 4, none⟩) xlt).trans (unhide S14).c4
  have ylt := (unhide S21).lt
  have y0 : ∀ w', Below W.heap.size W w' → w'.cell? ⟨B21, 0, none⟩ = some (.int .i64 0) := fun w' h => (h.cell (p := ⟨B21, 0, none⟩) ylt).trans (unhide S21).c0
  have y1 : ∀ w', Below W.heap.size W w' → w'.cell? ⟨B21, 1, none⟩ = some (.string ⟨#[]⟩) := fun w' h => (h.cell (p := ⟨B21, 1, none⟩) ylt).trans (unhide S21).c1
  have y2 : ∀ w', Below W.heap.size W w' → w'.cell? ⟨B21, 2, none⟩ = some (.int .i64 0) := fun w' h => (h.cell (p := ⟨B21, 2, none⟩) ylt).trans (unhide S21).c2
  have y3 : ∀ w', Below W.heap.size W w' → w'.cell? ⟨B21, 3, none⟩ = some (.bool false) := fun w' h => (h.cell (p := ⟨B21, 3, none⟩) ylt).trans (unhide S21).c3
  have y4 : ∀ w', Below W.heap.size W w' → w'.cell? ⟨B21, 4, none⟩ = some (.bool false) := fun w' h => (h.cell (p := ⟨B21, 4, none⟩) ylt).trans (unhide S21).c4
  have zlt := (unhide S22).lt
  have z0 : ∀ w', Below W.heap.size W w' → w'.cell? ⟨(B21 + 1), 0, none⟩ = some (.int .i64 e) := fun w' h => (h.cell (p := ⟨(B21 + 1), 0, none⟩) zlt).trans (unhide S22).c0
  have z1 : ∀ w', Below W.heap.size W w' → w'.cell? ⟨(B21 + 1), 1, none⟩ = some (.string r7) := fun w' h => (h.cell (p := ⟨(B21 + 1), 1, none⟩) zlt).trans (unhide S22).c1
  have z2 : ∀ w', Below W.heap.size W w' → w'.cell? ⟨(B21 + 1), 2, none⟩ = some (.int .i64 t7.1) := fun w' h => (h.cell (p := ⟨(B21 + 1), 2, none⟩) zlt).trans (unhide S22).c2
  have z3 : ∀ w', Below W.heap.size W w' → w'.cell? ⟨(B21 + 1), 3, none⟩ = some (.bool t7.2.1) := fun w' h => (h.cell (p := ⟨(B21 + 1), 3, none⟩) zlt).trans (unhide S22).c3
  have z4 : ∀ w', Below W.heap.size W w' → w'.cell? ⟨(B21 + 1), 4, none⟩ = some (.bool t7.2.2) := fun w' h => (h.cell (p := ⟨(B21 + 1), 4, none⟩) zlt).trans (unhide S22).c4
  clear S5 S11 S14 S21 S22
  go_region_held3 (fun w' => Below W.heap.size W w') (first | exact below_drewN (Below.refl _ _) 1 | assumption)
    ((first
      | (go_at_call 23; refine (begunT_any _).mono ?_; rintro e' z ⟨rfl, hz⟩; have hS := bstep (by assumption) hz; clear hz)
      | (go_at_call 24; refine (unhide CKH _).mono ?_; rintro e' z ⟨rfl, hz⟩; have hS := bstep (by assumption) hz; clear hz)
      | (go_at_call 21; refine (unhide CSH _).mono ?_; rintro e' z ⟨rfl, hz⟩; have hS := bstep (by assumption) hz; clear hz)
      | (go_at_call_of 15 (Value.slice a3 L7.length c3'); refine (intsAre_ok _ ((unhide I3).below (by assumption)) ((unhide P3).below (by assumption))).mono ?_; rintro e' z ⟨rfl, hz⟩; have hS := bstep (by assumption) hz; clear hz)
      | (go_at_call 15; refine (intsAre_err _ _ _ _ (by first | rfl) _).mono ?_; rintro e' z ⟨rfl, hz⟩; have hS := bstep (by assumption) hz; clear hz)))
  all_goals
    go_wp2_with fail
    go_ret
    exact ⟨ret_bool (by simp), bstep (unhide HB) (by assumption)⟩

set_option maxHeartbeats 4000000 in
set_option maxRecDepth 100000 in
theorem noshortwrong (n e : Int) (r : ByteArray) (g : Int) (fr st : Bool) (p : ByteArray) (last : Bool) (w : World) (hrm : r.size ≤ maxLen) (hpm : p.size ≤ maxLen) (hn : ¬ (1 ≤ n ∧ n ≤ 7)) (hp : p.size ≤ 3000) (hk : chk e r (g, fr, st) ≠ 0) :
    Calls Try.prog 6 #[.int .i64 n, .agg #[.int .i64 e, .string r, .int .i64 g, .bool fr, .bool st], .string p, .bool last] w fun e' w' => e' = .returned (.bool true) ∧ Below w.heap.size w w' := by
  have CK := fun w => check_any e r (g, fr, st) w hrm
  have CS := fun w => checkState_any e r (g, fr, st) w hrm
  have FD := fun w => feed_err e r (g, fr, st) p last w hrm (by simpa using hk)
  obtain ⟨q, HQ⟩ : ∃ q, Hid (chk e r (g, fr, st) = q) := ⟨_, hide rfl⟩
  rw [unhide HQ] at CK CS FD hk
  have hq0 : (q == 0) = false := by simpa using hk
  have CKH := hide CK
  have CSH := hide CS
  have FDH := hide FD
  clear CK CS FD hk
  unfold sv at CKH CSH FDH
  go_enter Try.func6, Try.ntmps6
  go_wp2_with fail
  have S5 : Hid (Sc w.heap.size e r (g, fr, st) (w.alloc (.cells #[.int .i64 e, .string r, .int .i64 g, .bool fr, .bool st] 40))) := hide (Sc.new w e r (g, fr, st))
  have HB : Hid (Below w.heap.size w (w.alloc (.cells #[.int .i64 e, .string r, .int .i64 g, .bool fr, .bool st] 40))) := hide (balloc _ _)
  refine (sdecode_kind n p _ hn).mono ?_
  rintro e' w1 ⟨rfl, hw⟩
  have hb1 : Below (w.alloc (.cells #[.int .i64 e, .string r, .int .i64 g, .bool fr, .bool st] 40)).heap.size (w.alloc (.cells #[.int .i64 e, .string r, .int .i64 g, .bool fr, .bool st] 40)) w1 := by rw [hw]; exact Below.refl _ _
  clear hw
  have S5 := hide ((unhide S5).on hb1)
  have HB := hide (bstep (unhide HB) hb1)
  clear hb1
  go_wp2_with fail
  refine (open_no n _ hn).mono ?_
  rintro e' w2 ⟨rfl, hb2⟩
  have hst := bstep hb2 (balloc w2 (.cells #[.int .i64 0, .string ⟨#[]⟩, .int .i64 0, .bool false, .bool false] 40))
  have S5 := hide ((unhide S5).on hst)
  have HB := hide (bstep (unhide HB) hst)
  have S11 : Hid (Sc w2.heap.size 0 ⟨#[]⟩ M.st0 (w2.alloc (.cells #[.int .i64 0, .string ⟨#[]⟩, .int .i64 0, .bool false, .bool false] 40))) := hide (Sc.new w2 0 ⟨#[]⟩ M.st0)
  clear hb2 hst
  obtain ⟨B11, hB11⟩ : ∃ B, w2.heap.size = B := ⟨_, rfl⟩
  rw [hB11] at S11
  unfold sv M.st0
  go_upto_region 3 with fail
  generalize w2.alloc (.cells #[.int .i64 0, .string ⟨#[]⟩, .int .i64 0, .bool false, .bool false] 40) = W2 at *
  clear hB11
  have hl5 := (unhide S5).lt
  obtain ⟨c0, c1, c2, c3, c4, -, -, -, -, -⟩ := unhide S5
  go_wp2_with fail
  refine (unhide FDH _).mono ?_
  rintro e' w3 ⟨rfl, hb3⟩
  clear c0 c1 c2 c3 c4 hl5
  have hst := bstep hb3 (balloc w3 (.cells #[.int .i64 0, .string ⟨#[]⟩, .int .i64 0, .bool false, .bool false] 40))
  have S5 := hide ((unhide S5).on hst)
  have S11 := hide ((unhide S11).on hst)
  have HB := hide (bstep (unhide HB) hst)
  have S14 : Hid (Sc w3.heap.size 0 ⟨#[]⟩ M.st0 (w3.alloc (.cells #[.int .i64 0, .string ⟨#[]⟩, .int .i64 0, .bool false, .bool false] 40))) := hide (Sc.new w3 0 ⟨#[]⟩ M.st0)
  clear hb3 hst
  obtain ⟨B14, hB14⟩ : ∃ B, w3.heap.size = B := ⟨_, rfl⟩
  rw [hB14] at S14
  try unfold M.st0
  go_upto_region 4 with fail
  generalize w3.alloc (.cells #[.int .i64 0, .string ⟨#[]⟩, .int .i64 0, .bool false, .bool false] 40) = W3 at *
  clear hB14
  have hl5 := (unhide S5).lt
  obtain ⟨c0, c1, c2, c3, c4, -, -, -, -, -⟩ := unhide S5
  go_wp2_with fail
  refine (isEncoding_no n _ hn).mono ?_
  rintro e' w9 ⟨rfl, hw9⟩
  replace hw9 := hw9.symm
  subst hw9
  go_wp2_with fail
  refine (unhide CSH _).mono ?_
  rintro e' w5 ⟨rfl, hb5⟩
  clear c0 c1 c2 c3 c4 hl5
  have S5 := hide ((unhide S5).on hb5)
  have S11 := hide ((unhide S11).on hb5)
  have S14 := hide ((unhide S14).on hb5)
  have HB := hide (bstep (unhide HB) hb5)
  clear hb5
  go_upto_region 18 with fail
  have S21 : Hid (Sc w5.heap.size 0 ⟨#[]⟩ M.st0 ((w5.alloc (.cells #[.int .i64 0, .string ⟨#[]⟩, .int .i64 0, .bool false, .bool false] 40)).alloc (.cells #[.int .i64 0, .string ⟨#[]⟩, .int .i64 0, .bool false, .bool false] 40))) := hide (by constructor <;> simp [go_sem, M.st0])
  have R22 : Hid (Rc (w5.heap.size + 1) ((w5.alloc (.cells #[.int .i64 0, .string ⟨#[]⟩, .int .i64 0, .bool false, .bool false] 40)).alloc (.cells #[.int .i64 0, .string ⟨#[]⟩, .int .i64 0, .bool false, .bool false] 40))) := hide (by constructor <;> simp [go_sem])
  have HW : Hid (Below w5.heap.size w5 ((w5.alloc (.cells #[.int .i64 0, .string ⟨#[]⟩, .int .i64 0, .bool false, .bool false] 40)).alloc (.cells #[.int .i64 0, .string ⟨#[]⟩, .int .i64 0, .bool false, .bool false] 40))) := hide (bstep (balloc _ _) (balloc _ _))
  generalize (w5.alloc (.cells #[.int .i64 0, .string ⟨#[]⟩, .int .i64 0, .bool false, .bool false] 40)).alloc (.cells #[.int .i64 0, .string ⟨#[]⟩, .int .i64 0, .bool false, .bool false] 40) = W at *
  go_upto_region 20 with fail
  have S22 : Hid (Sc (w5.heap.size + 1) 0 ⟨#[]⟩ M.st0 W) := hide ⟨(unhide R22).b0, (unhide R22).b1, (unhide R22).b2, (unhide R22).b3, (unhide R22).b4, (unhide R22).g0, (unhide R22).g1, (unhide R22).g2, (unhide R22).g3, (unhide R22).g4⟩
  clear R22
  have S5 := hide ((unhide S5).on (unhide HW))
  have S11 := hide ((unhide S11).on (unhide HW))
  have S14 := hide ((unhide S14).on (unhide HW))
  have HB := hide (bstep (unhide HB) (unhide HW))
  clear HW
  obtain ⟨B21, hB21⟩ : ∃ B, w5.heap.size = B := ⟨_, rfl⟩
  rw [hB21] at S21 S22
  have plt := (unhide S5).lt
  have p0 : ∀ w', Below W.heap.size W w' → w'.cell? ⟨w.heap.size, 0, none⟩ = some (.int .i64 e) := fun w' h => (h.cell (p := ⟨w.heap.size, 0, none⟩) plt).trans (unhide S5).c0
  have p1 : ∀ w', Below W.heap.size W w' → w'.cell? ⟨w.heap.size, 1, none⟩ = some (.string r) := fun w' h => (h.cell (p := ⟨w.heap.size, 1, none⟩) plt).trans (unhide S5).c1
  have p2 : ∀ w', Below W.heap.size W w' → w'.cell? ⟨w.heap.size, 2, none⟩ = some (.int .i64 g) := fun w' h => (h.cell (p := ⟨w.heap.size, 2, none⟩) plt).trans (unhide S5).c2
  have p3 : ∀ w', Below W.heap.size W w' → w'.cell? ⟨w.heap.size, 3, none⟩ = some (.bool fr) := fun w' h => (h.cell (p := ⟨w.heap.size, 3, none⟩) plt).trans (unhide S5).c3
  have p4 : ∀ w', Below W.heap.size W w' → w'.cell? ⟨w.heap.size, 4, none⟩ = some (.bool st) := fun w' h => (h.cell (p := ⟨w.heap.size, 4, none⟩) plt).trans (unhide S5).c4
  have qlt := (unhide S11).lt
  have q0 : ∀ w', Below W.heap.size W w' → w'.cell? ⟨B11, 0, none⟩ = some (.int .i64 0) := fun w' h => (h.cell (p := ⟨B11, 0, none⟩) qlt).trans (unhide S11).c0
  have q1 : ∀ w', Below W.heap.size W w' → w'.cell? ⟨B11, 1, none⟩ = some (.string ⟨#[]⟩) := fun w' h => (h.cell (p := ⟨B11, 1, none⟩) qlt).trans (unhide S11).c1
  have q2 : ∀ w', Below W.heap.size W w' → w'.cell? ⟨B11, 2, none⟩ = some (.int .i64 0) := fun w' h => (h.cell (p := ⟨B11, 2, none⟩) qlt).trans (unhide S11).c2
  have q3 : ∀ w', Below W.heap.size W w' → w'.cell? ⟨B11, 3, none⟩ = some (.bool false) := fun w' h => (h.cell (p := ⟨B11, 3, none⟩) qlt).trans (unhide S11).c3
  have q4 : ∀ w', Below W.heap.size W w' → w'.cell? ⟨B11, 4, none⟩ = some (.bool false) := fun w' h => (h.cell (p := ⟨B11, 4, none⟩) qlt).trans (unhide S11).c4
  have xlt := (unhide S14).lt
  have x0 : ∀ w', Below W.heap.size W w' → w'.cell? ⟨B14, 0, none⟩ = some (.int .i64 0) := fun w' h => (h.cell (p := ⟨B14, 0, none⟩) xlt).trans (unhide S14).c0
  have x1 : ∀ w', Below W.heap.size W w' → w'.cell? ⟨B14, 1, none⟩ = some (.string ⟨#[]⟩) := fun w' h => (h.cell (p := ⟨B14, 1, none⟩) xlt).trans (unhide S14).c1
  have x2 : ∀ w', Below W.heap.size W w' → w'.cell? ⟨B14, 2, none⟩ = some (.int .i64 0) := fun w' h => (h.cell (p := ⟨B14, 2, none⟩) xlt).trans (unhide S14).c2
  have x3 : ∀ w', Below W.heap.size W w' → w'.cell? ⟨B14, 3, none⟩ = some (.bool false) := fun w' h => (h.cell (p := ⟨B14, 3, none⟩) xlt).trans (unhide S14).c3
  have x4 : ∀ w', Below W.heap.size W w' → w'.cell? ⟨B14, 4, none⟩ = some (.bool false) := fun w' h => (h.cell (p := ⟨B14, 4, none⟩) xlt).trans (unhide S14).c4
  have ylt := (unhide S21).lt
  have y0 : ∀ w', Below W.heap.size W w' → w'.cell? ⟨B21, 0, none⟩ = some (.int .i64 0) := fun w' h => (h.cell (p := ⟨B21, 0, none⟩) ylt).trans (unhide S21).c0
  have y1 : ∀ w', Below W.heap.size W w' → w'.cell? ⟨B21, 1, none⟩ = some (.string ⟨#[]⟩) := fun w' h => (h.cell (p := ⟨B21, 1, none⟩) ylt).trans (unhide S21).c1
  have y2 : ∀ w', Below W.heap.size W w' → w'.cell? ⟨B21, 2, none⟩ = some (.int .i64 0) := fun w' h => (h.cell (p := ⟨B21, 2, none⟩) ylt).trans (unhide S21).c2
  have y3 : ∀ w', Below W.heap.size W w' → w'.cell? ⟨B21, 3, none⟩ = some (.bool false) := fun w' h => (h.cell (p := ⟨B21, 3, none⟩) ylt).trans (unhide S21).c3
  have y4 : ∀ w', Below W.heap.size W w' → w'.cell? ⟨B21, 4, none⟩ = some (.bool false) := fun w' h => (h.cell (p := ⟨B21, 4, none⟩) ylt).trans (unhide S21).c4
  have zlt := (unhide S22).lt
  have z0 : ∀ w', Below W.heap.size W w' → w'.cell? ⟨(B21 + 1), 0, none⟩ = some (.int .i64 0) := fun w' h => (h.cell (p := ⟨(B21 + 1), 0, none⟩) zlt).trans (unhide S22).c0
  have z1 : ∀ w', Below W.heap.size W w' → w'.cell? ⟨(B21 + 1), 1, none⟩ = some (.string ⟨#[]⟩) := fun w' h => (h.cell (p := ⟨(B21 + 1), 1, none⟩) zlt).trans (unhide S22).c1
  have z2 : ∀ w', Below W.heap.size W w' → w'.cell? ⟨(B21 + 1), 2, none⟩ = some (.int .i64 0) := fun w' h => (h.cell (p := ⟨(B21 + 1), 2, none⟩) zlt).trans (unhide S22).c2
  have z3 : ∀ w', Below W.heap.size W w' → w'.cell? ⟨(B21 + 1), 3, none⟩ = some (.bool false) := fun w' h => (h.cell (p := ⟨(B21 + 1), 3, none⟩) zlt).trans (unhide S22).c3
  have z4 : ∀ w', Below W.heap.size W w' → w'.cell? ⟨(B21 + 1), 4, none⟩ = some (.bool false) := fun w' h => (h.cell (p := ⟨(B21 + 1), 4, none⟩) zlt).trans (unhide S22).c4
  clear S5 S11 S14 S21 S22
  go_region_held3 (fun w' => Below W.heap.size W w') (first | exact below_drewN (Below.refl _ _) 1 | assumption)
    ((first
      | (go_at_call 23; refine (begunT_any _).mono ?_; rintro e' z ⟨rfl, hz⟩; have hS := bstep (by assumption) hz; clear hz)
      | (go_at_call 24; refine (unhide CKH _).mono ?_; rintro e' z ⟨rfl, hz⟩; have hS := bstep (by assumption) hz; clear hz)
      | (go_at_call 21; refine (unhide CSH _).mono ?_; rintro e' z ⟨rfl, hz⟩; have hS := bstep (by assumption) hz; clear hz)
      | (go_at_call 15; refine (intsAre_err _ _ _ _ (by first | rfl | exact hq0) _).mono ?_; rintro e' z ⟨rfl, hz⟩; have hS := bstep (by assumption) hz; clear hz)))
  all_goals
    go_wp2_with fail
    go_ret
    exact ⟨ret_bool (by simp), bstep (unhide HB) (by assumption)⟩

set_option maxHeartbeats 4000000 in
set_option maxRecDepth 100000 in
theorem nolongright (n e : Int) (r : ByteArray) (g : Int) (fr st : Bool) (p : ByteArray) (last : Bool) (w : World) (hrm : r.size ≤ maxLen) (hpm : p.size ≤ maxLen) (hn : ¬ (1 ≤ n ∧ n ≤ 7)) (hp : 3000 < p.size) (hk : chk e r (g, fr, st) = 0) :
    Calls Try.prog 6 #[.int .i64 n, .agg #[.int .i64 e, .string r, .int .i64 g, .bool fr, .bool st], .string p, .bool last] w fun e' w' => e' = .returned (.bool true) ∧ Below w.heap.size w w' := by
  have CK := fun w => check_any e r (g, fr, st) w hrm
  have CS := fun w => checkState_any e r (g, fr, st) w hrm
  rw [hk] at CK CS
  have FD := fun w => feed_long e r (g, fr, st) p last w hrm hk hp hpm
  have CKH := hide CK
  have CSH := hide CS
  have FDH := hide FD
  clear CK CS FD hk
  unfold sv at CKH CSH FDH
  go_enter Try.func6, Try.ntmps6
  go_wp2_with fail
  have S5 : Hid (Sc w.heap.size e r (g, fr, st) (w.alloc (.cells #[.int .i64 e, .string r, .int .i64 g, .bool fr, .bool st] 40))) := hide (Sc.new w e r (g, fr, st))
  have HB : Hid (Below w.heap.size w (w.alloc (.cells #[.int .i64 e, .string r, .int .i64 g, .bool fr, .bool st] 40))) := hide (balloc _ _)
  refine (sdecode_kind n p _ hn).mono ?_
  rintro e' w1 ⟨rfl, hw⟩
  have hb1 : Below (w.alloc (.cells #[.int .i64 e, .string r, .int .i64 g, .bool fr, .bool st] 40)).heap.size (w.alloc (.cells #[.int .i64 e, .string r, .int .i64 g, .bool fr, .bool st] 40)) w1 := by rw [hw]; exact Below.refl _ _
  clear hw
  have S5 := hide ((unhide S5).on hb1)
  have HB := hide (bstep (unhide HB) hb1)
  clear hb1
  go_wp2_with fail
  refine (open_no n _ hn).mono ?_
  rintro e' w2 ⟨rfl, hb2⟩
  have hst := bstep hb2 (balloc w2 (.cells #[.int .i64 0, .string ⟨#[]⟩, .int .i64 0, .bool false, .bool false] 40))
  have S5 := hide ((unhide S5).on hst)
  have HB := hide (bstep (unhide HB) hst)
  have S11 : Hid (Sc w2.heap.size 0 ⟨#[]⟩ M.st0 (w2.alloc (.cells #[.int .i64 0, .string ⟨#[]⟩, .int .i64 0, .bool false, .bool false] 40))) := hide (Sc.new w2 0 ⟨#[]⟩ M.st0)
  clear hb2 hst
  obtain ⟨B11, hB11⟩ : ∃ B, w2.heap.size = B := ⟨_, rfl⟩
  rw [hB11] at S11
  unfold sv M.st0
  go_upto_region 3 with fail
  generalize w2.alloc (.cells #[.int .i64 0, .string ⟨#[]⟩, .int .i64 0, .bool false, .bool false] 40) = W2 at *
  clear hB11
  have hl5 := (unhide S5).lt
  obtain ⟨c0, c1, c2, c3, c4, -, -, -, -, -⟩ := unhide S5
  go_wp2_with fail
  refine (unhide FDH _).mono ?_
  rintro e' w3 ⟨rfl, hb3⟩
  clear c0 c1 c2 c3 c4 hl5
  have hst := bstep hb3 (balloc w3 (.cells #[.int .i64 0, .string ⟨#[]⟩, .int .i64 0, .bool false, .bool false] 40))
  have S5 := hide ((unhide S5).on hst)
  have S11 := hide ((unhide S11).on hst)
  have HB := hide (bstep (unhide HB) hst)
  have S14 : Hid (Sc w3.heap.size 0 ⟨#[]⟩ M.st0 (w3.alloc (.cells #[.int .i64 0, .string ⟨#[]⟩, .int .i64 0, .bool false, .bool false] 40))) := hide (Sc.new w3 0 ⟨#[]⟩ M.st0)
  clear hb3 hst
  obtain ⟨B14, hB14⟩ : ∃ B, w3.heap.size = B := ⟨_, rfl⟩
  rw [hB14] at S14
  try unfold M.st0
  go_upto_region 4 with fail
  generalize w3.alloc (.cells #[.int .i64 0, .string ⟨#[]⟩, .int .i64 0, .bool false, .bool false] 40) = W3 at *
  clear hB14
  have hl5 := (unhide S5).lt
  obtain ⟨c0, c1, c2, c3, c4, -, -, -, -, -⟩ := unhide S5
  go_wp2_with fail
  refine (isEncoding_no n _ hn).mono ?_
  rintro e' w9 ⟨rfl, hw9⟩
  replace hw9 := hw9.symm
  subst hw9
  go_wp2_with fail
  refine (unhide CSH _).mono ?_
  rintro e' w5 ⟨rfl, hb5⟩
  clear c0 c1 c2 c3 c4 hl5
  have S5 := hide ((unhide S5).on hb5)
  have S11 := hide ((unhide S11).on hb5)
  have S14 := hide ((unhide S14).on hb5)
  have HB := hide (bstep (unhide HB) hb5)
  clear hb5
  go_wp2_with fail
  refine (tooLong_yes p _ hp hpm).mono ?_
  rintro e' w9 ⟨rfl, hw9⟩
  replace hw9 := hw9.symm
  subst hw9
  go_upto_region 18 with fail
  have S21 : Hid (Sc w5.heap.size 0 ⟨#[]⟩ M.st0 ((w5.alloc (.cells #[.int .i64 0, .string ⟨#[]⟩, .int .i64 0, .bool false, .bool false] 40)).alloc (.cells #[.int .i64 0, .string ⟨#[]⟩, .int .i64 0, .bool false, .bool false] 40))) := hide (by constructor <;> simp [go_sem, M.st0])
  have R22 : Hid (Rc (w5.heap.size + 1) ((w5.alloc (.cells #[.int .i64 0, .string ⟨#[]⟩, .int .i64 0, .bool false, .bool false] 40)).alloc (.cells #[.int .i64 0, .string ⟨#[]⟩, .int .i64 0, .bool false, .bool false] 40))) := hide (by constructor <;> simp [go_sem])
  have HW : Hid (Below w5.heap.size w5 ((w5.alloc (.cells #[.int .i64 0, .string ⟨#[]⟩, .int .i64 0, .bool false, .bool false] 40)).alloc (.cells #[.int .i64 0, .string ⟨#[]⟩, .int .i64 0, .bool false, .bool false] 40))) := hide (bstep (balloc _ _) (balloc _ _))
  generalize (w5.alloc (.cells #[.int .i64 0, .string ⟨#[]⟩, .int .i64 0, .bool false, .bool false] 40)).alloc (.cells #[.int .i64 0, .string ⟨#[]⟩, .int .i64 0, .bool false, .bool false] 40) = W at *
  go_upto_region 20 with fail
  have S22 : Hid (Sc (w5.heap.size + 1) 0 ⟨#[]⟩ M.st0 W) := hide ⟨(unhide R22).b0, (unhide R22).b1, (unhide R22).b2, (unhide R22).b3, (unhide R22).b4, (unhide R22).g0, (unhide R22).g1, (unhide R22).g2, (unhide R22).g3, (unhide R22).g4⟩
  clear R22
  have S5 := hide ((unhide S5).on (unhide HW))
  have S11 := hide ((unhide S11).on (unhide HW))
  have S14 := hide ((unhide S14).on (unhide HW))
  have HB := hide (bstep (unhide HB) (unhide HW))
  clear HW
  obtain ⟨B21, hB21⟩ : ∃ B, w5.heap.size = B := ⟨_, rfl⟩
  rw [hB21] at S21 S22
  have plt := (unhide S5).lt
  have p0 : ∀ w', Below W.heap.size W w' → w'.cell? ⟨w.heap.size, 0, none⟩ = some (.int .i64 e) := fun w' h => (h.cell (p := ⟨w.heap.size, 0, none⟩) plt).trans (unhide S5).c0
  have p1 : ∀ w', Below W.heap.size W w' → w'.cell? ⟨w.heap.size, 1, none⟩ = some (.string r) := fun w' h => (h.cell (p := ⟨w.heap.size, 1, none⟩) plt).trans (unhide S5).c1
  have p2 : ∀ w', Below W.heap.size W w' → w'.cell? ⟨w.heap.size, 2, none⟩ = some (.int .i64 g) := fun w' h => (h.cell (p := ⟨w.heap.size, 2, none⟩) plt).trans (unhide S5).c2
  have p3 : ∀ w', Below W.heap.size W w' → w'.cell? ⟨w.heap.size, 3, none⟩ = some (.bool fr) := fun w' h => (h.cell (p := ⟨w.heap.size, 3, none⟩) plt).trans (unhide S5).c3
  have p4 : ∀ w', Below W.heap.size W w' → w'.cell? ⟨w.heap.size, 4, none⟩ = some (.bool st) := fun w' h => (h.cell (p := ⟨w.heap.size, 4, none⟩) plt).trans (unhide S5).c4
  have qlt := (unhide S11).lt
  have q0 : ∀ w', Below W.heap.size W w' → w'.cell? ⟨B11, 0, none⟩ = some (.int .i64 0) := fun w' h => (h.cell (p := ⟨B11, 0, none⟩) qlt).trans (unhide S11).c0
  have q1 : ∀ w', Below W.heap.size W w' → w'.cell? ⟨B11, 1, none⟩ = some (.string ⟨#[]⟩) := fun w' h => (h.cell (p := ⟨B11, 1, none⟩) qlt).trans (unhide S11).c1
  have q2 : ∀ w', Below W.heap.size W w' → w'.cell? ⟨B11, 2, none⟩ = some (.int .i64 0) := fun w' h => (h.cell (p := ⟨B11, 2, none⟩) qlt).trans (unhide S11).c2
  have q3 : ∀ w', Below W.heap.size W w' → w'.cell? ⟨B11, 3, none⟩ = some (.bool false) := fun w' h => (h.cell (p := ⟨B11, 3, none⟩) qlt).trans (unhide S11).c3
  have q4 : ∀ w', Below W.heap.size W w' → w'.cell? ⟨B11, 4, none⟩ = some (.bool false) := fun w' h => (h.cell (p := ⟨B11, 4, none⟩) qlt).trans (unhide S11).c4
  have xlt := (unhide S14).lt
  have x0 : ∀ w', Below W.heap.size W w' → w'.cell? ⟨B14, 0, none⟩ = some (.int .i64 0) := fun w' h => (h.cell (p := ⟨B14, 0, none⟩) xlt).trans (unhide S14).c0
  have x1 : ∀ w', Below W.heap.size W w' → w'.cell? ⟨B14, 1, none⟩ = some (.string ⟨#[]⟩) := fun w' h => (h.cell (p := ⟨B14, 1, none⟩) xlt).trans (unhide S14).c1
  have x2 : ∀ w', Below W.heap.size W w' → w'.cell? ⟨B14, 2, none⟩ = some (.int .i64 0) := fun w' h => (h.cell (p := ⟨B14, 2, none⟩) xlt).trans (unhide S14).c2
  have x3 : ∀ w', Below W.heap.size W w' → w'.cell? ⟨B14, 3, none⟩ = some (.bool false) := fun w' h => (h.cell (p := ⟨B14, 3, none⟩) xlt).trans (unhide S14).c3
  have x4 : ∀ w', Below W.heap.size W w' → w'.cell? ⟨B14, 4, none⟩ = some (.bool false) := fun w' h => (h.cell (p := ⟨B14, 4, none⟩) xlt).trans (unhide S14).c4
  have ylt := (unhide S21).lt
  have y0 : ∀ w', Below W.heap.size W w' → w'.cell? ⟨B21, 0, none⟩ = some (.int .i64 0) := fun w' h => (h.cell (p := ⟨B21, 0, none⟩) ylt).trans (unhide S21).c0
  have y1 : ∀ w', Below W.heap.size W w' → w'.cell? ⟨B21, 1, none⟩ = some (.string ⟨#[]⟩) := fun w' h => (h.cell (p := ⟨B21, 1, none⟩) ylt).trans (unhide S21).c1
  have y2 : ∀ w', Below W.heap.size W w' → w'.cell? ⟨B21, 2, none⟩ = some (.int .i64 0) := fun w' h => (h.cell (p := ⟨B21, 2, none⟩) ylt).trans (unhide S21).c2
  have y3 : ∀ w', Below W.heap.size W w' → w'.cell? ⟨B21, 3, none⟩ = some (.bool false) := fun w' h => (h.cell (p := ⟨B21, 3, none⟩) ylt).trans (unhide S21).c3
  have y4 : ∀ w', Below W.heap.size W w' → w'.cell? ⟨B21, 4, none⟩ = some (.bool false) := fun w' h => (h.cell (p := ⟨B21, 4, none⟩) ylt).trans (unhide S21).c4
  have zlt := (unhide S22).lt
  have z0 : ∀ w', Below W.heap.size W w' → w'.cell? ⟨(B21 + 1), 0, none⟩ = some (.int .i64 0) := fun w' h => (h.cell (p := ⟨(B21 + 1), 0, none⟩) zlt).trans (unhide S22).c0
  have z1 : ∀ w', Below W.heap.size W w' → w'.cell? ⟨(B21 + 1), 1, none⟩ = some (.string ⟨#[]⟩) := fun w' h => (h.cell (p := ⟨(B21 + 1), 1, none⟩) zlt).trans (unhide S22).c1
  have z2 : ∀ w', Below W.heap.size W w' → w'.cell? ⟨(B21 + 1), 2, none⟩ = some (.int .i64 0) := fun w' h => (h.cell (p := ⟨(B21 + 1), 2, none⟩) zlt).trans (unhide S22).c2
  have z3 : ∀ w', Below W.heap.size W w' → w'.cell? ⟨(B21 + 1), 3, none⟩ = some (.bool false) := fun w' h => (h.cell (p := ⟨(B21 + 1), 3, none⟩) zlt).trans (unhide S22).c3
  have z4 : ∀ w', Below W.heap.size W w' → w'.cell? ⟨(B21 + 1), 4, none⟩ = some (.bool false) := fun w' h => (h.cell (p := ⟨(B21 + 1), 4, none⟩) zlt).trans (unhide S22).c4
  clear S5 S11 S14 S21 S22
  go_region_held3 (fun w' => Below W.heap.size W w') (first | exact below_drewN (Below.refl _ _) 1 | assumption)
    ((first
      | (go_at_call 23; refine (begunT_any _).mono ?_; rintro e' z ⟨rfl, hz⟩; have hS := bstep (by assumption) hz; clear hz)
      | (go_at_call 24; refine (unhide CKH _).mono ?_; rintro e' z ⟨rfl, hz⟩; have hS := bstep (by assumption) hz; clear hz)
      | (go_at_call 21; refine (unhide CSH _).mono ?_; rintro e' z ⟨rfl, hz⟩; have hS := bstep (by assumption) hz; clear hz)
      | (go_at_call 15; refine (intsAre_err _ _ _ _ (by first | rfl) _).mono ?_; rintro e' z ⟨rfl, hz⟩; have hS := bstep (by assumption) hz; clear hz)))
  all_goals
    go_wp2_with fail
    go_ret
    exact ⟨ret_bool (by simp), bstep (unhide HB) (by assumption)⟩

set_option maxHeartbeats 4000000 in
set_option maxRecDepth 100000 in
theorem nolongwrong (n e : Int) (r : ByteArray) (g : Int) (fr st : Bool) (p : ByteArray) (last : Bool) (w : World) (hrm : r.size ≤ maxLen) (hpm : p.size ≤ maxLen) (hn : ¬ (1 ≤ n ∧ n ≤ 7)) (hp : 3000 < p.size) (hk : chk e r (g, fr, st) ≠ 0) :
    Calls Try.prog 6 #[.int .i64 n, .agg #[.int .i64 e, .string r, .int .i64 g, .bool fr, .bool st], .string p, .bool last] w fun e' w' => e' = .returned (.bool true) ∧ Below w.heap.size w w' := by
  have CK := fun w => check_any e r (g, fr, st) w hrm
  have CS := fun w => checkState_any e r (g, fr, st) w hrm
  have FD := fun w => feed_err e r (g, fr, st) p last w hrm (by simpa using hk)
  obtain ⟨q, HQ⟩ : ∃ q, Hid (chk e r (g, fr, st) = q) := ⟨_, hide rfl⟩
  rw [unhide HQ] at CK CS FD hk
  have hq0 : (q == 0) = false := by simpa using hk
  have CKH := hide CK
  have CSH := hide CS
  have FDH := hide FD
  clear CK CS FD hk
  unfold sv at CKH CSH FDH
  go_enter Try.func6, Try.ntmps6
  go_wp2_with fail
  have S5 : Hid (Sc w.heap.size e r (g, fr, st) (w.alloc (.cells #[.int .i64 e, .string r, .int .i64 g, .bool fr, .bool st] 40))) := hide (Sc.new w e r (g, fr, st))
  have HB : Hid (Below w.heap.size w (w.alloc (.cells #[.int .i64 e, .string r, .int .i64 g, .bool fr, .bool st] 40))) := hide (balloc _ _)
  refine (sdecode_kind n p _ hn).mono ?_
  rintro e' w1 ⟨rfl, hw⟩
  have hb1 : Below (w.alloc (.cells #[.int .i64 e, .string r, .int .i64 g, .bool fr, .bool st] 40)).heap.size (w.alloc (.cells #[.int .i64 e, .string r, .int .i64 g, .bool fr, .bool st] 40)) w1 := by rw [hw]; exact Below.refl _ _
  clear hw
  have S5 := hide ((unhide S5).on hb1)
  have HB := hide (bstep (unhide HB) hb1)
  clear hb1
  go_wp2_with fail
  refine (open_no n _ hn).mono ?_
  rintro e' w2 ⟨rfl, hb2⟩
  have hst := bstep hb2 (balloc w2 (.cells #[.int .i64 0, .string ⟨#[]⟩, .int .i64 0, .bool false, .bool false] 40))
  have S5 := hide ((unhide S5).on hst)
  have HB := hide (bstep (unhide HB) hst)
  have S11 : Hid (Sc w2.heap.size 0 ⟨#[]⟩ M.st0 (w2.alloc (.cells #[.int .i64 0, .string ⟨#[]⟩, .int .i64 0, .bool false, .bool false] 40))) := hide (Sc.new w2 0 ⟨#[]⟩ M.st0)
  clear hb2 hst
  obtain ⟨B11, hB11⟩ : ∃ B, w2.heap.size = B := ⟨_, rfl⟩
  rw [hB11] at S11
  unfold sv M.st0
  go_upto_region 3 with fail
  generalize w2.alloc (.cells #[.int .i64 0, .string ⟨#[]⟩, .int .i64 0, .bool false, .bool false] 40) = W2 at *
  clear hB11
  have hl5 := (unhide S5).lt
  obtain ⟨c0, c1, c2, c3, c4, -, -, -, -, -⟩ := unhide S5
  go_wp2_with fail
  refine (unhide FDH _).mono ?_
  rintro e' w3 ⟨rfl, hb3⟩
  clear c0 c1 c2 c3 c4 hl5
  have hst := bstep hb3 (balloc w3 (.cells #[.int .i64 0, .string ⟨#[]⟩, .int .i64 0, .bool false, .bool false] 40))
  have S5 := hide ((unhide S5).on hst)
  have S11 := hide ((unhide S11).on hst)
  have HB := hide (bstep (unhide HB) hst)
  have S14 : Hid (Sc w3.heap.size 0 ⟨#[]⟩ M.st0 (w3.alloc (.cells #[.int .i64 0, .string ⟨#[]⟩, .int .i64 0, .bool false, .bool false] 40))) := hide (Sc.new w3 0 ⟨#[]⟩ M.st0)
  clear hb3 hst
  obtain ⟨B14, hB14⟩ : ∃ B, w3.heap.size = B := ⟨_, rfl⟩
  rw [hB14] at S14
  try unfold M.st0
  go_upto_region 4 with fail
  generalize w3.alloc (.cells #[.int .i64 0, .string ⟨#[]⟩, .int .i64 0, .bool false, .bool false] 40) = W3 at *
  clear hB14
  have hl5 := (unhide S5).lt
  obtain ⟨c0, c1, c2, c3, c4, -, -, -, -, -⟩ := unhide S5
  go_wp2_with fail
  refine (isEncoding_no n _ hn).mono ?_
  rintro e' w9 ⟨rfl, hw9⟩
  replace hw9 := hw9.symm
  subst hw9
  go_wp2_with fail
  refine (unhide CSH _).mono ?_
  rintro e' w5 ⟨rfl, hb5⟩
  clear c0 c1 c2 c3 c4 hl5
  have S5 := hide ((unhide S5).on hb5)
  have S11 := hide ((unhide S11).on hb5)
  have S14 := hide ((unhide S14).on hb5)
  have HB := hide (bstep (unhide HB) hb5)
  clear hb5
  go_upto_region 18 with fail
  have S21 : Hid (Sc w5.heap.size 0 ⟨#[]⟩ M.st0 ((w5.alloc (.cells #[.int .i64 0, .string ⟨#[]⟩, .int .i64 0, .bool false, .bool false] 40)).alloc (.cells #[.int .i64 0, .string ⟨#[]⟩, .int .i64 0, .bool false, .bool false] 40))) := hide (by constructor <;> simp [go_sem, M.st0])
  have R22 : Hid (Rc (w5.heap.size + 1) ((w5.alloc (.cells #[.int .i64 0, .string ⟨#[]⟩, .int .i64 0, .bool false, .bool false] 40)).alloc (.cells #[.int .i64 0, .string ⟨#[]⟩, .int .i64 0, .bool false, .bool false] 40))) := hide (by constructor <;> simp [go_sem])
  have HW : Hid (Below w5.heap.size w5 ((w5.alloc (.cells #[.int .i64 0, .string ⟨#[]⟩, .int .i64 0, .bool false, .bool false] 40)).alloc (.cells #[.int .i64 0, .string ⟨#[]⟩, .int .i64 0, .bool false, .bool false] 40))) := hide (bstep (balloc _ _) (balloc _ _))
  generalize (w5.alloc (.cells #[.int .i64 0, .string ⟨#[]⟩, .int .i64 0, .bool false, .bool false] 40)).alloc (.cells #[.int .i64 0, .string ⟨#[]⟩, .int .i64 0, .bool false, .bool false] 40) = W at *
  go_upto_region 20 with fail
  have S22 : Hid (Sc (w5.heap.size + 1) 0 ⟨#[]⟩ M.st0 W) := hide ⟨(unhide R22).b0, (unhide R22).b1, (unhide R22).b2, (unhide R22).b3, (unhide R22).b4, (unhide R22).g0, (unhide R22).g1, (unhide R22).g2, (unhide R22).g3, (unhide R22).g4⟩
  clear R22
  have S5 := hide ((unhide S5).on (unhide HW))
  have S11 := hide ((unhide S11).on (unhide HW))
  have S14 := hide ((unhide S14).on (unhide HW))
  have HB := hide (bstep (unhide HB) (unhide HW))
  clear HW
  obtain ⟨B21, hB21⟩ : ∃ B, w5.heap.size = B := ⟨_, rfl⟩
  rw [hB21] at S21 S22
  have plt := (unhide S5).lt
  have p0 : ∀ w', Below W.heap.size W w' → w'.cell? ⟨w.heap.size, 0, none⟩ = some (.int .i64 e) := fun w' h => (h.cell (p := ⟨w.heap.size, 0, none⟩) plt).trans (unhide S5).c0
  have p1 : ∀ w', Below W.heap.size W w' → w'.cell? ⟨w.heap.size, 1, none⟩ = some (.string r) := fun w' h => (h.cell (p := ⟨w.heap.size, 1, none⟩) plt).trans (unhide S5).c1
  have p2 : ∀ w', Below W.heap.size W w' → w'.cell? ⟨w.heap.size, 2, none⟩ = some (.int .i64 g) := fun w' h => (h.cell (p := ⟨w.heap.size, 2, none⟩) plt).trans (unhide S5).c2
  have p3 : ∀ w', Below W.heap.size W w' → w'.cell? ⟨w.heap.size, 3, none⟩ = some (.bool fr) := fun w' h => (h.cell (p := ⟨w.heap.size, 3, none⟩) plt).trans (unhide S5).c3
  have p4 : ∀ w', Below W.heap.size W w' → w'.cell? ⟨w.heap.size, 4, none⟩ = some (.bool st) := fun w' h => (h.cell (p := ⟨w.heap.size, 4, none⟩) plt).trans (unhide S5).c4
  have qlt := (unhide S11).lt
  have q0 : ∀ w', Below W.heap.size W w' → w'.cell? ⟨B11, 0, none⟩ = some (.int .i64 0) := fun w' h => (h.cell (p := ⟨B11, 0, none⟩) qlt).trans (unhide S11).c0
  have q1 : ∀ w', Below W.heap.size W w' → w'.cell? ⟨B11, 1, none⟩ = some (.string ⟨#[]⟩) := fun w' h => (h.cell (p := ⟨B11, 1, none⟩) qlt).trans (unhide S11).c1
  have q2 : ∀ w', Below W.heap.size W w' → w'.cell? ⟨B11, 2, none⟩ = some (.int .i64 0) := fun w' h => (h.cell (p := ⟨B11, 2, none⟩) qlt).trans (unhide S11).c2
  have q3 : ∀ w', Below W.heap.size W w' → w'.cell? ⟨B11, 3, none⟩ = some (.bool false) := fun w' h => (h.cell (p := ⟨B11, 3, none⟩) qlt).trans (unhide S11).c3
  have q4 : ∀ w', Below W.heap.size W w' → w'.cell? ⟨B11, 4, none⟩ = some (.bool false) := fun w' h => (h.cell (p := ⟨B11, 4, none⟩) qlt).trans (unhide S11).c4
  have xlt := (unhide S14).lt
  have x0 : ∀ w', Below W.heap.size W w' → w'.cell? ⟨B14, 0, none⟩ = some (.int .i64 0) := fun w' h => (h.cell (p := ⟨B14, 0, none⟩) xlt).trans (unhide S14).c0
  have x1 : ∀ w', Below W.heap.size W w' → w'.cell? ⟨B14, 1, none⟩ = some (.string ⟨#[]⟩) := fun w' h => (h.cell (p := ⟨B14, 1, none⟩) xlt).trans (unhide S14).c1
  have x2 : ∀ w', Below W.heap.size W w' → w'.cell? ⟨B14, 2, none⟩ = some (.int .i64 0) := fun w' h => (h.cell (p := ⟨B14, 2, none⟩) xlt).trans (unhide S14).c2
  have x3 : ∀ w', Below W.heap.size W w' → w'.cell? ⟨B14, 3, none⟩ = some (.bool false) := fun w' h => (h.cell (p := ⟨B14, 3, none⟩) xlt).trans (unhide S14).c3
  have x4 : ∀ w', Below W.heap.size W w' → w'.cell? ⟨B14, 4, none⟩ = some (.bool false) := fun w' h => (h.cell (p := ⟨B14, 4, none⟩) xlt).trans (unhide S14).c4
  have ylt := (unhide S21).lt
  have y0 : ∀ w', Below W.heap.size W w' → w'.cell? ⟨B21, 0, none⟩ = some (.int .i64 0) := fun w' h => (h.cell (p := ⟨B21, 0, none⟩) ylt).trans (unhide S21).c0
  have y1 : ∀ w', Below W.heap.size W w' → w'.cell? ⟨B21, 1, none⟩ = some (.string ⟨#[]⟩) := fun w' h => (h.cell (p := ⟨B21, 1, none⟩) ylt).trans (unhide S21).c1
  have y2 : ∀ w', Below W.heap.size W w' → w'.cell? ⟨B21, 2, none⟩ = some (.int .i64 0) := fun w' h => (h.cell (p := ⟨B21, 2, none⟩) ylt).trans (unhide S21).c2
  have y3 : ∀ w', Below W.heap.size W w' → w'.cell? ⟨B21, 3, none⟩ = some (.bool false) := fun w' h => (h.cell (p := ⟨B21, 3, none⟩) ylt).trans (unhide S21).c3
  have y4 : ∀ w', Below W.heap.size W w' → w'.cell? ⟨B21, 4, none⟩ = some (.bool false) := fun w' h => (h.cell (p := ⟨B21, 4, none⟩) ylt).trans (unhide S21).c4
  have zlt := (unhide S22).lt
  have z0 : ∀ w', Below W.heap.size W w' → w'.cell? ⟨(B21 + 1), 0, none⟩ = some (.int .i64 0) := fun w' h => (h.cell (p := ⟨(B21 + 1), 0, none⟩) zlt).trans (unhide S22).c0
  have z1 : ∀ w', Below W.heap.size W w' → w'.cell? ⟨(B21 + 1), 1, none⟩ = some (.string ⟨#[]⟩) := fun w' h => (h.cell (p := ⟨(B21 + 1), 1, none⟩) zlt).trans (unhide S22).c1
  have z2 : ∀ w', Below W.heap.size W w' → w'.cell? ⟨(B21 + 1), 2, none⟩ = some (.int .i64 0) := fun w' h => (h.cell (p := ⟨(B21 + 1), 2, none⟩) zlt).trans (unhide S22).c2
  have z3 : ∀ w', Below W.heap.size W w' → w'.cell? ⟨(B21 + 1), 3, none⟩ = some (.bool false) := fun w' h => (h.cell (p := ⟨(B21 + 1), 3, none⟩) zlt).trans (unhide S22).c3
  have z4 : ∀ w', Below W.heap.size W w' → w'.cell? ⟨(B21 + 1), 4, none⟩ = some (.bool false) := fun w' h => (h.cell (p := ⟨(B21 + 1), 4, none⟩) zlt).trans (unhide S22).c4
  clear S5 S11 S14 S21 S22
  go_region_held3 (fun w' => Below W.heap.size W w') (first | exact below_drewN (Below.refl _ _) 1 | assumption)
    ((first
      | (go_at_call 23; refine (begunT_any _).mono ?_; rintro e' z ⟨rfl, hz⟩; have hS := bstep (by assumption) hz; clear hz)
      | (go_at_call 24; refine (unhide CKH _).mono ?_; rintro e' z ⟨rfl, hz⟩; have hS := bstep (by assumption) hz; clear hz)
      | (go_at_call 21; refine (unhide CSH _).mono ?_; rintro e' z ⟨rfl, hz⟩; have hS := bstep (by assumption) hz; clear hz)
      | (go_at_call 15; refine (intsAre_err _ _ _ _ (by first | rfl | exact hq0) _).mono ?_; rintro e' z ⟨rfl, hz⟩; have hS := bstep (by assumption) hz; clear hz)))
  all_goals
    go_wp2_with fail
    go_ret
    exact ⟨ret_bool (by simp), bstep (unhide HB) (by assumption)⟩

theorem walk (n e : Int) (r : ByteArray) (g : Int) (fr st : Bool) (p : ByteArray) (last : Bool) (w : World) (hnw : (Lit.int .i64 n).wf = true) (hrm : r.size ≤ maxLen) (hpm : p.size ≤ maxLen) :
    Calls Try.prog 6 #[.int .i64 n, .agg #[.int .i64 e, .string r, .int .i64 g, .bool fr, .bool st], .string p, .bool last] w fun e' w' => e' = .returned (.bool true) ∧ Below w.heap.size w w' := by
  by_cases hn : 1 ≤ n ∧ n ≤ 7
  · by_cases hp : 3000 < p.size
    · by_cases hk : chk e r (g, fr, st) = 0
      · exact yeslongright n e r g fr st p last w hrm hpm hn hp hk
      · exact yeslongwrong n e r g fr st p last w hrm hpm hn hp hk
    · by_cases hk : chk e r (g, fr, st) = 0
      · exact yesshortright n e r g fr st p last w hrm hpm hn (by omega) hk
      · exact yesshortwrong n e r g fr st p last w hrm hpm hn (by omega) hk
  · by_cases hp : 3000 < p.size
    · by_cases hk : chk e r (g, fr, st) = 0
      · exact nolongright n e r g fr st p last w hrm hpm hn hp hk
      · exact nolongwrong n e r g fr st p last w hrm hpm hn hp hk
    · by_cases hk : chk e r (g, fr, st) = 0
      · exact noshortright n e r g fr st p last w hrm hpm hn (by omega) hk
      · exact noshortwrong n e r g fr st p last w hrm hpm hn (by omega) hk

set_option maxRecDepth 100000 in
theorem lifted (os : Os) (started : os.Started) (H : Type) (enc : TypeId × Value → H) :
    ReturnsInHanded {} Try.checked os 6 .any (Rows.streamTellsSpec.pre6 enc Try.prog Try.f6 Rows.streamTellsRow.domain false) (Rows.streamTellsSpec.post enc Try.prog Try.f6 false true false false) := by
  refine returnsInHanded_of_change (C := Try.checked) own started (by kernel_rfl) Try.func6
    (ChangeSpec.witness6 (enc := enc) (C := Try.checked) false ⟨#[], #[.int .i64 0, .agg #[.int .i64 0, .string ByteArray.empty, .int .i64 0, .bool false, .bool false], .string ByteArray.empty, .bool false], []⟩ 8 (by kernel_rfl) (by kernel_rfl) (by kernel_rfl) (by kernel_rfl)) ?_
  intro W base args ds gs before hval0 hW hcnd _
  have hval : ∀ (j : Nat) t v, Try.f6.params[j]? = some t → args[j]? = some v → Value.okWide Try.prog W .any base t v := hval0
  have hW' := hW
  obtain ⟨p, q, hA0, hV, rfl, hfz, hnd⟩ := hW
  have hA : DataW.TrodAll enc Try.prog W 0 (fun _ => true) true Try.f6.params.toList args.toList ds p := hA0
  rw [Try.params6] at hA hval
  obtain ⟨v0, vs0, d0, ds0, p0, q0, hargs, rfl, rfl, h0, r0⟩ := trodAll_cons hA
  obtain ⟨v1, vs1, d1, ds1, p1, q1, rfl, rfl, rfl, h1, r1⟩ := trodAll_cons r0
  obtain ⟨v2, vs2, d2, ds2, p2, q2, rfl, rfl, rfl, h2, r2⟩ := trodAll_cons r1
  obtain ⟨v3, vs3, d3, ds3, p3, q3, rfl, rfl, rfl, h3, r3⟩ := trodAll_cons r2
  obtain ⟨rfl, rfl, rfl⟩ := trodAll_nil r3
  obtain rfl : args = #[v0, v1, v2, v3] := by cases args; simp_all
  obtain ⟨rfl, rfl⟩ := trodVars_none hV
  obtain ⟨a0, rfl, rfl, rfl, w0⟩ := open_int Try.underlying3 (hval 0 3 v0 rfl rfl) h0
  have k1 := h1
  have lt1 : ∀ x ∈ p1, x.block < W.heap.size := by obtain ⟨m, hm⟩ := k1; exact DataW.trod_lt m _ _ _ hm
  obtain ⟨e1, r1_, g1, fr1, st1, rfl, w1⟩ := open_state (hval 1 40 v1 rfl rfl) h1
  obtain ⟨a2, rfl, rfl, rfl, w2⟩ := open_string Try.underlying9 (hval 2 9 v2 rfl rfl) h2
  obtain ⟨a3, rfl, rfl, rfl⟩ := open_bool Try.underlying4 (hval 3 4 v3 rfl rfl) h3
  clear hA0 hval0
  refine (walk a0 e1 r1_ g1 fr1 st1 a2 a3 W w0 w1 w2).mono fun e W' ⟨he, bel⟩ => ?_
  subst he
  exact ⟨_, rfl, _, _, _, [], _, [], hW', trodAll_mk1 (shut_bool Try.underlying4 _), (trodAll_cons_mk (shut_int Try.underlying3 w0) (trodAll_cons_mk (Below.trod laidOut (by kernel_rfl) (of_decide_eq_true (by kernel_rfl)) k1 bel lt1) (trodAll_cons_mk (shut_string Try.underlying9 w2) (trodAll_cons_mk (shut_bool Try.underlying4 _) trodAll_mk0)))), rfl, bel.frame _, fun h => by cases h⟩

theorem over : Rows.streamTellsRow.holds Try.pinned (OpenSpec.ofChange Rows.streamTellsSpec) :=
  OpenClaim.holds_of_wide 6 Try.f6 rfl rfl rfl rfl rfl rfl rfl ⟨rfl, rfl, rfl, rfl, rfl⟩ rfl rfl rfl rfl rfl (by kernel_rfl) Try.func6 (by kernel_rfl)
    (of_decide_eq_true (by kernel_rfl)) (by unfold Func.isWrapper; first | (rw [if_pos (by decide +kernel)]; kernel_rfl) | (rw [if_neg (by decide +kernel)]; exact ⟨rfl, rfl⟩))
    (fun os started H enc _ => lifted os started H enc)
end Go.Proofs.Ythhjfedegbldfac.streamTells

namespace Go.Proofs.Ythhjfedegbldfac
theorem streamTells_holds : Rows.StreamTellsSaid := streamTells.over
end Go.Proofs.Ythhjfedegbldfac
