/- The walk of FrontPieces over what front's and text's calls have to answer: true; nothing that was there is written. -/
import Derived.Test.YtaiinjfnkmidbaaGreatDoorQ10
namespace Go.Proofs.YtaiinjfnkmidbaaGreatDoor
open Go.RowKit
set_option linter.unusedVariables false

set_option maxHeartbeats 3200000 in
set_option maxRecDepth 100000 in
theorem fp_long (hC : ChSays) (hB : BgSays) (hF : FdSays) (hK : CkSays) (hD : DcSays) (hDE : DcErrs) (hR : RcSays) (hCt : CtSays) (name s : ByteArray) (c m : Int) (w : World) (hMx : Mx w) (hT : Tb w) (hn : name.size ≤ maxLen) (hs : s.size ≤ maxLen) (hcw : (Lit.int .i64 c).wf = true) (hmw : (Lit.int .i64 m).wf = true) (h : 3000 < name.size ∨ 3000 < s.size) :
    Calls Tryz.prog 4 #[.string name, .string s, .int .i64 c, .int .i64 m] w fun e w' => e = .returned (.bool true) ∧ Below w.heap.size w w' := by
  have HM := hide hMx
  have HT := hide hT
  have GF := hide (fun w h => begunF_any hC hB hF hK w h)
  have GX := hide (fun w h h' => begunX_any hD hR hCt w h h')
  have r1 := hide (fun w hm => hDE name s w hn hs h hm)
  clear h
  clear hC hB hF hK hD hDE hR hCt hMx hT
  unfold maxLen at hn hs
  go_enter Tryz.func4, Tryz.ntmps4
  go_wp2_with fail
  refine (unhide GF _ (unhide HM)).mono ?_
  rintro e w1 ⟨rfl, hb1⟩
  have HB1 := hide hb1
  clear hb1 GF
  go_wp2_with fail
  refine (unhide GX _ ((unhide HM).below (unhide HB1)) ((unhide HT).below (unhide HB1))).mono ?_
  rintro e w2 ⟨rfl, hb2⟩
  have HB2 := hide (bstep (unhide HB1) hb2)
  clear hb2 GX HB1
  go_wp2_with fail
  refine (unhide r1 _ ((unhide HM).below (unhide HB2))).mono ?_
  rintro e w3 ⟨v3, rfl, hI3, hb3⟩
  obtain ⟨a3, c3, rfl, -⟩ := hI3
  have HB3 := hide (bstep (unhide HB2) hb3)
  clear hb3 HB2 r1
  go_wp2_with fail
  go_ret
  exact ⟨rfl, unhide HB3⟩
set_option maxHeartbeats 3200000 in
set_option maxRecDepth 100000 in
theorem fp_cutlow (hC : ChSays) (hB : BgSays) (hF : FdSays) (hK : CkSays) (hD : DcSays) (hDE : DcErrs) (hR : RcSays) (hCt : CtSays) (name s : ByteArray) (c m : Int) (w : World) (hMx : Mx w) (hT : Tb w) (hn : name.size ≤ maxLen) (hs : s.size ≤ maxLen) (hcw : (Lit.int .i64 c).wf = true) (hmw : (Lit.int .i64 m).wf = true) (g0 : name.size ≤ 3000) (g1 : s.size ≤ 3000) (h : c < 0) :
    Calls Tryz.prog 4 #[.string name, .string s, .int .i64 c, .int .i64 m] w fun e w' => e = .returned (.bool true) ∧ Below w.heap.size w w' := by
  have HM := hide hMx
  have HT := hide hT
  have GF := hide (fun w h => begunF_any hC hB hF hK w h)
  have GX := hide (fun w h h' => begunX_any hD hR hCt w h h')
  have r1 := hide (fun w hm => hD name s w g0 g1 hm)
  generalize whI name (bl s) = X at *
  generalize (chI name (bl s)).1 = n1 at *
  generalize (chI name (bl s)).2.1 = ywhy at *
  clear hC hB hF hK hD hDE hR hCt hMx hT
  unfold maxLen at hn hs
  go_enter Tryz.func4, Tryz.ntmps4
  go_wp2_with fail
  refine (unhide GF _ (unhide HM)).mono ?_
  rintro e w1 ⟨rfl, hb1⟩
  have HB1 := hide hb1
  clear hb1 GF
  go_wp2_with fail
  refine (unhide GX _ ((unhide HM).below (unhide HB1)) ((unhide HT).below (unhide HB1))).mono ?_
  rintro e w2 ⟨rfl, hb2⟩
  have HB2 := hide (bstep (unhide HB1) hb2)
  clear hb2 GX HB1
  go_wp2_with fail
  refine (unhide r1 _ ((unhide HM).below (unhide HB2))).mono ?_
  rintro e w3 ⟨v3, rfl, ho3, hb3⟩
  obtain ⟨a0, c0, hsh3⟩ := owns_shape ho3
  subst hsh3
  have D3 := hide (Ints.of_owns ho3)
  have HB3 := hide (bstep (unhide HB2) hb3)
  clear hb3 HB2 r1 ho3
  go_wp2_with fail
  go_ret
  exact ⟨rfl, unhide HB3⟩
set_option maxHeartbeats 3200000 in
set_option maxRecDepth 100000 in
theorem fp_morelow (hC : ChSays) (hB : BgSays) (hF : FdSays) (hK : CkSays) (hD : DcSays) (hDE : DcErrs) (hR : RcSays) (hCt : CtSays) (name s : ByteArray) (c m : Int) (w : World) (hMx : Mx w) (hT : Tb w) (hn : name.size ≤ maxLen) (hs : s.size ≤ maxLen) (hcw : (Lit.int .i64 c).wf = true) (hmw : (Lit.int .i64 m).wf = true) (g0 : name.size ≤ 3000) (g1 : s.size ≤ 3000) (h0 : 0 ≤ c) (h : m < 0) :
    Calls Tryz.prog 4 #[.string name, .string s, .int .i64 c, .int .i64 m] w fun e w' => e = .returned (.bool true) ∧ Below w.heap.size w w' := by
  have HM := hide hMx
  have HT := hide hT
  have GF := hide (fun w h => begunF_any hC hB hF hK w h)
  have GX := hide (fun w h h' => begunX_any hD hR hCt w h h')
  have r1 := hide (fun w hm => hD name s w g0 g1 hm)
  generalize whI name (bl s) = X at *
  generalize (chI name (bl s)).1 = n1 at *
  generalize (chI name (bl s)).2.1 = ywhy at *
  clear hC hB hF hK hD hDE hR hCt hMx hT
  unfold maxLen at hn hs
  go_enter Tryz.func4, Tryz.ntmps4
  go_wp2_with fail
  refine (unhide GF _ (unhide HM)).mono ?_
  rintro e w1 ⟨rfl, hb1⟩
  have HB1 := hide hb1
  clear hb1 GF
  go_wp2_with fail
  refine (unhide GX _ ((unhide HM).below (unhide HB1)) ((unhide HT).below (unhide HB1))).mono ?_
  rintro e w2 ⟨rfl, hb2⟩
  have HB2 := hide (bstep (unhide HB1) hb2)
  clear hb2 GX HB1
  go_wp2_with fail
  refine (unhide r1 _ ((unhide HM).below (unhide HB2))).mono ?_
  rintro e w3 ⟨v3, rfl, ho3, hb3⟩
  obtain ⟨a0, c0, hsh3⟩ := owns_shape ho3
  subst hsh3
  have D3 := hide (Ints.of_owns ho3)
  have HB3 := hide (bstep (unhide HB2) hb3)
  clear hb3 HB2 r1 ho3
  go_wp2_with fail
  go_ret
  exact ⟨rfl, unhide HB3⟩
set_option maxHeartbeats 3200000 in
set_option maxRecDepth 100000 in
theorem fp_cuthigh (hC : ChSays) (hB : BgSays) (hF : FdSays) (hK : CkSays) (hD : DcSays) (hDE : DcErrs) (hR : RcSays) (hCt : CtSays) (name s : ByteArray) (c m : Int) (w : World) (hMx : Mx w) (hT : Tb w) (hn : name.size ≤ maxLen) (hs : s.size ≤ maxLen) (hcw : (Lit.int .i64 c).wf = true) (hmw : (Lit.int .i64 m).wf = true) (g0 : name.size ≤ 3000) (g1 : s.size ≤ 3000) (h0 : 0 ≤ c) (h1 : 0 ≤ m) (h : (s.size : Int) < c) :
    Calls Tryz.prog 4 #[.string name, .string s, .int .i64 c, .int .i64 m] w fun e w' => e = .returned (.bool true) ∧ Below w.heap.size w w' := by
  have HM := hide hMx
  have HT := hide hT
  have GF := hide (fun w h => begunF_any hC hB hF hK w h)
  have GX := hide (fun w h h' => begunX_any hD hR hCt w h h')
  have r1 := hide (fun w hm => hD name s w g0 g1 hm)
  generalize whI name (bl s) = X at *
  generalize (chI name (bl s)).1 = n1 at *
  generalize (chI name (bl s)).2.1 = ywhy at *
  clear hC hB hF hK hD hDE hR hCt hMx hT
  unfold maxLen at hn hs
  go_enter Tryz.func4, Tryz.ntmps4
  go_wp2_with fail
  refine (unhide GF _ (unhide HM)).mono ?_
  rintro e w1 ⟨rfl, hb1⟩
  have HB1 := hide hb1
  clear hb1 GF
  go_wp2_with fail
  refine (unhide GX _ ((unhide HM).below (unhide HB1)) ((unhide HT).below (unhide HB1))).mono ?_
  rintro e w2 ⟨rfl, hb2⟩
  have HB2 := hide (bstep (unhide HB1) hb2)
  clear hb2 GX HB1
  go_wp2_with fail
  refine (unhide r1 _ ((unhide HM).below (unhide HB2))).mono ?_
  rintro e w3 ⟨v3, rfl, ho3, hb3⟩
  obtain ⟨a0, c0, hsh3⟩ := owns_shape ho3
  subst hsh3
  have D3 := hide (Ints.of_owns ho3)
  have HB3 := hide (bstep (unhide HB2) hb3)
  clear hb3 HB2 r1 ho3
  go_wp2_with fail
  go_ret
  exact ⟨rfl, unhide HB3⟩
set_option maxHeartbeats 3200000 in
set_option maxRecDepth 100000 in
theorem fp_morehigh (hC : ChSays) (hB : BgSays) (hF : FdSays) (hK : CkSays) (hD : DcSays) (hDE : DcErrs) (hR : RcSays) (hCt : CtSays) (name s : ByteArray) (c m : Int) (w : World) (hMx : Mx w) (hT : Tb w) (hn : name.size ≤ maxLen) (hs : s.size ≤ maxLen) (hcw : (Lit.int .i64 c).wf = true) (hmw : (Lit.int .i64 m).wf = true) (g0 : name.size ≤ 3000) (g1 : s.size ≤ 3000) (h0 : 0 ≤ c) (h1 : 0 ≤ m) (h2 : c ≤ (s.size : Int)) (h : (s.size : Int) - c < m) :
    Calls Tryz.prog 4 #[.string name, .string s, .int .i64 c, .int .i64 m] w fun e w' => e = .returned (.bool true) ∧ Below w.heap.size w w' := by
  have HM := hide hMx
  have HT := hide hT
  have GF := hide (fun w h => begunF_any hC hB hF hK w h)
  have GX := hide (fun w h h' => begunX_any hD hR hCt w h h')
  have r1 := hide (fun w hm => hD name s w g0 g1 hm)
  generalize whI name (bl s) = X at *
  generalize (chI name (bl s)).1 = n1 at *
  generalize (chI name (bl s)).2.1 = ywhy at *
  clear hC hB hF hK hD hDE hR hCt hMx hT
  unfold maxLen at hn hs
  go_enter Tryz.func4, Tryz.ntmps4
  go_wp2_with fail
  refine (unhide GF _ (unhide HM)).mono ?_
  rintro e w1 ⟨rfl, hb1⟩
  have HB1 := hide hb1
  clear hb1 GF
  go_wp2_with fail
  refine (unhide GX _ ((unhide HM).below (unhide HB1)) ((unhide HT).below (unhide HB1))).mono ?_
  rintro e w2 ⟨rfl, hb2⟩
  have HB2 := hide (bstep (unhide HB1) hb2)
  clear hb2 GX HB1
  go_wp2_with fail
  refine (unhide r1 _ ((unhide HM).below (unhide HB2))).mono ?_
  rintro e w3 ⟨v3, rfl, ho3, hb3⟩
  obtain ⟨a0, c0, hsh3⟩ := owns_shape ho3
  subst hsh3
  have D3 := hide (Ints.of_owns ho3)
  have HB3 := hide (bstep (unhide HB2) hb3)
  clear hb3 HB2 r1 ho3
  go_wp2_with fail
  go_ret
  exact ⟨rfl, unhide HB3⟩
set_option maxHeartbeats 40000000 in
set_option maxRecDepth 100000 in
theorem fp_main (hC : ChSays) (hB : BgSays) (hF : FdSays) (hK : CkSays) (hD : DcSays) (hDE : DcErrs) (hR : RcSays) (hCt : CtSays) (name s : ByteArray) (c m : Int) (w : World) (hMx : Mx w) (hT : Tb w) (hn : name.size ≤ maxLen) (hs : s.size ≤ maxLen) (hcw : (Lit.int .i64 c).wf = true) (hmw : (Lit.int .i64 m).wf = true) (g0 : name.size ≤ 3000) (g1 : s.size ≤ 3000) (h0 : 0 ≤ c) (h1 : 0 ≤ m) (h2 : c ≤ (s.size : Int)) (h3 : m ≤ (s.size : Int) - c) :
    Calls Tryz.prog 4 #[.string name, .string s, .int .i64 c, .int .i64 m] w fun e w' => e = .returned (.bool true) ∧ Below w.heap.size w w' := by
  obtain ⟨c, rfl⟩ : ∃ k : Nat, c = k := ⟨c.toNat, by omega⟩
  obtain ⟨m, rfl⟩ : ∃ k : Nat, m = k := ⟨m.toNat, by omega⟩
  have hcm : c + m ≤ s.size := by omega
  clear h0 h1 h2 h3 hcw hmw
  have HM := hide hMx
  have HT := hide hT
  have GF := hide (fun w h => begunF_any hC hB hF hK w h)
  have GX := hide (fun w h h' => begunX_any hD hR hCt w h h')
  have r1 := hide (fun w hm => hD name s w g0 g1 hm)
  have BG := hide (fun w => hB name w g0)
  have hy1 : ((chI name (bl s)).2.1 == 0) = false := beq_eq_false_iff_ne.2 (chI_ne name (bl s))
  have hxl : (whI name (bl s)).length ≤ 3000 := by have := whI_few name s; omega
  obtain ⟨k0, k1, k2, kz, kall, kx, ky⟩ := pieces6 (name := name) (s := s) (c := c) (m := m) g0 hcm
  have FM1 := hide (fun w hm => hF (Fr.new name) (s.extract 0 c) false w k0 (by simp; omega) hm)
  have FM2 := hide (fun w hm => hF ((Fr.new name).nxt (s.extract 0 c) false) (s.extract c (c + m)) false w k1 (by simp; omega) hm)
  have FM3 := hide (fun w hm => hF (((Fr.new name).nxt (s.extract 0 c) false).nxt (s.extract c (c + m)) false) (s.extract (c + m) s.size) true w k2 (by simp; omega) hm)
  have CX := fun w hm => hK ((Fr.new name).nxt (s.extract 0 c) false) w (by have := (chk_sizes k1).1; unfold maxLen; omega) (by have := (chk_sizes k1).2.1; unfold maxLen; omega) (by have := (chk_sizes k1).2.2; unfold maxLen; omega) hm
  rw [k1] at CX
  have CY := fun w hm => hK (((Fr.new name).nxt (s.extract 0 c) false).nxt (s.extract c (c + m)) false) w (by have := (chk_sizes k2).1; unfold maxLen; omega) (by have := (chk_sizes k2).2.1; unfold maxLen; omega) (by have := (chk_sizes k2).2.2; unfold maxLen; omega) hm
  rw [k2] at CY
  rw [kz] at FM3
  have HALL := hide kall
  have KX := hide kx
  have KY := hide ky
  have CXH := hide CX
  have CYH := hide CY
  clear k0 k1 k2 kz kall kx ky CX CY
  generalize (((Fr.new name).nxt (s.extract 0 c) false).nxt (s.extract c (c + m)) false).outs (s.extract (c + m) s.size) true = OC at *
  generalize ((Fr.new name).nxt (s.extract 0 c) false).outs (s.extract c (c + m)) false = OB at *
  generalize (Fr.new name).outs (s.extract 0 c) false = OA at *
  generalize ((Fr.new name).nxt (s.extract 0 c) false).nxt (s.extract c (c + m)) false = NY at *
  generalize (Fr.new name).nxt (s.extract 0 c) false = NX at *
  obtain ⟨L1, en1, wy1, W1, ee1, r1', g1', fr1, st1⟩ := NX
  obtain ⟨L2, en2, wy2, W2, ee2, r2', g2', fr2, st2⟩ := NY
  dsimp only [Fr.v, Fr.new, M.st0] at FM1 FM2 FM3 BG CXH CYH KX KY
  generalize whI name (bl s) = X at *
  generalize (chI name (bl s)).1 = n1 at *
  generalize (chI name (bl s)).2.1 = ywhy at *
  clear hC hB hF hK hD hDE hR hCt hMx hT
  unfold maxLen at hn hs
  have hsl : ∀ wx, (Instr.slice 9 (.string s) (some (.int .i64 (c : Int))) (some (.int .i64 ((c : Int) + (m : Int)))) none).run Tryz.prog wx = .ok (.string (s.extract c (c + m))) wx :=
    fun wx => run_slice_string (P := Tryz.prog) wx 9 s .i64 .i64 (c : Int) ((c : Int) + (m : Int)) Tryz.underlying9 (by omega) (by omega) (by omega)
  have hsl3 : ∀ wx, (Instr.slice 9 (.string s) (some (.int .i64 ((c : Int) + (m : Int)))) none none).run Tryz.prog wx = .ok (.string (s.extract (c + m) s.size)) wx :=
    fun wx => run_slice_string_l (P := Tryz.prog) wx 9 s Tryz.underlying9 .i64 ((c : Int) + (m : Int)) (by omega) (by omega)
  have hwr : IntKind.i64.wrap ((c : Int) + (m : Int)) = (c : Int) + (m : Int) := by rw [IntKind.wrap_i64]; omega
  go_enter Tryz.func4, Tryz.ntmps4
  go_wp2_with fail
  refine (unhide GF _ (unhide HM)).mono ?_
  rintro e w1 ⟨rfl, hb1⟩
  have HB1 := hide hb1
  clear hb1 GF
  go_wp2_with fail
  refine (unhide GX _ ((unhide HM).below (unhide HB1)) ((unhide HT).below (unhide HB1))).mono ?_
  rintro e w2 ⟨rfl, hb2⟩
  have HB2 := hide (bstep (unhide HB1) hb2)
  clear hb2 GX HB1
  go_wp2_with fail
  refine (unhide r1 _ ((unhide HM).below (unhide HB2))).mono ?_
  rintro e w3 ⟨v3, rfl, ho3, hb3⟩
  obtain ⟨a0, c0, hsh3⟩ := owns_shape ho3
  subst hsh3
  have D3 := hide (Ints.of_owns ho3)
  have HB3 := hide (bstep (unhide HB2) hb3)
  clear hb3 HB2 r1 ho3
  go_wp2_with fail
  refine (unhide BG _).mono ?_
  rintro e w4 ⟨rfl, hb4⟩
  have O4 : Hid (Fb w4.heap.size (Fr.new name) (w4.alloc (.cells #[.string name, .int .i64 0, .int .i64 0, .string ⟨#[]⟩, .int .i64 0, .string ⟨#[]⟩, .int .i64 0, .bool false, .bool false] 25))) := hide (Fb.new w4 (Fr.new name))
  have hst := bstep hb4 (balloc w4 (.cells #[.string name, .int .i64 0, .int .i64 0, .string ⟨#[]⟩, .int .i64 0, .string ⟨#[]⟩, .int .i64 0, .bool false, .bool false] 25))
  have D4 := hide ((unhide D3).below hst)
  have HB4 := hide (bstep (unhide HB3) hst)
  clear hb4 hst D3 HB3 BG
  have hp0 := (unhide O4).lt
  obtain ⟨o0, o1, o2, o3, o4, o5, o6, o7, o8, -, -, -, -, -, -, -, -, -⟩ := unhide O4
  dsimp only [Fr.new, M.st0] at o0 o1 o2 o3 o4 o5 o6 o7 o8
  go_upto_region 7 with fail
  generalize w4.alloc (.cells #[.string name, .int .i64 0, .int .i64 0, .string ⟨#[]⟩, .int .i64 0, .string ⟨#[]⟩, .int .i64 0, .bool false, .bool false] 25) = V at *
  have M4 := hide ((unhide HM).below (unhide HB4))
  go_cut [14, 15, 16] from 75 to 83 (fun a x f wx => InF6 V (Fr.mk L1 en1 wy1 W1 ee1 r1' (g1', fr1, st1)) OA a x f wx)
  case first =>
    go_region_law ((go_simp; go_at_call 14; refine (unhide FM1 _ ((unhide M4).below (by first | exact below_drewN (Below.refl _ _) 1 | exact below_drewN ((Below.refl _ _).alloc (Nat.le_refl _) _) 1))).mono ?_; rintro e' z1 ⟨v, rfl, hI, hb⟩; obtain ⟨av, cv, hsv⟩ := owns_shape hI; subst hsv; (first
        | (have HW : Hid (Below V.heap.size V z1) := hide ((below_drewN (Below.refl _ V) 1).trans hb); have HI : Hid (z1.ownsRow V.heap.size 3 1 (.slice av OA.length cv) OA.length (OA.map (Value.int .i64))) := hide hI)
        | (have HW : Hid (Below V.heap.size V z1) := hide ((below_drewN ((Below.refl _ V).alloc (Nat.le_refl _) _) 1).trans (hb.mono (by simp))); have HI : Hid (z1.ownsRow (V.heap.size + 1) 3 1 (.slice av OA.length cv) OA.length (OA.map (Value.int .i64))) := hide (by simpa using hI); have HRc := hide (Fb.made hb); obtain ⟨b0, b1, b2, b3, b4, b5, b6, b7, b8, q0, q1, q2, q3, q4, q5, q6, q7, q8⟩ := unhide HRc; dsimp only [Fr.new, M.st0] at b0 b1 b2 b3 b4 b5 b6 b7 b8; have hq : V.heap.size < z1.heap.size := World.block_lt_of_cell? z1 _ b0)); clear hI hb))
    all_goals
      go_wp2_with fail
      go_meet
      case rel => first | (have hRc := unhide HRc; exact InF6.b (N := (Fr.mk L1 en1 wy1 W1 ee1 r1' (g1', fr1, st1))) (unhide HW) hRc (unhide HI)) | exact InF6.a (N := (Fr.mk L1 en1 wy1 W1 ee1 r1' (g1', fr1, st1))) (unhide HW) (unhide HI)
  case rest =>
    obtain ⟨av1, cv1, B1, rfl, rfl, rfl, hS1, hI1, hb1⟩ := hcut
    have X5 := hide hS1
    have Ia5 := hide hI1
    have O5 := hide ((unhide O4).on hb1)
    have D5 := hide ((unhide D4).below hb1)
    have HB5 := hide (bstep (unhide HB4) hb1)
    have M5 := hide ((unhide HM).below (unhide HB5))
    clear hS1 hI1 hb1 O4 D4 HB4 FM1
    have hp1 := (unhide X5).lt
    obtain ⟨x0, x1, x2, x3, x4, x5, x6, x7, x8, -, -, -, -, -, -, -, -, -⟩ := unhide X5
    dsimp only at x0 x1 x2 x3 x4 x5 x6 x7 x8
    go_upto_region 8 with fail
    go_cut [17, 18, 19] from 84 to 95 (fun a x f wx => InF6 wc (Fr.mk L2 en2 wy2 W2 ee2 r2' (g2', fr2, st2)) OB a x f wx)
    case first =>
      go_region_law ((go_simp; go_at_call 14; refine (unhide FM2 _ ((unhide M5).below (by first | exact below_drewN (Below.refl _ _) 1 | exact below_drewN ((Below.refl _ _).alloc (Nat.le_refl _) _) 1))).mono ?_; rintro e' z1 ⟨v, rfl, hI, hb⟩; obtain ⟨av, cv, hsv⟩ := owns_shape hI; subst hsv; (first
          | (have HW : Hid (Below wc.heap.size wc z1) := hide ((below_drewN (Below.refl _ wc) 1).trans hb); have HI : Hid (z1.ownsRow wc.heap.size 3 1 (.slice av OB.length cv) OB.length (OB.map (Value.int .i64))) := hide hI)
          | (have HW : Hid (Below wc.heap.size wc z1) := hide ((below_drewN ((Below.refl _ wc).alloc (Nat.le_refl _) _) 1).trans (hb.mono (by simp))); have HI : Hid (z1.ownsRow (wc.heap.size + 1) 3 1 (.slice av OB.length cv) OB.length (OB.map (Value.int .i64))) := hide (by simpa using hI); have HRc := hide (Fb.made hb); obtain ⟨b0, b1, b2, b3, b4, b5, b6, b7, b8, q0, q1, q2, q3, q4, q5, q6, q7, q8⟩ := unhide HRc; dsimp only [Fr.new, M.st0] at b0 b1 b2 b3 b4 b5 b6 b7 b8; have hq : wc.heap.size < z1.heap.size := World.block_lt_of_cell? z1 _ b0)); clear hI hb))
      all_goals
        go_wp2_with fail
        go_meet
        case rel => first | (have hRc := unhide HRc; exact InF6.b (N := (Fr.mk L2 en2 wy2 W2 ee2 r2' (g2', fr2, st2))) (unhide HW) hRc (unhide HI)) | exact InF6.a (N := (Fr.mk L2 en2 wy2 W2 ee2 r2' (g2', fr2, st2))) (unhide HW) (unhide HI)
    case rest =>
      obtain ⟨av2, cv2, B2, rfl, rfl, rfl, hS2, hI2, hb2⟩ := hcut
      have Y6 := hide hS2
      have Ib6 := hide hI2
      have X6 := hide ((unhide X5).on hb2)
      have O6 := hide ((unhide O5).on hb2)
      have Ia6 := hide ((unhide Ia5).below hb2)
      have D6 := hide ((unhide D5).below hb2)
      have HB6 := hide (bstep (unhide HB5) hb2)
      have M6 := hide ((unhide HM).below (unhide HB6))
      clear hS2 hI2 hb2 X5 O5 Ia5 D5 HB5 FM2
      have hp2 := (unhide Y6).lt
      obtain ⟨y0, y1, y2, y3, y4, y5, y6, y7, y8, -, -, -, -, -, -, -, -, -⟩ := unhide Y6
      dsimp only at y0 y1 y2 y3 y4 y5 y6 y7 y8
      go_upto_region 9 with fail
      go_cut [20, 21, 22] from 96 to 106 (fun a x f wx => InF6 wc (Fr.new name) OC a x f wx)
      case first =>
        go_region_law ((go_simp; go_at_call 14; refine (unhide FM3 _ ((unhide M6).below (by first | exact below_drewN (Below.refl _ _) 1 | exact below_drewN ((Below.refl _ _).alloc (Nat.le_refl _) _) 1))).mono ?_; rintro e' z1 ⟨v, rfl, hI, hb⟩; obtain ⟨av, cv, hsv⟩ := owns_shape hI; subst hsv; (first
            | (have HW : Hid (Below wc.heap.size wc z1) := hide ((below_drewN (Below.refl _ wc) 1).trans hb); have HI : Hid (z1.ownsRow wc.heap.size 3 1 (.slice av OC.length cv) OC.length (OC.map (Value.int .i64))) := hide hI)
            | (have HW : Hid (Below wc.heap.size wc z1) := hide ((below_drewN ((Below.refl _ wc).alloc (Nat.le_refl _) _) 1).trans (hb.mono (by simp))); have HI : Hid (z1.ownsRow (wc.heap.size + 1) 3 1 (.slice av OC.length cv) OC.length (OC.map (Value.int .i64))) := hide (by simpa using hI); have HRc := hide (Fb.made hb); obtain ⟨b0, b1, b2, b3, b4, b5, b6, b7, b8, q0, q1, q2, q3, q4, q5, q6, q7, q8⟩ := unhide HRc; dsimp only [Fr.new, M.st0] at b0 b1 b2 b3 b4 b5 b6 b7 b8; have hq : wc.heap.size < z1.heap.size := World.block_lt_of_cell? z1 _ b0)); clear hI hb))
        all_goals
          go_wp2_with fail
          go_meet
          case rel => first | (have hRc := unhide HRc; exact InF6.b (N := (Fr.new name)) (unhide HW) hRc (unhide HI)) | exact InF6.a (N := (Fr.new name)) (unhide HW) (unhide HI)
      case rest =>
        obtain ⟨av3, cv3, B3, rfl, rfl, rfl, hS3, hI3, hb3⟩ := hcut
        have Z7 := hide hS3
        have Ic7 := hide hI3
        have X7 := hide ((unhide X6).on hb3)
        have Y7 := hide ((unhide Y6).on hb3)
        have O7 := hide ((unhide O6).on hb3)
        have Ia7 := hide ((unhide Ia6).below hb3)
        have Ib7 := hide ((unhide Ib6).below hb3)
        have D7 := hide ((unhide D6).below hb3)
        have HB7 := hide (bstep (unhide HB6) hb3)
        clear hS3 hI3 hb3 X6 Y6 O6 Ia6 Ib6 D6 HB6 FM3
        have hpz := (unhide Z7).lt
        have hpo := (unhide O7).lt
        have hpx := (unhide X7).lt
        have hpy := (unhide Y7).lt
        clear x0 x1 x2 x3 x4 x5 x6 x7 x8 y0 y1 y2 y3 y4 y5 y6 y7 y8 o0 o1 o2 o3 o4 o5 o6 o7 o8 hp0 hp1 hp2
        obtain ⟨z0, z1, z2, z3, z4, z5, z6, z7, z8, -, -, -, -, -, -, -, -, -⟩ := unhide Z7
        obtain ⟨o0, o1, o2, o3, o4, o5, o6, o7, o8, -, -, -, -, -, -, -, -, -⟩ := unhide O7
        obtain ⟨x0, x1, x2, x3, x4, x5, x6, x7, x8, -, -, -, -, -, -, -, -, -⟩ := unhide X7
        obtain ⟨y0, y1, y2, y3, y4, y5, y6, y7, y8, -, -, -, -, -, -, -, -, -⟩ := unhide Y7
        dsimp only [Fr.new, M.st0] at z0 z1 z2 z3 z4 z5 z6 z7 z8 o0 o1 o2 o3 o4 o5 o6 o7 o8 x0 x1 x2 x3 x4 x5 x6 x7 x8 y0 y1 y2 y3 y4 y5 y6 y7 y8
        go_wp2_with fail
        have HC : Hid ((wc.alloc (.cells #[.string L1, .int .i64 en1, .int .i64 wy1, .string W1, .int .i64 ee1, .string r1', .int .i64 g1', .bool fr1, .bool st1, .string L2, .int .i64 en2, .int .i64 wy2, .string W2, .int .i64 ee2, .string r2', .int .i64 g2', .bool fr2, .bool st2] 25)).cell? ⟨wc.heap.size, 0, none⟩ = some (.string L1) ∧ (wc.alloc (.cells #[.string L1, .int .i64 en1, .int .i64 wy1, .string W1, .int .i64 ee1, .string r1', .int .i64 g1', .bool fr1, .bool st1, .string L2, .int .i64 en2, .int .i64 wy2, .string W2, .int .i64 ee2, .string r2', .int .i64 g2', .bool fr2, .bool st2] 25)).cell? ⟨wc.heap.size, 1, none⟩ = some (.int .i64 en1) ∧ (wc.alloc (.cells #[.string L1, .int .i64 en1, .int .i64 wy1, .string W1, .int .i64 ee1, .string r1', .int .i64 g1', .bool fr1, .bool st1, .string L2, .int .i64 en2, .int .i64 wy2, .string W2, .int .i64 ee2, .string r2', .int .i64 g2', .bool fr2, .bool st2] 25)).cell? ⟨wc.heap.size, 2, none⟩ = some (.int .i64 wy1) ∧ (wc.alloc (.cells #[.string L1, .int .i64 en1, .int .i64 wy1, .string W1, .int .i64 ee1, .string r1', .int .i64 g1', .bool fr1, .bool st1, .string L2, .int .i64 en2, .int .i64 wy2, .string W2, .int .i64 ee2, .string r2', .int .i64 g2', .bool fr2, .bool st2] 25)).cell? ⟨wc.heap.size, 3, none⟩ = some (.string W1) ∧ (wc.alloc (.cells #[.string L1, .int .i64 en1, .int .i64 wy1, .string W1, .int .i64 ee1, .string r1', .int .i64 g1', .bool fr1, .bool st1, .string L2, .int .i64 en2, .int .i64 wy2, .string W2, .int .i64 ee2, .string r2', .int .i64 g2', .bool fr2, .bool st2] 25)).cell? ⟨wc.heap.size, 4, none⟩ = some (.int .i64 ee1) ∧ (wc.alloc (.cells #[.string L1, .int .i64 en1, .int .i64 wy1, .string W1, .int .i64 ee1, .string r1', .int .i64 g1', .bool fr1, .bool st1, .string L2, .int .i64 en2, .int .i64 wy2, .string W2, .int .i64 ee2, .string r2', .int .i64 g2', .bool fr2, .bool st2] 25)).cell? ⟨wc.heap.size, 5, none⟩ = some (.string r1') ∧ (wc.alloc (.cells #[.string L1, .int .i64 en1, .int .i64 wy1, .string W1, .int .i64 ee1, .string r1', .int .i64 g1', .bool fr1, .bool st1, .string L2, .int .i64 en2, .int .i64 wy2, .string W2, .int .i64 ee2, .string r2', .int .i64 g2', .bool fr2, .bool st2] 25)).cell? ⟨wc.heap.size, 6, none⟩ = some (.int .i64 g1') ∧ (wc.alloc (.cells #[.string L1, .int .i64 en1, .int .i64 wy1, .string W1, .int .i64 ee1, .string r1', .int .i64 g1', .bool fr1, .bool st1, .string L2, .int .i64 en2, .int .i64 wy2, .string W2, .int .i64 ee2, .string r2', .int .i64 g2', .bool fr2, .bool st2] 25)).cell? ⟨wc.heap.size, 7, none⟩ = some (.bool fr1) ∧ (wc.alloc (.cells #[.string L1, .int .i64 en1, .int .i64 wy1, .string W1, .int .i64 ee1, .string r1', .int .i64 g1', .bool fr1, .bool st1, .string L2, .int .i64 en2, .int .i64 wy2, .string W2, .int .i64 ee2, .string r2', .int .i64 g2', .bool fr2, .bool st2] 25)).cell? ⟨wc.heap.size, 8, none⟩ = some (.bool st1)) := hide (by refine ⟨?_, ?_, ?_, ?_, ?_, ?_, ?_, ?_, ?_⟩ <;> simp [go_sem])
        have HC' : Hid ((wc.alloc (.cells #[.string L1, .int .i64 en1, .int .i64 wy1, .string W1, .int .i64 ee1, .string r1', .int .i64 g1', .bool fr1, .bool st1, .string L2, .int .i64 en2, .int .i64 wy2, .string W2, .int .i64 ee2, .string r2', .int .i64 g2', .bool fr2, .bool st2] 25)).cell? ⟨wc.heap.size, 9, none⟩ = some (.string L2) ∧ (wc.alloc (.cells #[.string L1, .int .i64 en1, .int .i64 wy1, .string W1, .int .i64 ee1, .string r1', .int .i64 g1', .bool fr1, .bool st1, .string L2, .int .i64 en2, .int .i64 wy2, .string W2, .int .i64 ee2, .string r2', .int .i64 g2', .bool fr2, .bool st2] 25)).cell? ⟨wc.heap.size, 10, none⟩ = some (.int .i64 en2) ∧ (wc.alloc (.cells #[.string L1, .int .i64 en1, .int .i64 wy1, .string W1, .int .i64 ee1, .string r1', .int .i64 g1', .bool fr1, .bool st1, .string L2, .int .i64 en2, .int .i64 wy2, .string W2, .int .i64 ee2, .string r2', .int .i64 g2', .bool fr2, .bool st2] 25)).cell? ⟨wc.heap.size, 11, none⟩ = some (.int .i64 wy2) ∧ (wc.alloc (.cells #[.string L1, .int .i64 en1, .int .i64 wy1, .string W1, .int .i64 ee1, .string r1', .int .i64 g1', .bool fr1, .bool st1, .string L2, .int .i64 en2, .int .i64 wy2, .string W2, .int .i64 ee2, .string r2', .int .i64 g2', .bool fr2, .bool st2] 25)).cell? ⟨wc.heap.size, 12, none⟩ = some (.string W2) ∧ (wc.alloc (.cells #[.string L1, .int .i64 en1, .int .i64 wy1, .string W1, .int .i64 ee1, .string r1', .int .i64 g1', .bool fr1, .bool st1, .string L2, .int .i64 en2, .int .i64 wy2, .string W2, .int .i64 ee2, .string r2', .int .i64 g2', .bool fr2, .bool st2] 25)).cell? ⟨wc.heap.size, 13, none⟩ = some (.int .i64 ee2) ∧ (wc.alloc (.cells #[.string L1, .int .i64 en1, .int .i64 wy1, .string W1, .int .i64 ee1, .string r1', .int .i64 g1', .bool fr1, .bool st1, .string L2, .int .i64 en2, .int .i64 wy2, .string W2, .int .i64 ee2, .string r2', .int .i64 g2', .bool fr2, .bool st2] 25)).cell? ⟨wc.heap.size, 14, none⟩ = some (.string r2') ∧ (wc.alloc (.cells #[.string L1, .int .i64 en1, .int .i64 wy1, .string W1, .int .i64 ee1, .string r1', .int .i64 g1', .bool fr1, .bool st1, .string L2, .int .i64 en2, .int .i64 wy2, .string W2, .int .i64 ee2, .string r2', .int .i64 g2', .bool fr2, .bool st2] 25)).cell? ⟨wc.heap.size, 15, none⟩ = some (.int .i64 g2') ∧ (wc.alloc (.cells #[.string L1, .int .i64 en1, .int .i64 wy1, .string W1, .int .i64 ee1, .string r1', .int .i64 g1', .bool fr1, .bool st1, .string L2, .int .i64 en2, .int .i64 wy2, .string W2, .int .i64 ee2, .string r2', .int .i64 g2', .bool fr2, .bool st2] 25)).cell? ⟨wc.heap.size, 16, none⟩ = some (.bool fr2) ∧ (wc.alloc (.cells #[.string L1, .int .i64 en1, .int .i64 wy1, .string W1, .int .i64 ee1, .string r1', .int .i64 g1', .bool fr1, .bool st1, .string L2, .int .i64 en2, .int .i64 wy2, .string W2, .int .i64 ee2, .string r2', .int .i64 g2', .bool fr2, .bool st2] 25)).cell? ⟨wc.heap.size, 17, none⟩ = some (.bool st2)) := hide (by refine ⟨?_, ?_, ?_, ?_, ?_, ?_, ?_, ?_, ?_⟩ <;> simp [go_sem])
        have hst := balloc wc (.cells #[.string L1, .int .i64 en1, .int .i64 wy1, .string W1, .int .i64 ee1, .string r1', .int .i64 g1', .bool fr1, .bool st1, .string L2, .int .i64 en2, .int .i64 wy2, .string W2, .int .i64 ee2, .string r2', .int .i64 g2', .bool fr2, .bool st2] 25)
        have Ia7 := hide ((unhide Ia7).below hst)
        have Ib7 := hide ((unhide Ib7).below hst)
        have Ic7 := hide ((unhide Ic7).below hst)
        have D7 := hide ((unhide D7).below hst)
        have HBV := hide (bstep (unhide HB7) hst)
        clear hst z0 z1 z2 z3 z4 z5 z6 z7 z8 o0 o1 o2 o3 o4 o5 o6 o7 o8 x0 x1 x2 x3 x4 x5 x6 x7 x8 y0 y1 y2 y3 y4 y5 y6 y7 y8 hpz hpo hpx hpy X7 Y7 Z7 O7 HB7 M4 M5 M6
        generalize wc.alloc (.cells #[.string L1, .int .i64 en1, .int .i64 wy1, .string W1, .int .i64 ee1, .string r1', .int .i64 g1', .bool fr1, .bool st1, .string L2, .int .i64 en2, .int .i64 wy2, .string W2, .int .i64 ee2, .string r2', .int .i64 g2', .bool fr2, .bool st2] 25) = V at *
        generalize wc.heap.size = BB at *
        have hBV : BB < V.heap.size := World.block_lt_of_cell? V _ (unhide HC).1
        have MV := hide ((unhide HM).below (unhide HBV))
        have HV0 : Hid (∀ w', Below V.heap.size V w' → w'.cell? ⟨BB, 0, none⟩ = some (.string L1) ∧ w'.cell? ⟨BB, 1, none⟩ = some (.int .i64 en1) ∧ w'.cell? ⟨BB, 2, none⟩ = some (.int .i64 wy1) ∧ w'.cell? ⟨BB, 3, none⟩ = some (.string W1) ∧ w'.cell? ⟨BB, 4, none⟩ = some (.int .i64 ee1) ∧ w'.cell? ⟨BB, 5, none⟩ = some (.string r1') ∧ w'.cell? ⟨BB, 6, none⟩ = some (.int .i64 g1') ∧ w'.cell? ⟨BB, 7, none⟩ = some (.bool fr1) ∧ w'.cell? ⟨BB, 8, none⟩ = some (.bool st1)) := hide (fun w' h => by
          obtain ⟨v0, v1, v2, v3, v4, v5, v6, v7, v8⟩ := unhide HC
          exact ⟨(h.cell hBV).trans v0, (h.cell hBV).trans v1, (h.cell hBV).trans v2, (h.cell hBV).trans v3, (h.cell hBV).trans v4, (h.cell hBV).trans v5, (h.cell hBV).trans v6, (h.cell hBV).trans v7, (h.cell hBV).trans v8⟩)
        have HV1 : Hid (∀ w', Below V.heap.size V w' → w'.cell? ⟨BB, 9, none⟩ = some (.string L2) ∧ w'.cell? ⟨BB, 10, none⟩ = some (.int .i64 en2) ∧ w'.cell? ⟨BB, 11, none⟩ = some (.int .i64 wy2) ∧ w'.cell? ⟨BB, 12, none⟩ = some (.string W2) ∧ w'.cell? ⟨BB, 13, none⟩ = some (.int .i64 ee2) ∧ w'.cell? ⟨BB, 14, none⟩ = some (.string r2') ∧ w'.cell? ⟨BB, 15, none⟩ = some (.int .i64 g2') ∧ w'.cell? ⟨BB, 16, none⟩ = some (.bool fr2) ∧ w'.cell? ⟨BB, 17, none⟩ = some (.bool st2)) := hide (fun w' h => by
          obtain ⟨v0, v1, v2, v3, v4, v5, v6, v7, v8⟩ := unhide HC'
          exact ⟨(h.cell hBV).trans v0, (h.cell hBV).trans v1, (h.cell hBV).trans v2, (h.cell hBV).trans v3, (h.cell hBV).trans v4, (h.cell hBV).trans v5, (h.cell hBV).trans v6, (h.cell hBV).trans v7, (h.cell hBV).trans v8⟩)
        clear HC HC'
        go_loopw [24] (fun i wr => ∃ k : Nat, k ≤ 2 ∧ i = .int .i64 k ∧ Below V.heap.size V wr) (fun i _ => 2 - (intOf i).toNat)
        case atStart => exact ⟨0, by omega, rfl, Below.refl _ _⟩
        case round =>
          obtain ⟨k, hk, rfl, hB⟩ := hrel
          have HB := hide hB
          clear hB
          rcases (show k = 0 ∨ k = 1 ∨ k = 2 from by omega) with rfl | rfl | rfl
          · obtain ⟨v0, v1, v2, v3, v4, v5, v6, v7, v8⟩ := unhide HV0 _ (unhide HB)
            have hbl := World.block_lt_of_cell? wr _ v0
            rcases unhide KX with hq | ⟨hq1, hq2⟩
            · subst hq
              go_wp2_with fail
              refine (unhide CXH _ ((unhide MV).below (unhide HB))).mono ?_
              rintro e w6 ⟨rfl, hb6⟩
              have HB6 := hide (bstep (unhide HB) hb6)
              clear hb6 v0 v1 v2 v3 v4 v5 v6 v7 v8 hbl
              obtain ⟨v0, v1, v2, v3, v4, v5, v6, v7, v8⟩ := unhide HV0 _ (unhide HB6)
              go_wp2_with fail
              go_roundw
              case rel => exact ⟨1, by omega, by go_num, unhide HB6⟩
              case measure => simp [intOf]
            · subst hq1 hq2
              have hne := beq_eq_false_iff_ne.1 hy1
              go_wp2_with fail
              refine (unhide CXH _ ((unhide MV).below (unhide HB))).mono ?_
              rintro e w6 ⟨rfl, hb6⟩
              have HB6 := hide (bstep (unhide HB) hb6)
              clear hb6 v0 v1 v2 v3 v4 v5 v6 v7 v8 hbl
              obtain ⟨v0, v1, v2, v3, v4, v5, v6, v7, v8⟩ := unhide HV0 _ (unhide HB6)
              go_wp2_with fail
              go_roundw
              case rel => exact ⟨1, by omega, by go_num, unhide HB6⟩
              case measure => simp [intOf]
          · obtain ⟨v0, v1, v2, v3, v4, v5, v6, v7, v8⟩ := unhide HV1 _ (unhide HB)
            have hbl := World.block_lt_of_cell? wr _ v0
            rcases unhide KY with hq | ⟨hq1, hq2⟩
            · subst hq
              go_wp2_with fail
              refine (unhide CYH _ ((unhide MV).below (unhide HB))).mono ?_
              rintro e w6 ⟨rfl, hb6⟩
              have HB6 := hide (bstep (unhide HB) hb6)
              clear hb6 v0 v1 v2 v3 v4 v5 v6 v7 v8 hbl
              obtain ⟨v0, v1, v2, v3, v4, v5, v6, v7, v8⟩ := unhide HV1 _ (unhide HB6)
              go_wp2_with fail
              go_roundw
              case rel => exact ⟨2, by omega, by go_num, unhide HB6⟩
              case measure => simp [intOf]
            · subst hq1 hq2
              have hne := beq_eq_false_iff_ne.1 hy1
              go_wp2_with fail
              refine (unhide CYH _ ((unhide MV).below (unhide HB))).mono ?_
              rintro e w6 ⟨rfl, hb6⟩
              have HB6 := hide (bstep (unhide HB) hb6)
              clear hb6 v0 v1 v2 v3 v4 v5 v6 v7 v8 hbl
              obtain ⟨v0, v1, v2, v3, v4, v5, v6, v7, v8⟩ := unhide HV1 _ (unhide HB6)
              go_wp2_with fail
              go_roundw
              case rel => exact ⟨2, by omega, by go_num, unhide HB6⟩
              case measure => simp [intOf]
          · have HLs : Hid (OA.length + OB.length + OC.length ≤ 3000) := hide (by have := congrArg List.length (unhide HALL); rw [List.length_append, List.length_append] at this; omega)
            have Ia8 := hide ((unhide Ia7).below (unhide HB))
            have Ib8 := hide ((unhide Ib7).below (unhide HB))
            have Ic8 := hide ((unhide Ic7).below (unhide HB))
            have D8 := hide ((unhide D7).below (unhide HB))
            have o6 := World.ownsRow_made (base := wr.heap.size) (e := 3) (size := 1) wr #[] 0 (Nat.le_refl _) (by simp) rfl
            go_wp2_with (at_builtin; refine append_ints rfl (.tmp 167) (.tmp 168) rfl wr.heap.size _ [] rfl o6 _ OA rfl ((unhide Ia8).below (balloc _ _)) (by have := unhide HLs; simp; omega) (by simp) ?_)
            intro v7 w7 ho7 hb7
            obtain ⟨ao7, cap7, hsh7⟩ := owns_shape ho7
            subst hsh7
            have HB7' : Hid (Below wr.heap.size wr w7) := hide ((balloc _ _).trans hb7)
            have hz7 := (unhide HB7').size
            clear o6 hb7
            go_wp2_with (at_builtin; refine append_ints rfl (.tmp 169) (.tmp 170) rfl wr.heap.size _ OA rfl ho7 _ OB rfl ((unhide Ib8).below (unhide HB7')) (by have := unhide HLs; omega) hz7 ?_)
            intro v8 w8 ho8 hb8
            obtain ⟨ao8, cap8, hsh8⟩ := owns_shape ho8
            subst hsh8
            have HB8 : Hid (Below wr.heap.size wr w8) := hide ((unhide HB7').trans hb8)
            have hz8 := (unhide HB8).size
            obtain ⟨L12, h12⟩ : ∃ L12, OA ++ OB = L12 := ⟨_, rfl⟩
            have HO8 : Hid (w8.ownsRow wr.heap.size 3 1 (.slice ao8 (OA.length + OB.length) cap8) L12.length (L12.map (Value.int .i64))) := hide (by rw [← h12]; simpa using ho8)
            have HAL2 : Hid (L12 ++ OC = X) := hide (by rw [← h12]; exact unhide HALL)
            have HLs2 : Hid (L12.length + OC.length ≤ 3000) := hide (by rw [← h12, List.length_append]; exact unhide HLs)
            clear h12
            clear ho7 hb8 HB7' hz7 ho8
            go_wp2_with (at_builtin; refine append_ints rfl (.tmp 171) (.tmp 172) rfl wr.heap.size _ L12 rfl (unhide HO8) _ OC rfl ((unhide Ic8).below (unhide HB8)) (by have := unhide HLs2; omega) hz8 ?_)
            intro v9 w9 ho9 hb9
            obtain ⟨ao9, cap9, hsh9⟩ := owns_shape ho9
            subst hsh9
            have HB9 : Hid (Below wr.heap.size wr w9) := hide ((unhide HB8).trans hb9)
            have HI9 : Hid (Ints w9 (.slice ao9 (L12.length + OC.length) cap9) X) := hide (by rw [← unhide HAL2]; exact Ints.of_owns (by simpa using ho9))
            have D9 := hide ((unhide D8).below (unhide HB9))
            have HBt := hide (bstep (bstep (unhide HBV) (unhide HB)) (unhide HB9))
            clear ho9 hb9 HB8 hz8 HB9
            go_wp2_with fail
            refine (same_any _ (unhide HI9) (unhide D9)).mono ?_
            rintro e w10 ⟨rfl, hb10⟩
            rw [show (X == X) = true from by simp]
            have HB10 := hide (bstep (unhide HBt) hb10)
            clear hb10
            go_wp2_with fail
            go_ret
            exact ⟨rfl, unhide HB10⟩
theorem fpieces_walk (hC : ChSays) (hB : BgSays) (hF : FdSays) (hK : CkSays) (hD : DcSays) (hDE : DcErrs) (hR : RcSays) (hCt : CtSays) (name s : ByteArray) (c m : Int) (w : World) (hMx : Mx w) (hT : Tb w) (hn : name.size ≤ maxLen) (hs : s.size ≤ maxLen) (hcw : (Lit.int .i64 c).wf = true) (hmw : (Lit.int .i64 m).wf = true) :
    Calls Tryz.prog 4 #[.string name, .string s, .int .i64 c, .int .i64 m] w fun e w' => e = .returned (.bool true) ∧ Below w.heap.size w w' := by
  by_cases h : 3000 < name.size ∨ 3000 < s.size
  · exact fp_long hC hB hF hK hD hDE hR hCt name s c m w hMx hT hn hs hcw hmw h
  by_cases h0 : c < 0
  · exact fp_cutlow hC hB hF hK hD hDE hR hCt name s c m w hMx hT hn hs hcw hmw (by omega) (by omega) h0
  by_cases h1 : m < 0
  · exact fp_morelow hC hB hF hK hD hDE hR hCt name s c m w hMx hT hn hs hcw hmw (by omega) (by omega) (by omega) h1
  by_cases h2 : (s.size : Int) < c
  · exact fp_cuthigh hC hB hF hK hD hDE hR hCt name s c m w hMx hT hn hs hcw hmw (by omega) (by omega) (by omega) (by omega) h2
  by_cases h3 : (s.size : Int) - c < m
  · exact fp_morehigh hC hB hF hK hD hDE hR hCt name s c m w hMx hT hn hs hcw hmw (by omega) (by omega) (by omega) (by omega) (by omega) h3
  · exact fp_main hC hB hF hK hD hDE hR hCt name s c m w hMx hT hn hs hcw hmw (by omega) (by omega) (by omega) (by omega) (by omega) (by omega)
end Go.Proofs.YtaiinjfnkmidbaaGreatDoor
