/- Proved: for every integer encoding, every text s and all integers cut and more the law StreamPieces returns true. No condition. -/
import Derived.Test.YthhjfedegbldfacDG
import Derived.OpenShut
import Derived.ShutString
import Derived.ChangeOld
namespace Go.Proofs.Ythhjfedegbldfac.streamPieces
open Go.ChangeShapes Go.WideShapes Go.ChangeAt Go.RowKit
open Go.ChangeMaps (open_string shut_string)
open Go.Proofs.Ythhjfedegbldfac
set_option linter.unusedVariables false

theorem own : ownKnob Try.prog.godebug = none := by kernel_rfl

theorem in_pieces (n : Int) (p q r : List Int) : (M.TE n M.st0 (p ++ q ++ r)).1 = (M.RE n M.st0 p).1 ++ (M.RE n (M.RE n M.st0 p).2.1 ((M.RE n M.st0 p).2.2 ++ q)).1 ++ (M.TE n (M.RE n (M.RE n M.st0 p).2.1 ((M.RE n M.st0 p).2.2 ++ q)).2.1 ((M.RE n (M.RE n M.st0 p).2.1 ((M.RE n M.st0 p).2.2 ++ q)).2.2 ++ r)).1 := by
  rw [M.TE_app, M.RE_app]
theorem bl_mid (s : ByteArray) (i j : Nat) : bl (s.extract i j) = ((bl s).drop i).take (j - i) := by simp [bl, ByteArray.data_extract]

set_option maxHeartbeats 4000000 in
set_option maxRecDepth 100000 in
theorem kind (n : Int) (s : ByteArray) (c m : Int) (w : World) (he : ¬ (1 ≤ n ∧ n ≤ 7)) :
    Calls Try.prog 7 #[.int .i64 n, .string s, .int .i64 c, .int .i64 m] w fun e w' => e = .returned (.bool true) ∧ Below w.heap.size w w' := by
  go_enter Try.func7, Try.ntmps7
  go_wp2_with fail
  refine (sdecode_kind n s _ he).mono ?_
  rintro e w1 ⟨rfl, hw⟩
  replace hw := hw.symm
  subst hw
  go_wp2_with fail
  refine (begunT_any _).mono ?_
  rintro e w2 ⟨rfl, hb2⟩
  have HB := hide hb2
  clear hb2
  go_wp2_with fail
  go_ret
  exact ⟨rfl, unhide HB⟩

set_option maxHeartbeats 4000000 in
set_option maxRecDepth 100000 in
theorem long (n : Int) (s : ByteArray) (c m : Int) (w : World) (he : 1 ≤ n ∧ n ≤ 7) (hs : 3000 < s.size) (hm : s.size ≤ maxLen) :
    Calls Try.prog 7 #[.int .i64 n, .string s, .int .i64 c, .int .i64 m] w fun e w' => e = .returned (.bool true) ∧ Below w.heap.size w w' := by
  go_enter Try.func7, Try.ntmps7
  go_wp2_with fail
  refine (sdecode_long n s _ he hs hm).mono ?_
  rintro e w1 ⟨rfl, hb1⟩
  go_wp2_with fail
  refine (begunT_any _).mono ?_
  rintro e w2 ⟨rfl, hb2⟩
  have HB := hide (bstep hb1 hb2)
  clear hb1 hb2
  go_wp2_with fail
  go_ret
  exact ⟨rfl, unhide HB⟩

set_option maxHeartbeats 4000000 in
set_option maxRecDepth 100000 in
theorem cutlow (n : Int) (s : ByteArray) (c m : Int) (w : World) (he : 1 ≤ n ∧ n ≤ 7) (hs : s.size ≤ 3000) (h : c < 0) :
    Calls Try.prog 7 #[.int .i64 n, .string s, .int .i64 c, .int .i64 m] w fun e w' => e = .returned (.bool true) ∧ Below w.heap.size w w' := by
  go_enter Try.func7, Try.ntmps7
  go_wp2_with fail
  refine (sdecode_any n s _ he hs).mono ?_
  rintro e w1 ⟨v, rfl, hI, hb1⟩
  obtain ⟨ao, cap, rfl, -⟩ := hI
  go_wp2_with fail
  refine (begunT_any _).mono ?_
  rintro e w2 ⟨rfl, hb2⟩
  have HB := hide (bstep hb1 hb2)
  clear hb1 hb2
  go_wp2_with fail
  go_ret
  exact ⟨rfl, unhide HB⟩

set_option maxHeartbeats 4000000 in
set_option maxRecDepth 100000 in
theorem morelow (n : Int) (s : ByteArray) (c m : Int) (w : World) (he : 1 ≤ n ∧ n ≤ 7) (hs : s.size ≤ 3000) (h0 : 0 ≤ c) (h : m < 0) :
    Calls Try.prog 7 #[.int .i64 n, .string s, .int .i64 c, .int .i64 m] w fun e w' => e = .returned (.bool true) ∧ Below w.heap.size w w' := by
  go_enter Try.func7, Try.ntmps7
  go_wp2_with fail
  refine (sdecode_any n s _ he hs).mono ?_
  rintro e w1 ⟨v, rfl, hI, hb1⟩
  obtain ⟨ao, cap, rfl, -⟩ := hI
  go_wp2_with fail
  refine (begunT_any _).mono ?_
  rintro e w2 ⟨rfl, hb2⟩
  have HB := hide (bstep hb1 hb2)
  clear hb1 hb2
  go_wp2_with fail
  go_ret
  exact ⟨rfl, unhide HB⟩

set_option maxHeartbeats 4000000 in
set_option maxRecDepth 100000 in
theorem cuthigh (n : Int) (s : ByteArray) (c m : Int) (w : World) (he : 1 ≤ n ∧ n ≤ 7) (hs : s.size ≤ 3000) (h0 : 0 ≤ c) (h1 : 0 ≤ m) (h : (s.size : Int) < c) :
    Calls Try.prog 7 #[.int .i64 n, .string s, .int .i64 c, .int .i64 m] w fun e w' => e = .returned (.bool true) ∧ Below w.heap.size w w' := by
  go_enter Try.func7, Try.ntmps7
  go_wp2_with fail
  refine (sdecode_any n s _ he hs).mono ?_
  rintro e w1 ⟨v, rfl, hI, hb1⟩
  obtain ⟨ao, cap, rfl, -⟩ := hI
  go_wp2_with fail
  refine (begunT_any _).mono ?_
  rintro e w2 ⟨rfl, hb2⟩
  have HB := hide (bstep hb1 hb2)
  clear hb1 hb2
  go_wp2_with fail
  go_ret
  exact ⟨rfl, unhide HB⟩

set_option maxHeartbeats 4000000 in
set_option maxRecDepth 100000 in
theorem morehigh (n : Int) (s : ByteArray) (c m : Int) (w : World) (he : 1 ≤ n ∧ n ≤ 7) (hs : s.size ≤ 3000) (h0 : 0 ≤ c) (h1 : 0 ≤ m) (h2 : c ≤ (s.size : Int)) (h : (s.size : Int) - c < m) :
    Calls Try.prog 7 #[.int .i64 n, .string s, .int .i64 c, .int .i64 m] w fun e w' => e = .returned (.bool true) ∧ Below w.heap.size w w' := by
  go_enter Try.func7, Try.ntmps7
  go_wp2_with fail
  refine (sdecode_any n s _ he hs).mono ?_
  rintro e w1 ⟨v, rfl, hI, hb1⟩
  obtain ⟨ao, cap, rfl, -⟩ := hI
  go_wp2_with fail
  refine (begunT_any _).mono ?_
  rintro e w2 ⟨rfl, hb2⟩
  have HB := hide (bstep hb1 hb2)
  clear hb1 hb2
  go_wp2_with fail
  go_ret
  exact ⟨rfl, unhide HB⟩

set_option maxHeartbeats 40000000 in
set_option maxRecDepth 100000 in
theorem main (n : Int) (s : ByteArray) (c m : Int) (w : World) (hn : 1 ≤ n ∧ n ≤ 7) (hs : s.size ≤ 3000) (h0 : 0 ≤ c) (h1 : 0 ≤ m) (h2 : c ≤ (s.size : Int)) (h3 : m ≤ (s.size : Int) - c) :
    Calls Try.prog 7 #[.int .i64 n, .string s, .int .i64 c, .int .i64 m] w fun e w' => e = .returned (.bool true) ∧ Below w.heap.size w w' := by
  obtain ⟨c, rfl⟩ : ∃ k : Nat, c = k := ⟨c.toNat, by omega⟩
  obtain ⟨m, rfl⟩ : ∃ k : Nat, m = k := ⟨m.toNat, by omega⟩
  have hcm : c + m ≤ s.size := by omega
  clear h0 h1 h2 h3
  have hsl : ∀ wx, (Instr.slice 9 (.string s) (some (.int .i64 (c : Int))) (some (.int .i64 ((c : Int) + (m : Int)))) none).run Try.prog wx = .ok (.string (s.extract c (c + m))) wx :=
    fun wx => run_slice_string (P := Try.prog) wx 9 s .i64 .i64 (c : Int) ((c : Int) + (m : Int)) Try.underlying9 (by omega) (by omega) (by omega)
  have hsl3 : ∀ wx, (Instr.slice 9 (.string s) (some (.int .i64 ((c : Int) + (m : Int)))) none none).run Try.prog wx = .ok (.string (s.extract (c + m) s.size)) wx :=
    fun wx => run_slice_string_l (P := Try.prog) wx 9 s Try.underlying9 .i64 ((c : Int) + (m : Int)) (by omega) (by omega)
  have hwr : IntKind.i64.wrap ((c : Int) + (m : Int)) = (c : Int) + (m : Int) := by rw [IntKind.wrap_i64]; omega
  go_enter Try.func7, Try.ntmps7
  go_wp2_with fail
  refine (sdecode_any n s _ hn hs).mono ?_
  rintro e w1 ⟨v0, rfl, hI0, hb1⟩
  obtain ⟨L0, HE0⟩ : ∃ L, Hid (L = M.decE n (bl s)) := ⟨_, hide rfl⟩
  rw [← unhide HE0] at hI0
  obtain ⟨a0, c0, hs0, -⟩ := id hI0
  subst hs0
  go_wp2_with fail
  refine (begunT_any _).mono ?_
  rintro e w2 ⟨rfl, hb2⟩
  have HD1 := hide (hI0.below hb2)
  have HB1 := hide (bstep hb1 hb2)
  clear hI0 hb1 hb2
  go_wp2_with fail
  refine (open_yes n _ hn).mono ?_
  rintro e w3 ⟨rfl, hb3⟩
  have HO0 : Hid (Sc w3.heap.size n ⟨#[]⟩ M.st0 (w3.alloc (.cells #[.int .i64 n, .string ⟨#[]⟩, .int .i64 0, .bool false, .bool false] 40))) := hide (Sc.new w3 n ⟨#[]⟩ M.st0)
  have hst := bstep hb3 (balloc w3 (.cells #[.int .i64 n, .string ⟨#[]⟩, .int .i64 0, .bool false, .bool false] 40))
  have HD0 := hide ((unhide HD1).below hst)
  have HB0 := hide (bstep (unhide HB1) hst)
  have FM1 := fun w => feed_more n ⟨#[]⟩ M.st0 (s.extract 0 c) w hn (chk_beg hn) (M.Ok_st0 n) (by simp; omega)
  unfold sv at FM1
  clear hb3 hst HD1 HB1
  have hp0 := (unhide HO0).lt
  obtain ⟨o0, o1, o2, o3, o4, -, -, -, -, -⟩ := unhide HO0
  unfold sv M.st0
  go_upto_region 7 with fail
  generalize w3.alloc (.cells #[.int .i64 n, .string ⟨#[]⟩, .int .i64 0, .bool false, .bool false] 40) = V at *
  go_cut [12, 13, 14] from 66 to 74 (fun a x f wx => InF V n ⟨#[]⟩ M.st0 (s.extract 0 c) false a x f wx)
  case first =>
    go_region_law ((go_simp; go_at_call 19; refine (FM1 _).mono ?_; rintro e' z1 ⟨v, r', t', L, rfl, hI, hb, k1, k2⟩; obtain ⟨av, cv, hsv⟩ := owns_shape hI; subst hsv; unfold sv; (first
        | (have HW : Hid (Below V.heap.size V z1) := hide ((below_drewN (Below.refl _ V) 1).trans hb); have HI : Hid (z1.ownsRow V.heap.size 3 1 (.slice av L.length cv) L.length (L.map (Value.int .i64))) := hide hI; have HK := hide (k1 rfl))
        | (have HW : Hid (Below V.heap.size V z1) := hide ((below_drewN ((Below.refl _ V).alloc (Nat.le_refl _) _) 1).trans (hb.mono (by simp))); have HI : Hid (z1.ownsRow (V.heap.size + 1) 3 1 (.slice av L.length cv) L.length (L.map (Value.int .i64))) := hide (by simpa using hI); have HRc := hide (Rc.made hb); obtain ⟨b0, b1, b2, b3, b4, g0, g1, g2, g3, g4⟩ := unhide HRc; have hq : V.heap.size < z1.heap.size := World.block_lt_of_cell? z1 _ b0; have HK := hide (k1 rfl))); clear hI hb k1 k2))
    all_goals
      go_wp2_with fail
      go_meet
      case rel => first | exact InF.a (unhide HW) (unhide HI) (fun _ => unhide HK) (fun h => by cases h) | exact InF.b (unhide HW) (unhide HRc) (unhide HI) (fun _ => unhide HK) (fun h => by cases h)
  case rest =>
    obtain ⟨av1, cv1, r1, t1, L1, B1, rfl, rfl, rfl, hS1, hI1, hb1, h1, -⟩ := hcut
    obtain ⟨e11, e12, e13⟩ := h1 rfl
    have hck1 := chk_after hn (M.Ok_st0 n) (bl ⟨#[]⟩ ++ bl (s.extract 0 c)) e12
    have HE1 := hide e11
    have HR1 := hide e12
    have HT1 := hide e13
    rw [← e13] at hck1
    have HX1 := hide hS1
    have HA1 := hide hI1
    have HO1 := hide ((unhide HO0).on hb1)
    have HD1 := hide ((unhide HD0).below hb1)
    have HB1 := hide (bstep (unhide HB0) hb1)
    have FM2 := fun w => feed_more n r1 t1 (s.extract c (c + m)) w hn hck1.1 hck1.2 (by simp; omega)
    have CX := fun w => check_any n r1 t1 w (by have := hck1.1.2; unfold maxLen; omega)
    rw [chk_ok.2 ⟨hn, hck1.1, hck1.2⟩] at CX
    unfold sv at CX FM2
    clear hI1 hS1 hb1 e11 e12 e13 h1 HO0 HD0 HB0
    have hp1 := (unhide HX1).lt
    obtain ⟨x0, x1, x2, x3, x4, -, -, -, -, -⟩ := unhide HX1
    go_upto_region 8 with fail
    go_cut [15, 16, 17] from 75 to 86 (fun a x f wx => InF wc n r1 t1 (s.extract c (c + m)) false a x f wx)
    case first =>
      go_region_law ((go_simp; go_at_call 19; refine (FM2 _).mono ?_; rintro e' z1 ⟨v, r', t', L, rfl, hI, hb, k1, k2⟩; obtain ⟨av, cv, hsv⟩ := owns_shape hI; subst hsv; unfold sv; (first
          | (have HW : Hid (Below wc.heap.size wc z1) := hide ((below_drewN (Below.refl _ wc) 1).trans hb); have HI : Hid (z1.ownsRow wc.heap.size 3 1 (.slice av L.length cv) L.length (L.map (Value.int .i64))) := hide hI; have HK := hide (k1 rfl))
          | (have HW : Hid (Below wc.heap.size wc z1) := hide ((below_drewN ((Below.refl _ wc).alloc (Nat.le_refl _) _) 1).trans (hb.mono (by simp))); have HI : Hid (z1.ownsRow (wc.heap.size + 1) 3 1 (.slice av L.length cv) L.length (L.map (Value.int .i64))) := hide (by simpa using hI); have HRc := hide (Rc.made hb); obtain ⟨b0, b1, b2, b3, b4, g0, g1, g2, g3, g4⟩ := unhide HRc; have hq : wc.heap.size < z1.heap.size := World.block_lt_of_cell? z1 _ b0; have HK := hide (k1 rfl))); clear hI hb k1 k2))
      all_goals
        go_wp2_with fail
        go_meet
        case rel => first | exact InF.a (unhide HW) (unhide HI) (fun _ => unhide HK) (fun h => by cases h) | exact InF.b (unhide HW) (unhide HRc) (unhide HI) (fun _ => unhide HK) (fun h => by cases h)
    case rest =>
      obtain ⟨av2, cv2, r2, t2, L2, B2, rfl, rfl, rfl, hS2, hI2, hb2, h2, -⟩ := hcut
      obtain ⟨e21, e22, e23⟩ := h2 rfl
      have hck2 := chk_after hn hck1.2 (bl r1 ++ bl (s.extract c (c + m))) e22
      have HE2 := hide e21
      have HR2 := hide e22
      have HT2 := hide e23
      rw [← e23] at hck2
      have HY2 := hide hS2
      have HBb2 := hide hI2
      have HX2 := hide ((unhide HX1).on hb2)
      have HO2 := hide ((unhide HO1).on hb2)
      have HA2 := hide ((unhide HA1).below hb2)
      have HD2 := hide ((unhide HD1).below hb2)
      have HB2 := hide (bstep (unhide HB1) hb2)
      have FM3 := fun w => feed_last n r2 t2 (s.extract (c + m) s.size) w hn hck2.1 hck2.2 (by simp; omega)
      have CY := fun w => check_any n r2 t2 w (by have := hck2.1.2; unfold maxLen; omega)
      rw [chk_ok.2 ⟨hn, hck2.1, hck2.2⟩] at CY
      unfold sv at CY FM3
      clear hI2 hS2 hb2 e21 e22 e23 h2 HX1 HO1 HA1 HD1 HB1
      have hp2 := (unhide HY2).lt
      obtain ⟨y0, y1, y2, y3, y4, -, -, -, -, -⟩ := unhide HY2
      go_upto_region 9 with fail
      go_cut [18, 19, 20] from 87 to 97 (fun a x f wx => InF wc n r2 t2 (s.extract (c + m) s.size) true a x f wx)
      case first =>
        go_region_law ((go_simp; go_at_call 19; refine (FM3 _).mono ?_; rintro e' z1 ⟨v, r', t', L, rfl, hI, hb, k1, k2⟩; obtain ⟨av, cv, hsv⟩ := owns_shape hI; subst hsv; unfold sv; (first
            | (have HW : Hid (Below wc.heap.size wc z1) := hide ((below_drewN (Below.refl _ wc) 1).trans hb); have HI : Hid (z1.ownsRow wc.heap.size 3 1 (.slice av L.length cv) L.length (L.map (Value.int .i64))) := hide hI; have HK := hide (k2 rfl))
            | (have HW : Hid (Below wc.heap.size wc z1) := hide ((below_drewN ((Below.refl _ wc).alloc (Nat.le_refl _) _) 1).trans (hb.mono (by simp))); have HI : Hid (z1.ownsRow (wc.heap.size + 1) 3 1 (.slice av L.length cv) L.length (L.map (Value.int .i64))) := hide (by simpa using hI); have HRc := hide (Rc.made hb); obtain ⟨b0, b1, b2, b3, b4, g0, g1, g2, g3, g4⟩ := unhide HRc; have hq : wc.heap.size < z1.heap.size := World.block_lt_of_cell? z1 _ b0; have HK := hide (k2 rfl))); clear hI hb k1 k2))
        all_goals
          go_wp2_with fail
          go_meet
          case rel => first | exact InF.a (unhide HW) (unhide HI) (fun h => by cases h) (fun _ => unhide HK) | exact InF.b (unhide HW) (unhide HRc) (unhide HI) (fun h => by cases h) (fun _ => unhide HK)
      case rest =>
        obtain ⟨av3, cv3, r3, t3, L3, B3, rfl, rfl, rfl, hS3, hI3, hb3, -, h3⟩ := hcut
        obtain ⟨e31, e32, e33⟩ := h3 rfl
        subst e32 e33
        have HS3 := hide hS3
        have HI3 := hide hI3
        have HE3 := hide e31
        have hst := hb3
        have HX3 := hide ((unhide HX2).on hst)
        have HY3 := hide ((unhide HY2).on hst)
        have HO3 := hide ((unhide HO2).on hst)
        have HA3 := hide ((unhide HA2).below hst)
        have HBb3 := hide ((unhide HBb2).below hst)
        have HD3 := hide ((unhide HD2).below hst)
        have HB3 := hide (bstep (unhide HB2) hst)
        have HALL : Hid (L1 ++ L2 ++ L3 = L0) := hide (by
          have e12 : bl s = (bl (s.extract 0 c) ++ bl (s.extract c (c + m))) ++ bl (s.extract (c + m) s.size) := by rw [bl_take, bl_extract, bl_mid, Nat.add_sub_cancel_left, ← List.take_add, List.take_append_drop]
          rw [unhide HE3, unhide HR2, unhide HT2, unhide HE2, unhide HR1, unhide HT1, unhide HE1, unhide HE0]
          unfold M.decE
          rw [e12]
          exact (in_pieces n (bl (s.extract 0 c)) (bl (s.extract c (c + m))) (bl (s.extract (c + m) s.size))).symm)
        have HLen : Hid (L0.length ≤ 3000) := hide (by rw [unhide HE0]; have := M.TE_few n _ M.st0 (bl s) (Nat.le_refl _); rw [bl_len] at this; exact Nat.le_trans this hs)
        have hlen := congrArg List.length (unhide HALL)
        rw [List.length_append, List.length_append] at hlen
        have HLs : Hid (L1.length + L2.length + L3.length ≤ 3000) := hide (by rw [hlen]; exact unhide HLen)
        clear hst hb3 hI3 hS3 e31 h3 hlen HX2 HY2 HO2 HA2 HBb2 HD2 HB2
        have o6 := World.ownsRow_made (base := wc.heap.size) (e := 3) (size := 1) wc #[] 0 (Nat.le_refl _) (by simp) rfl
        go_wp2_with (at_builtin; refine append_ints rfl (.tmp 98) (.tmp 99) rfl wc.heap.size _ [] rfl o6 _ L1 rfl ((unhide HA3).below (balloc _ _)) (by have := unhide HLs; simp; omega) (by simp) ?_)
        intro v7 w7 ho7 hb7
        obtain ⟨ao7, cap7, hsh7⟩ := owns_shape ho7
        subst hsh7
        have HB7 : Hid (Below wc.heap.size wc w7) := hide ((balloc _ _).trans hb7)
        have hz7 := (unhide HB7).size
        clear o6 hb7
        go_wp2_with (at_builtin; refine append_ints rfl (.tmp 100) (.tmp 101) rfl wc.heap.size _ L1 rfl ho7 _ L2 rfl ((unhide HBb3).below (unhide HB7)) (by have := unhide HLs; omega) hz7 ?_)
        intro v8 w8 ho8 hb8
        obtain ⟨ao8, cap8, hsh8⟩ := owns_shape ho8
        subst hsh8
        have HB8 : Hid (Below wc.heap.size wc w8) := hide ((unhide HB7).trans hb8)
        have hz8 := (unhide HB8).size
        obtain ⟨L12, h12⟩ : ∃ L12, L1 ++ L2 = L12 := ⟨_, rfl⟩
        have HO8 : Hid (w8.ownsRow wc.heap.size 3 1 (.slice ao8 (L1.length + L2.length) cap8) L12.length (L12.map (Value.int .i64))) := hide (by rw [← h12]; simpa using ho8)
        have HAL2 : Hid (L12 ++ L3 = L0) := hide (by rw [← h12]; exact unhide HALL)
        have HLs2 : Hid (L12.length + L3.length ≤ 3000) := hide (by rw [← h12, List.length_append]; exact unhide HLs)
        clear h12
        clear ho7 hb8 HB7 hz7 ho8
        go_wp2_with (at_builtin; refine append_ints rfl (.tmp 102) (.tmp 103) rfl wc.heap.size _ L12 rfl (unhide HO8) _ L3 rfl ((unhide HI3).below (unhide HB8)) (by have := unhide HLs2; omega) hz8 ?_)
        intro v9 w9 ho9 hb9
        obtain ⟨ao9, cap9, hsh9⟩ := owns_shape ho9
        subst hsh9
        have HB9 : Hid (Below wc.heap.size wc w9) := hide ((unhide HB8).trans hb9)
        have HI9 : Hid (Ints w9 (.slice ao9 (L12.length + L3.length) cap9) L0) := hide (by rw [← unhide HAL2]; exact Ints.of_owns (by simpa using ho9))
        have HX9 := hide ((unhide HX3).on (unhide HB9))
        have HY9 := hide ((unhide HY3).on (unhide HB9))
        have HO9 := hide ((unhide HO3).on (unhide HB9))
        have HZ9 := hide ((unhide HS3).on (unhide HB9))
        have HD9 := hide ((unhide HD3).below (unhide HB9))
        have HBt := hide (bstep (unhide HB3) (unhide HB9))
        clear ho9 hb9 HB8 hz8 HX3 HY3 HO3 HA3 HBb3 HD3 HB3 HS3 HI3 HB9
        go_wp2_with fail
        refine (same_any _ (unhide HI9) (unhide HD9)).mono ?_
        rintro e w10 ⟨rfl, hb10⟩
        rw [show (L0 == L0) = true from by simp]
        have HX10 := hide ((unhide HX9).on hb10)
        have HY10 := hide ((unhide HY9).on hb10)
        have HO10 := hide ((unhide HO9).on hb10)
        have HZ10 := hide ((unhide HZ9).on hb10)
        have HB10 := hide (bstep (unhide HBt) hb10)
        clear hb10 HX9 HY9 HO9 HZ9 HBt HI9 HD9
        have hpx := (unhide HX10).lt
        obtain ⟨x0, x1, x2, x3, x4, -, -, -, -, -⟩ := unhide HX10
        go_wp2_with fail
        refine (CX _).mono ?_
        rintro e w11 ⟨rfl, hb11⟩
        have HY11 := hide ((unhide HY10).on hb11)
        have HO11 := hide ((unhide HO10).on hb11)
        have HZ11 := hide ((unhide HZ10).on hb11)
        have HB11 := hide (bstep (unhide HB10) hb11)
        clear hb11 HX10 HY10 HO10 HZ10 HB10 hpx x0 x1 x2 x3 x4
        have hpy := (unhide HY11).lt
        obtain ⟨y0, y1, y2, y3, y4, -, -, -, -, -⟩ := unhide HY11
        go_wp2_with fail
        refine (CY _).mono ?_
        rintro e w12 ⟨rfl, hb12⟩
        have HO12 := hide ((unhide HO11).on hb12)
        have HZ12 := hide ((unhide HZ11).on hb12)
        have HB12 := hide (bstep (unhide HB11) hb12)
        clear hb12 HY11 HO11 HZ11 HB11 hpy y0 y1 y2 y3 y4
        have hpz := (unhide HZ12).lt
        have hpo := (unhide HO12).lt
        obtain ⟨z0, z1, z2, z3, z4, -, -, -, -, -⟩ := unhide HZ12
        obtain ⟨o0, o1, o2, o3, o4, -, -, -, -, -⟩ := unhide HO12
        unfold M.st0 at z2 z3 z4 o2 o3 o4
        go_wp2_with fail
        go_ret
        exact ⟨rfl, unhide HB12⟩

theorem walk (n : Int) (s : ByteArray) (c m : Int) (w : World) (hnw : (Lit.int .i64 n).wf = true) (hsm : s.size ≤ maxLen) (hcw : (Lit.int .i64 c).wf = true) (hmw : (Lit.int .i64 m).wf = true) :
    Calls Try.prog 7 #[.int .i64 n, .string s, .int .i64 c, .int .i64 m] w fun e w' => e = .returned (.bool true) ∧ Below w.heap.size w w' := by
  by_cases hn : 1 ≤ n ∧ n ≤ 7
  · by_cases hs : 3000 < s.size
    · exact long n s c m w hn hs hsm
    · by_cases h0 : c < 0
      · exact cutlow n s c m w hn (by omega) h0
      · by_cases h1 : m < 0
        · exact morelow n s c m w hn (by omega) (by omega) h1
        · by_cases h2 : (s.size : Int) < c
          · exact cuthigh n s c m w hn (by omega) (by omega) (by omega) h2
          · by_cases h3 : (s.size : Int) - c < m
            · exact morehigh n s c m w hn (by omega) (by omega) (by omega) (by omega) h3
            · exact main n s c m w hn (by omega) (by omega) (by omega) (by omega) (by omega)
  · exact kind n s c m w hn

set_option maxRecDepth 100000 in
theorem lifted (os : Os) (started : os.Started) (H : Type) (enc : TypeId × Value → H) :
    ReturnsInHanded {} Try.checked os 7 .any (Rows.streamPiecesSpec.pre6 enc Try.prog Try.f7 Rows.streamPiecesRow.domain false) (Rows.streamPiecesSpec.post enc Try.prog Try.f7 false true false false) := by
  refine returnsInHanded_of_change (C := Try.checked) own started (by kernel_rfl) Try.func7
    (ChangeSpec.witness6 (enc := enc) (C := Try.checked) false ⟨#[], #[.int .i64 0, .string ByteArray.empty, .int .i64 0, .int .i64 0], []⟩ 8 (by kernel_rfl) (by kernel_rfl) (by kernel_rfl) (by kernel_rfl)) ?_
  intro W base args ds gs before hval0 hW hcnd _
  have hval : ∀ (j : Nat) t v, Try.f7.params[j]? = some t → args[j]? = some v → Value.okWide Try.prog W .any base t v := hval0
  have hW' := hW
  obtain ⟨p, q, hA0, hV, rfl, hfz, hnd⟩ := hW
  have hA : DataW.TrodAll enc Try.prog W 0 (fun _ => true) true Try.f7.params.toList args.toList ds p := hA0
  rw [Try.params7] at hA hval
  obtain ⟨v0, vs0, d0, ds0, p0, q0, hargs, rfl, rfl, h0, r0⟩ := trodAll_cons hA
  obtain ⟨v1, vs1, d1, ds1, p1, q1, rfl, rfl, rfl, h1, r1⟩ := trodAll_cons r0
  obtain ⟨v2, vs2, d2, ds2, p2, q2, rfl, rfl, rfl, h2, r2⟩ := trodAll_cons r1
  obtain ⟨v3, vs3, d3, ds3, p3, q3, rfl, rfl, rfl, h3, r3⟩ := trodAll_cons r2
  obtain ⟨rfl, rfl, rfl⟩ := trodAll_nil r3
  obtain rfl : args = #[v0, v1, v2, v3] := by cases args; simp_all
  obtain ⟨rfl, rfl⟩ := trodVars_none hV
  obtain ⟨a0, rfl, rfl, rfl, w0⟩ := open_int Try.underlying3 (hval 0 3 v0 rfl rfl) h0
  obtain ⟨a1, rfl, rfl, rfl, w1⟩ := open_string Try.underlying9 (hval 1 9 v1 rfl rfl) h1
  obtain ⟨a2, rfl, rfl, rfl, w2⟩ := open_int Try.underlying3 (hval 2 3 v2 rfl rfl) h2
  obtain ⟨a3, rfl, rfl, rfl, w3⟩ := open_int Try.underlying3 (hval 3 3 v3 rfl rfl) h3
  clear hA0 hval0
  refine (walk a0 a1 a2 a3 W w0 w1 w2 w3).mono fun e W' ⟨he, bel⟩ => ?_
  subst he
  exact ⟨_, rfl, _, _, _, [], _, [], hW', trodAll_mk1 (shut_bool Try.underlying4 _), (trodAll_cons_mk (shut_int Try.underlying3 w0) (trodAll_cons_mk (shut_string Try.underlying9 w1) (trodAll_cons_mk (shut_int Try.underlying3 w2) (trodAll_cons_mk (shut_int Try.underlying3 w3) trodAll_mk0)))), rfl, bel.frame _, fun h => by cases h⟩

theorem over : Rows.streamPiecesRow.holds Try.pinned (OpenSpec.ofChange Rows.streamPiecesSpec) :=
  OpenClaim.holds_of_wide 7 Try.f7 rfl rfl rfl rfl rfl rfl rfl ⟨rfl, rfl, rfl, rfl, rfl⟩ rfl rfl rfl rfl rfl (by kernel_rfl) Try.func7 (by kernel_rfl)
    (of_decide_eq_true (by kernel_rfl)) (by unfold Func.isWrapper; first | (rw [if_pos (by decide +kernel)]; kernel_rfl) | (rw [if_neg (by decide +kernel)]; exact ⟨rfl, rfl⟩))
    (fun os started H enc _ => lifted os started H enc)
end Go.Proofs.Ythhjfedegbldfac.streamPieces

namespace Go.Proofs.Ythhjfedegbldfac
theorem streamPieces_holds : Rows.StreamPiecesSaid := streamPieces.over
end Go.Proofs.Ythhjfedegbldfac
