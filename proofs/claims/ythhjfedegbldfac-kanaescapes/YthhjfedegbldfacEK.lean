/- Proved: for every list of integers signs and every integer c the law KanaEscapes returns true and leaves the list as it was. No condition. -/
import Derived.Test.YthhjfedegbldfacKF
import Derived.Test.YthhjfedegbldfacKG
import Derived.OpenShut
import Derived.ShutString
import Derived.ChangeOld
namespace Go.Proofs.Ythhjfedegbldfac.kanaEscapes
open Go.ChangeShapes Go.WideShapes Go.ChangeAt Go.RowKit
open Go.ChangeMaps (open_string shut_string)
open Go.Proofs.Ythhjfedegbldfac
set_option linter.unusedVariables false

theorem own : ownKnob Try.prog.godebug = none := by kernel_rfl
theorem laidOut : laidOutB Try.prog = true := by kernel_rfl

theorem conv1 (w0 : World) (x : Int) (B : Nat) (hB : w0.heap.size = B) :
    (convert 37 9 (.slice (some ⟨B, 0, none⟩) 1 1)).run Try.prog (w0.alloc (.cells #[.int .u8 x] 5)) = .ok (.string (strOfNums [x])) (w0.alloc (.cells #[.int .u8 x] 5)) := by
  subst hB
  exact conv_built [x] 1 1 rfl (heap_alloc_new _ _)
theorem esc_cut {k : Nat} (h : k < 3) : bl ((⟨#[27, 40]⟩ : ByteArray) ++ (⟨#[66, 74, 73]⟩ : ByteArray).extract k (k + 1)) = [27, 40, M.esc (k : Int)] := by
  match k, h with
  | 0, _ => decide
  | 1, _ => decide
  | 2, _ => decide
theorem ebads_snoc (gs : List Int) (x : Int) : M.ebads false (gs ++ [x]) = if gs.length = 0 then [] else M.ebads false gs ++ [65533] := by
  unfold M.ebads
  simp only [Bool.false_eq_true, if_false, List.length_append, List.length_cons, List.length_nil]
  by_cases h : gs.length = 0
  · rw [if_pos h, h]; rfl
  · rw [if_neg h]
    obtain ⟨m, hm⟩ : ∃ m, gs.length = m + 1 := ⟨gs.length - 1, by omega⟩
    rw [hm]
    show List.replicate (m + 1) 65533 = List.replicate m 65533 ++ [65533]
    exact List.replicate_succ'
theorem elast_snoc (g : Int) (gs : List Int) (x : Int) : M.elast g (gs ++ [x]) = x := by simp [M.elast]
theorem elast_sg : ∀ (gs : List Int) (g : Int), M.Sg g → (∀ x ∈ gs, M.Sg x) → M.Sg (M.elast g gs)
  | [], g, hg, _ => hg
  | x :: gs, g, _, h => elast_sg gs x (h x (by simp)) (fun y hy => h y (by simp [hy]))
/-- A digit by signs. -/
theorem ksn_digit {g c : Int} (hg : M.Sg g) (h0 : 48 ≤ c) (h1 : c ≤ 57) : M.ksn g c = if g = 2 then 65344 + c else c := by
  unfold M.ksn
  rcases hg with rfl | rfl | rfl
  · rw [if_neg (by omega), if_neg (by omega), if_neg (by omega), if_neg (by omega), if_neg (by omega)]
  · rw [if_neg (by omega), if_neg (by omega), if_neg (by omega), if_neg (by omega), if_neg (by omega)]
  · rw [if_pos rfl, if_pos (by omega), if_pos rfl]
theorem kdec_one (gs : List Int) (c : Int) (hs : ∀ x ∈ gs, M.Sg x) (h0 : 48 ≤ c) (h1 : c ≤ 57) : M.kdec (M.escs gs ++ [c]) = M.ebads false gs ++ [M.ksn (M.elast 0 gs) c] := by
  unfold M.kdec
  rw [M.Run_escs gs 0 false hs [c], M.Run_sign _ _ (by omega), M.Run_nil]
  simp [M.kfin]
theorem kdec_two (gs : List Int) (c : Int) (hs : ∀ x ∈ gs, M.Sg x) (h0 : 48 ≤ c) (h1 : c ≤ 57) : M.kdec (M.escs gs ++ [c, 27, 40, 66, c]) = M.ebads false gs ++ [M.ksn (M.elast 0 gs) c, c] := by
  unfold M.kdec
  have e : ([27, 40, 66, c] : List Int) = 27 :: 40 :: M.esc 0 :: [c] := rfl
  have e2 : M.ksn 0 c = c := by rw [ksn_digit (.inl rfl) h0 h1]; rfl
  rw [M.Run_escs gs 0 false hs _, M.Run_sign _ _ (by omega), e, M.Run_esc _ (.inl rfl), M.Run_sign _ _ (by omega), M.Run_nil]
  simp [M.kfin, M.bads, e2]
/-- What a round of the law's loop knows. -/
def InE (ys : List Int) (w wr : World) (k : Nat) (t : ByteArray) (v : Value) : Prop :=
  bl t = M.escs (ys.take k) ∧ wr.ownsRow w.heap.size 3 1 v (M.ebads false (ys.take k)).length ((M.ebads false (ys.take k)).map (Value.int .i64)) ∧ Below w.heap.size w wr ∧ ∀ x ∈ ys.take k, M.Sg x
theorem ebads_len (gs : List Int) : (M.ebads false gs).length = gs.length - 1 := by simp [M.ebads]

set_option maxHeartbeats 4000000 in
set_option maxRecDepth 100000 in
theorem low (v : Value) (ys : List Int) (c : Int) (w : World) (hx : Ints w v ys) (h : c < 48) :
    Calls Try.prog 5 #[v, .int .i64 c] w fun e w' => e = .returned (.bool true) ∧ Below w.heap.size w w' := by
  obtain ⟨ao, cap, rfl, -⟩ := hx
  go_enter Try.func5, Try.ntmps5
  go_wp2_with fail
  refine (begunK_any _).mono ?_
  rintro e w1 ⟨rfl, hb1⟩
  have HB1 := hide hb1
  clear hb1
  go_wp2_with fail
  go_ret
  exact ⟨rfl, unhide HB1⟩

set_option maxHeartbeats 4000000 in
set_option maxRecDepth 100000 in
theorem high (v : Value) (ys : List Int) (c : Int) (w : World) (hx : Ints w v ys) (h : 57 < c) :
    Calls Try.prog 5 #[v, .int .i64 c] w fun e w' => e = .returned (.bool true) ∧ Below w.heap.size w w' := by
  obtain ⟨ao, cap, rfl, -⟩ := hx
  go_enter Try.func5, Try.ntmps5
  go_wp2_with fail
  refine (begunK_any _).mono ?_
  rintro e w1 ⟨rfl, hb1⟩
  have HB1 := hide hb1
  clear hb1
  go_wp2_with fail
  go_ret
  exact ⟨rfl, unhide HB1⟩

set_option maxHeartbeats 4000000 in
set_option maxRecDepth 100000 in
theorem much (v : Value) (ys : List Int) (c : Int) (w : World) (hx : Ints w v ys) (h0 : 48 ≤ c) (h1 : c ≤ 57) (h : 100 < ys.length) :
    Calls Try.prog 5 #[v, .int .i64 c] w fun e w' => e = .returned (.bool true) ∧ Below w.heap.size w w' := by
  obtain ⟨ao, cap, rfl, hm, -⟩ := hx
  unfold maxLen at hm
  go_enter Try.func5, Try.ntmps5
  go_wp2_with fail
  refine (begunK_any _).mono ?_
  rintro e w1 ⟨rfl, hb1⟩
  have HB1 := hide hb1
  clear hb1
  go_wp2_with fail
  go_ret
  exact ⟨rfl, unhide HB1⟩

set_option maxHeartbeats 4000000 in
set_option maxRecDepth 100000 in
theorem full (v : Value) (ys : List Int) (c : Int) (w : World) (hx : Ints w v ys) (h0 : 48 ≤ c) (h1 : c ≤ 57) (h : ys.length ≤ 100) :
    Calls Try.prog 5 #[v, .int .i64 c] w fun e w' => e = .returned (.bool true) ∧ Below w.heap.size w w' := by
  have HX := hide hx
  obtain ⟨ao, cap, rfl, -, -, -⟩ := hx
  go_enter Try.func5, Try.ntmps5
  go_wp2_with fail
  refine (begunK_any _).mono ?_
  rintro e w1 ⟨rfl, hb1⟩
  have HB1 := hide hb1
  clear hb1
  go_wp2_with fail
  have HC : Hid (ys = [] ∨ ∃ b off, ao = some ⟨b, off, none⟩ ∧ ∀ i, i < ys.length → w1.cell? ⟨b, off + i, none⟩ = some (.int .i64 (ys.getD i 0))) := hide (by
    obtain ⟨a2, c2, e, -, -, hc⟩ := (unhide HX).below (unhide HB1)
    injection e with e1 e2 e3
    subst e1
    exact hc)
  have HI : Hid (InE ys w1 w1 0 ByteArray.empty (.slice none 0 0)) := hide ⟨rfl, World.ownsRow_nil _ _ _ _, Below.refl _ _, by simp⟩
  go_loopw [5, 6, 7, 8] (fun sv now v i wr => ∃ (k : Nat) (t : ByteArray), k ≤ ys.length ∧ i = .int .i64 k ∧ sv = .string t ∧ now = .int .i64 (M.elast 0 (ys.take k)) ∧ InE ys w1 wr k t v) (fun _ _ _ i _ => ys.length - (intOf i).toNat)
  case atStart => exact ⟨0, ByteArray.empty, by omega, rfl, rfl, rfl, unhide HI⟩
  case round =>
    obtain ⟨k, t, hk, rfl, rfl, rfl, hT, hO, hB, hS⟩ := hrel
    clear HI
    have HT := hide hT
    have HO := hide hO
    have HBR := hide hB
    have HS := hide hS
    have hz := hB.size
    obtain ⟨now, HN⟩ : ∃ now, Hid (M.elast 0 (ys.take k) = now) := ⟨_, hide rfl⟩
    rw [unhide HN]
    have hlE : Hid ((M.ebads false (ys.take k)).length ≤ 100) := hide (by rw [ebads_len, List.length_take]; omega)
    clear hT hO hB hS
    by_cases hlt : k < ys.length
    · obtain ⟨b, off, rfl, hc⟩ : ∃ b off, ao = some ⟨b, off, none⟩ ∧ ∀ i, i < ys.length → w1.cell? ⟨b, off + i, none⟩ = some (.int .i64 (ys.getD i 0)) := by
        rcases unhide HC with h | h
        · subst h; simp at hlt
        · exact h
      have hcell : wr.cell? ⟨b, off + k, none⟩ = some (.int .i64 (ys.getD k 0)) := ((unhide HBR).cell (p := ⟨b, off + k, none⟩) (World.block_lt_of_cell? w1 _ (hc k hlt))).trans (hc k hlt)
      have hbr : b < wr.heap.size := World.block_lt_of_cell? wr _ hcell
      obtain ⟨p, HP⟩ : ∃ p, Hid (ys.getD k 0 = p) := ⟨_, hide rfl⟩
      rw [unhide HP] at hcell
      have HC1 : Hid (w1.cell? ⟨b, off + k, none⟩ = some (.int .i64 p)) := hide (by rw [← unhide HP]; exact hc k hlt)
      clear hc
      obtain ⟨av, cv, hsv⟩ := owns_shape (unhide HO)
      subst hsv
      by_cases hp0 : p < 0
      · go_wp2_with fail
        go_ret
        exact ⟨rfl, bstep (unhide HB1) (unhide HBR)⟩
      · by_cases hp2 : 2 < p
        · go_wp2_with fail
          go_ret
          exact ⟨rfl, bstep (unhide HB1) (unhide HBR)⟩
        · obtain rfl | rfl | rfl : p = 0 ∨ p = 1 ∨ p = 2 := by omega
          · have HE1 : Hid (ys.take (k + 1) = ys.take k ++ [0]) := hide (take_getD hlt (unhide HP))
            have HS1 : Hid (∀ x ∈ ys.take (k + 1), M.Sg x) := hide (by
              rw [unhide HE1]
              intro x hx
              rw [List.mem_append] at hx
              rcases hx with hx | hx
              · exact unhide HS x hx
              · simp at hx; subst hx
                unfold M.Sg; omega)
            have htz : t.size ≤ 300 := by rw [← bl_len, unhide HT, M.escs_len, List.length_take]; omega
            have hz4 : ((⟨#[27, 40]⟩ : ByteArray) ++ (⟨#[66, 74, 73]⟩ : ByteArray).extract 0 1).size = 3 := by decide
            have HT1 : Hid (bl (t ++ ((⟨#[27, 40]⟩ : ByteArray) ++ (⟨#[66, 74, 73]⟩ : ByteArray).extract 0 1)) = M.escs (ys.take (k + 1))) := hide (by rw [bl_app, esc_cut (k := 0) (by omega), unhide HT, unhide HE1, M.escs_snoc]; rfl)
            have HL1 : Hid (M.elast 0 (ys.take (k + 1)) = 0) := hide (by rw [unhide HE1, elast_snoc])
            have hk0 : (0 : Int) ≤ (k : Int) := by omega
            have hk1 : (k : Int) < (ys.length : Int) := by omega
            have hz3 : (⟨#[66, 74, 73]⟩ : ByteArray).size = 3 := rfl
            have hlen3 : (ys.take k).length = k := by rw [List.length_take]; omega
            by_cases hkz : k = 0
            · have HEB : Hid (M.ebads false (ys.take (k + 1)) = M.ebads false (ys.take k)) := hide (by rw [unhide HE1, ebads_snoc, hlen3, if_pos hkz, hkz]; rfl)
              have hk2 : (k : Int) < 1 := by omega
              clear hlen3 hkz
              go_wp2_with fail
              go_region
              go_wp2_with fail
              go_roundw
              case rel => exact ⟨k + 1, _, by omega, by go_num, rfl, by rw [unhide HL1], unhide HT1, by rw [unhide HEB]; exact owns_below (unhide HO) (below_drewN (Below.refl _ _) 1), below_drewN (unhide HBR) 1, unhide HS1⟩
              case measure => simp [intOf]; omega
            · have HEB : Hid (M.ebads false (ys.take (k + 1)) = M.ebads false (ys.take k) ++ [65533]) := hide (by rw [unhide HE1, ebads_snoc, hlen3, if_neg hkz])
              have hk2 : (0 : Int) < (k : Int) := by omega
              have hlE' := unhide hlE
              clear hlen3
              go_wp2_with fail
              go_region
              go_wp2_with (at_builtin; refine append_ints rfl (.tmp 60) (.tmp 61) rfl w1.heap.size _ (M.ebads false (ys.take k)) rfl (owns_da (unhide HO) 1 _) _ [65533] rfl (one_int _ _) (by simp; omega) (by simp; omega) ?_)
              intro v2 w2 ho2 hb2
              have HB2 := hide (((below_drewN (unhide HBR) 1).alloc (by simp; omega) (.cells #[.int .i64 65533] 3)).trans hb2)
              have hcell2 : w2.cell? ⟨b, off + k, none⟩ = some (.int .i64 0) := ((unhide HB2).cell (p := ⟨b, off + k, none⟩) (World.block_lt_of_cell? w1 _ (unhide HC1))).trans (unhide HC1)
              obtain ⟨ao2, cap2, hsh2⟩ := owns_shape ho2
              subst hsh2
              have hbr2 : b < w2.heap.size := World.block_lt_of_cell? w2 _ hcell2
              have HO2 := hide ho2
              clear ho2 hb2
              go_wp2_with fail
              go_roundw
              case rel => exact ⟨k + 1, _, by omega, by go_num, rfl, by rw [unhide HL1], unhide HT1, by rw [unhide HEB]; simpa using unhide HO2, unhide HB2, unhide HS1⟩
              case measure => simp [intOf]; omega
          · have HE1 : Hid (ys.take (k + 1) = ys.take k ++ [1]) := hide (take_getD hlt (unhide HP))
            have HS1 : Hid (∀ x ∈ ys.take (k + 1), M.Sg x) := hide (by
              rw [unhide HE1]
              intro x hx
              rw [List.mem_append] at hx
              rcases hx with hx | hx
              · exact unhide HS x hx
              · simp at hx; subst hx
                unfold M.Sg; omega)
            have htz : t.size ≤ 300 := by rw [← bl_len, unhide HT, M.escs_len, List.length_take]; omega
            have hz4 : ((⟨#[27, 40]⟩ : ByteArray) ++ (⟨#[66, 74, 73]⟩ : ByteArray).extract 1 2).size = 3 := by decide
            have HT1 : Hid (bl (t ++ ((⟨#[27, 40]⟩ : ByteArray) ++ (⟨#[66, 74, 73]⟩ : ByteArray).extract 1 2)) = M.escs (ys.take (k + 1))) := hide (by rw [bl_app, esc_cut (k := 1) (by omega), unhide HT, unhide HE1, M.escs_snoc]; rfl)
            have HL1 : Hid (M.elast 0 (ys.take (k + 1)) = 1) := hide (by rw [unhide HE1, elast_snoc])
            have hk0 : (0 : Int) ≤ (k : Int) := by omega
            have hk1 : (k : Int) < (ys.length : Int) := by omega
            have hz3 : (⟨#[66, 74, 73]⟩ : ByteArray).size = 3 := rfl
            have hlen3 : (ys.take k).length = k := by rw [List.length_take]; omega
            by_cases hkz : k = 0
            · have HEB : Hid (M.ebads false (ys.take (k + 1)) = M.ebads false (ys.take k)) := hide (by rw [unhide HE1, ebads_snoc, hlen3, if_pos hkz, hkz]; rfl)
              have hk2 : (k : Int) < 1 := by omega
              clear hlen3 hkz
              go_wp2_with fail
              go_region
              go_wp2_with fail
              go_roundw
              case rel => exact ⟨k + 1, _, by omega, by go_num, rfl, by rw [unhide HL1], unhide HT1, by rw [unhide HEB]; exact owns_below (unhide HO) (below_drewN (Below.refl _ _) 1), below_drewN (unhide HBR) 1, unhide HS1⟩
              case measure => simp [intOf]; omega
            · have HEB : Hid (M.ebads false (ys.take (k + 1)) = M.ebads false (ys.take k) ++ [65533]) := hide (by rw [unhide HE1, ebads_snoc, hlen3, if_neg hkz])
              have hk2 : (0 : Int) < (k : Int) := by omega
              have hlE' := unhide hlE
              clear hlen3
              go_wp2_with fail
              go_region
              go_wp2_with (at_builtin; refine append_ints rfl (.tmp 60) (.tmp 61) rfl w1.heap.size _ (M.ebads false (ys.take k)) rfl (owns_da (unhide HO) 1 _) _ [65533] rfl (one_int _ _) (by simp; omega) (by simp; omega) ?_)
              intro v2 w2 ho2 hb2
              have HB2 := hide (((below_drewN (unhide HBR) 1).alloc (by simp; omega) (.cells #[.int .i64 65533] 3)).trans hb2)
              have hcell2 : w2.cell? ⟨b, off + k, none⟩ = some (.int .i64 1) := ((unhide HB2).cell (p := ⟨b, off + k, none⟩) (World.block_lt_of_cell? w1 _ (unhide HC1))).trans (unhide HC1)
              obtain ⟨ao2, cap2, hsh2⟩ := owns_shape ho2
              subst hsh2
              have hbr2 : b < w2.heap.size := World.block_lt_of_cell? w2 _ hcell2
              have HO2 := hide ho2
              clear ho2 hb2
              go_wp2_with fail
              go_roundw
              case rel => exact ⟨k + 1, _, by omega, by go_num, rfl, by rw [unhide HL1], unhide HT1, by rw [unhide HEB]; simpa using unhide HO2, unhide HB2, unhide HS1⟩
              case measure => simp [intOf]; omega
          · have HE1 : Hid (ys.take (k + 1) = ys.take k ++ [2]) := hide (take_getD hlt (unhide HP))
            have HS1 : Hid (∀ x ∈ ys.take (k + 1), M.Sg x) := hide (by
              rw [unhide HE1]
              intro x hx
              rw [List.mem_append] at hx
              rcases hx with hx | hx
              · exact unhide HS x hx
              · simp at hx; subst hx
                unfold M.Sg; omega)
            have htz : t.size ≤ 300 := by rw [← bl_len, unhide HT, M.escs_len, List.length_take]; omega
            have hz4 : ((⟨#[27, 40]⟩ : ByteArray) ++ (⟨#[66, 74, 73]⟩ : ByteArray).extract 2 3).size = 3 := by decide
            have HT1 : Hid (bl (t ++ ((⟨#[27, 40]⟩ : ByteArray) ++ (⟨#[66, 74, 73]⟩ : ByteArray).extract 2 3)) = M.escs (ys.take (k + 1))) := hide (by rw [bl_app, esc_cut (k := 2) (by omega), unhide HT, unhide HE1, M.escs_snoc]; rfl)
            have HL1 : Hid (M.elast 0 (ys.take (k + 1)) = 2) := hide (by rw [unhide HE1, elast_snoc])
            have hk0 : (0 : Int) ≤ (k : Int) := by omega
            have hk1 : (k : Int) < (ys.length : Int) := by omega
            have hz3 : (⟨#[66, 74, 73]⟩ : ByteArray).size = 3 := rfl
            have hlen3 : (ys.take k).length = k := by rw [List.length_take]; omega
            by_cases hkz : k = 0
            · have HEB : Hid (M.ebads false (ys.take (k + 1)) = M.ebads false (ys.take k)) := hide (by rw [unhide HE1, ebads_snoc, hlen3, if_pos hkz, hkz]; rfl)
              have hk2 : (k : Int) < 1 := by omega
              clear hlen3 hkz
              go_wp2_with fail
              go_region
              go_wp2_with fail
              go_roundw
              case rel => exact ⟨k + 1, _, by omega, by go_num, rfl, by rw [unhide HL1], unhide HT1, by rw [unhide HEB]; exact owns_below (unhide HO) (below_drewN (Below.refl _ _) 1), below_drewN (unhide HBR) 1, unhide HS1⟩
              case measure => simp [intOf]; omega
            · have HEB : Hid (M.ebads false (ys.take (k + 1)) = M.ebads false (ys.take k) ++ [65533]) := hide (by rw [unhide HE1, ebads_snoc, hlen3, if_neg hkz])
              have hk2 : (0 : Int) < (k : Int) := by omega
              have hlE' := unhide hlE
              clear hlen3
              go_wp2_with fail
              go_region
              go_wp2_with (at_builtin; refine append_ints rfl (.tmp 60) (.tmp 61) rfl w1.heap.size _ (M.ebads false (ys.take k)) rfl (owns_da (unhide HO) 1 _) _ [65533] rfl (one_int _ _) (by simp; omega) (by simp; omega) ?_)
              intro v2 w2 ho2 hb2
              have HB2 := hide (((below_drewN (unhide HBR) 1).alloc (by simp; omega) (.cells #[.int .i64 65533] 3)).trans hb2)
              have hcell2 : w2.cell? ⟨b, off + k, none⟩ = some (.int .i64 2) := ((unhide HB2).cell (p := ⟨b, off + k, none⟩) (World.block_lt_of_cell? w1 _ (unhide HC1))).trans (unhide HC1)
              obtain ⟨ao2, cap2, hsh2⟩ := owns_shape ho2
              subst hsh2
              have hbr2 : b < w2.heap.size := World.block_lt_of_cell? w2 _ hcell2
              have HO2 := hide ho2
              clear ho2 hb2
              go_wp2_with fail
              go_roundw
              case rel => exact ⟨k + 1, _, by omega, by go_num, rfl, by rw [unhide HL1], unhide HT1, by rw [unhide HEB]; simpa using unhide HO2, unhide HB2, unhide HS1⟩
              case measure => simp [intOf]; omega
    · have et : ys.take k = ys := List.take_of_length_le (by omega)
      rw [et] at HT HS HN
      have HO' := HO
      rw [et] at HO'
      clear HO
      have HO := HO'
      clear HO'
      clear et
      by_cases hn2 : now = 2
      · subst hn2
        have hsx : (strOfNums [c]).size = 1 := by rw [strOfNums_size]; rfl
        have hbx : bl (strOfNums [c]) = [c] := bl_str _ (by intro x hx; simp at hx; omega)
        have hsg := elast_sg ys 0 (.inl rfl) (unhide HS)
        have HD1 : Hid (M.kdec (bl (t ++ strOfNums [c])) = M.ebads false ys ++ [65377 + c - 33]) := hide (by rw [bl_app, hbx, unhide HT, kdec_one ys c (unhide HS) h0 h1, ksn_digit hsg h0 h1, unhide HN]; rw [if_pos rfl, show 65344 + c = 65377 + c - 33 from by omega])
        have HD2 : Hid (M.kdec (bl (t ++ strOfNums [c] ++ ⟨#[27, 40, 66]⟩ ++ strOfNums [c])) = M.ebads false ys ++ [65377 + c - 33, c]) := hide (by
          rw [bl_app, bl_app, bl_app, hbx, unhide HT, show bl ⟨#[27, 40, 66]⟩ = [27, 40, 66] from rfl, List.append_assoc, List.append_assoc]
          rw [show ([c] ++ ([27, 40, 66] ++ [c]) : List Int) = [c, 27, 40, 66, c] from rfl, kdec_two ys c (unhide HS) h0 h1, ksn_digit hsg h0 h1, unhide HN]; rw [if_pos rfl, show 65344 + c = 65377 + c - 33 from by omega])
        have htl : t.size ≤ 300 := by rw [← bl_len, unhide HT, M.escs_len]; omega
        have hz1 : (t ++ strOfNums [c]).size ≤ 3000 := by rw [← bl_len, bl_app, List.length_append, bl_len, hbx]; simp; omega
        have hz2 : (t ++ strOfNums [c] ++ ⟨#[27, 40, 66]⟩ ++ strOfNums [c]).size ≤ 3000 := by rw [← bl_len, bl_app, bl_app, bl_app, hbx, show bl ⟨#[27, 40, 66]⟩ = [27, 40, 66] from rfl]; simp [bl_len]; omega
        have HL : Hid ((M.ebads false ys).length ≤ 100) := hide (by rw [ebads_len]; omega)
        generalize M.ebads false ys = E at *
        have HZ1 := hide hz1
        have HZ2 := hide hz2
        have hcv := conv1 wr c wr.heap.size rfl
        have HCV : Hid (∀ (w0 : World) (B : Nat), w0.heap.size = B → (convert 37 9 (.slice (some ⟨B, 0, none⟩) 1 1)).run Try.prog (w0.alloc (.cells #[.int .u8 c] 5)) = .ok (.string (strOfNums [c])) (w0.alloc (.cells #[.int .u8 c] 5))) := hide (fun w0 B hB => conv1 w0 c B hB)
        have HOL := hide (owns_lt (unhide HO))
        obtain ⟨av, cv, hsv⟩ := owns_shape (unhide HO)
        subst hsv
        clear hbx hz1 hz2 hsg
        generalize strOfNums [c] = d at *
        go_wp2_with fail
        refine (kdecode_own _ _ ?hz).mono ?_
        case hz => exact unhide HZ1
        rintro e w3 ⟨v3, rfl, hI3, hb3⟩
        rw [unhide HD1] at hI3
        obtain ⟨ao3, cap3, hsh3⟩ := owns_shape hI3
        have hsh3' : v3 = .slice ao3 (E.length + 1) cap3 := by simpa using hsh3
        subst hsh3'
        clear hsh3
        have HI3 := hide (Ints.of_owns hI3)
        have HA3 : Hid (Apart _ (.slice av E.length cv)) := hide (Apart.of_owns hI3 (fun g hg => by have := unhide HOL g hg; simp; omega))
        have HB3 := hide (bstep (balloc _ _) hb3)
        have HO3 := hide (owns_below (unhide HO) (unhide HB3))
        clear hI3 hb3 hcv
        have hcv2 := unhide HCV w3 w3.heap.size rfl
        have hcv3 := unhide HCV (w3.alloc (.cells #[.int .u8 c] 5)) (w3.heap.size + 1) (by simp)
        go_wp2_with fail
        refine (kdecode_own _ _ ?hz).mono ?_
        case hz => exact unhide HZ2
        rintro e w4 ⟨v4, rfl, hI4, hb4⟩
        rw [unhide HD2] at hI4
        obtain ⟨ao4, cap4, hsh4⟩ := owns_shape hI4
        have hsh4' : v4 = .slice ao4 (E.length + 2) cap4 := by simpa using hsh4
        subst hsh4'
        clear hsh4
        have HI4 := hide (Ints.of_owns hI4)
        have HA4 : Hid (Apart _ (.slice av E.length cv)) := hide (Apart.of_owns hI4 (fun g hg => by have h1 := unhide HOL g hg; have h2 := (unhide HB3).size; simp; omega))
        have HB4 := hide (bstep (bstep (balloc _ _) (balloc _ _)) hb4)
        have HO4 := hide (owns_below (unhide HO3) (unhide HB4))
        have HI34 := hide ((unhide HI3).below (unhide HB4))
        have hw4 : w1.heap.size ≤ w4.heap.size := by have h3 := (unhide HB3).size; have h4 := (unhide HB4).size; have h5 := (unhide HBR).size; omega
        have hLE := unhide HL
        clear hI4 hb4 hcv2 hcv3
        go_wp2_with (at_builtin; refine append_far rfl (.tmp 99) (.tmp 101) rfl w1.heap.size _ E rfl (owns_a (unhide HO4) _) ⟨w4.heap.size, 0, none⟩ [65377 + c - 33] 1 rfl (one_int _ _) (by simp; omega) (by simp; omega) ?_)
        intro ao5 cap5 w5 ho5 hb5 hf5
        have HO5 : Hid (w5.ownsRow w1.heap.size 3 1 (.slice ao5 (E.length + 1) cap5) (E ++ [65377 + c - 33]).length ((E ++ [65377 + c - 33]).map (Value.int .i64))) := hide (by simpa using ho5)
        have HB5 : Hid (Below w1.heap.size w4 w5) := hide (((Below.refl _ _).alloc hw4 _).trans hb5)
        have hw5 : w1.heap.size ≤ w5.heap.size := by have := (unhide HB5).size; omega
        have HI35 := hide (hf5 _ _ ((unhide HI34).below (balloc _ _)) (unhide HA3)).1
        have HI45 := hide (hf5 _ _ ((unhide HI4).below (balloc _ _)) (unhide HA4))
        have HW5 := hide (Ints.of_owns (unhide HO5))
        have HBA := hide ((((unhide HBR).trans ((unhide HB3).mono (unhide HBR).size)).trans ((unhide HB4).mono (by have h3 := (unhide HB3).size; have h5 := (unhide HBR).size; omega))).trans (unhide HB5))
        clear ho5 hb5 hf5
        go_wp2_with fail
        refine (same_any _ (unhide HI35) (unhide HW5)).mono ?_
        rintro e w6 ⟨rfl, hb6⟩
        rw [show (E ++ [65377 + c - 33] == E ++ [65377 + c - 33]) = true from by simp]
        have HO6 := hide (owns_below (unhide HO5) hb6)
        have HI46 := hide ((unhide HI45).1.below hb6)
        have HA46 := hide (unhide HI45).2
        have HB6 := hide ((unhide HBA).trans (hb6.mono hw5))
        have hw6 : w1.heap.size ≤ w6.heap.size := (unhide HB6).size
        clear hb6
        go_wp2_with (at_builtin; refine append_far rfl (.tmp 116) (.tmp 118) rfl w1.heap.size _ (E ++ [65377 + c - 33]) rfl (owns_a (unhide HO6) _) ⟨w6.heap.size, 0, none⟩ [c] 1 rfl (one_int _ _) (by simp; omega) (by simp; omega) ?_)
        intro ao7 cap7 w7 ho7 hb7 hf7
        have HB7 : Hid (Below w1.heap.size w1 w7) := hide (((unhide HB6).alloc hw6 _).trans hb7)
        have HI47 := hide (hf7 _ _ ((unhide HI46).below (balloc _ _)) (by simpa using unhide HA46)).1
        have HW7 := hide (Ints.of_owns (xs := E ++ [65377 + c - 33, c]) (v := .slice ao7 (E.length + 2) cap7) (by simpa using ho7))
        clear ho7 hb7 hf7
        go_wp2_with fail
        refine (same_any _ (unhide HI47) (by simpa using unhide HW7)).mono ?_
        rintro e w8 ⟨rfl, hb8⟩
        rw [show (E ++ [65377 + c - 33, c] == E ++ [65377 + c - 33, c]) = true from by simp]
        have HB8 := hide (bstep (unhide HB1) (bstep (unhide HB7) hb8))
        clear hb8
        go_wp2_with fail
        go_ret
        exact ⟨rfl, unhide HB8⟩
      · have hn2' : (now == 2) = false := by simpa using hn2
        have hsx : (strOfNums [c]).size = 1 := by rw [strOfNums_size]; rfl
        have hbx : bl (strOfNums [c]) = [c] := bl_str _ (by intro x hx; simp at hx; omega)
        have hsg := elast_sg ys 0 (.inl rfl) (unhide HS)
        have HD1 : Hid (M.kdec (bl (t ++ strOfNums [c])) = M.ebads false ys ++ [c]) := hide (by rw [bl_app, hbx, unhide HT, kdec_one ys c (unhide HS) h0 h1, ksn_digit hsg h0 h1, unhide HN]; rw [if_neg hn2])
        have HD2 : Hid (M.kdec (bl (t ++ strOfNums [c] ++ ⟨#[27, 40, 66]⟩ ++ strOfNums [c])) = M.ebads false ys ++ [c, c]) := hide (by
          rw [bl_app, bl_app, bl_app, hbx, unhide HT, show bl ⟨#[27, 40, 66]⟩ = [27, 40, 66] from rfl, List.append_assoc, List.append_assoc]
          rw [show ([c] ++ ([27, 40, 66] ++ [c]) : List Int) = [c, 27, 40, 66, c] from rfl, kdec_two ys c (unhide HS) h0 h1, ksn_digit hsg h0 h1, unhide HN]; rw [if_neg hn2])
        have htl : t.size ≤ 300 := by rw [← bl_len, unhide HT, M.escs_len]; omega
        have hz1 : (t ++ strOfNums [c]).size ≤ 3000 := by rw [← bl_len, bl_app, List.length_append, bl_len, hbx]; simp; omega
        have hz2 : (t ++ strOfNums [c] ++ ⟨#[27, 40, 66]⟩ ++ strOfNums [c]).size ≤ 3000 := by rw [← bl_len, bl_app, bl_app, bl_app, hbx, show bl ⟨#[27, 40, 66]⟩ = [27, 40, 66] from rfl]; simp [bl_len]; omega
        have HL : Hid ((M.ebads false ys).length ≤ 100) := hide (by rw [ebads_len]; omega)
        generalize M.ebads false ys = E at *
        have HZ1 := hide hz1
        have HZ2 := hide hz2
        have hcv := conv1 wr c wr.heap.size rfl
        have HCV : Hid (∀ (w0 : World) (B : Nat), w0.heap.size = B → (convert 37 9 (.slice (some ⟨B, 0, none⟩) 1 1)).run Try.prog (w0.alloc (.cells #[.int .u8 c] 5)) = .ok (.string (strOfNums [c])) (w0.alloc (.cells #[.int .u8 c] 5))) := hide (fun w0 B hB => conv1 w0 c B hB)
        have HOL := hide (owns_lt (unhide HO))
        obtain ⟨av, cv, hsv⟩ := owns_shape (unhide HO)
        subst hsv
        clear hbx hz1 hz2 hsg
        generalize strOfNums [c] = d at *
        go_wp2_with fail
        refine (kdecode_own _ _ ?hz).mono ?_
        case hz => exact unhide HZ1
        rintro e w3 ⟨v3, rfl, hI3, hb3⟩
        rw [unhide HD1] at hI3
        obtain ⟨ao3, cap3, hsh3⟩ := owns_shape hI3
        have hsh3' : v3 = .slice ao3 (E.length + 1) cap3 := by simpa using hsh3
        subst hsh3'
        clear hsh3
        have HI3 := hide (Ints.of_owns hI3)
        have HA3 : Hid (Apart _ (.slice av E.length cv)) := hide (Apart.of_owns hI3 (fun g hg => by have := unhide HOL g hg; simp; omega))
        have HB3 := hide (bstep (balloc _ _) hb3)
        have HO3 := hide (owns_below (unhide HO) (unhide HB3))
        clear hI3 hb3 hcv
        have hcv2 := unhide HCV w3 w3.heap.size rfl
        have hcv3 := unhide HCV (w3.alloc (.cells #[.int .u8 c] 5)) (w3.heap.size + 1) (by simp)
        go_wp2_with fail
        refine (kdecode_own _ _ ?hz).mono ?_
        case hz => exact unhide HZ2
        rintro e w4 ⟨v4, rfl, hI4, hb4⟩
        rw [unhide HD2] at hI4
        obtain ⟨ao4, cap4, hsh4⟩ := owns_shape hI4
        have hsh4' : v4 = .slice ao4 (E.length + 2) cap4 := by simpa using hsh4
        subst hsh4'
        clear hsh4
        have HI4 := hide (Ints.of_owns hI4)
        have HA4 : Hid (Apart _ (.slice av E.length cv)) := hide (Apart.of_owns hI4 (fun g hg => by have h1 := unhide HOL g hg; have h2 := (unhide HB3).size; simp; omega))
        have HB4 := hide (bstep (bstep (balloc _ _) (balloc _ _)) hb4)
        have HO4 := hide (owns_below (unhide HO3) (unhide HB4))
        have HI34 := hide ((unhide HI3).below (unhide HB4))
        have hw4 : w1.heap.size ≤ w4.heap.size := by have h3 := (unhide HB3).size; have h4 := (unhide HB4).size; have h5 := (unhide HBR).size; omega
        have hLE := unhide HL
        clear hI4 hb4 hcv2 hcv3
        go_wp2_with (at_builtin; refine append_far rfl (.tmp 99) (.tmp 101) rfl w1.heap.size _ E rfl (owns_a (unhide HO4) _) ⟨w4.heap.size, 0, none⟩ [c] 1 rfl (one_int _ _) (by simp; omega) (by simp; omega) ?_)
        intro ao5 cap5 w5 ho5 hb5 hf5
        have HO5 : Hid (w5.ownsRow w1.heap.size 3 1 (.slice ao5 (E.length + 1) cap5) (E ++ [c]).length ((E ++ [c]).map (Value.int .i64))) := hide (by simpa using ho5)
        have HB5 : Hid (Below w1.heap.size w4 w5) := hide (((Below.refl _ _).alloc hw4 _).trans hb5)
        have hw5 : w1.heap.size ≤ w5.heap.size := by have := (unhide HB5).size; omega
        have HI35 := hide (hf5 _ _ ((unhide HI34).below (balloc _ _)) (unhide HA3)).1
        have HI45 := hide (hf5 _ _ ((unhide HI4).below (balloc _ _)) (unhide HA4))
        have HW5 := hide (Ints.of_owns (unhide HO5))
        have HBA := hide ((((unhide HBR).trans ((unhide HB3).mono (unhide HBR).size)).trans ((unhide HB4).mono (by have h3 := (unhide HB3).size; have h5 := (unhide HBR).size; omega))).trans (unhide HB5))
        clear ho5 hb5 hf5
        go_wp2_with fail
        refine (same_any _ (unhide HI35) (unhide HW5)).mono ?_
        rintro e w6 ⟨rfl, hb6⟩
        rw [show (E ++ [c] == E ++ [c]) = true from by simp]
        have HO6 := hide (owns_below (unhide HO5) hb6)
        have HI46 := hide ((unhide HI45).1.below hb6)
        have HA46 := hide (unhide HI45).2
        have HB6 := hide ((unhide HBA).trans (hb6.mono hw5))
        have hw6 : w1.heap.size ≤ w6.heap.size := (unhide HB6).size
        clear hb6
        go_wp2_with (at_builtin; refine append_far rfl (.tmp 116) (.tmp 118) rfl w1.heap.size _ (E ++ [c]) rfl (owns_a (unhide HO6) _) ⟨w6.heap.size, 0, none⟩ [c] 1 rfl (one_int _ _) (by simp; omega) (by simp; omega) ?_)
        intro ao7 cap7 w7 ho7 hb7 hf7
        have HB7 : Hid (Below w1.heap.size w1 w7) := hide (((unhide HB6).alloc hw6 _).trans hb7)
        have HI47 := hide (hf7 _ _ ((unhide HI46).below (balloc _ _)) (by simpa using unhide HA46)).1
        have HW7 := hide (Ints.of_owns (xs := E ++ [c, c]) (v := .slice ao7 (E.length + 2) cap7) (by simpa using ho7))
        clear ho7 hb7 hf7
        go_wp2_with fail
        refine (same_any _ (unhide HI47) (by simpa using unhide HW7)).mono ?_
        rintro e w8 ⟨rfl, hb8⟩
        rw [show (E ++ [c, c] == E ++ [c, c]) = true from by simp]
        have HB8 := hide (bstep (unhide HB1) (bstep (unhide HB7) hb8))
        clear hb8
        go_wp2_with fail
        go_ret
        exact ⟨rfl, unhide HB8⟩

theorem walk (v : Value) (ys : List Int) (c : Int) (w : World) (hx : Ints w v ys) (hw : (Lit.int .i64 c).wf = true) :
    Calls Try.prog 5 #[v, .int .i64 c] w fun e w' => e = .returned (.bool true) ∧ Below w.heap.size w w' := by
  by_cases h0 : c < 48
  · exact low v ys c w hx h0
  · by_cases h1 : 57 < c
    · exact high v ys c w hx h1
    · by_cases h : 100 < ys.length
      · exact much v ys c w hx (by omega) (by omega) h
      · exact full v ys c w hx (by omega) (by omega) (by omega)

set_option maxRecDepth 100000 in
theorem lifted (os : Os) (started : os.Started) (H : Type) (enc : TypeId × Value → H) :
    ReturnsInHanded {} Try.checked os 5 .any (Rows.kanaEscapesSpec.pre6 enc Try.prog Try.f5 Rows.kanaEscapesRow.domain false) (Rows.kanaEscapesSpec.post enc Try.prog Try.f5 false true false false) := by
  refine returnsInHanded_of_change (C := Try.checked) own started (by kernel_rfl) Try.func5
    (ChangeSpec.witness6 (enc := enc) (C := Try.checked) false ⟨#[], #[.slice none 0 0, .int .i64 0], []⟩ 8 (by kernel_rfl) (by kernel_rfl) (by kernel_rfl) (by kernel_rfl)) ?_
  intro W base args ds gs before hval0 hW hcnd _
  have hval : ∀ (j : Nat) t v, Try.f5.params[j]? = some t → args[j]? = some v → Value.okWide Try.prog W .any base t v := hval0
  have hW' := hW
  obtain ⟨p, q, hA0, hV, rfl, hfz, hnd⟩ := hW
  have hA : DataW.TrodAll enc Try.prog W 0 (fun _ => true) true Try.f5.params.toList args.toList ds p := hA0
  rw [Try.params5] at hA hval
  obtain ⟨v0, vs0, d0, ds0, p0, q0, hargs, rfl, rfl, h0, r0⟩ := trodAll_cons hA
  obtain ⟨v1, vs1, d1, ds1, p1, q1, rfl, rfl, rfl, h1, r1⟩ := trodAll_cons r0
  obtain ⟨rfl, rfl, rfl⟩ := trodAll_nil r1
  obtain rfl : args = #[v0, v1] := by cases args; simp_all
  obtain ⟨rfl, rfl⟩ := trodVars_none hV
  obtain ⟨a0, len0, cap0, rfl⟩ := okWide_slice Try.underlying22 (hval 0 22 v0 rfl rfl)
  have k0 := h0
  have lt0 : ∀ x ∈ p0, x.block < W.heap.size := by obtain ⟨m, hm⟩ := k0; exact DataW.trod_lt m _ _ _ hm
  obtain ⟨z0, w0⟩ : ∃ zs, IsRow .i64 W a0 len0 cap0 zs := by
    obtain ⟨fuel, hf⟩ := h0
    rcases open_ints Try.underlying22 Try.underlying3 (by kernel_rfl) hf with ⟨hcs, _⟩ | ⟨x, l, c, zs, hcs, _, hl, hm, hz, _, hcell, hwz⟩
    · simp [Value.cells] at hcs
      obtain ⟨rfl, rfl, rfl⟩ := hcs
      exact ⟨[], .inl ⟨rfl, rfl, rfl, rfl⟩⟩
    · simp [Value.cells] at hcs
      obtain ⟨rfl, rfl, rfl⟩ := hcs
      exact ⟨zs, .inr ⟨_, rfl, hl, hm, by simpa using hz, hcell, hwz⟩⟩
  obtain ⟨a1, rfl, rfl, rfl, w1⟩ := open_int Try.underlying3 (hval 1 3 v1 rfl rfl) h1
  clear hA0 hval0
  refine (walk (.slice a0 len0 cap0) (z0.take len0) a1 W (Ints.of_row w0) w1).mono fun e W' ⟨he, bel⟩ => ?_
  subst he
  exact ⟨_, rfl, _, _, _, [], _, [], hW', trodAll_mk1 (shut_bool Try.underlying4 _), (trodAll_cons_mk (Below.trod laidOut (by kernel_rfl) (of_decide_eq_true (by kernel_rfl)) k0 bel lt0) (trodAll_cons_mk (shut_int Try.underlying3 w1) trodAll_mk0)), rfl, bel.frame _, fun h => by cases h⟩

theorem over : Rows.kanaEscapesRow.holds Try.pinned (OpenSpec.ofChange Rows.kanaEscapesSpec) :=
  OpenClaim.holds_of_wide 5 Try.f5 rfl rfl rfl rfl rfl rfl rfl ⟨rfl, rfl, rfl, rfl, rfl⟩ rfl rfl rfl rfl rfl (by kernel_rfl) Try.func5 (by kernel_rfl)
    (of_decide_eq_true (by kernel_rfl)) (by unfold Func.isWrapper; first | (rw [if_pos (by decide +kernel)]; kernel_rfl) | (rw [if_neg (by decide +kernel)]; exact ⟨rfl, rfl⟩))
    (fun os started H enc _ => lifted os started H enc)
end Go.Proofs.Ythhjfedegbldfac.kanaEscapes

namespace Go.Proofs.Ythhjfedegbldfac
theorem kanaEscapes_holds : Rows.KanaEscapesSaid := kanaEscapes.over
end Go.Proofs.Ythhjfedegbldfac
