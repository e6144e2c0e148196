/- The contract of the reference's EncodeKana: the bytes of code points with escapes among them, or that one has none; nothing that was there is written. -/
import Derived.Test.YthhjfedegbldfacRK
namespace Go.Proofs.Ythhjfedegbldfac
open Go.RowKit
set_option linter.unusedVariables false

theorem convB (w0 : World) (x : Int) (B : Nat) (hB : w0.heap.size = B) :
    (convert 37 9 (.slice (some ⟨B, 0, none⟩) 1 1)).run Try.prog (w0.alloc (.cells #[.int .u8 x] 5)) = .ok (.string (strOfNums [x])) (w0.alloc (.cells #[.int .u8 x] 5)) := by
  subst hB
  exact conv_built [x] 1 1 rfl (heap_alloc_new _ _)
/-- What a round of EncodeKana's loop knows. -/
def InR (xs : List Int) (w wr : World) (k : Nat) (t : ByteArray) : Prop := bl t = M.kbody 0 (xs.take k) ∧ Below w.heap.size w wr ∧ (xs.take k).all M.anyK = true
/-- The first signs that have a code point, where those that are now have it not. -/
theorem want_first {now n : Int} (hn : M.Sg now) (ha : M.anyK n = true) (h : M.hasK now n = false) : ∃ x : Nat, M.want now n = x ∧ x < 3 ∧ (∀ j : Nat, j < x → M.hasK (j : Int) n = false) ∧ M.hasK (x : Int) n = true ∧ (x : Int) ≠ now := by
  have hw := M.want_has (now := now) ha
  have hne : M.want now n ≠ now := fun e => by rw [e, h] at hw; cases hw
  unfold M.want at *
  rw [if_neg (by simp [h])] at *
  by_cases h0 : M.hasK 0 n = true
  · rw [if_pos h0] at *
    exact ⟨0, rfl, by omega, fun j hj => by omega, h0, hne⟩
  · rw [if_neg h0] at *
    by_cases h1 : M.hasK 1 n = true
    · rw [if_pos h1] at *
      refine ⟨1, rfl, by omega, fun j hj => ?_, h1, hne⟩
      have : j = 0 := by omega
      subst this; exact Bool.eq_false_iff.2 h0
    · rw [if_neg h1] at *
      refine ⟨2, rfl, by omega, fun j hj => ?_, hw, hne⟩
      obtain rfl | rfl : j = 0 ∨ j = 1 := by omega
      · exact Bool.eq_false_iff.2 h0
      · exact Bool.eq_false_iff.2 h1
theorem esc_cutR {k : Nat} (h : k < 3) : bl ((⟨#[27, 40]⟩ : ByteArray) ++ (⟨#[66, 74, 73]⟩ : ByteArray).extract k (k + 1)) = [27, 40, M.esc (k : Int)] := by
  match k, h with
  | 0, _ => decide
  | 1, _ => decide
  | 2, _ => decide
theorem esc_szR {k : Nat} (h : k < 3) : ((⟨#[27, 40]⟩ : ByteArray) ++ (⟨#[66, 74, 73]⟩ : ByteArray).extract k (k + 1)).size = 3 := by
  match k, h with
  | 0, _ => decide
  | 1, _ => decide
  | 2, _ => decide
theorem nat_sg {x : Nat} (h : x < 3) : M.Sg (x : Int) := by unfold M.Sg; omega

set_option maxHeartbeats 2000000 in
set_option maxRecDepth 100000 in
theorem encodeKana_any (v : Value) (xs : List Int) (w : World) (hI : Ints w v xs) (hlen : xs.length ≤ 3000) :
    Calls Try.prog 13 #[v] w fun e w' => e = .returned (wrote xs) ∧ Below w.heap.size w w' := by
  obtain ⟨ao, cap, rfl, -, -, hc⟩ := hI
  have HC := hide hc
  have HI : Hid (InR xs w w 0 ByteArray.empty) := hide ⟨rfl, Below.refl _ _, by simp⟩
  clear hc
  go_enter Try.func13, Try.ntmps13
  go_wp2_with fail
  go_loopw [4, 5, 6] (fun sv now i wr => ∃ (k : Nat) (t : ByteArray), k ≤ xs.length ∧ i = .int .i64 k ∧ sv = .string t ∧ now = .int .i64 (M.kst 0 (xs.take k)) ∧ InR xs w wr k t) (fun _ _ i _ => xs.length - (intOf i).toNat)
  case atStart => exact ⟨0, ByteArray.empty, by omega, rfl, rfl, rfl, unhide HI⟩
  case round =>
    obtain ⟨k, t, hk, rfl, rfl, rfl, hT, hB, hA⟩ := hrel
    clear HI
    have hnow := M.kst_sg (xs.take k) (now := 0) (.inl rfl)
    have htz : t.size ≤ 12000 := by rw [← bl_len, hT]; have := M.kbody_len (xs.take k) 0; rw [List.length_take] at this; omega
    have HT := hide hT
    have HBR := hide hB
    have HA := hide hA
    obtain ⟨now, HNow⟩ : ∃ now, Hid (M.kst 0 (xs.take k) = now) := ⟨_, hide rfl⟩
    rw [unhide HNow] at hnow
    rw [unhide HNow]
    clear hT hB hA
    by_cases hlt : k < xs.length
    · obtain ⟨b, off, rfl, hc⟩ : ∃ b off, ao = some ⟨b, off, none⟩ ∧ ∀ i, i < xs.length → w.cell? ⟨b, off + i, none⟩ = some (.int .i64 (xs.getD i 0)) := by
        rcases unhide HC with h | h
        · subst h; simp at hlt
        · exact h
      have hcell : wr.cell? ⟨b, off + k, none⟩ = some (.int .i64 (xs.getD k 0)) := ((unhide HBR).cell (p := ⟨b, off + k, none⟩) (World.block_lt_of_cell? w _ (hc k hlt))).trans (hc k hlt)
      have hbr : b < wr.heap.size := World.block_lt_of_cell? wr _ hcell
      obtain ⟨p, HP⟩ : ∃ p, Hid (xs.getD k 0 = p) := ⟨_, hide rfl⟩
      rw [unhide HP] at hcell
      clear hc
      have hhk := fun w => hasKana_any p w
      cases hq : M.anyK p
      · rw [hq] at hhk
        have HW : Hid (wrote xs = .tuple #[.string ByteArray.empty, .bool false]) := hide (by unfold wrote; rw [all_no hlt (unhide HP) hq]; rfl)
        clear hq
        go_wp2_with fail
        refine (hhk _).mono ?_
        rintro e w1 ⟨rfl, hw⟩
        replace hw := hw.symm
        subst hw
        clear hhk
        go_wp2_with fail
        go_ret2
        refine ⟨?_, unhide HBR⟩
        rw [unhide HW]; rfl
      · rw [hq] at hhk
        have HE1 : Hid (xs.take (k + 1) = xs.take k ++ [p]) := hide (take_getD hlt (unhide HP))
        have HK1 : Hid (M.kst 0 (xs.take (k + 1)) = M.want now p) := hide (by rw [unhide HE1, M.kst_snoc, unhide HNow])
        have HA1 : Hid ((xs.take (k + 1)).all M.anyK = true) := hide (by rw [unhide HE1, List.all_append, unhide HA]; simp [hq])
        have HN1 : Hid (M.kbody 0 (xs.take (k + 1)) = M.kbody 0 (xs.take k) ++ M.kpc now p) := hide (by rw [unhide HE1, M.kbody_snoc, unhide HNow])
        have kb := fun w => kanaByte_any now p hnow w
        have hcv := fun c => convB wr c wr.heap.size rfl
        cases hh : M.hasK now p
        · obtain ⟨x, hx1, hx3, hx4, hx5, hx6⟩ := want_first hnow hq hh
          rw [kbv_no hh] at kb
          obtain ⟨y1, y2, y3⟩ := kbv_yes hx5
          rw [hx1] at HK1
          have HP1 : Hid (M.kpc now p = [27, 40, M.esc (x : Int)] ++ [kbv (x : Int) p]) := hide (by unfold M.kpc; rw [hx1, if_neg hx6, y1])
          obtain ⟨c, HCq⟩ : ∃ c, Hid (kbv (x : Int) p = c) := ⟨_, hide rfl⟩
          have kx := fun w => kanaByte_any (x : Int) p (nat_sg hx3) w
          rw [unhide HCq] at y2 y3 HP1 kx
          have HX4 := hide hx4
          have hne : ((x : Int) != now) = true := by simpa using hx6
          have hcvc := hcv c
          have hbt : bl (strOfNums [c]) = [c] := bl_str _ (by intro q hq; simp at hq; omega)
          have hdz : (strOfNums [c]).size = 1 := by rw [strOfNums_size]; rfl
          clear hq hh hx1 hx4 hx5 hx6 y1 hcv
          go_wp2_with fail
          refine (hhk _).mono ?_
          rintro e w1 ⟨rfl, hw⟩
          replace hw := hw.symm
          subst hw
          clear hhk
          go_wp2_with fail
          refine (kb _).mono ?_
          rintro e w1 ⟨rfl, hw⟩
          replace hw := hw.symm
          subst hw
          clear kb
          go_wp2_with fail
          go_loop [7] (fun y => ∃ j : Nat, j ≤ x ∧ y = .int .i64 j) (fun y => 3 - (intOf y).toNat)
          case atStart => exact ⟨0, by omega, rfl⟩
          case round =>
            obtain ⟨j, hj, rfl⟩ := hrel
            by_cases hjx : j < x
            · have kj := fun w => kanaByte_any (j : Int) p (nat_sg (by omega)) w
              rw [kbv_no (unhide HX4 j hjx)] at kj
              go_wp2_with fail
              refine (kj _).mono ?_
              rintro e w1 ⟨rfl, hw⟩
              replace hw := hw.symm
              subst hw
              clear kj
              go_wp2_with fail
              go_round
              case rel => exact ⟨j + 1, by omega, by go_num⟩
              case measure => simp [intOf]; omega
            · obtain rfl : j = x := by omega
              have hz3 : (⟨#[66, 74, 73]⟩ : ByteArray).size = 3 := rfl
              have HT1 : Hid (∀ u, u = strOfNums [c] → bl (t ++ ((⟨#[27, 40]⟩ : ByteArray) ++ (⟨#[66, 74, 73]⟩ : ByteArray).extract j (j + 1)) ++ u) = M.kbody 0 (xs.take (k + 1))) := hide (fun u hu => by
                rw [hu, bl_app, bl_app, hbt, esc_cutR hx3, unhide HT, unhide HN1, unhide HP1, List.append_assoc])
              obtain rfl | rfl | rfl : j = 0 ∨ j = 1 ∨ j = 2 := by omega
              · have HJ : Hid (bl (t ++ ((⟨#[27, 40]⟩ : ByteArray) ++ (⟨#[66, 74, 73]⟩ : ByteArray).extract 0 1) ++ strOfNums [c]) = M.kbody 0 (xs.take (k + 1))) := hide (unhide HT1 _ rfl)
                have hesz : ((⟨#[27, 40]⟩ : ByteArray) ++ (⟨#[66, 74, 73]⟩ : ByteArray).extract 0 1).size = 3 := esc_szR hx3
                have kx' : ∀ w : World, Calls Try.prog 30 #[.int .i64 0, .int .i64 p] w fun e w' => e = .returned (.int .i64 c) ∧ w' = w := kx
                have hne' : ((0 : Int) != now) = true := hne
                have HK1' : Hid (M.kst 0 (xs.take (k + 1)) = 0) := HK1
                clear HT1 kx hne HK1 HX4 hbt
                generalize strOfNums [c] = d at *
                go_wp2_with fail
                refine (kx' _).mono ?_
                rintro e w1 ⟨rfl, hw⟩
                replace hw := hw.symm
                subst hw
                go_wp2_with fail
                refine (kx' _).mono ?_
                rintro e w1 ⟨rfl, hw⟩
                replace hw := hw.symm
                subst hw
                go_wp2_with fail
                go_roundw
                case rel => exact ⟨k + 1, _, by omega, by go_num, rfl, by rw [unhide HK1'], unhide HJ, (unhide HBR).alloc (unhide HBR).size _, unhide HA1⟩
                case measure => simp [intOf]; omega
              · have HJ : Hid (bl (t ++ ((⟨#[27, 40]⟩ : ByteArray) ++ (⟨#[66, 74, 73]⟩ : ByteArray).extract 1 2) ++ strOfNums [c]) = M.kbody 0 (xs.take (k + 1))) := hide (unhide HT1 _ rfl)
                have hesz : ((⟨#[27, 40]⟩ : ByteArray) ++ (⟨#[66, 74, 73]⟩ : ByteArray).extract 1 2).size = 3 := esc_szR hx3
                have kx' : ∀ w : World, Calls Try.prog 30 #[.int .i64 1, .int .i64 p] w fun e w' => e = .returned (.int .i64 c) ∧ w' = w := kx
                have hne' : ((1 : Int) != now) = true := hne
                have HK1' : Hid (M.kst 0 (xs.take (k + 1)) = 1) := HK1
                clear HT1 kx hne HK1 HX4 hbt
                generalize strOfNums [c] = d at *
                go_wp2_with fail
                refine (kx' _).mono ?_
                rintro e w1 ⟨rfl, hw⟩
                replace hw := hw.symm
                subst hw
                go_wp2_with fail
                refine (kx' _).mono ?_
                rintro e w1 ⟨rfl, hw⟩
                replace hw := hw.symm
                subst hw
                go_wp2_with fail
                go_roundw
                case rel => exact ⟨k + 1, _, by omega, by go_num, rfl, by rw [unhide HK1'], unhide HJ, (unhide HBR).alloc (unhide HBR).size _, unhide HA1⟩
                case measure => simp [intOf]; omega
              · have HJ : Hid (bl (t ++ ((⟨#[27, 40]⟩ : ByteArray) ++ (⟨#[66, 74, 73]⟩ : ByteArray).extract 2 3) ++ strOfNums [c]) = M.kbody 0 (xs.take (k + 1))) := hide (unhide HT1 _ rfl)
                have hesz : ((⟨#[27, 40]⟩ : ByteArray) ++ (⟨#[66, 74, 73]⟩ : ByteArray).extract 2 3).size = 3 := esc_szR hx3
                have kx' : ∀ w : World, Calls Try.prog 30 #[.int .i64 2, .int .i64 p] w fun e w' => e = .returned (.int .i64 c) ∧ w' = w := kx
                have hne' : ((2 : Int) != now) = true := hne
                have HK1' : Hid (M.kst 0 (xs.take (k + 1)) = 2) := HK1
                clear HT1 kx hne HK1 HX4 hbt
                generalize strOfNums [c] = d at *
                go_wp2_with fail
                refine (kx' _).mono ?_
                rintro e w1 ⟨rfl, hw⟩
                replace hw := hw.symm
                subst hw
                go_wp2_with fail
                refine (kx' _).mono ?_
                rintro e w1 ⟨rfl, hw⟩
                replace hw := hw.symm
                subst hw
                go_wp2_with fail
                go_roundw
                case rel => exact ⟨k + 1, _, by omega, by go_num, rfl, by rw [unhide HK1'], unhide HJ, (unhide HBR).alloc (unhide HBR).size _, unhide HA1⟩
                case measure => simp [intOf]; omega
        · rw [(kbv_yes hh).1] at kb
          obtain ⟨y1, y2, y3⟩ := kbv_yes hh
          have hwn : M.want now p = now := by unfold M.want; rw [if_pos hh]
          rw [hwn] at HK1
          have HP1 : Hid (M.kpc now p = [M.kby now p]) := hide (by unfold M.kpc; rw [hwn, if_pos rfl]; rfl)
          obtain ⟨c, HCq⟩ : ∃ c, Hid (M.kby now p = c) := ⟨_, hide rfl⟩
          rw [y1] at y2 y3
          rw [unhide HCq] at y2 y3 HP1 kb
          have hcvc := hcv c
          have hbt : bl (strOfNums [c]) = [c] := bl_str _ (by intro q hq; simp at hq; omega)
          have hdz : (strOfNums [c]).size = 1 := by rw [strOfNums_size]; rfl
          have HJ : Hid (bl (t ++ strOfNums [c]) = M.kbody 0 (xs.take (k + 1))) := hide (by rw [bl_app, hbt, unhide HT, unhide HN1, unhide HP1])
          clear hq hh y1 hcv hwn hbt
          generalize strOfNums [c] = d at *
          go_wp2_with fail
          refine (hhk _).mono ?_
          rintro e w1 ⟨rfl, hw⟩
          replace hw := hw.symm
          subst hw
          clear hhk
          go_wp2_with fail
          refine (kb _).mono ?_
          rintro e w1 ⟨rfl, hw⟩
          replace hw := hw.symm
          subst hw
          go_wp2_with fail
          refine (kb _).mono ?_
          rintro e w1 ⟨rfl, hw⟩
          replace hw := hw.symm
          subst hw
          clear kb
          go_wp2_with fail
          go_roundw
          case rel => exact ⟨k + 1, _, by omega, by go_num, rfl, by rw [unhide HK1], unhide HJ, (unhide HBR).alloc (unhide HBR).size _, unhide HA1⟩
          case measure => simp [intOf]; omega
    · have et : xs.take k = xs := List.take_of_length_le (by omega)
      rw [et] at HNow HT HA
      have HW : Hid (wrote xs = .tuple #[.string (strOfNums (bl t ++ M.ktail now)), .bool true]) := hide (by unfold wrote; rw [unhide HA, if_pos rfl]; unfold M.kenc; rw [unhide HNow, unhide HT])
      by_cases hn0 : now = 0
      · subst hn0
        have HW2 : Hid (wrote xs = .tuple #[.string t, .bool true]) := hide (by rw [unhide HW, show M.ktail 0 = [] from rfl, List.append_nil, str_bl])
        clear HW
        go_wp2_with fail
        go_ret2
        refine ⟨?_, unhide HBR⟩
        rw [unhide HW2]; rfl
      · have hne : (now != 0) = true := by simpa using hn0
        have HW2 : Hid (wrote xs = .tuple #[.string (t ++ ⟨#[27, 40, 66]⟩), .bool true]) := hide (by
          rw [unhide HW, show M.ktail now = bl ⟨#[27, 40, 66]⟩ from by unfold M.ktail; rw [if_neg hn0]; rfl, ← bl_app, str_bl])
        clear HW
        go_wp2_with fail
        go_ret2
        refine ⟨?_, unhide HBR⟩
        rw [unhide HW2]; rfl
end Go.Proofs.Ythhjfedegbldfac
