/- Laws that the statements of this seat lean on, part 10 (RU RL SD RF RE6 CS RY6 RZ6): each a contract of a function, or a plain fact; conditions stand at each. -/
import Derived.Deep.CutBlock
import Derived.Deep.DeepCutAuto
import Derived.Test.YtaiinjfnkmidbaaGreatDoorQ9
namespace Go.Proofs.YtaiinjfnkmidbaaGreatDoor
open Go.RowKit
set_option linter.unusedVariables false

set_option maxHeartbeats 400000 in
set_option maxRecDepth 100000 in
theorem low_any (n : Int) (w : World) (h : 0 ≤ n) (h' : n < 4294967296) : Calls Tryz.prog 193 #[.int .i64 n] w fun e w' => e = .returned (.int .u8 (128 + n % 64)) ∧ w' = w := by
  go_enter Tryz.func193, Tryz.ntmps193
  go_wp2
  go_ret
  exact ⟨ret_int (by omega), rfl⟩

set_option maxHeartbeats 400000 in
set_option maxRecDepth 100000 in
theorem row_1 (n : Int) (w : World) (h : 0 ≤ n) (h' : n < 128) : Calls Tryz.prog 140 #[.int .i64 n] w fun e w' => e = .returned (.string (strOfNums (M.enc1 n))) ∧ Below w.heap.size w w' := by
  rw [M.enc1_1 h']
  have hcv := conv_built (w := w.alloc (.cells #[.int .u8 (n)] 5)) (b := w.heap.size) [n] 1 1 rfl (heap_alloc_new _ _)
  generalize strOfNums [n] = t at *
  go_enter Tryz.func140, Tryz.ntmps140
  go_wp2_with (go_at_call 193; refine (low_any _ _ (by omega) (by omega)).mono ?_; rintro e w1 ⟨rfl, hw⟩; replace hw := hw.symm; subst hw)
  go_ret
  exact ⟨rfl, balloc _ _⟩
set_option maxHeartbeats 400000 in
set_option maxRecDepth 100000 in
theorem row_2 (n : Int) (w : World) (h : 128 ≤ n) (h' : n < 2048) : Calls Tryz.prog 140 #[.int .i64 n] w fun e w' => e = .returned (.string (strOfNums (M.enc1 n))) ∧ Below w.heap.size w w' := by
  rw [M.enc1_2 h h']
  have hcv := conv_built (w := w.alloc (.cells #[.int .u8 (192 + n / 64), .int .u8 (128 + n % 64)] 5)) (b := w.heap.size) [192 + n / 64, 128 + n % 64] 2 2 rfl (heap_alloc_new _ _)
  generalize strOfNums [192 + n / 64, 128 + n % 64] = t at *
  go_enter Tryz.func140, Tryz.ntmps140
  go_wp2_with (go_at_call 193; refine (low_any _ _ (by omega) (by omega)).mono ?_; rintro e w1 ⟨rfl, hw⟩; replace hw := hw.symm; subst hw)
  go_ret
  exact ⟨rfl, balloc _ _⟩
set_option maxHeartbeats 400000 in
set_option maxRecDepth 100000 in
theorem row_3 (n : Int) (w : World) (h : 2048 ≤ n) (h' : n < 65536) : Calls Tryz.prog 140 #[.int .i64 n] w fun e w' => e = .returned (.string (strOfNums (M.enc1 n))) ∧ Below w.heap.size w w' := by
  rw [M.enc1_3 h h']
  have hcv := conv_built (w := w.alloc (.cells #[.int .u8 (224 + n / 4096), .int .u8 (128 + n / 64 % 64), .int .u8 (128 + n % 64)] 5)) (b := w.heap.size) [224 + n / 4096, 128 + n / 64 % 64, 128 + n % 64] 3 3 rfl (heap_alloc_new _ _)
  generalize strOfNums [224 + n / 4096, 128 + n / 64 % 64, 128 + n % 64] = t at *
  go_enter Tryz.func140, Tryz.ntmps140
  go_wp2_with (go_at_call 193; refine (low_any _ _ (by omega) (by omega)).mono ?_; rintro e w1 ⟨rfl, hw⟩; replace hw := hw.symm; subst hw)
  go_ret
  exact ⟨rfl, balloc _ _⟩
set_option maxHeartbeats 400000 in
set_option maxRecDepth 100000 in
theorem row_4 (n : Int) (w : World) (h : 65536 ≤ n) (h' : n ≤ 1114111) : Calls Tryz.prog 140 #[.int .i64 n] w fun e w' => e = .returned (.string (strOfNums (M.enc1 n))) ∧ Below w.heap.size w w' := by
  rw [M.enc1_4 h]
  have hcv := conv_built (w := w.alloc (.cells #[.int .u8 (240 + n / 262144), .int .u8 (128 + n / 4096 % 64), .int .u8 (128 + n / 64 % 64), .int .u8 (128 + n % 64)] 5)) (b := w.heap.size) [240 + n / 262144, 128 + n / 4096 % 64, 128 + n / 64 % 64, 128 + n % 64] 4 4 rfl (heap_alloc_new _ _)
  generalize strOfNums [240 + n / 262144, 128 + n / 4096 % 64, 128 + n / 64 % 64, 128 + n % 64] = t at *
  go_enter Tryz.func140, Tryz.ntmps140
  go_wp2_with (go_at_call 193; refine (low_any _ _ (by omega) (by omega)).mono ?_; rintro e w1 ⟨rfl, hw⟩; replace hw := hw.symm; subst hw)
  go_ret
  exact ⟨rfl, balloc _ _⟩

theorem row_any (n : Int) (w : World) (h : M.sclr n = true) : Calls Tryz.prog 140 #[.int .i64 n] w fun e w' => e = .returned (.string (strOfNums (M.enc1 n))) ∧ Below w.heap.size w w' := by
  have h' := (M.sclr_iff n).1 h
  rcases (show n < 128 ∨ (128 ≤ n ∧ n < 2048) ∨ (2048 ≤ n ∧ n < 65536) ∨ 65536 ≤ n from by omega) with g | ⟨g, g'⟩ | ⟨g, g'⟩ | g
  · exact row_1 n w h'.1 g
  · exact row_2 n w g g'
  · exact row_3 n w g g'
  · exact row_4 n w g h'.2.1

set_option maxHeartbeats 400000 in
set_option maxRecDepth 100000 in
theorem encRef_none (ao : Option Addr) (cap : Nat) (w : World) : Calls Tryz.prog 85 #[.slice ao 0 cap] w fun e w' => e = .returned (.string ⟨#[]⟩) ∧ w' = w := by
  go_enter Tryz.func85, Tryz.ntmps85
  go_wp2
  refine wp_loop_rounds 1 ?_
  rw [rounds_succ]
  go_wp2
  go_ret
  exact ⟨rfl, rfl⟩

set_option maxHeartbeats 400000 in
set_option maxRecDepth 100000 in
theorem encRef_some (b off cap : Nat) (xs : List Int) (w : World) (h0 : xs ≠ []) (h : xs.length ≤ 3000) (ha : xs.all M.sclr = true) (hc : ∀ i, i < xs.length → w.cell? ⟨b, off + i, none⟩ = some (.int .i64 (xs.getD i 0))) :
    Calls Tryz.prog 85 #[.slice (some ⟨b, off, none⟩) xs.length cap] w fun e w' => e = .returned (.string (strOfNums (M.enc xs))) ∧ Below w.heap.size w w' := by
  have hlen : 0 < xs.length := List.length_pos_iff.2 h0
  have hbl : b < w.heap.size := World.block_lt_of_cell? w _ (hc 0 hlen)
  have HC := hide hc
  have HA := hide ha
  clear hc h0 ha
  go_enter Tryz.func85, Tryz.ntmps85
  go_wp2_with fail
  go_loopw [3, 4] (fun sv i wr => ∃ k : Nat, k ≤ xs.length ∧ i = .int .i64 k ∧ sv = .string (strOfNums (M.enc (xs.take k))) ∧ Below w.heap.size w wr) (fun _ i _ => xs.length - (intOf i).toNat)
  case atStart => exact ⟨0, by omega, rfl, rfl, Below.refl _ _⟩
  case round =>
    obtain ⟨k, hk, rfl, rfl, hbw⟩ := hrel
    by_cases hlt : k < xs.length
    · have hcell : wr.cell? ⟨b, off + k, none⟩ = some (.int .i64 (xs.getD k 0)) := (hbw.cell (p := ⟨b, off + k, none⟩) hbl).trans (unhide HC k hlt)
      obtain ⟨p, HP⟩ : ∃ p, Hid (xs.getD k 0 = p) := ⟨_, rfl⟩
      rw [unhide HP] at hcell
      have hs : M.sclr p = true := by rw [← unhide HP]; exact List.all_eq_true.1 (unhide HA) _ (by simp [hlt])
      have HT : Hid (strOfNums (M.enc (xs.take k)) ++ strOfNums (M.enc1 p) = strOfNums (M.enc (xs.take (k + 1)))) := by
        show _ = _
        rw [str_app, take_snoc xs k hlt, M.enc_snoc, unhide HP]
      have hsz1 : (strOfNums (M.enc (xs.take k))).size ≤ 12000 := by
        rw [strOfNums_size]; have := M.enc_len (xs.take k); have := List.length_take_le k xs; omega
      have hsz2 : (strOfNums (M.enc1 p)).size ≤ 4 := by rw [strOfNums_size]; exact (M.enc1_len p).2
      have HR := hide (fun w => row_any p w hs)
      clear hs
      generalize strOfNums (M.enc (xs.take k)) = t1 at *
      generalize strOfNums (M.enc1 p) = t2 at *
      go_wp2_with fail
      refine (unhide HR _).mono ?_
      rintro e w2 ⟨rfl, hb2⟩
      have HB := hide (hbw.trans (hb2.mono hbw.size))
      clear hbw hb2 HR
      go_wp2_with fail
      go_roundw
      case rel => exact ⟨k + 1, by omega, by go_num, by rw [← unhide HT], unhide HB⟩
      case measure => simp [intOf]; omega
    · have ek : k = xs.length := by omega
      subst ek
      rw [List.take_length]
      go_wp2_with fail
      go_ret
      exact ⟨rfl, hbw⟩

theorem encRef_any {v : Value} {xs : List Int} (w : World) (hx : Ints w v xs) (h : xs.length ≤ 3000) (ha : xs.all M.sclr = true) :
    Calls Tryz.prog 85 #[v] w fun e w' => e = .returned (.string (strOfNums (M.enc xs))) ∧ Below w.heap.size w w' := by
  obtain ⟨ao, cap, rfl, hm, -, hx⟩ := hx
  by_cases h0 : xs = []
  · subst h0
    refine (encRef_none ao cap w).mono ?_
    rintro e w' ⟨rfl, rfl⟩
    exact ⟨rfl, Below.refl _ _⟩
  · rcases hx with hx | ⟨b, off, rfl, hc⟩
    · exact absurd hx h0
    · exact encRef_some b off cap xs w h0 h ha hc
end Go.Proofs.YtaiinjfnkmidbaaGreatDoor

namespace Go.Proofs.YtaiinjfnkmidbaaGreatDoor
open Go.RowKit
set_option linter.unusedVariables false

theorem convB (w0 : World) (x : Int) (B : Nat) (hB : w0.heap.size = B) :
    (convert 151 9 (.slice (some ⟨B, 0, none⟩) 1 1)).run Tryz.prog (w0.alloc (.cells #[.int .u8 x] 5)) = .ok (.string (strOfNums [x])) (w0.alloc (.cells #[.int .u8 x] 5)) := by
  subst hB
  exact conv_built [x] 1 1 rfl (heap_alloc_new _ _)
/-- What a round of EncodeKana's loop knows. -/
def InR (xs : List Int) (w wr : World) (k : Nat) (t : ByteArray) : Prop := bl t = M.kbody 0 (xs.take k) ∧ Below w.heap.size w wr ∧ (xs.take k).all M.anyK = true
/-- The first signs that have a code point, where those that are now have it not. -/
theorem want_first {now n : Int} (hn : M.Sg now) (ha : M.anyK n = true) (h : M.hasK now n = false) : ∃ x : Nat, M.want now n = x ∧ x < 3 ∧ (∀ j : Nat, j < x → M.hasK (j : Int) n = false) ∧ M.hasK (x : Int) n = true ∧ (x : Int) ≠ now := by
  have hw := M.want_has (now := now) ha
  have hne : M.want now n ≠ now := fun e => by rw [e, h] at hw; cases hw
  unfold M.want at *
  rw [if_neg (by simp [h])] at *
  by_cases h0 : M.hasK 0 n = true
  · rw [if_pos h0] at *
    exact ⟨0, rfl, by omega, fun j hj => by omega, h0, hne⟩
  · rw [if_neg h0] at *
    by_cases h1 : M.hasK 1 n = true
    · rw [if_pos h1] at *
      refine ⟨1, rfl, by omega, fun j hj => ?_, h1, hne⟩
      have : j = 0 := by omega
      subst this; exact Bool.eq_false_iff.2 h0
    · rw [if_neg h1] at *
      refine ⟨2, rfl, by omega, fun j hj => ?_, hw, hne⟩
      obtain rfl | rfl : j = 0 ∨ j = 1 := by omega
      · exact Bool.eq_false_iff.2 h0
      · exact Bool.eq_false_iff.2 h1
theorem esc_cutR {k : Nat} (h : k < 3) : bl ((⟨#[27, 40]⟩ : ByteArray) ++ (⟨#[66, 74, 73]⟩ : ByteArray).extract k (k + 1)) = [27, 40, M.esc (k : Int)] := by
  match k, h with
  | 0, _ => decide
  | 1, _ => decide
  | 2, _ => decide
theorem esc_szR {k : Nat} (h : k < 3) : ((⟨#[27, 40]⟩ : ByteArray) ++ (⟨#[66, 74, 73]⟩ : ByteArray).extract k (k + 1)).size = 3 := by
  match k, h with
  | 0, _ => decide
  | 1, _ => decide
  | 2, _ => decide
theorem nat_sg {x : Nat} (h : x < 3) : M.Sg (x : Int) := by unfold M.Sg; omega

set_option maxHeartbeats 2000000 in
set_option maxRecDepth 100000 in
theorem encodeKana_any (v : Value) (xs : List Int) (w : World) (hI : Ints w v xs) (hlen : xs.length ≤ 30000) :
    Calls Tryz.prog 87 #[v] w fun e w' => e = .returned (wrote xs) ∧ Below w.heap.size w w' := by
  obtain ⟨ao, cap, rfl, -, -, hc⟩ := hI
  have HC := hide hc
  have HI : Hid (InR xs w w 0 ByteArray.empty) := hide ⟨rfl, Below.refl _ _, by simp⟩
  clear hc
  go_enter Tryz.func87, Tryz.ntmps87
  go_wp2_with fail
  go_loopw [4, 5, 6] (fun sv now i wr => ∃ (k : Nat) (t : ByteArray), k ≤ xs.length ∧ i = .int .i64 k ∧ sv = .string t ∧ now = .int .i64 (M.kst 0 (xs.take k)) ∧ InR xs w wr k t) (fun _ _ i _ => xs.length - (intOf i).toNat)
  case atStart => exact ⟨0, ByteArray.empty, by omega, rfl, rfl, rfl, unhide HI⟩
  case round =>
    obtain ⟨k, t, hk, rfl, rfl, rfl, hT, hB, hA⟩ := hrel
    clear HI
    have hnow := M.kst_sg (xs.take k) (now := 0) (.inl rfl)
    have htz : t.size ≤ 120000 := by rw [← bl_len, hT]; have := M.kbody_len (xs.take k) 0; rw [List.length_take] at this; omega
    have HT := hide hT
    have HBR := hide hB
    have HA := hide hA
    obtain ⟨now, HNow⟩ : ∃ now, Hid (M.kst 0 (xs.take k) = now) := ⟨_, hide rfl⟩
    rw [unhide HNow] at hnow
    rw [unhide HNow]
    clear hT hB hA
    by_cases hlt : k < xs.length
    · obtain ⟨b, off, rfl, hc⟩ : ∃ b off, ao = some ⟨b, off, none⟩ ∧ ∀ i, i < xs.length → w.cell? ⟨b, off + i, none⟩ = some (.int .i64 (xs.getD i 0)) := by
        rcases unhide HC with h | h
        · subst h; simp at hlt
        · exact h
      have hcell : wr.cell? ⟨b, off + k, none⟩ = some (.int .i64 (xs.getD k 0)) := ((unhide HBR).cell (p := ⟨b, off + k, none⟩) (World.block_lt_of_cell? w _ (hc k hlt))).trans (hc k hlt)
      have hbr : b < wr.heap.size := World.block_lt_of_cell? wr _ hcell
      obtain ⟨p, HP⟩ : ∃ p, Hid (xs.getD k 0 = p) := ⟨_, hide rfl⟩
      rw [unhide HP] at hcell
      clear hc
      have hhk := fun w => hasKana_any p w
      cases hq : M.anyK p
      · rw [hq] at hhk
        have HW : Hid (wrote xs = .tuple #[.string ByteArray.empty, .bool false]) := hide (by unfold wrote; rw [all_no hlt (unhide HP) hq]; rfl)
        clear hq
        go_wp2_with fail
        refine (hhk _).mono ?_
        rintro e w1 ⟨rfl, hw⟩
        replace hw := hw.symm
        subst hw
        clear hhk
        go_wp2_with fail
        go_ret2
        refine ⟨?_, unhide HBR⟩
        rw [unhide HW]; rfl
      · rw [hq] at hhk
        have HE1 : Hid (xs.take (k + 1) = xs.take k ++ [p]) := hide (take_getD hlt (unhide HP))
        have HK1 : Hid (M.kst 0 (xs.take (k + 1)) = M.want now p) := hide (by rw [unhide HE1, M.kst_snoc, unhide HNow])
        have HA1 : Hid ((xs.take (k + 1)).all M.anyK = true) := hide (by rw [unhide HE1, List.all_append, unhide HA]; simp [hq])
        have HN1 : Hid (M.kbody 0 (xs.take (k + 1)) = M.kbody 0 (xs.take k) ++ M.kpc now p) := hide (by rw [unhide HE1, M.kbody_snoc, unhide HNow])
        have kb := fun w => kanaByte_any now p hnow w
        have hcv := fun c => convB wr c wr.heap.size rfl
        cases hh : M.hasK now p
        · obtain ⟨x, hx1, hx3, hx4, hx5, hx6⟩ := want_first hnow hq hh
          rw [kbv_no hh] at kb
          obtain ⟨y1, y2, y3⟩ := kbv_yes hx5
          rw [hx1] at HK1
          have HP1 : Hid (M.kpc now p = [27, 40, M.esc (x : Int)] ++ [kbv (x : Int) p]) := hide (by unfold M.kpc; rw [hx1, if_neg hx6, y1])
          obtain ⟨c, HCq⟩ : ∃ c, Hid (kbv (x : Int) p = c) := ⟨_, hide rfl⟩
          have kx := fun w => kanaByte_any (x : Int) p (nat_sg hx3) w
          rw [unhide HCq] at y2 y3 HP1 kx
          have HX4 := hide hx4
          have hne : ((x : Int) != now) = true := by simpa using hx6
          have hcvc := hcv c
          have hbt : bl (strOfNums [c]) = [c] := bl_str _ (by intro q hq; simp at hq; omega)
          have hdz : (strOfNums [c]).size = 1 := by rw [strOfNums_size]; rfl
          clear hq hh hx1 hx4 hx5 hx6 y1 hcv
          go_wp2_with fail
          refine (hhk _).mono ?_
          rintro e w1 ⟨rfl, hw⟩
          replace hw := hw.symm
          subst hw
          clear hhk
          go_wp2_with fail
          refine (kb _).mono ?_
          rintro e w1 ⟨rfl, hw⟩
          replace hw := hw.symm
          subst hw
          clear kb
          go_wp2_with fail
          go_loop [7] (fun y => ∃ j : Nat, j ≤ x ∧ y = .int .i64 j) (fun y => 3 - (intOf y).toNat)
          case atStart => exact ⟨0, by omega, rfl⟩
          case round =>
            obtain ⟨j, hj, rfl⟩ := hrel
            by_cases hjx : j < x
            · have kj := fun w => kanaByte_any (j : Int) p (nat_sg (by omega)) w
              rw [kbv_no (unhide HX4 j hjx)] at kj
              go_wp2_with fail
              refine (kj _).mono ?_
              rintro e w1 ⟨rfl, hw⟩
              replace hw := hw.symm
              subst hw
              clear kj
              go_wp2_with fail
              go_round
              case rel => exact ⟨j + 1, by omega, by go_num⟩
              case measure => simp [intOf]; omega
            · obtain rfl : j = x := by omega
              have hz3 : (⟨#[66, 74, 73]⟩ : ByteArray).size = 3 := rfl
              have HT1 : Hid (∀ u, u = strOfNums [c] → bl (t ++ ((⟨#[27, 40]⟩ : ByteArray) ++ (⟨#[66, 74, 73]⟩ : ByteArray).extract j (j + 1)) ++ u) = M.kbody 0 (xs.take (k + 1))) := hide (fun u hu => by
                rw [hu, bl_app, bl_app, hbt, esc_cutR hx3, unhide HT, unhide HN1, unhide HP1, List.append_assoc])
              obtain rfl | rfl | rfl : j = 0 ∨ j = 1 ∨ j = 2 := by omega
              · have HJ : Hid (bl (t ++ ((⟨#[27, 40]⟩ : ByteArray) ++ (⟨#[66, 74, 73]⟩ : ByteArray).extract 0 1) ++ strOfNums [c]) = M.kbody 0 (xs.take (k + 1))) := hide (unhide HT1 _ rfl)
                have hesz : ((⟨#[27, 40]⟩ : ByteArray) ++ (⟨#[66, 74, 73]⟩ : ByteArray).extract 0 1).size = 3 := esc_szR hx3
                have kx' : ∀ w : World, Calls Tryz.prog 141 #[.int .i64 0, .int .i64 p] w fun e w' => e = .returned (.int .i64 c) ∧ w' = w := kx
                have hne' : ((0 : Int) != now) = true := hne
                have HK1' : Hid (M.kst 0 (xs.take (k + 1)) = 0) := HK1
                clear HT1 kx hne HK1 HX4 hbt
                generalize strOfNums [c] = d at *
                go_wp2_with fail
                refine (kx' _).mono ?_
                rintro e w1 ⟨rfl, hw⟩
                replace hw := hw.symm
                subst hw
                go_wp2_with fail
                refine (kx' _).mono ?_
                rintro e w1 ⟨rfl, hw⟩
                replace hw := hw.symm
                subst hw
                go_wp2_with fail
                go_roundw
                case rel => exact ⟨k + 1, _, by omega, by go_num, rfl, by rw [unhide HK1'], unhide HJ, (unhide HBR).alloc (unhide HBR).size _, unhide HA1⟩
                case measure => simp [intOf]; omega
              · have HJ : Hid (bl (t ++ ((⟨#[27, 40]⟩ : ByteArray) ++ (⟨#[66, 74, 73]⟩ : ByteArray).extract 1 2) ++ strOfNums [c]) = M.kbody 0 (xs.take (k + 1))) := hide (unhide HT1 _ rfl)
                have hesz : ((⟨#[27, 40]⟩ : ByteArray) ++ (⟨#[66, 74, 73]⟩ : ByteArray).extract 1 2).size = 3 := esc_szR hx3
                have kx' : ∀ w : World, Calls Tryz.prog 141 #[.int .i64 1, .int .i64 p] w fun e w' => e = .returned (.int .i64 c) ∧ w' = w := kx
                have hne' : ((1 : Int) != now) = true := hne
                have HK1' : Hid (M.kst 0 (xs.take (k + 1)) = 1) := HK1
                clear HT1 kx hne HK1 HX4 hbt
                generalize strOfNums [c] = d at *
                go_wp2_with fail
                refine (kx' _).mono ?_
                rintro e w1 ⟨rfl, hw⟩
                replace hw := hw.symm
                subst hw
                go_wp2_with fail
                refine (kx' _).mono ?_
                rintro e w1 ⟨rfl, hw⟩
                replace hw := hw.symm
                subst hw
                go_wp2_with fail
                go_roundw
                case rel => exact ⟨k + 1, _, by omega, by go_num, rfl, by rw [unhide HK1'], unhide HJ, (unhide HBR).alloc (unhide HBR).size _, unhide HA1⟩
                case measure => simp [intOf]; omega
              · have HJ : Hid (bl (t ++ ((⟨#[27, 40]⟩ : ByteArray) ++ (⟨#[66, 74, 73]⟩ : ByteArray).extract 2 3) ++ strOfNums [c]) = M.kbody 0 (xs.take (k + 1))) := hide (unhide HT1 _ rfl)
                have hesz : ((⟨#[27, 40]⟩ : ByteArray) ++ (⟨#[66, 74, 73]⟩ : ByteArray).extract 2 3).size = 3 := esc_szR hx3
                have kx' : ∀ w : World, Calls Tryz.prog 141 #[.int .i64 2, .int .i64 p] w fun e w' => e = .returned (.int .i64 c) ∧ w' = w := kx
                have hne' : ((2 : Int) != now) = true := hne
                have HK1' : Hid (M.kst 0 (xs.take (k + 1)) = 2) := HK1
                clear HT1 kx hne HK1 HX4 hbt
                generalize strOfNums [c] = d at *
                go_wp2_with fail
                refine (kx' _).mono ?_
                rintro e w1 ⟨rfl, hw⟩
                replace hw := hw.symm
                subst hw
                go_wp2_with fail
                refine (kx' _).mono ?_
                rintro e w1 ⟨rfl, hw⟩
                replace hw := hw.symm
                subst hw
                go_wp2_with fail
                go_roundw
                case rel => exact ⟨k + 1, _, by omega, by go_num, rfl, by rw [unhide HK1'], unhide HJ, (unhide HBR).alloc (unhide HBR).size _, unhide HA1⟩
                case measure => simp [intOf]; omega
        · rw [(kbv_yes hh).1] at kb
          obtain ⟨y1, y2, y3⟩ := kbv_yes hh
          have hwn : M.want now p = now := by unfold M.want; rw [if_pos hh]
          rw [hwn] at HK1
          have HP1 : Hid (M.kpc now p = [M.kby now p]) := hide (by unfold M.kpc; rw [hwn, if_pos rfl]; rfl)
          obtain ⟨c, HCq⟩ : ∃ c, Hid (M.kby now p = c) := ⟨_, hide rfl⟩
          rw [y1] at y2 y3
          rw [unhide HCq] at y2 y3 HP1 kb
          have hcvc := hcv c
          have hbt : bl (strOfNums [c]) = [c] := bl_str _ (by intro q hq; simp at hq; omega)
          have hdz : (strOfNums [c]).size = 1 := by rw [strOfNums_size]; rfl
          have HJ : Hid (bl (t ++ strOfNums [c]) = M.kbody 0 (xs.take (k + 1))) := hide (by rw [bl_app, hbt, unhide HT, unhide HN1, unhide HP1])
          clear hq hh y1 hcv hwn hbt
          generalize strOfNums [c] = d at *
          go_wp2_with fail
          refine (hhk _).mono ?_
          rintro e w1 ⟨rfl, hw⟩
          replace hw := hw.symm
          subst hw
          clear hhk
          go_wp2_with fail
          refine (kb _).mono ?_
          rintro e w1 ⟨rfl, hw⟩
          replace hw := hw.symm
          subst hw
          go_wp2_with fail
          refine (kb _).mono ?_
          rintro e w1 ⟨rfl, hw⟩
          replace hw := hw.symm
          subst hw
          clear kb
          go_wp2_with fail
          go_roundw
          case rel => exact ⟨k + 1, _, by omega, by go_num, rfl, by rw [unhide HK1], unhide HJ, (unhide HBR).alloc (unhide HBR).size _, unhide HA1⟩
          case measure => simp [intOf]; omega
    · have et : xs.take k = xs := List.take_of_length_le (by omega)
      rw [et] at HNow HT HA
      have HW : Hid (wrote xs = .tuple #[.string (strOfNums (bl t ++ M.ktail now)), .bool true]) := hide (by unfold wrote; rw [unhide HA, if_pos rfl]; unfold M.kenc; rw [unhide HNow, unhide HT])
      by_cases hn0 : now = 0
      · subst hn0
        have HW2 : Hid (wrote xs = .tuple #[.string t, .bool true]) := hide (by rw [unhide HW, show M.ktail 0 = [] from rfl, List.append_nil, str_bl])
        clear HW
        go_wp2_with fail
        go_ret2
        refine ⟨?_, unhide HBR⟩
        rw [unhide HW2]; rfl
      · have hne : (now != 0) = true := by simpa using hn0
        have HW2 : Hid (wrote xs = .tuple #[.string (t ++ ⟨#[27, 40, 66]⟩), .bool true]) := hide (by
          rw [unhide HW, show M.ktail now = bl ⟨#[27, 40, 66]⟩ from by unfold M.ktail; rw [if_neg hn0]; rfl, ← bl_app, str_bl])
        clear HW
        go_wp2_with fail
        go_ret2
        refine ⟨?_, unhide HBR⟩
        rw [unhide HW2]; rfl
end Go.Proofs.YtaiinjfnkmidbaaGreatDoor

namespace Go.Proofs.YtaiinjfnkmidbaaGreatDoor
open Go.RowKit Go.Maps
set_option linter.unusedVariables false

/-- What ByteOf answers. -/
def bOf (user : Bool) (n : Int) : Int := if M.hasB user n then M.bof user n else -1
theorem bOf_yes {user : Bool} {n : Int} (h : M.hasB user n = true) : bOf user n = M.bof user n := by unfold bOf; rw [if_pos h]
theorem bOf_no {user : Bool} {n : Int} (h : M.hasB user n = false) : bOf user n = -1 := by unfold bOf; rw [if_neg (by simp [h])]

set_option maxHeartbeats 400000 in
set_option maxRecDepth 100000 in
theorem byteRef_any (user : Bool) (n : Int) (w : World) : Calls Tryz.prog 138 #[.bool user, .int .i64 n] w fun e w' => e = .returned (.int .i64 (bOf user n)) ∧ Below w.heap.size w w' := by
  go_enter Tryz.func138, Tryz.ntmps138
  go_wp2_with fail
  go_loopw [5] (fun i wr => ∃ k : Nat, k ≤ 256 ∧ i = .int .i64 k ∧ Hid (∀ j : Nat, j < k → M.pt user (j : Int) ≠ n) ∧ Hid (Below w.heap.size w wr)) (fun i _ => 256 - (intOf i).toNat)
  case atStart => exact ⟨0, by omega, rfl, hide (fun j hj => by omega), hide (Below.refl _ _)⟩
  case round =>
    obtain ⟨k, hk, rfl, HN, HB⟩ := hrel
    by_cases hlt : k < 256
    · have HR := hide (fun w => pointRef_any user k w hlt)
      obtain ⟨p, HP⟩ : ∃ p, Hid (M.pt user (k : Int) = p) := ⟨_, rfl⟩
      rw [unhide HP] at HR
      by_cases he : p = n
      · have heq : (p == n) = true := by simp [he]
        have HE : Hid (bOf user n = (k : Int)) := by
          refine hide ?_
          rw [← he, ← unhide HP, bOf_yes (M.hasB_pt user hlt), M.bof_pt user hlt]
        clear he
        go_wp2_with fail
        refine (unhide HR _).mono ?_
        rintro e w1 ⟨rfl, hb1⟩
        go_wp2_with fail
        go_ret
        exact ⟨ret_int (unhide HE).symm, bstep (unhide HB) hb1⟩
      · have heq : (p == n) = false := by simp [he]
        have HN' : Hid (∀ j : Nat, j < k + 1 → M.pt user (j : Int) ≠ n) := by
          refine hide fun j hj => ?_
          by_cases e : j = k
          · subst e; rw [unhide HP]; exact he
          · exact unhide HN j (by omega)
        clear he
        go_wp2_with fail
        refine (unhide HR _).mono ?_
        rintro e w1 ⟨rfl, hb1⟩
        have HB' := hide (bstep (unhide HB) hb1)
        clear hb1
        go_wp2_with fail
        go_roundw
        case rel => exact ⟨k + 1, by omega, by go_num, HN', HB'⟩
        case measure => simp [intOf]; omega
    · have HE : Hid (bOf user n = -1) := hide (bOf_no (M.hasB_no user n (fun j hj => unhide HN j (by omega))))
      go_wp2_with fail
      go_ret
      exact ⟨ret_int (unhide HE).symm, unhide HB⟩

/-- What EncodeSingle answers. -/
def refResS (user : Bool) (xs : List Int) : Value := if xs.all (M.hasB user) then .tuple #[.string (strOfNums (M.encS user xs)), .bool true] else .tuple #[.string ⟨#[]⟩, .bool false]
theorem refResS_yes {user : Bool} {xs : List Int} (h : xs.all (M.hasB user) = true) : refResS user xs = .tuple #[.string (strOfNums (M.encS user xs)), .bool true] := by unfold refResS; rw [if_pos h]
theorem refResS_no {user : Bool} {xs : List Int} (h : xs.all (M.hasB user) = false) : refResS user xs = .tuple #[.string ⟨#[]⟩, .bool false] := by unfold refResS; rw [if_neg (by simp [h])]

set_option maxHeartbeats 400000 in
set_option maxRecDepth 100000 in
theorem encRefS_any (user : Bool) {v : Value} {xs : List Int} (w : World) (hx : Ints w v xs) (h : xs.length ≤ 30000) :
    Calls Tryz.prog 86 #[.bool user, v] w fun e w' => e = .returned (refResS user xs) ∧ Below w.heap.size w w' := by
  obtain ⟨ao, cap, rfl, hm, -, hc⟩ := id hx
  obtain ⟨i0, hi, hz0, hz1, hz2⟩ := info_parts info5
  clear hx
  have HC := hide hc
  clear hc
  have HI : Hid (InTS user xs w w 0 (.slice none 0 0)) := hide ⟨World.ownsRow_nil _ _ _ _, Below.refl _ _, by simp⟩
  go_enter Tryz.func86, Tryz.ntmps86
  go_wp2_with fail
  go_loopw [6, 7] (fun v i wr => ∃ k : Nat, k ≤ xs.length ∧ i = .int .i64 k ∧ InTS user xs w wr k v) (fun _ i _ => xs.length - (intOf i).toNat)
  case atStart => exact ⟨0, by omega, rfl, unhide HI⟩
  case round =>
    obtain ⟨k, hk, rfl, hI⟩ := hrel
    clear HI
    have hz := hI.2.1.size
    have hl : Hid ((M.encS user (xs.take k)).length = k) := hide (by rw [M.encS_len, List.length_take]; omega)
    by_cases hlt : k < xs.length
    · obtain ⟨b, off, rfl, hc⟩ : ∃ b off, ao = some ⟨b, off, none⟩ ∧ ∀ i, i < xs.length → w.cell? ⟨b, off + i, none⟩ = some (.int .i64 (xs.getD i 0)) := by
        rcases unhide HC with h | h
        · subst h; simp at hlt
        · exact h
      have hcell : wr.cell? ⟨b, off + k, none⟩ = some (.int .i64 (xs.getD k 0)) := (hI.2.1.cell (p := ⟨b, off + k, none⟩) (World.block_lt_of_cell? w _ (hc k hlt))).trans (hc k hlt)
      have hbr : b < wr.heap.size := World.block_lt_of_cell? wr _ hcell
      obtain ⟨p, HP⟩ : ∃ p, Hid (xs.getD k 0 = p) := ⟨_, rfl⟩
      rw [unhide HP] at hcell
      obtain ⟨q, HQ⟩ : ∃ q, Hid (M.hasB user p = q) := ⟨_, rfl⟩
      obtain ⟨ao2, cap2, hsh⟩ := owns_shape hI.1
      subst hsh
      clear hc
      have HR := hide (fun w => byteRef_any user p w)
      cases q
      · rw [bOf_no (unhide HQ)] at HR
        go_wp2_with fail
        refine (unhide HR _).mono ?_
        rintro e w1 ⟨rfl, hb1⟩
        go_wp2_with fail
        go_ret2
        refine ⟨?_, bstep hI.2.1 hb1⟩
        have : xs.all (M.hasB user) = false := by
          rw [List.all_eq_false]
          refine ⟨xs.getD k 0, by simp [hlt], by rw [unhide HP, unhide HQ]; simp⟩
        rw [refResS_no this]; rfl
      · have hbd := M.bof_bd user (unhide HQ)
        rw [bOf_yes (unhide HQ)] at HR
        obtain ⟨B, HB⟩ : ∃ B, Hid (M.bof user p = B) := ⟨_, rfl⟩
        rw [unhide HB] at hbd HR
        go_wp2_with fail
        refine (unhide HR _).mono ?_
        rintro e w1 ⟨rfl, hb1⟩
        have hzz := hb1.size
        have hI' := owns_below hI.1 hb1
        go_wp2_with (at_builtin; refine wpList_append_own _ rfl (.tmp 23) (.tmp 26) 151 rfl w.heap.size 5 i0 (.int .u8 0) 1 1 Tryz.underlying151 hi hz0 hz1 hz2 rfl (by decide) _ _ _ rfl (hI'.alloc _) ⟨w1.heap.size, 0, none⟩ 1 1 [.int .u8 B] rfl rfl ?c1 ?c2 ?c3 ?c4 ?c5 ?_)
        case c1 =>
          intro j u hj
          match j, hj with
          | 0, hj => simp at hj; subst hj; simp [Addr.add]
        case c2 => intro u hu; simp at hu; subst hu; rfl
        case c3 => have := unhide hl; unfold maxLen; omega
        case c4 => have := unhide hl; omega
        case c5 => simp; omega
        intro v' w2 hown' hgrow _
        obtain ⟨ao', cap', rfl⟩ := owns_shape hown'
        have HJ : Hid (InTS user xs w w2 (k + 1) (.slice ao' ((M.encS user (xs.take k)).length + 1) cap')) := hide (hI.step hlt (unhide HP) (unhide HQ) (unhide HB) (by simpa using hown') ((hb1.mono hz).trans (((Below.refl _ _).alloc (by omega) _).grown hgrow (by simp; omega) (fun j hj => by have := hI'.lt j hj; omega))))
        clear hI hI' hown' hgrow hb1
        go_wp2_with fail
        go_roundw
        case rel => exact ⟨k + 1, by omega, by go_num, by simpa using unhide HJ⟩
        case measure => simp [intOf]; omega
    · have hcv := conv_owned hI.1
      obtain ⟨o1, o2, o3⟩ := hI
      have hb := hide o2
      have et : xs.take k = xs := List.take_of_length_le (by omega)
      rw [et] at hcv o1 o3
      obtain ⟨ao2, cap2, hsh⟩ := owns_shape o1
      subst hsh
      have HA := hide o3
      clear o1 o2 o3 et hl
      go_wp2_with fail
      go_ret2
      refine ⟨?_, unhide hb⟩
      rw [refResS_yes (unhide HA)]; rfl
end Go.Proofs.YtaiinjfnkmidbaaGreatDoor

namespace Go.Proofs.YtaiinjfnkmidbaaGreatDoor
open Go.RowKit
set_option linter.unusedVariables false

set_option maxHeartbeats 400000 in
set_option maxRecDepth 100000 in
theorem isEncodingF_any (n : Int) (w : World) : Calls Tryz.prog 82 #[.int .i64 n] w fun e w' => e = .returned (.bool (decide (1 ≤ n ∧ n ≤ 7))) ∧ w' = w := by
  rw [Bool.decide_and]
  go_enter Tryz.func82, Tryz.ntmps82
  go_wp2_with (go_at_call 51; refine (between_any _ _ _ _).mono ?_; rintro e w1 ⟨rfl, hw⟩; replace hw := hw.symm; subst hw)
  go_ret
  exact ⟨rfl, rfl⟩

theorem bOf_pos (user : Bool) (n : Int) : decide (0 ≤ bOf user n) = M.hasB user n := by
  cases h : M.hasB user n
  · rw [bOf_no h]; rfl
  · rw [bOf_yes h]; simp; exact (M.bof_bd user h).1
set_option maxHeartbeats 800000 in
set_option maxRecDepth 100000 in
theorem hasOf_any (n p : Int) (w : World) (hn : 1 ≤ n ∧ n ≤ 7) : Calls Tryz.prog 83 #[.int .i64 n, .int .i64 p] w fun e w' => e = .returned (.bool (M.hasE n p)) ∧ Below w.heap.size w w' := by
  have B0 := hide (fun w => byteRef_any false p w)
  have B1 := hide (fun w => byteRef_any true p w)
  have D0 := hide (bOf_pos false p)
  have D1 := hide (bOf_pos true p)
  have K := hide (fun w => hasKana_any p w)
  generalize bOf false p = b0 at *
  generalize bOf true p = b1 at *
  rcases (show n = 1 ∨ n = 2 ∨ n = 3 ∨ n = 7 ∨ n = 4 ∨ n = 5 ∨ n = 6 from by omega) with rfl | rfl | rfl | rfl | rfl | rfl | rfl
  · go_enter Tryz.func83, Tryz.ntmps83
    go_wp2_with fail
    go_ret
    exact ⟨rfl, Below.refl _ _⟩
  · go_enter Tryz.func83, Tryz.ntmps83
    go_wp2_with fail
    go_ret
    exact ⟨rfl, Below.refl _ _⟩
  · go_enter Tryz.func83, Tryz.ntmps83
    go_wp2_with fail
    go_ret
    exact ⟨rfl, Below.refl _ _⟩
  · go_enter Tryz.func83, Tryz.ntmps83
    go_wp2_with fail
    go_ret
    exact ⟨rfl, Below.refl _ _⟩
  · rw [M.hasE_four, ← unhide D0]
    go_enter Tryz.func83, Tryz.ntmps83
    go_wp2_with fail
    refine (unhide B0 _).mono ?_
    rintro e w1 ⟨rfl, hb⟩
    have HB := hide hb
    clear hb
    go_wp2_with fail
    go_ret
    exact ⟨rfl, unhide HB⟩
  · rw [M.hasE_five, ← unhide D1]
    go_enter Tryz.func83, Tryz.ntmps83
    go_wp2_with fail
    refine (unhide B1 _).mono ?_
    rintro e w1 ⟨rfl, hb⟩
    have HB := hide hb
    clear hb
    go_wp2_with fail
    go_ret
    exact ⟨rfl, unhide HB⟩
  · rw [M.hasE_six]
    go_enter Tryz.func83, Tryz.ntmps83
    go_wp2_with fail
    refine (unhide K _).mono ?_
    rintro e w1 ⟨rfl, hw⟩
    replace hw := hw.symm
    subst hw
    go_wp2_with fail
    go_ret
    exact ⟨rfl, Below.refl _ _⟩

set_option maxHeartbeats 400000 in
set_option maxRecDepth 100000 in
theorem encOf_kind (n mode : Int) (ao : Option Addr) (len cap : Nat) (w : World) (hn : ¬ (1 ≤ n ∧ n ≤ 7)) : Calls Tryz.prog 35 #[.int .i64 n, .int .i64 mode, .slice ao len cap] w fun e w' => e = .returned (.tuple #[.string ⟨#[]⟩, .int .i64 6]) ∧ w' = w := by
  have I := hide (fun w => isEncodingF_any n w)
  rw [show decide (1 ≤ n ∧ n ≤ 7) = false from decide_eq_false hn] at I
  clear hn
  go_enter Tryz.func35, Tryz.ntmps35
  go_wp2_with fail
  refine (unhide I _).mono ?_
  rintro e w1 ⟨rfl, hw⟩
  replace hw := hw.symm
  subst hw
  go_wp2_with fail
  go_ret2
  exact ⟨rfl, rfl⟩
/-- What a round of EncodeOf's loop knows. -/
def InG (L : List Int) (w wr : World) (v : Value) : Prop := wr.ownsRow w.heap.size 3 1 v L.length (L.map (Value.int .i64)) ∧ Below w.heap.size w wr

set_option maxHeartbeats 3200000 in
set_option maxRecDepth 100000 in
theorem encOf_1 (n : Int) {v : Value} {xs : List Int} (w : World) (hn : 1 ≤ n ∧ n ≤ 7) (hI : Ints w v xs) (hlen : xs.length ≤ 3000) (hs : xs.all M.sclr = true) : Calls Tryz.prog 35 #[.int .i64 n, .int .i64 1, v] w fun e w' => e = .returned (resW n 1 xs) ∧ Below w.heap.size w w' := by
  have I := hide (fun w => isEncodingF_any n w)
  rw [show decide (1 ≤ n ∧ n ≤ 7) = true from decide_eq_true hn] at I
  have C := hide (pcheck_any w hI hlen)
  rw [chkRes_yes hs] at C
  obtain ⟨ao, cap, rfl, -, -, hc⟩ := hI
  have HC := hide hc
  have HS := hide hs
  have HN := hide hn
  have HI : Hid (InG (M.ptsE n (xs.take 0)) w w (.slice none 0 0)) := hide ⟨World.ownsRow_nil _ _ _ _, Below.refl _ _⟩
  clear hn hs hc
  go_enter Tryz.func35, Tryz.ntmps35
  go_wp2_with fail
  refine (unhide I _).mono ?_
  rintro e w1 ⟨rfl, hw⟩
  replace hw := hw.symm
  subst hw
  clear I
  go_wp2_with fail
  refine (unhide C).mono ?_
  rintro e w1 ⟨rfl, hw⟩
  replace hw := hw.symm
  subst hw
  clear C
  go_wp2_with fail
  go_loopw [9, 10] (fun v i wr => ∃ k : Nat, k ≤ xs.length ∧ i = .int .i64 k ∧ InG (M.ptsE n (xs.take k)) w wr v) (fun _ i _ => xs.length - (intOf i).toNat)
  case atStart => exact ⟨0, by omega, rfl, by simpa using unhide HI⟩
  case round =>
    obtain ⟨k, hk, rfl, hI⟩ := hrel
    clear HI
    have hz := hI.2.size
    have HO := hide hI.1
    have HB := hide hI.2
    have HLn : Hid ((M.ptsE n (xs.take k)).length ≤ 30000) := hide (pts_few (all_take (unhide HS) k) (by rw [List.length_take]; omega))
    clear hI
    by_cases hlt : k < xs.length
    · obtain ⟨b, off, rfl, hc⟩ : ∃ b off, ao = some ⟨b, off, none⟩ ∧ ∀ i, i < xs.length → w.cell? ⟨b, off + i, none⟩ = some (.int .i64 (xs.getD i 0)) := by
        rcases unhide HC with h | h
        · subst h; simp at hlt
        · exact h
      have hcell : wr.cell? ⟨b, off + k, none⟩ = some (.int .i64 (xs.getD k 0)) := ((unhide HB).cell (p := ⟨b, off + k, none⟩) (World.block_lt_of_cell? w _ (hc k hlt))).trans (hc k hlt)
      have hbr : b < wr.heap.size := World.block_lt_of_cell? wr _ hcell
      have HSp : Hid (M.sclr (xs.getD k 0) = true) := hide (sclr_all (unhide HS) _ (by simp [hlt]))
      obtain ⟨p, HP⟩ : ∃ p, Hid (xs.getD k 0 = p) := ⟨_, hide rfl⟩
      rw [unhide HP] at hcell HSp
      clear hc
      have HT := hide (take_getD hlt (unhide HP))
      have HH := hide (fun w => hasOf_any n p w (unhide HN))
      cases hq : M.hasE n p
      · have HL1 : Hid (M.ptsE n (xs.take (k + 1)) = M.ptsE n (xs.take k) ++ M.tld p) := hide (by rw [unhide HT, M.ptsE_snoc, M.ptE_no hq])
        have HD := hide (fun w => digits_pt (unhide HSp) w)
        have HBy : Hid (bl ((⟨#[38, 35]⟩ : ByteArray) ++ strOfNums (M.digs p.toNat) ++ (⟨#[59]⟩ : ByteArray)) = M.tld p) := hide (by
          rw [bl_app, bl_app, bl_str _ (fun x hx => by have := M.digs_bd _ x hx; omega)]
          unfold M.tld
          rw [show bl ⟨#[38, 35]⟩ = [38, 35] from by decide, show bl ⟨#[59]⟩ = [59] from by decide])
        have hdz : (strOfNums (M.digs p.toNat)).size ≤ 7 := by rw [strOfNums_size]; exact M.digs_seven (unhide HSp)
        rw [hq] at HH
        clear hq
        generalize M.ptsE n (xs.take k) = L at *
        generalize strOfNums (M.digs p.toNat) = d at *
        have hln := unhide HLn
        obtain ⟨av, capv, hsh⟩ := owns_shape (unhide HO)
        subst hsh
        go_wp2_with fail
        refine (unhide HH _).mono ?_
        rintro e w1 ⟨rfl, hb1⟩
        have hz1 := hb1.size
        have HB1 := hide hb1
        have HO1 := hide (owns_below (unhide HO) hb1)
        have hcell1 : w1.cell? ⟨b, off + k, none⟩ = some (.int .i64 p) := (hb1.cell (p := ⟨b, off + k, none⟩) hbr).trans hcell
        have hbr1 : b < w1.heap.size := by omega
        clear hb1 HH
        go_wp2_with fail
        refine (unhide HD _).mono ?_
        rintro e w2 ⟨rfl, hb2⟩
        have hz2 := hb2.size
        have HB2 := hide (bstep (unhide HB1) hb2)
        have HO2 := hide (owns_below (unhide HO1) hb2)
        clear hb2 HD HB1 HO1 hcell1 hbr1
        have z2 : (⟨#[38, 35]⟩ : ByteArray).size = 2 := rfl
        have z1 : (⟨#[59]⟩ : ByteArray).size = 1 := rfl
        go_wp2_with fail
        have hsz : ((⟨#[38, 35]⟩ : ByteArray) ++ d ++ (⟨#[59]⟩ : ByteArray)).size ≤ 10 := by rw [ByteArray.size_append, ByteArray.size_append, z1, z2]; omega
        clear z1 z2
        generalize ((⟨#[38, 35]⟩ : ByteArray) ++ d ++ (⟨#[59]⟩ : ByteArray)) = s at *
        have HI2 : Hid (InG (L ++ (bl s).take 0) w w2 (.slice av L.length capv)) := hide ⟨by simpa using unhide HO2, bstep (unhide HB) (unhide HB2)⟩
        clear HO2 HB2
        go_loopw [9, 12] (fun v i wq => ∃ j : Nat, j ≤ s.size ∧ i = .int .i64 j ∧ InG (L ++ (bl s).take j) w wq v) (fun _ i _ => s.size - (intOf i).toNat)
        case atStart => exact ⟨0, by omega, rfl, unhide HI2⟩
        case round =>
          obtain ⟨j, hj, rfl, hI2⟩ := hrel
          clear HI2
          have hzj := hI2.2.size
          have HOj := hide hI2.1
          have HBj := hide hI2.2
          clear hI2
          by_cases hjl : j < s.size
          · have HTj : Hid ((bl s).take (j + 1) = (bl s).take j ++ [(bl s).getD j 0]) := hide (take_snoc _ j (by rw [bl_len]; exact hjl))
            have hgc : (bl s).getD j 0 = (s[j].toNat : Int) := by rw [List.getD_eq_getElem?_getD, bl_get s j hjl]; rfl
            have hbd : s[j].toNat < 256 := by have := s[j].toNat_lt; omega
            rw [hgc] at HTj
            have HL2 : Hid ((L ++ (bl s).take j).length ≤ 30010) := hide (by rw [List.length_append, List.length_take]; omega)
            obtain ⟨c, hcc⟩ : ∃ c : Int, (s[j].toNat : Int) = c := ⟨_, rfl⟩
            rw [hcc] at HTj
            have hc0 : 0 ≤ c := by omega
            have hc1 : c ≤ 255 := by omega
            have HN2 : Hid (L ++ (bl s).take (j + 1) = (L ++ (bl s).take j) ++ [c]) := hide (by rw [unhide HTj, List.append_assoc])
            clear hgc hbd
            generalize L ++ (bl s).take j = L2 at *
            have hln2 := unhide HL2
            obtain ⟨av2, capv2, hsh2⟩ := owns_shape (unhide HOj)
            subst hsh2
            go_wp2_with (at_builtin; refine append_ints rfl (.tmp 65) (.tmp 70) rfl w.heap.size _ L2 rfl (owns_a (unhide HOj) _) _ [c] rfl (one_int _ _) (by simp; omega) (by simp; omega) ?_)
            intro v3 w3 ho3 hb3
            obtain ⟨ao3, cap3, hsh3⟩ := owns_shape ho3
            subst hsh3
            have HJ : Hid (InG (L ++ (bl s).take (j + 1)) w w3 (.slice ao3 (L2 ++ [c]).length cap3)) := hide ⟨by rw [unhide HN2]; simpa using ho3, (unhide HBj).trans (((Below.refl _ _).alloc (by omega) _).trans hb3)⟩
            clear ho3 hb3
            go_wp2_with fail
            go_roundw
            case rel => exact ⟨j + 1, by omega, by go_num, by simpa using unhide HJ⟩
            case measure => simp [intOf]; omega
          · have HE : Hid (L ++ (bl s).take j = M.ptsE n (xs.take (k + 1))) := hide (by rw [unhide HL1, List.take_of_length_le (by rw [bl_len]; omega), unhide HBy])
            rw [unhide HE] at HOj
            go_wp2_with fail
            go_roundw
            case rel => exact ⟨k + 1, by omega, by go_num, unhide HOj, unhide HBj⟩
            case measure => simp [intOf]; omega
      · have HL1 : Hid (M.ptsE n (xs.take (k + 1)) = M.ptsE n (xs.take k) ++ [p]) := hide (by rw [unhide HT, M.ptsE_snoc, M.ptE_yes hq])
        rw [hq] at HH
        clear hq
        generalize M.ptsE n (xs.take k) = L at *
        have hln := unhide HLn
        obtain ⟨av, capv, hsh⟩ := owns_shape (unhide HO)
        subst hsh
        go_wp2_with fail
        refine (unhide HH _).mono ?_
        rintro e w1 ⟨rfl, hb1⟩
        have hz1 := hb1.size
        have HB1 := hide hb1
        have HO1 := hide (owns_below (unhide HO) hb1)
        have hcell1 : w1.cell? ⟨b, off + k, none⟩ = some (.int .i64 p) := (hb1.cell (p := ⟨b, off + k, none⟩) hbr).trans hcell
        have hbr1 : b < w1.heap.size := by omega
        clear hb1 HH
        go_wp2_with (at_builtin; refine append_ints rfl (.tmp 45) (.tmp 50) rfl w.heap.size _ L rfl (owns_a (unhide HO1) _) _ [p] rfl (one_int _ _) (by simp; omega) (by simp; omega) ?_)
        intro v2 w2 ho2 hb2
        obtain ⟨ao2, cap2, hsh2⟩ := owns_shape ho2
        subst hsh2
        have HJ : Hid (InG (M.ptsE n (xs.take (k + 1))) w w2 (.slice ao2 (L ++ [p]).length cap2)) := hide ⟨by rw [unhide HL1]; simpa using ho2, (bstep (unhide HB) (unhide HB1)).trans (((Below.refl _ _).alloc (by omega) _).trans hb2)⟩
        clear ho2 hb2
        go_wp2_with fail
        go_roundw
        case rel => exact ⟨k + 1, by omega, by go_num, by simpa using unhide HJ⟩
        case measure => simp [intOf]; omega
    · have et : xs.take k = xs := List.take_of_length_le (by omega)
      rw [et] at HO
      clear et HLn
      rcases (show (n = 1 ∨ n = 2 ∨ n = 3 ∨ n = 7) ∨ n = 4 ∨ n = 5 ∨ n = 6 from by have := unhide HN; omega) with hu | rfl | rfl | rfl
      · have ho : M.outE n = 1 := by unfold M.outE; split <;> omega
        have HR : Hid (resW n 1 xs = .tuple #[.string (strOfNums (M.enc xs)), .int .i64 0]) := hide (by rw [resW_yes (.inr (List.all_eq_true.2 fun x _ => M.hasE_one ho x)), M.ptsE_one ho, ← M.encB_out, ho, M.encB_1])
        have OO := hide (fun w => outputOf_any n w)
        rw [ho] at OO
        rw [M.ptsE_one ho] at HO
        have HI := hide (Ints.of_owns (unhide HO))
        have HE := hide (encRef_any wr (unhide HI) hlen (unhide HS))
        generalize strOfNums (M.enc xs) = es at *
        obtain ⟨av, capv, hsh⟩ := owns_shape (unhide HO)
        subst hsh
        clear hu ho
        go_wp2_with fail
        refine (unhide OO _).mono ?_
        rintro e w5 ⟨rfl, hw⟩
        replace hw := hw.symm
        subst hw
        go_wp2_with fail
        refine (unhide HE).mono ?_
        rintro e w6 ⟨rfl, hb6⟩
        have HB6 := hide (bstep (unhide HB) hb6)
        clear hb6
        go_wp2_with fail
        go_ret2
        refine ⟨?_, unhide HB6⟩
        rw [unhide HR]; rfl
      · have HAl : Hid ((M.ptsE 4 xs).all (M.hasB false) = true) := hide (M.ptsE_has 4 xs)
        have HR : Hid (resW 4 1 xs = .tuple #[.string (strOfNums (M.encS false (M.ptsE 4 xs))), .int .i64 0]) := hide (resW_yes (.inl rfl))
        have OO := hide (fun w => outputOf_any 4 w)
        rw [show M.outE 4 = 4 from rfl] at OO
        have HI := hide (Ints.of_owns (unhide HO))
        have HE := hide (encRefS_any false wr (unhide HI) (pts_few (unhide HS) hlen))
        rw [refResS_yes (unhide HAl)] at HE
        generalize strOfNums (M.encS false (M.ptsE 4 xs)) = es at *
        obtain ⟨av, capv, hsh⟩ := owns_shape (unhide HO)
        subst hsh
        go_wp2_with fail
        refine (unhide OO _).mono ?_
        rintro e w5 ⟨rfl, hw⟩
        replace hw := hw.symm
        subst hw
        go_wp2_with fail
        refine (unhide HE).mono ?_
        rintro e w6 ⟨rfl, hb6⟩
        have HB6 := hide (bstep (unhide HB) hb6)
        clear hb6
        go_wp2_with fail
        go_ret2
        refine ⟨?_, unhide HB6⟩
        rw [unhide HR]; rfl
      · have HAl : Hid ((M.ptsE 5 xs).all (M.hasB true) = true) := hide (M.ptsE_has 5 xs)
        have HR : Hid (resW 5 1 xs = .tuple #[.string (strOfNums (M.encS true (M.ptsE 5 xs))), .int .i64 0]) := hide (resW_yes (.inl rfl))
        have OO := hide (fun w => outputOf_any 5 w)
        rw [show M.outE 5 = 5 from rfl] at OO
        have HI := hide (Ints.of_owns (unhide HO))
        have HE := hide (encRefS_any true wr (unhide HI) (pts_few (unhide HS) hlen))
        rw [refResS_yes (unhide HAl)] at HE
        generalize strOfNums (M.encS true (M.ptsE 5 xs)) = es at *
        obtain ⟨av, capv, hsh⟩ := owns_shape (unhide HO)
        subst hsh
        go_wp2_with fail
        refine (unhide OO _).mono ?_
        rintro e w5 ⟨rfl, hw⟩
        replace hw := hw.symm
        subst hw
        go_wp2_with fail
        refine (unhide HE).mono ?_
        rintro e w6 ⟨rfl, hb6⟩
        have HB6 := hide (bstep (unhide HB) hb6)
        clear hb6
        go_wp2_with fail
        go_ret2
        refine ⟨?_, unhide HB6⟩
        rw [unhide HR]; rfl
      · have HAl : Hid ((M.ptsE 6 xs).all (M.anyK) = true) := hide (M.ptsE_has 6 xs)
        have HR : Hid (resW 6 1 xs = .tuple #[.string (strOfNums (M.kenc (M.ptsE 6 xs))), .int .i64 0]) := hide (resW_yes (.inl rfl))
        have OO := hide (fun w => outputOf_any 6 w)
        rw [show M.outE 6 = 6 from rfl] at OO
        have HI := hide (Ints.of_owns (unhide HO))
        have HE := hide (encodeKana_any _ _ wr (unhide HI) (pts_few (unhide HS) hlen))
        rw [wrote_yes (unhide HAl)] at HE
        generalize strOfNums (M.kenc (M.ptsE 6 xs)) = es at *
        obtain ⟨av, capv, hsh⟩ := owns_shape (unhide HO)
        subst hsh
        go_wp2_with fail
        refine (unhide OO _).mono ?_
        rintro e w5 ⟨rfl, hw⟩
        replace hw := hw.symm
        subst hw
        go_wp2_with fail
        refine (unhide HE).mono ?_
        rintro e w6 ⟨rfl, hb6⟩
        have HB6 := hide (bstep (unhide HB) hb6)
        clear hb6
        go_wp2_with fail
        go_ret2
        refine ⟨?_, unhide HB6⟩
        rw [unhide HR]; rfl
end Go.Proofs.YtaiinjfnkmidbaaGreatDoor

namespace Go.Proofs.YtaiinjfnkmidbaaGreatDoor
open Go.RowKit
set_option linter.unusedVariables false

set_option maxHeartbeats 800000 in
set_option maxRecDepth 100000 in
theorem isEnough_any (name s : ByteArray) (w : World) (hn : name.size ≤ 3000) (hs : s.size ≤ maxLen) :
    Calls Tryz.prog 52 #[.string name, .string s] w fun e w' => e = .returned (.bool (enF name (bl s))) ∧ Below w.heap.size w w' := by
  have HS := hide (fun w => sniffOf_any s w hs)
  have HF := hide (fun w => findOf_any name w hn)
  have HE : Hid (enF name (bl s) = (decide ((M.sn (bl s)).1 ≠ 0) || (decide (256 ≤ s.size) || (decide (findI name ≠ 0) && decide (3 ≤ s.size))))) := hide (by unfold enF; rw [bl_len])
  generalize (M.sn (bl s)).1 = a at *
  generalize (M.sn (bl s)).2 = b at *
  generalize findI name = c at *
  unfold maxLen at hs
  by_cases h0 : a = 0
  · subst h0
    by_cases h256 : 256 ≤ s.size
    · have HR : Hid (enF name (bl s) = true) := hide (by rw [unhide HE]; simp [h256])
      clear HE
      go_enter Tryz.func52, Tryz.ntmps52
      go_wp2_with fail
      refine (unhide HS _).mono ?_
      rintro e w1 ⟨rfl, hw⟩
      replace hw := hw.symm
      subst hw
      go_wp2_with fail
      go_ret
      exact ⟨ret_bool (unhide HR).symm, Below.refl _ _⟩
    · have HR : Hid (enF name (bl s) = ((c != 0) && decide ((3 : Int) ≤ (s.size : Int)))) := hide (by
        rw [unhide HE, Bool.eq_iff_iff]
        simp [h256]
        omega)
      clear HE
      go_enter Tryz.func52, Tryz.ntmps52
      go_wp2_with fail
      refine (unhide HS _).mono ?_
      rintro e w1 ⟨rfl, hw⟩
      replace hw := hw.symm
      subst hw
      go_wp2_with fail
      refine (unhide HF _).mono ?_
      rintro e w2 ⟨rfl, hb2⟩
      have HB2 := hide hb2
      clear hb2
      by_cases h1 : c = 0
      · subst h1
        go_wp2_with fail
        go_ret
        exact ⟨ret_bool (by rw [unhide HR] <;> simp <;> omega), unhide HB2⟩
      · have hne : (c != 0) = true := bne_iff_ne.2 h1
        rw [hne] at HR
        clear h1
        go_wp2_with fail
        go_ret
        exact ⟨ret_bool (by rw [unhide HR] <;> simp <;> omega), unhide HB2⟩
  · have HR : Hid (enF name (bl s) = true) := hide (by rw [unhide HE]; simp [h0])
    have hne : (a != 0) = true := bne_iff_ne.2 h0
    clear HE h0
    go_enter Tryz.func52, Tryz.ntmps52
    go_wp2_with fail
    refine (unhide HS _).mono ?_
    rintro e w1 ⟨rfl, hw⟩
    replace hw := hw.symm
    subst hw
    go_wp2_with fail
    go_ret
    exact ⟨ret_bool (unhide HR).symm, Below.refl _ _⟩
end Go.Proofs.YtaiinjfnkmidbaaGreatDoor

namespace Go.Proofs.YtaiinjfnkmidbaaGreatDoor
open Go.RowKit
set_option linter.unusedVariables false

/-- Which bytes are open: they begin a scalar and are not all of it. -/
theorem M.open_iff {l : List Int} (h0 : l ≠ []) (h3 : l.length ≤ 3) : (M.nxt l).2.2 = (M.begOk l && decide ((l.length : Int) < M.bSize (l.headD 0))) := by
  have key : ∀ l : List Int, l ≠ [] → M.begOk l = true → (M.nxt l).2.2 = decide ((l.length : Int) < M.bSize (l.headD 0)) := by
    intro l hl hb
    obtain ⟨c, t, rfl⟩ := M.take_one hl
    by_cases he : ((t.length + 1 : Nat) : Int) = M.bSize c
    · have := M.nxt_done (c := c) (t := t) (k := t.length) (Nat.le_refl _) (by rw [List.take_length]; exact hb) he
      rw [this]
      have : ¬ ((c :: t).length : Int) < M.bSize ((c :: t).headD 0) := by simp only [List.length_cons, List.headD_cons]; omega
      rw [decide_eq_false this]
    · rw [M.nxt_left hb he]
      simp only [M.begOk, Bool.and_eq_true, decide_eq_true_eq] at hb
      have : ((c :: t).length : Int) < M.bSize ((c :: t).headD 0) := by simp only [List.length_cons, List.headD_cons]; omega
      rw [decide_eq_true this]
  cases hb : M.begOk l with
  | true => rw [key l h0 hb]; rfl
  | false =>
    rw [Bool.false_and]
    match l, h0, h3, hb with
    | [c], _, _, hb => rw [M.nxt_first [] hb]
    | [c, c1], _, _, hb =>
      cases h1 : M.begOk [c] with
      | false => rw [M.nxt_first _ h1]
      | true =>
        by_cases he : ((0 + 1 : Nat) : Int) = M.bSize c
        · rw [M.nxt_done (c := c) (t := [c1]) (k := 0) (by simp) h1 he]
        · rw [M.nxt_bad (c := c) (t := [c1]) (k := 0) (by simp) h1 he hb]
    | [c, c1, c2], _, _, hb =>
      cases h1 : M.begOk [c] with
      | false => rw [M.nxt_first _ h1]
      | true =>
        by_cases he : ((0 + 1 : Nat) : Int) = M.bSize c
        · rw [M.nxt_done (c := c) (t := [c1, c2]) (k := 0) (by simp) h1 he]
        · cases h2 : M.begOk [c, c1] with
          | false => rw [M.nxt_bad (c := c) (t := [c1, c2]) (k := 0) (by simp) h1 he h2]
          | true =>
            by_cases he2 : ((1 + 1 : Nat) : Int) = M.bSize c
            · rw [M.nxt_done (c := c) (t := [c1, c2]) (k := 1) (by simp) h2 he2]
            · rw [M.nxt_bad (c := c) (t := [c1, c2]) (k := 1) (by simp) h2 he2 hb]
    | _ :: _ :: _ :: _ :: _, _, h3, _ => simp at h3
theorem M.spl_all {l : List Int} (h0 : l ≠ []) : M.spl l = l.length ↔ (M.nxt l).2.2 = true := by
  have hw := M.f8_waits l
  constructor
  · intro h
    rw [h] at hw
    cases hf : M.f8 () l with
    | none => unfold M.f8 at hf; rw [if_neg h0] at hf; split at hf
              · assumption
              · cases hf
    | some r =>
      obtain ⟨o, k, s'⟩ := r
      have hs := M.f8_steps.size _ _ _ _ _ hf
      obtain ⟨m, e1, e2⟩ := M.Run_end M.f8_steps s' (l.drop k)
      rw [M.Run_step M.f8_steps hf] at hw
      have : (M.Run M.f8 s' (l.drop k)).2.2.length ≤ l.length - k := by rw [e1]; simp; omega
      have hw' : ((M.Run M.f8 s' (l.drop k)).2.2.length : Int) = l.length := hw
      omega
  · intro h
    rw [M.Run_wait (by unfold M.f8; rw [if_neg h0, if_pos h])] at hw
    exact hw.symm
/-- Is Rest one that may wait? -/
def fok (e : Int) (r : ByteArray) : Bool := decide (M.wE e (bl r) = r.size ∧ r.size ≤ 3)
theorem fok_many {e : Int} {r : ByteArray} (h : 3 < r.size) : fok e r = false := decide_eq_false (by omega)
theorem fok_none {e : Int} {r : ByteArray} (he : 1 ≤ e ∧ e ≤ 7) (h : r.size = 0) : fok e r = true := by
  have hb := M.wE_bd he (bl r)
  rw [bl_len] at hb
  exact decide_eq_true (by omega)
theorem fok_8 {r : ByteArray} (h1 : 1 ≤ r.size) (h3 : r.size ≤ 3) : fok 1 r = (M.begOk (bl r) && decide ((r.size : Int) < M.bSize ((bl r).headD 0))) := by
  have hne : bl r ≠ [] := fun e => by have := bl_len r; rw [e] at this; simp at this; omega
  have e := M.open_iff hne (by rw [bl_len]; exact h3)
  rw [bl_len] at e
  rw [← e, Bool.eq_iff_iff]
  unfold fok
  rw [decide_eq_true_iff]
  have := M.spl_all hne
  rw [bl_len] at this
  exact ⟨fun h => this.1 h.1, fun h => ⟨this.2 h, h3⟩⟩
theorem fok_16 {big : Bool} {r : ByteArray} {a b : Int} (h2 : 2 ≤ r.size) (h3 : r.size ≤ 3) (ha : ((r[0]'(by omega)).toNat : Int) = a) (hb : ((r[1]'(by omega)).toNat : Int) = b) : fok (if big then 3 else 2) r = M.fst16 (M.ut big a b) := by
  have e1 := bl_drop r 0 (by omega)
  have e2 := bl_drop r 1 (by omega)
  rw [List.drop_zero] at e1
  simp only [Nat.zero_add] at e1
  rw [e2, ha] at e1
  rw [hb] at e1
  have hl : ((bl r).drop 2).length = r.size - 2 := by rw [List.length_drop, bl_len]
  have hw : M.wE (if big then 3 else 2) (bl r) = M.wu big (bl r) := by cases big <;> rfl
  have hlw : M.lastW big (bl r) = M.ut big a b := by
    rw [e1]
    generalize (bl r).drop 2 = t at hl
    match t, hl with
    | [], _ => rfl
    | [c], _ => rfl
    | _ :: _ :: _, hl => simp at hl; omega
  unfold fok
  rw [hw]
  unfold M.wu
  rw [hlw, bl_len]
  cases hq : M.fst16 (M.ut big a b) with
  | true => exact decide_eq_true (by simp; omega)
  | false => exact decide_eq_false (by simp; omega)
theorem fok_1 {big : Bool} {r : ByteArray} (h : r.size = 1) : fok (if big then 3 else 2) r = true := by
  have hw : M.wE (if big then 3 else 2) (bl r) = M.wu big (bl r) := by cases big <;> rfl
  unfold fok
  rw [hw]
  unfold M.wu
  have hl : (bl r).length = 1 := by rw [bl_len]; exact h
  have hlw : M.lastW big (bl r) = 0 := by
    generalize bl r = t at hl
    match t, hl with
    | [c], _ => rfl
  rw [hlw, hl, M.fst16_0]
  exact decide_eq_true (by simp; omega)
theorem fok_S {e : Int} {r : ByteArray} (he : e = 4 ∨ e = 5 ∨ e = 7) (h : r.size ≠ 0) : fok e r = false := by
  have : M.wE e (bl r) = 0 := by rcases he with rfl | rfl | rfl <;> rfl
  exact decide_eq_false (by omega)
theorem fok_K {r : ByteArray} : fok 6 r = (decide (bl r = []) || decide (bl r = [27]) || decide (bl r = [27, 40])) := by
  have hw : M.wE 6 (bl r) = M.wk (bl r) := rfl
  unfold fok
  rw [hw, Bool.eq_iff_iff]
  simp only [decide_eq_true_iff, Bool.or_eq_true]
  have hl := bl_len r
  generalize bl r = l at hl
  rw [← hl]
  unfold M.wk
  constructor
  · rintro ⟨h1, h2⟩
    split at h1
    · rename_i h
      obtain ⟨p, hp⟩ := h
      have := congrArg List.length hp
      simp at this
      have : p = [] := List.eq_nil_of_length_eq_zero (by omega)
      subst this
      exact .inr hp.symm
    · split at h1
      · rename_i h
        obtain ⟨p, hp⟩ := h
        have := congrArg List.length hp
        simp at this
        have : p = [] := List.eq_nil_of_length_eq_zero (by omega)
        subst this
        exact .inl (.inr hp.symm)
      · exact .inl (.inl (List.eq_nil_of_length_eq_zero (by omega)))
  · rintro ((h | h) | h)
    · subst h; decide
    · subst h; decide
    · subst h; decide
set_option maxHeartbeats 400000 in
set_option maxRecDepth 100000 in
theorem isEncoding_any (n : Int) (w : World) : Calls Tryz.prog 82 #[.int .i64 n] w fun e w' => e = .returned (.bool (decide (1 ≤ n) && decide (n ≤ 7))) ∧ w' = w := by
  go_enter Tryz.func82, Tryz.ntmps82
  go_wp2_with fail
  refine (between_any n 1 7 _).mono ?_
  rintro e w1 ⟨rfl, hw⟩
  replace hw := hw.symm
  subst hw
  go_wp2_with fail
  go_ret
  exact ⟨rfl, rfl⟩
theorem isEncoding_yes (n : Int) (w : World) (h : 1 ≤ n ∧ n ≤ 7) : Calls Tryz.prog 82 #[.int .i64 n] w fun e w' => e = .returned (.bool true) ∧ w' = w := by
  have := isEncoding_any n w
  rw [decide_eq_true h.1, decide_eq_true h.2] at this
  exact this
theorem isEncoding_no (n : Int) (w : World) (h : ¬ (1 ≤ n ∧ n ≤ 7)) : Calls Tryz.prog 82 #[.int .i64 n] w fun e w' => e = .returned (.bool false) ∧ w' = w := by
  have := isEncoding_any n w
  have e : (decide (1 ≤ n) && decide (n ≤ 7)) = false := by simp; omega
  rw [e] at this
  exact this

set_option maxHeartbeats 400000 in
set_option maxRecDepth 100000 in
theorem checkState_kind (e : Int) (r : ByteArray) (g : Int) (fr st : Bool) (w : World) (he : ¬ (1 ≤ e ∧ e ≤ 7)) :
    Calls Tryz.prog 53 #[.agg #[.int .i64 e, .string r, .int .i64 g, .bool fr, .bool st]] w fun e' w' => e' = .returned (.int .i64 6) ∧ Below w.heap.size w w' := by
  go_enter Tryz.func53, Tryz.ntmps53
  go_wp2_with fail
  refine (isEncoding_no e _ he).mono ?_
  rintro e' w1 ⟨rfl, hw⟩
  replace hw := hw.symm
  subst hw
  go_wp2_with fail
  go_ret
  exact ⟨rfl, balloc _ _⟩

theorem chk_form {e : Int} {r : ByteArray} {t : M.St} (he : 1 ≤ e ∧ e ≤ 7) (hf : fok e r = false) : 1 = chk e r t := by
  unfold chk
  rw [if_neg (fun q => q he), if_pos (of_decide_eq_false hf)]
theorem chk_state {e : Int} {r : ByteArray} {g : Int} {fr st : Bool} (he : 1 ≤ e ∧ e ≤ 7) (hf : fok e r = true) : chk e r (g, fr, st) = if g < 0 ∨ 2 < g then 4 else if e ≠ 6 ∧ (g ≠ 0 ∨ fr = true) then 4 else if e ≠ 7 ∧ st = true then 4 else 0 := by
  unfold chk
  rw [if_neg (fun q => q he), if_neg (fun q => q (of_decide_eq_true hf))]

set_option maxHeartbeats 4000000 in
set_option maxRecDepth 100000 in
theorem checkState_valid (e : Int) (r : ByteArray) (g : Int) (fr st : Bool) (w : World) (hm : r.size ≤ maxLen) (he : 1 ≤ e ∧ e ≤ 7) :
    Calls Tryz.prog 53 #[.agg #[.int .i64 e, .string r, .int .i64 g, .bool fr, .bool st]] w fun e' w' => e' = .returned (.int .i64 (chk e r (g, fr, st))) ∧ Below w.heap.size w w' := by
  unfold maxLen at hm
  have HE := hide he
  go_enter Tryz.func53, Tryz.ntmps53
  go_wp2_with fail
  refine (isEncoding_yes e _ he).mono ?_
  rintro e' w1 ⟨rfl, hw⟩
  replace hw := hw.symm
  subst hw
  go_upto_block 0 with fail
  go_cut [3] (fun ok wx => ok = .bool (fok e r) ∧ Sc w.heap.size e r (g, fr, st) wx ∧ Below w.heap.size w wx)
  case first =>
    clear he
    have he := unhide HE
    obtain rfl | rfl | rfl | rfl | rfl | rfl | rfl := M.seven he
    · clear he
      by_cases h0 : r.size = 0
      · have hbt : (decide ((1 : Int) ≤ (r.size : Int)) && decide ((r.size : Int) ≤ 3)) = false := by simp; omega
        have HF := hide (fok_none (e := 1) (r := r) (by omega) h0)
        have he0 : r.toList.isEmpty = true := by rw [isEmpty_size]; simp [h0]
        have HZ := hide h0
        clear h0
        go_wp2_with fail
        refine (between_any _ _ _ _).mono ?_
        rintro e' w9 ⟨rfl, hw9⟩
        replace hw9 := hw9.symm
        subst hw9
        rw [hbt]
        go_wp2_with fail
        go_meet
        case rel => exact ⟨by first | (rw [unhide HF]; done) | (rw [he0, unhide HF]; done), Sc.new w 1 r (g, fr, st), balloc _ _⟩
      have he0 : r.toList.isEmpty = false := by rw [isEmpty_size]; simp [h0]
      by_cases h3 : 3 < r.size
      · have hbt : (decide ((1 : Int) ≤ (r.size : Int)) && decide ((r.size : Int) ≤ 3)) = false := by simp; omega
        have HF := hide (fok_many (e := 1) (r := r) h3)
        go_wp2_with fail
        refine (between_any _ _ _ _).mono ?_
        rintro e' w9 ⟨rfl, hw9⟩
        replace hw9 := hw9.symm
        subst hw9
        rw [hbt]
        go_wp2_with fail
        go_meet
        case rel => exact ⟨by first | (rw [unhide HF]; done) | (rw [he0, unhide HF]; done), Sc.new w 1 r (g, fr, st), balloc _ _⟩
      have hbt : (decide ((1 : Int) ≤ (r.size : Int)) && decide ((r.size : Int) ≤ 3)) = true := by simp; omega
      have HF := hide (fok_8 (r := r) (by omega) (by omega))
      have HG := hide (fun w => isBegun_few r w (by omega) (by omega))
      obtain ⟨q, HQ⟩ : ∃ q, Hid (M.begOk (bl r) = q) := ⟨_, hide rfl⟩
      unfold BegPost at HG
      rw [unhide HQ] at HF HG
      go_wp2_with fail
      refine (between_any _ _ _ _).mono ?_
      rintro e' w9 ⟨rfl, hw9⟩
      replace hw9 := hw9.symm
      subst hw9
      rw [hbt]
      go_wp2_with fail
      refine (unhide HG _).mono ?_
      rintro e' w2 ⟨X, rfl, hX, hb2⟩
      have hS2 : Sc w.heap.size 1 r (g, fr, st) w2 := (Sc.new w 1 r (g, fr, st)).on hb2
      have HS2 := hide hS2
      have hl2 := hS2.lt
      obtain ⟨c0, c1, c2, c3, c4, -, -, -, -, -⟩ := hS2
      have HB2 := hide (bstep (balloc _ _) hb2)
      have HX := hide hX
      clear hb2 hX
      cases q
      · go_wp2_with fail
        go_meet
        case rel => exact ⟨by rw [unhide HF]; rfl, unhide HS2, unhide HB2⟩
      · by_cases hlt : (r.size : Int) < X
        · have HV : Hid (fok 1 r = true) := hide (by rw [unhide HF, ← unhide HX rfl, decide_eq_true hlt]; rfl)
          have hltB : decide ((r.size : Int) < X) = true := decide_eq_true hlt
          go_wp2_with fail
          go_meet
          case rel => exact ⟨by first | (rw [unhide HV]; done) | (rw [unhide HV, hltB]; done), unhide HS2, unhide HB2⟩
        · have HV : Hid (fok 1 r = false) := hide (by rw [unhide HF, ← unhide HX rfl, decide_eq_false hlt]; rfl)
          have hltB : decide ((r.size : Int) < X) = false := decide_eq_false hlt
          go_wp2_with fail
          go_meet
          case rel => exact ⟨by first | (rw [unhide HV]; done) | (rw [unhide HV, hltB]; done), unhide HS2, unhide HB2⟩
    · clear he
      by_cases h0 : r.size = 0
      · have hbt : (decide ((1 : Int) ≤ (r.size : Int)) && decide ((r.size : Int) ≤ 3)) = false := by simp; omega
        have HF := hide (fok_none (e := 2) (r := r) (by omega) h0)
        have he0 : r.toList.isEmpty = true := by rw [isEmpty_size]; simp [h0]
        have HZ := hide h0
        clear h0
        go_wp2_with fail
        refine (between_any _ _ _ _).mono ?_
        rintro e' w9 ⟨rfl, hw9⟩
        replace hw9 := hw9.symm
        subst hw9
        rw [hbt]
        go_wp2_with fail
        go_meet
        case rel => exact ⟨by first | (rw [unhide HF]; done) | (rw [he0, unhide HF]; done), Sc.new w 2 r (g, fr, st), balloc _ _⟩
      have he0 : r.toList.isEmpty = false := by rw [isEmpty_size]; simp [h0]
      by_cases h3 : 3 < r.size
      · have hbt : (decide ((1 : Int) ≤ (r.size : Int)) && decide ((r.size : Int) ≤ 3)) = false := by simp; omega
        have HF := hide (fok_many (e := 2) (r := r) h3)
        go_wp2_with fail
        refine (between_any _ _ _ _).mono ?_
        rintro e' w9 ⟨rfl, hw9⟩
        replace hw9 := hw9.symm
        subst hw9
        rw [hbt]
        go_wp2_with fail
        go_meet
        case rel => exact ⟨by first | (rw [unhide HF]; done) | (rw [he0, unhide HF]; done), Sc.new w 2 r (g, fr, st), balloc _ _⟩
      have hbt : (decide ((1 : Int) ≤ (r.size : Int)) && decide ((r.size : Int) ≤ 3)) = true := by simp; omega
      by_cases h1 : r.size = 1
      · have HF : Hid (fok 2 r = true) := hide (fok_1 (big := false) h1)
        have h1I : ((r.size : Int) == 1) = true := by simp [h1]
        clear h1
        go_wp2_with fail
        refine (between_any _ _ _ _).mono ?_
        rintro e' w9 ⟨rfl, hw9⟩
        replace hw9 := hw9.symm
        subst hw9
        rw [hbt]
        go_wp2_with fail
        go_meet
        case rel => exact ⟨by first | (rw [unhide HF]; done) | (rw [he0, unhide HF]; done), Sc.new w 2 r (g, fr, st), balloc _ _⟩
      have h1I : ((r.size : Int) == 1) = false := by simp; omega
      obtain ⟨a, HA⟩ : ∃ a, Hid (((r[0]'(by omega)).toNat : Int) = a) := ⟨_, hide rfl⟩
      obtain ⟨b, HBB⟩ : ∃ b, Hid (((r[1]'(by omega)).toNat : Int) = b) := ⟨_, hide rfl⟩
      have HF : Hid (fok 2 r = M.fst16 (M.ut false a b)) := hide (fok_16 (big := false) (by omega) (by omega) (unhide HA) (unhide HBB))
      have HR : Hid (∀ w : World, Calls Tryz.prog 109 #[.bool false, .string r, .int .i64 0] w fun e w' => e = .returned (.int .i64 (M.ut false a b)) ∧ ∃ m, w' = w.drewN m) := hide (fun w => unitAt_any false r 0 a b w (by omega) (by omega) (unhide HA) (unhide HBB))
      obtain ⟨u, HU⟩ : ∃ u, Hid (M.ut false a b = u) := ⟨_, hide rfl⟩
      rw [unhide HU] at HF HR
      have HV : Hid (fok 2 r = (decide (55296 ≤ u) && decide (u ≤ 56319))) := hide (by rw [unhide HF, Bool.eq_iff_iff]; simp [M.fst16]; omega)
      go_wp2_with fail
      refine (between_any _ _ _ _).mono ?_
      rintro e' w9 ⟨rfl, hw9⟩
      replace hw9 := hw9.symm
      subst hw9
      rw [hbt]
      go_wp2_with fail
      refine (unhide HR _).mono ?_
      rintro e' w2 ⟨rfl, m, rfl⟩
      go_wp2_with fail
      refine (between_any _ _ _ _).mono ?_
      rintro e' w9 ⟨rfl, hw9⟩
      replace hw9 := hw9.symm
      subst hw9
      rw [← unhide HV]
      go_wp2_with fail
      go_meet
      case rel => exact ⟨rfl, (Sc.new w 2 r (g, fr, st)).on (below_drewN (Below.refl _ _) _), below_drewN (balloc _ _) _⟩
    · clear he
      by_cases h0 : r.size = 0
      · have hbt : (decide ((1 : Int) ≤ (r.size : Int)) && decide ((r.size : Int) ≤ 3)) = false := by simp; omega
        have HF := hide (fok_none (e := 3) (r := r) (by omega) h0)
        have he0 : r.toList.isEmpty = true := by rw [isEmpty_size]; simp [h0]
        have HZ := hide h0
        clear h0
        go_wp2_with fail
        refine (between_any _ _ _ _).mono ?_
        rintro e' w9 ⟨rfl, hw9⟩
        replace hw9 := hw9.symm
        subst hw9
        rw [hbt]
        go_wp2_with fail
        go_meet
        case rel => exact ⟨by first | (rw [unhide HF]; done) | (rw [he0, unhide HF]; done), Sc.new w 3 r (g, fr, st), balloc _ _⟩
      have he0 : r.toList.isEmpty = false := by rw [isEmpty_size]; simp [h0]
      by_cases h3 : 3 < r.size
      · have hbt : (decide ((1 : Int) ≤ (r.size : Int)) && decide ((r.size : Int) ≤ 3)) = false := by simp; omega
        have HF := hide (fok_many (e := 3) (r := r) h3)
        go_wp2_with fail
        refine (between_any _ _ _ _).mono ?_
        rintro e' w9 ⟨rfl, hw9⟩
        replace hw9 := hw9.symm
        subst hw9
        rw [hbt]
        go_wp2_with fail
        go_meet
        case rel => exact ⟨by first | (rw [unhide HF]; done) | (rw [he0, unhide HF]; done), Sc.new w 3 r (g, fr, st), balloc _ _⟩
      have hbt : (decide ((1 : Int) ≤ (r.size : Int)) && decide ((r.size : Int) ≤ 3)) = true := by simp; omega
      by_cases h1 : r.size = 1
      · have HF : Hid (fok 3 r = true) := hide (fok_1 (big := true) h1)
        have h1I : ((r.size : Int) == 1) = true := by simp [h1]
        clear h1
        go_wp2_with fail
        refine (between_any _ _ _ _).mono ?_
        rintro e' w9 ⟨rfl, hw9⟩
        replace hw9 := hw9.symm
        subst hw9
        rw [hbt]
        go_wp2_with fail
        go_meet
        case rel => exact ⟨by first | (rw [unhide HF]; done) | (rw [he0, unhide HF]; done), Sc.new w 3 r (g, fr, st), balloc _ _⟩
      have h1I : ((r.size : Int) == 1) = false := by simp; omega
      obtain ⟨a, HA⟩ : ∃ a, Hid (((r[0]'(by omega)).toNat : Int) = a) := ⟨_, hide rfl⟩
      obtain ⟨b, HBB⟩ : ∃ b, Hid (((r[1]'(by omega)).toNat : Int) = b) := ⟨_, hide rfl⟩
      have HF : Hid (fok 3 r = M.fst16 (M.ut true a b)) := hide (fok_16 (big := true) (by omega) (by omega) (unhide HA) (unhide HBB))
      have HR : Hid (∀ w : World, Calls Tryz.prog 109 #[.bool true, .string r, .int .i64 0] w fun e w' => e = .returned (.int .i64 (M.ut true a b)) ∧ ∃ m, w' = w.drewN m) := hide (fun w => unitAt_any true r 0 a b w (by omega) (by omega) (unhide HA) (unhide HBB))
      obtain ⟨u, HU⟩ : ∃ u, Hid (M.ut true a b = u) := ⟨_, hide rfl⟩
      rw [unhide HU] at HF HR
      have HV : Hid (fok 3 r = (decide (55296 ≤ u) && decide (u ≤ 56319))) := hide (by rw [unhide HF, Bool.eq_iff_iff]; simp [M.fst16]; omega)
      go_wp2_with fail
      refine (between_any _ _ _ _).mono ?_
      rintro e' w9 ⟨rfl, hw9⟩
      replace hw9 := hw9.symm
      subst hw9
      rw [hbt]
      go_wp2_with fail
      refine (unhide HR _).mono ?_
      rintro e' w2 ⟨rfl, m, rfl⟩
      go_wp2_with fail
      refine (between_any _ _ _ _).mono ?_
      rintro e' w9 ⟨rfl, hw9⟩
      replace hw9 := hw9.symm
      subst hw9
      rw [← unhide HV]
      go_wp2_with fail
      go_meet
      case rel => exact ⟨rfl, (Sc.new w 3 r (g, fr, st)).on (below_drewN (Below.refl _ _) _), below_drewN (balloc _ _) _⟩
    · clear he
      by_cases h0 : r.size = 0
      · have hF := fok_none (e := 4) (r := r) (by omega) h0
        have he0 : r.toList.isEmpty = true := by rw [isEmpty_size]; simp [h0]
        have HZ := hide h0
        clear h0
        go_wp2_with fail
        go_meet
        case rel => exact ⟨by first | (rw [hF]; done) | (rw [he0, hF]; done), Sc.new w 4 r (g, fr, st), balloc _ _⟩
      · have he0 : r.toList.isEmpty = false := by rw [isEmpty_size]; simp [h0]
        have hF := fok_S (e := 4) (r := r) (by omega) h0
        go_wp2_with fail
        go_meet
        case rel => exact ⟨by first | (rw [hF]; done) | (rw [he0, hF]; done), Sc.new w 4 r (g, fr, st), balloc _ _⟩
    · clear he
      by_cases h0 : r.size = 0
      · have hF := fok_none (e := 5) (r := r) (by omega) h0
        have he0 : r.toList.isEmpty = true := by rw [isEmpty_size]; simp [h0]
        have HZ := hide h0
        clear h0
        go_wp2_with fail
        go_meet
        case rel => exact ⟨by first | (rw [hF]; done) | (rw [he0, hF]; done), Sc.new w 5 r (g, fr, st), balloc _ _⟩
      · have he0 : r.toList.isEmpty = false := by rw [isEmpty_size]; simp [h0]
        have hF := fok_S (e := 5) (r := r) (by omega) h0
        go_wp2_with fail
        go_meet
        case rel => exact ⟨by first | (rw [hF]; done) | (rw [he0, hF]; done), Sc.new w 5 r (g, fr, st), balloc _ _⟩
    · clear he
      by_cases h0 : r.size = 0
      · have hF := fok_none (e := 6) (r := r) (by omega) h0
        have he0 : r.toList.isEmpty = true := by rw [isEmpty_size]; simp [h0]
        have HZ := hide h0
        clear h0
        go_wp2_with fail
        go_meet
        case rel => exact ⟨by first | (rw [hF]; done) | (rw [he0, hF]; done), Sc.new w 6 r (g, fr, st), balloc _ _⟩
      have hF := fok_K (r := r)
      rw [decide_eq_false (fun q => h0 (by rw [← bl_len, q]; rfl))] at hF
      have he0 : r.toList.isEmpty = false := by rw [isEmpty_size]; simp [h0]
      by_cases h1 : bl r = [27]
      · have e1 : (r.toList == ([27] : List UInt8)) = true := by rw [beq_nums r [27] [27] (by decide +kernel) (by decide +kernel)]; exact decide_eq_true h1
        rw [decide_eq_true h1] at hF
        replace hF : fok 6 r = true := hF
        have HF := hide hF
        clear hF h1
        go_wp2_with fail
        go_meet
        case rel => exact ⟨by first | (rw [unhide HF]; done) | (rw [he0, unhide HF]; done), Sc.new w 6 r (g, fr, st), balloc _ _⟩
      by_cases h2 : bl r = [27, 40]
      · have e1 : (r.toList == ([27] : List UInt8)) = false := by rw [beq_nums r [27] [27] (by decide +kernel) (by decide +kernel)]; exact decide_eq_false h1
        have e2 : (r.toList == ([27, 40] : List UInt8)) = true := by rw [beq_nums r [27, 40] [27, 40] (by decide +kernel) (by decide +kernel)]; exact decide_eq_true h2
        rw [decide_eq_true h2, Bool.or_true] at hF
        have HF := hide hF
        clear hF h1 h2
        go_wp2_with fail
        go_meet
        case rel => exact ⟨by first | (rw [unhide HF]; done) | (rw [he0, unhide HF]; done), Sc.new w 6 r (g, fr, st), balloc _ _⟩
      have e1 : (r.toList == ([27] : List UInt8)) = false := by rw [beq_nums r [27] [27] (by decide +kernel) (by decide +kernel)]; exact decide_eq_false h1
      have e2 : (r.toList == ([27, 40] : List UInt8)) = false := by rw [beq_nums r [27, 40] [27, 40] (by decide +kernel) (by decide +kernel)]; exact decide_eq_false h2
      rw [decide_eq_false h1, decide_eq_false h2] at hF
      replace hF : fok 6 r = false := hF
      have HF := hide hF
      clear hF h1 h2
      go_wp2_with fail
      go_meet
      case rel => exact ⟨by first | (rw [unhide HF]; done) | (rw [he0, unhide HF]; done), Sc.new w 6 r (g, fr, st), balloc _ _⟩
    · clear he
      by_cases h0 : r.size = 0
      · have hF := fok_none (e := 7) (r := r) (by omega) h0
        have he0 : r.toList.isEmpty = true := by rw [isEmpty_size]; simp [h0]
        have HZ := hide h0
        clear h0
        go_wp2_with fail
        go_meet
        case rel => exact ⟨by first | (rw [hF]; done) | (rw [he0, hF]; done), Sc.new w 7 r (g, fr, st), balloc _ _⟩
      · have he0 : r.toList.isEmpty = false := by rw [isEmpty_size]; simp [h0]
        have hF := fok_S (e := 7) (r := r) (by omega) h0
        go_wp2_with fail
        go_meet
        case rel => exact ⟨by first | (rw [hF]; done) | (rw [he0, hF]; done), Sc.new w 7 r (g, fr, st), balloc _ _⟩
  case rest =>
    obtain ⟨hok, hS, hB⟩ := hcut
    have HB := hide hB
    clear hB
    have hlt := hS.lt
    obtain ⟨c0, c1, c2, c3, c4, -, -, -, -, -⟩ := hS
    subst hok
    by_cases hf : fok e r = true
    · rw [hf]
      have HF := hide hf
      clear hf he
      by_cases hb : 0 ≤ g ∧ g ≤ 2
      · have hb' : (decide (0 ≤ g) && decide (g ≤ 2)) = true := by simp; omega
        have hn : ¬ (g < 0 ∨ 2 < g) := by omega
        by_cases h6 : e = 6
        · subst h6
          cases st
          · go_wp2_with fail
            refine (between_any _ _ _ _).mono ?_
            rintro e' w9 ⟨rfl, hw9⟩
            replace hw9 := hw9.symm
            subst hw9
            rw [hb']
            go_wp2_with fail
            go_ret
            exact ⟨ret_int (by rw [chk_state (unhide HE) (unhide HF), if_neg hn, if_neg (by simp), if_neg (by simp)]), unhide HB⟩
          · go_wp2_with fail
            refine (between_any _ _ _ _).mono ?_
            rintro e' w9 ⟨rfl, hw9⟩
            replace hw9 := hw9.symm
            subst hw9
            rw [hb']
            go_wp2_with fail
            go_ret
            exact ⟨ret_int (by rw [chk_state (unhide HE) (unhide HF), if_neg hn, if_neg (by simp), if_pos (by simp)]), unhide HB⟩
        · have h6' : (e != 6) = true := by simpa using h6
          by_cases hg : g = 0
          · have hg' : (g != 0) = false := by simpa using hg
            have HG := hide hg
            clear hg
            cases fr
            · by_cases h7 : e = 7
              · subst h7
                clear hb h6'
                go_wp2_with fail
                refine (between_any _ _ _ _).mono ?_
                rintro e' w9 ⟨rfl, hw9⟩
                replace hw9 := hw9.symm
                subst hw9
                rw [hb']
                go_wp2_with fail
                go_ret
                exact ⟨ret_int (by rw [chk_state (unhide HE) (unhide HF), if_neg hn, if_neg (fun q => q.2.elim (fun z => z (unhide HG)) (fun z => by cases z)), if_neg (by simp)]), unhide HB⟩
              · have h7' : (e != 7) = true := by simpa using h7
                clear hb
                cases st
                · go_wp2_with fail
                  refine (between_any _ _ _ _).mono ?_
                  rintro e' w9 ⟨rfl, hw9⟩
                  replace hw9 := hw9.symm
                  subst hw9
                  rw [hb']
                  go_wp2_with fail
                  go_ret
                  exact ⟨ret_int (by rw [chk_state (unhide HE) (unhide HF), if_neg hn, if_neg (fun q => q.2.elim (fun z => z (unhide HG)) (fun z => by cases z)), if_neg (by simp)]), unhide HB⟩
                · go_wp2_with fail
                  refine (between_any _ _ _ _).mono ?_
                  rintro e' w9 ⟨rfl, hw9⟩
                  replace hw9 := hw9.symm
                  subst hw9
                  rw [hb']
                  go_wp2_with fail
                  go_ret
                  exact ⟨ret_int (by rw [chk_state (unhide HE) (unhide HF), if_neg hn, if_neg (fun q => q.2.elim (fun z => z (unhide HG)) (fun z => by cases z)), if_pos ⟨h7, rfl⟩]), unhide HB⟩
            · clear hb
              go_wp2_with fail
              refine (between_any _ _ _ _).mono ?_
              rintro e' w9 ⟨rfl, hw9⟩
              replace hw9 := hw9.symm
              subst hw9
              rw [hb']
              go_wp2_with fail
              go_ret
              exact ⟨ret_int (by rw [chk_state (unhide HE) (unhide HF), if_neg hn, if_pos ⟨h6, .inr rfl⟩]), unhide HB⟩
          · have hg' : (g != 0) = true := by simpa using hg
            go_wp2_with fail
            refine (between_any _ _ _ _).mono ?_
            rintro e' w9 ⟨rfl, hw9⟩
            replace hw9 := hw9.symm
            subst hw9
            rw [hb']
            go_wp2_with fail
            go_ret
            exact ⟨ret_int (by rw [chk_state (unhide HE) (unhide HF), if_neg hn, if_pos ⟨h6, .inl hg⟩]), unhide HB⟩
      · have hb' : (decide (0 ≤ g) && decide (g ≤ 2)) = false := by simp; omega
        go_wp2_with fail
        refine (between_any _ _ _ _).mono ?_
        rintro e' w9 ⟨rfl, hw9⟩
        replace hw9 := hw9.symm
        subst hw9
        rw [hb']
        go_wp2_with fail
        go_ret
        exact ⟨ret_int (by rw [chk_state (unhide HE) (unhide HF), if_pos (by omega)]), unhide HB⟩
    · have hf' : fok e r = false := Bool.eq_false_iff.2 hf
      rw [hf']
      have HF := hide hf'
      clear hf hf' he
      go_wp2_with fail
      go_ret
      exact ⟨ret_int (chk_form (unhide HE) (unhide HF)), unhide HB⟩

theorem checkState_any (e : Int) (r : ByteArray) (t : M.St) (w : World) (hm : r.size ≤ maxLen) :
    Calls Tryz.prog 53 #[sv e r t] w fun e' w' => e' = .returned (.int .i64 (chk e r t)) ∧ Below w.heap.size w w' := by
  obtain ⟨g, fr, st⟩ := t
  by_cases he : 1 ≤ e ∧ e ≤ 7
  · exact checkState_valid e r g fr st w hm he
  · have e6 : chk e r (g, fr, st) = 6 := by unfold chk; rw [if_pos he]
    rw [e6]
    exact checkState_kind e r g fr st w he
end Go.Proofs.YtaiinjfnkmidbaaGreatDoor

namespace Go.Proofs.YtaiinjfnkmidbaaGreatDoor
open Go.RowKit
set_option linter.unusedVariables false
set_option maxHeartbeats 1600000 in
set_option maxRecDepth 100000 in
theorem cf_L (L : ByteArray) (enc why : Int) (W : ByteArray) (e : Int) (r : ByteArray) (g : Int) (fr st : Bool) (w : World) (hL : L.size ≤ maxLen) (hW : W.size ≤ maxLen) (hr : r.size ≤ maxLen) (h : 3000 < L.size) :
    Calls Tryz.prog 16 #[.agg #[.string L, .int .i64 enc, .int .i64 why, .string W, .int .i64 e, .string r, .int .i64 g, .bool fr, .bool st]] w fun e' w' => e' = .returned (.int .i64 (chkF L enc why W e r (g, fr, st))) ∧ Below w.heap.size w w' := by
  have HR : Hid (chkF L enc why W e r (g, fr, st) = 2) := hide (by
    unfold chkF Fr.chk
    simp only
    rw [if_pos (.inl h)])
  unfold maxLen at hL hW hr
  go_enter Tryz.func16, Tryz.ntmps16
  go_wp2_with fail
  go_ret
  exact ⟨ret_int (unhide HR).symm, (Below.refl _ _).alloc (Nat.le_refl _) _⟩
set_option maxHeartbeats 1600000 in
set_option maxRecDepth 100000 in
theorem cf_W (L : ByteArray) (enc why : Int) (W : ByteArray) (e : Int) (r : ByteArray) (g : Int) (fr st : Bool) (w : World) (hL : L.size ≤ maxLen) (hW : W.size ≤ maxLen) (hr : r.size ≤ maxLen) (h0 : L.size ≤ 3000) (h : 3000 < W.size) :
    Calls Tryz.prog 16 #[.agg #[.string L, .int .i64 enc, .int .i64 why, .string W, .int .i64 e, .string r, .int .i64 g, .bool fr, .bool st]] w fun e' w' => e' = .returned (.int .i64 (chkF L enc why W e r (g, fr, st))) ∧ Below w.heap.size w w' := by
  have HR : Hid (chkF L enc why W e r (g, fr, st) = 2) := hide (by
    unfold chkF Fr.chk
    simp only
    rw [if_pos (.inr h)])
  unfold maxLen at hL hW hr
  go_enter Tryz.func16, Tryz.ntmps16
  go_wp2_with fail
  go_ret
  exact ⟨ret_int (unhide HR).symm, (Below.refl _ _).alloc (Nat.le_refl _) _⟩
set_option maxHeartbeats 1600000 in
set_option maxRecDepth 100000 in
theorem cf_enc (L : ByteArray) (enc why : Int) (W : ByteArray) (e : Int) (r : ByteArray) (g : Int) (fr st : Bool) (w : World) (hL : L.size ≤ maxLen) (hW : W.size ≤ maxLen) (hr : r.size ≤ maxLen) (h0 : L.size ≤ 3000) (h1 : W.size ≤ 3000) (h : ¬ (0 ≤ enc ∧ enc ≤ 7)) :
    Calls Tryz.prog 16 #[.agg #[.string L, .int .i64 enc, .int .i64 why, .string W, .int .i64 e, .string r, .int .i64 g, .bool fr, .bool st]] w fun e' w' => e' = .returned (.int .i64 (chkF L enc why W e r (g, fr, st))) ∧ Below w.heap.size w w' := by
  have HR : Hid (chkF L enc why W e r (g, fr, st) = 6) := hide (by
    unfold chkF Fr.chk
    simp only
    rw [if_neg (by omega), if_pos h])
  unfold maxLen at hL hW hr
  have HBe := hide (fun w => between_any enc 0 7 w)
  rw [show (decide ((0 : Int) ≤ enc) && decide (enc ≤ 7)) = false from by simp; omega] at HBe
  clear h
  go_enter Tryz.func16, Tryz.ntmps16
  go_wp2_with fail
  refine (unhide HBe _).mono ?_
  rintro e' w1 ⟨rfl, hw⟩
  replace hw := hw.symm
  subst hw
  go_wp2_with fail
  go_ret
  exact ⟨ret_int (unhide HR).symm, (Below.refl _ _).alloc (Nat.le_refl _) _⟩
set_option maxHeartbeats 1600000 in
set_option maxRecDepth 100000 in
theorem cf_why (L : ByteArray) (enc why : Int) (W : ByteArray) (e : Int) (r : ByteArray) (g : Int) (fr st : Bool) (w : World) (hL : L.size ≤ maxLen) (hW : W.size ≤ maxLen) (hr : r.size ≤ maxLen) (h0 : L.size ≤ 3000) (h1 : W.size ≤ 3000) (h2 : 0 ≤ enc ∧ enc ≤ 7) (h : ¬ (0 ≤ why ∧ why ≤ 4)) :
    Calls Tryz.prog 16 #[.agg #[.string L, .int .i64 enc, .int .i64 why, .string W, .int .i64 e, .string r, .int .i64 g, .bool fr, .bool st]] w fun e' w' => e' = .returned (.int .i64 (chkF L enc why W e r (g, fr, st))) ∧ Below w.heap.size w w' := by
  have HR : Hid (chkF L enc why W e r (g, fr, st) = 4) := hide (by
    unfold chkF Fr.chk
    simp only
    rw [if_neg (by omega), if_neg (fun q => q h2), if_pos (.inl h)])
  unfold maxLen at hL hW hr
  have HBe := hide (fun w => between_any enc 0 7 w)
  rw [decide_eq_true (show (0 : Int) ≤ enc from by omega), decide_eq_true (show enc ≤ 7 from by omega)] at HBe
  have HBw := hide (fun w => between_any why 0 4 w)
  rw [show (decide ((0 : Int) ≤ why) && decide (why ≤ 4)) = false from by simp; omega] at HBw
  clear h h2
  go_enter Tryz.func16, Tryz.ntmps16
  go_wp2_with fail
  refine (unhide HBe _).mono ?_
  rintro e' w1 ⟨rfl, hw⟩
  replace hw := hw.symm
  subst hw
  go_wp2_with fail
  refine (unhide HBw _).mono ?_
  rintro e' w1 ⟨rfl, hw⟩
  replace hw := hw.symm
  subst hw
  go_wp2_with fail
  go_ret
  exact ⟨ret_int (unhide HR).symm, (Below.refl _ _).alloc (Nat.le_refl _) _⟩
set_option maxHeartbeats 1600000 in
set_option maxRecDepth 100000 in
theorem cf_w0 (L : ByteArray) (enc why : Int) (W : ByteArray) (e : Int) (r : ByteArray) (g : Int) (fr st : Bool) (w : World) (hL : L.size ≤ maxLen) (hW : W.size ≤ maxLen) (hr : r.size ≤ maxLen) (h0 : L.size ≤ 3000) (h1 : W.size ≤ 3000) (h2 : 0 ≤ enc ∧ enc ≤ 7) (h3 : why = 0) (h : enc ≠ 0) :
    Calls Tryz.prog 16 #[.agg #[.string L, .int .i64 enc, .int .i64 why, .string W, .int .i64 e, .string r, .int .i64 g, .bool fr, .bool st]] w fun e' w' => e' = .returned (.int .i64 (chkF L enc why W e r (g, fr, st))) ∧ Below w.heap.size w w' := by
  have HR : Hid (chkF L enc why W e r (g, fr, st) = 4) := hide (by
    unfold chkF Fr.chk
    simp only
    rw [if_neg (by omega), if_neg (fun q => q h2), if_pos (.inr (.inl ⟨h3, h⟩))])
  unfold maxLen at hL hW hr
  have HBe := hide (fun w => between_any enc 0 7 w)
  rw [decide_eq_true (show (0 : Int) ≤ enc from by omega), decide_eq_true (show enc ≤ 7 from by omega)] at HBe
  subst h3
  have HBw := hide (fun w => between_any 0 0 4 w)
  rw [show (decide ((0 : Int) ≤ 0) && decide ((0 : Int) ≤ 4)) = true from rfl] at HBw
  have hne : (enc != 0) = true := bne_iff_ne.2 h
  clear h h2
  go_enter Tryz.func16, Tryz.ntmps16
  go_wp2_with fail
  refine (unhide HBe _).mono ?_
  rintro e' w1 ⟨rfl, hw⟩
  replace hw := hw.symm
  subst hw
  go_wp2_with fail
  refine (unhide HBw _).mono ?_
  rintro e' w1 ⟨rfl, hw⟩
  replace hw := hw.symm
  subst hw
  go_wp2_with fail
  go_ret
  exact ⟨ret_int (unhide HR).symm, (Below.refl _ _).alloc (Nat.le_refl _) _⟩
set_option maxHeartbeats 1600000 in
set_option maxRecDepth 100000 in
theorem cf_w1 (L : ByteArray) (enc why : Int) (W : ByteArray) (e : Int) (r : ByteArray) (g : Int) (fr st : Bool) (w : World) (hL : L.size ≤ maxLen) (hW : W.size ≤ maxLen) (hr : r.size ≤ maxLen) (h0 : L.size ≤ 3000) (h1 : W.size ≤ 3000) (h2 : 0 ≤ enc ∧ enc ≤ 7) (hy : 0 ≤ why ∧ why ≤ 4) (h3 : why ≠ 0) (h : enc = 0) :
    Calls Tryz.prog 16 #[.agg #[.string L, .int .i64 enc, .int .i64 why, .string W, .int .i64 e, .string r, .int .i64 g, .bool fr, .bool st]] w fun e' w' => e' = .returned (.int .i64 (chkF L enc why W e r (g, fr, st))) ∧ Below w.heap.size w w' := by
  have HR : Hid (chkF L enc why W e r (g, fr, st) = 4) := hide (by
    unfold chkF Fr.chk
    simp only
    rw [if_neg (by omega), if_neg (fun q => q h2), if_pos (.inr (.inr ⟨h3, h⟩))])
  unfold maxLen at hL hW hr
  have HBe := hide (fun w => between_any enc 0 7 w)
  rw [decide_eq_true (show (0 : Int) ≤ enc from by omega), decide_eq_true (show enc ≤ 7 from by omega)] at HBe
  have HBw := hide (fun w => between_any why 0 4 w)
  rw [decide_eq_true (show (0 : Int) ≤ why from by omega), decide_eq_true (show why ≤ 4 from by omega)] at HBw
  have hne : (why != 0) = true := bne_iff_ne.2 h3
  have hne0 : (why == 0) = false := beq_eq_false_iff_ne.2 h3
  subst h
  clear h2 hy h3
  go_enter Tryz.func16, Tryz.ntmps16
  go_wp2_with fail
  refine (unhide HBe _).mono ?_
  rintro e' w1 ⟨rfl, hw⟩
  replace hw := hw.symm
  subst hw
  go_wp2_with fail
  refine (unhide HBw _).mono ?_
  rintro e' w1 ⟨rfl, hw⟩
  replace hw := hw.symm
  subst hw
  go_wp2_with fail
  go_ret
  exact ⟨ret_int (unhide HR).symm, (Below.refl _ _).alloc (Nat.le_refl _) _⟩
set_option maxHeartbeats 1600000 in
set_option maxRecDepth 100000 in
theorem cf_s1 (L : ByteArray) (enc why : Int) (W : ByteArray) (e : Int) (r : ByteArray) (g : Int) (fr st : Bool) (w : World) (hL : L.size ≤ maxLen) (hW : W.size ≤ maxLen) (hr : r.size ≤ maxLen) (h0 : L.size ≤ 3000) (h1 : W.size ≤ 3000) (h3 : why = 0) (h4 : enc = 0) (h : ¬ (e = 0 ∧ r.size = 0 ∧ (g, fr, st) = M.st0)) :
    Calls Tryz.prog 16 #[.agg #[.string L, .int .i64 enc, .int .i64 why, .string W, .int .i64 e, .string r, .int .i64 g, .bool fr, .bool st]] w fun e' w' => e' = .returned (.int .i64 (chkF L enc why W e r (g, fr, st))) ∧ Below w.heap.size w w' := by
  have HR : Hid (chkF L enc why W e r (g, fr, st) = 1) := hide (by
    unfold chkF Fr.chk
    simp only
    rw [if_neg (by omega), if_neg (by omega), if_neg (by omega), if_pos (.inl ⟨h3, h⟩)])
  unfold maxLen at hL hW hr
  subst h3
  subst h4
  have HBe := hide (fun w => between_any 0 0 7 w)
  rw [show (decide ((0 : Int) ≤ 0) && decide ((0 : Int) ≤ 7)) = true from rfl] at HBe
  have HBw := hide (fun w => between_any 0 0 4 w)
  rw [show (decide ((0 : Int) ≤ 0) && decide ((0 : Int) ≤ 4)) = true from rfl] at HBw
  have hre := empty_eq r
  have HH := hide h
  clear h
  go_enter Tryz.func16, Tryz.ntmps16
  go_wp2_with fail
  refine (unhide HBe _).mono ?_
  rintro e' w1 ⟨rfl, hw⟩
  replace hw := hw.symm
  subst hw
  go_wp2_with fail
  refine (unhide HBw _).mono ?_
  rintro e' w1 ⟨rfl, hw⟩
  replace hw := hw.symm
  subst hw
  go_wp2_with fail
  all_goals first
    | (go_ret; exact ⟨ret_int (unhide HR).symm, balloc _ _⟩)
    | (exfalso
       apply unhide HH
       have hr' : r = ByteArray.empty := by assumption
       have he' : e = 0 := by assumption
       have hg' : g = 0 := by assumption
       have hf' : ¬ fr = true := by assumption
       have hs' : ¬ st = true := by assumption
       refine ⟨he', by rw [hr']; rfl, ?_⟩
       rw [hg', show fr = false from by simpa using hf', show st = false from by simpa using hs']
       rfl)
set_option maxHeartbeats 1600000 in
set_option maxRecDepth 100000 in
theorem cf_s2 (L W : ByteArray) (w : World) (h0 : L.size ≤ 3000) (h1 : W.size ≤ 3000) :
    Calls Tryz.prog 16 #[.agg #[.string L, .int .i64 0, .int .i64 0, .string W, .int .i64 0, .string ⟨#[]⟩, .int .i64 0, .bool false, .bool false]] w fun e' w' => e' = .returned (.int .i64 (chkF L 0 0 W 0 ⟨#[]⟩ M.st0)) ∧ Below w.heap.size w w' := by
  have z : (⟨#[]⟩ : ByteArray).size = 0 := rfl
  have HR : Hid (chkF L 0 0 W 0 ⟨#[]⟩ M.st0 = if enF L (bl W) = true then 4 else 0) := hide (by
    unfold chkF Fr.chk
    simp only
    rw [if_neg (by omega), if_neg (by omega), if_neg (by omega), if_neg (by rw [z]; rintro (h | h); exact h.2 ⟨by trivial, by trivial, by trivial⟩; exact h.1 (by trivial))]
    rfl)
  have HBe := hide (fun w => between_any 0 0 7 w)
  rw [show (decide ((0 : Int) ≤ 0) && decide ((0 : Int) ≤ 7)) = true from rfl] at HBe
  have HBw := hide (fun w => between_any 0 0 4 w)
  rw [show (decide ((0 : Int) ≤ 0) && decide ((0 : Int) ≤ 4)) = true from rfl] at HBw
  have HEn := hide (fun w => isEnough_any L W w h0 (by unfold maxLen; omega))
  clear z
  generalize enF L (bl W) = q at *
  go_enter Tryz.func16, Tryz.ntmps16
  go_wp2_with fail
  refine (unhide HBe _).mono ?_
  rintro e' w1 ⟨rfl, hw⟩
  replace hw := hw.symm
  subst hw
  go_wp2_with fail
  refine (unhide HBw _).mono ?_
  rintro e' w1 ⟨rfl, hw⟩
  replace hw := hw.symm
  subst hw
  go_wp2_with fail
  refine (unhide HEn _).mono ?_
  rintro e' w2 ⟨rfl, hb2⟩
  have HB2 := hide (bstep (balloc _ _) hb2)
  clear hb2
  cases q
  · go_wp2_with fail
    go_ret
    exact ⟨ret_int (by rw [unhide HR]; rfl), unhide HB2⟩
  · go_wp2_with fail
    go_ret
    exact ⟨ret_int (by rw [unhide HR]; rfl), unhide HB2⟩
set_option maxHeartbeats 1600000 in
set_option maxRecDepth 100000 in
theorem cf_n1 (L : ByteArray) (enc why : Int) (W : ByteArray) (e : Int) (r : ByteArray) (g : Int) (fr st : Bool) (w : World) (hL : L.size ≤ maxLen) (hW : W.size ≤ maxLen) (hr : r.size ≤ maxLen) (h0 : L.size ≤ 3000) (h1 : W.size ≤ 3000) (h2 : 0 ≤ enc ∧ enc ≤ 7) (hy : 0 ≤ why ∧ why ≤ 4) (h3 : why ≠ 0) (h4 : enc ≠ 0) (h : W.size ≠ 0) :
    Calls Tryz.prog 16 #[.agg #[.string L, .int .i64 enc, .int .i64 why, .string W, .int .i64 e, .string r, .int .i64 g, .bool fr, .bool st]] w fun e' w' => e' = .returned (.int .i64 (chkF L enc why W e r (g, fr, st))) ∧ Below w.heap.size w w' := by
  have HR : Hid (chkF L enc why W e r (g, fr, st) = 1) := hide (by
    unfold chkF Fr.chk
    simp only
    rw [if_neg (by omega), if_neg (by omega), if_neg (by omega), if_pos (.inr ⟨h3, .inl h⟩)])
  unfold maxLen at hL hW hr
  have HBe := hide (fun w => between_any enc 0 7 w)
  rw [decide_eq_true (show (0 : Int) ≤ enc from by omega), decide_eq_true (show enc ≤ 7 from by omega)] at HBe
  have HBw := hide (fun w => between_any why 0 4 w)
  rw [decide_eq_true (show (0 : Int) ≤ why from by omega), decide_eq_true (show why ≤ 4 from by omega)] at HBw
  have hne : (why != 0) = true := bne_iff_ne.2 h3
  have hne0 : (why == 0) = false := beq_eq_false_iff_ne.2 h3
  have hee : (enc == 0) = false := beq_eq_false_iff_ne.2 h4
  have hwe := empty_eq W
  rw [decide_eq_false h] at hwe
  clear h2 hy h3 h4 h
  go_enter Tryz.func16, Tryz.ntmps16
  go_wp2_with fail
  refine (unhide HBe _).mono ?_
  rintro e' w1 ⟨rfl, hw⟩
  replace hw := hw.symm
  subst hw
  go_wp2_with fail
  refine (unhide HBw _).mono ?_
  rintro e' w1 ⟨rfl, hw⟩
  replace hw := hw.symm
  subst hw
  go_wp2_with fail
  go_ret
  exact ⟨ret_int (unhide HR).symm, (Below.refl _ _).alloc (Nat.le_refl _) _⟩
set_option maxHeartbeats 1600000 in
set_option maxRecDepth 100000 in
theorem cf_n2 (L : ByteArray) (enc why : Int) (W : ByteArray) (e : Int) (r : ByteArray) (g : Int) (fr st : Bool) (w : World) (hL : L.size ≤ maxLen) (hW : W.size ≤ maxLen) (hr : r.size ≤ maxLen) (h0 : L.size ≤ 3000) (h1 : W.size ≤ 3000) (h2 : 0 ≤ enc ∧ enc ≤ 7) (hy : 0 ≤ why ∧ why ≤ 4) (h3 : why ≠ 0) (h4 : enc ≠ 0) (h5 : W.size = 0) (h : e ≠ enc) :
    Calls Tryz.prog 16 #[.agg #[.string L, .int .i64 enc, .int .i64 why, .string W, .int .i64 e, .string r, .int .i64 g, .bool fr, .bool st]] w fun e' w' => e' = .returned (.int .i64 (chkF L enc why W e r (g, fr, st))) ∧ Below w.heap.size w w' := by
  have HR : Hid (chkF L enc why W e r (g, fr, st) = 1) := hide (by
    unfold chkF Fr.chk
    simp only
    rw [if_neg (by omega), if_neg (by omega), if_neg (by omega), if_pos (.inr ⟨h3, .inr h⟩)])
  unfold maxLen at hL hW hr
  have HBe := hide (fun w => between_any enc 0 7 w)
  rw [decide_eq_true (show (0 : Int) ≤ enc from by omega), decide_eq_true (show enc ≤ 7 from by omega)] at HBe
  have HBw := hide (fun w => between_any why 0 4 w)
  rw [decide_eq_true (show (0 : Int) ≤ why from by omega), decide_eq_true (show why ≤ 4 from by omega)] at HBw
  have hne : (why != 0) = true := bne_iff_ne.2 h3
  have hne0 : (why == 0) = false := beq_eq_false_iff_ne.2 h3
  have hee : (enc == 0) = false := beq_eq_false_iff_ne.2 h4
  have hwe := empty_eq W
  rw [decide_eq_true h5] at hwe
  have hen : (e != enc) = true := bne_iff_ne.2 h
  clear h2 hy h3 h4 h
  go_enter Tryz.func16, Tryz.ntmps16
  go_wp2_with fail
  refine (unhide HBe _).mono ?_
  rintro e' w1 ⟨rfl, hw⟩
  replace hw := hw.symm
  subst hw
  go_wp2_with fail
  refine (unhide HBw _).mono ?_
  rintro e' w1 ⟨rfl, hw⟩
  replace hw := hw.symm
  subst hw
  go_wp2_with fail
  go_ret
  exact ⟨ret_int (unhide HR).symm, (Below.refl _ _).alloc (Nat.le_refl _) _⟩
set_option maxHeartbeats 1600000 in
set_option maxRecDepth 100000 in
theorem cf_n3 (L : ByteArray) (enc why : Int) (W : ByteArray) (e : Int) (r : ByteArray) (g : Int) (fr st : Bool) (w : World) (hL : L.size ≤ maxLen) (hW : W.size ≤ maxLen) (hr : r.size ≤ maxLen) (h0 : L.size ≤ 3000) (h1 : W.size ≤ 3000) (h2 : 0 ≤ enc ∧ enc ≤ 7) (hy : 0 ≤ why ∧ why ≤ 4) (h3 : why ≠ 0) (h4 : enc ≠ 0) (h5 : W.size = 0) (h : e = enc) :
    Calls Tryz.prog 16 #[.agg #[.string L, .int .i64 enc, .int .i64 why, .string W, .int .i64 e, .string r, .int .i64 g, .bool fr, .bool st]] w fun e' w' => e' = .returned (.int .i64 (chkF L enc why W e r (g, fr, st))) ∧ Below w.heap.size w w' := by
  have HR : Hid (chkF L enc why W e r (g, fr, st) = chk e r (g, fr, st)) := hide (by
    unfold chkF Fr.chk
    simp only
    rw [if_neg (by omega), if_neg (by omega), if_neg (by omega), if_neg (by rintro (q | q); exact h3 q.1; exact q.2.elim (fun z => z h5) (fun z => z h)), if_neg h3])
  have HC := hide (fun w => checkState_any e r (g, fr, st) w hr)
  unfold sv at HC
  simp only at HC
  rw [← unhide HR] at HC
  generalize chkF L enc why W e r (g, fr, st) = K at *
  unfold maxLen at hL hW hr
  have HBe := hide (fun w => between_any enc 0 7 w)
  rw [decide_eq_true (show (0 : Int) ≤ enc from by omega), decide_eq_true (show enc ≤ 7 from by omega)] at HBe
  have HBw := hide (fun w => between_any why 0 4 w)
  rw [decide_eq_true (show (0 : Int) ≤ why from by omega), decide_eq_true (show why ≤ 4 from by omega)] at HBw
  have hne : (why != 0) = true := bne_iff_ne.2 h3
  have hne0 : (why == 0) = false := beq_eq_false_iff_ne.2 h3
  have hee : (enc == 0) = false := beq_eq_false_iff_ne.2 h4
  have hwe := empty_eq W
  rw [decide_eq_true h5] at hwe
  have hen : (e != enc) = false := by rw [h]; simp
  clear h2 hy h3 h4 h
  go_enter Tryz.func16, Tryz.ntmps16
  go_wp2_with fail
  refine (unhide HBe _).mono ?_
  rintro e' w1 ⟨rfl, hw⟩
  replace hw := hw.symm
  subst hw
  go_wp2_with fail
  refine (unhide HBw _).mono ?_
  rintro e' w1 ⟨rfl, hw⟩
  replace hw := hw.symm
  subst hw
  go_wp2_with fail
  refine (unhide HC _).mono ?_
  rintro e' w2 ⟨rfl, hb2⟩
  have HB2 := hide (bstep (balloc _ _) hb2)
  clear hb2
  go_wp2_with fail
  go_ret
  exact ⟨rfl, unhide HB2⟩
theorem checkFront_any (f : Fr) (w : World) (hL : f.L.size ≤ maxLen) (hW : f.W.size ≤ maxLen) (hr : f.r.size ≤ maxLen) :
    Calls Tryz.prog 16 #[f.v] w fun e' w' => e' = .returned (.int .i64 f.chk) ∧ Below w.heap.size w w' := by
  obtain ⟨L, enc, why, W, e, r, g, fr, st⟩ := f
  show Calls Tryz.prog 16 #[.agg #[.string L, .int .i64 enc, .int .i64 why, .string W, .int .i64 e, .string r, .int .i64 g, .bool fr, .bool st]] w fun e' w' => e' = .returned (.int .i64 (chkF L enc why W e r (g, fr, st))) ∧ Below w.heap.size w w'
  simp only at hL hW hr
  by_cases h0 : 3000 < L.size
  · exact cf_L L enc why W e r g fr st w hL hW hr h0
  by_cases h1 : 3000 < W.size
  · exact cf_W L enc why W e r g fr st w hL hW hr (by omega) h1
  by_cases h2 : 0 ≤ enc ∧ enc ≤ 7
  case neg => exact cf_enc L enc why W e r g fr st w hL hW hr (by omega) (by omega) h2
  by_cases hy : 0 ≤ why ∧ why ≤ 4
  case neg => exact cf_why L enc why W e r g fr st w hL hW hr (by omega) (by omega) h2 hy
  by_cases h3 : why = 0
  · by_cases h4 : enc = 0
    case neg => exact cf_w0 L enc why W e r g fr st w hL hW hr (by omega) (by omega) h2 h3 h4
    by_cases h5 : e = 0 ∧ r.size = 0 ∧ (g, fr, st) = M.st0
    case neg => exact cf_s1 L enc why W e r g fr st w hL hW hr (by omega) (by omega) h3 h4 h5
    obtain ⟨rfl, hr0, ht⟩ := h5
    have := size0 hr0
    subst this h3 h4
    obtain ⟨rfl, rfl, rfl⟩ : g = 0 ∧ fr = false ∧ st = false := by simpa [M.st0] using ht
    exact cf_s2 L W w (by omega) (by omega)
  · by_cases h4 : enc = 0
    · exact cf_w1 L enc why W e r g fr st w hL hW hr (by omega) (by omega) h2 hy h3 h4
    by_cases h5 : W.size = 0
    case neg => exact cf_n1 L enc why W e r g fr st w hL hW hr (by omega) (by omega) h2 hy h3 h4 h5
    by_cases h6 : e = enc
    case neg => exact cf_n2 L enc why W e r g fr st w hL hW hr (by omega) (by omega) h2 hy h3 h4 h5 h6
    exact cf_n3 L enc why W e r g fr st w hL hW hr (by omega) (by omega) h2 hy h3 h4 h5 h6
end Go.Proofs.YtaiinjfnkmidbaaGreatDoor

namespace Go.Proofs.YtaiinjfnkmidbaaGreatDoor
open Go.RowKit
set_option linter.unusedVariables false

set_option maxHeartbeats 3200000 in
set_option maxRecDepth 100000 in
theorem fo_wait (L W p : ByteArray) (w : World) (hL : L.size ≤ 3000) (hs : W.size + p.size ≤ 3300) (hE : enF L (bl W ++ bl p) = false) :
    Calls Tryz.prog 18 #[.agg #[.string L, .int .i64 0, .int .i64 0, .string W, .int .i64 0, .string ⟨#[]⟩, .int .i64 0, .bool false, .bool false], .string p, .bool false] w fun e w' => e = .returned (.tuple #[.slice none 0 0, .agg #[.string L, .int .i64 0, .int .i64 0, .string (W ++ p), .int .i64 0, .string ⟨#[]⟩, .int .i64 0, .bool false, .bool false]]) ∧ Below w.heap.size w w' := by
  obtain ⟨s, hcat⟩ : ∃ s, W ++ p = s := ⟨_, rfl⟩
  have hsz : s.size ≤ 3300 := by rw [← hcat, ByteArray.size_append]; exact hs
  have HEn := hide (fun w => isEnough_any L s w hL (by unfold maxLen; omega))
  rw [← hcat, bl_app, hE, hcat] at HEn
  rw [hcat]
  have hcat2 : W.append p = s := hcat
  clear hE
  go_enter Tryz.func18, Tryz.ntmps18
  go_wp2_with fail
  refine (unhide HEn _).mono ?_
  rintro e' w1 ⟨rfl, hb⟩
  have HB : Hid (Below w.heap.size w w1) := hide (bstep (bstep (balloc _ _) (balloc _ _)) hb)
  have H0 : Hid (Fb w.heap.size ⟨L, 0, 0, W, 0, ⟨#[]⟩, M.st0⟩ w1) := hide (((Fb.new w ⟨L, 0, 0, W, 0, ⟨#[]⟩, M.st0⟩).alloc _).on hb)
  have H1 : Hid (Fb (w.heap.size + 1) (Fr.new ⟨#[]⟩) w1) := hide ((Fb.new2 w _).on hb)
  clear hb HEn hcat hcat2
  obtain ⟨a0, a1, a2, a3, a4, a5, a6, a7, a8, x0, x1, x2, x3, x4, x5, x6, x7, x8⟩ := unhide H0
  have hl0 := (unhide H0).lt
  go_wp2_with fail
  have hX0 := (unhide H0).set3 s
  have hX1 := (unhide H1).far ⟨w.heap.size, 3, none⟩ (.string s) (by simp)
  have HY := hide ((unhide HB).setCell (p := ⟨w.heap.size, 3, none⟩) (Nat.le_refl _) (.string s))
  clear a0 a1 a2 a3 a4 a5 a6 a7 a8 x0 x1 x2 x3 x4 x5 x6 x7 x8 hl0 H0 H1 HB
  generalize w1.setCell ⟨w.heap.size, 3, none⟩ (.string s) = X at *
  have hlx := hX0.lt
  have hly := hX1.lt
  obtain ⟨a0, a1, a2, a3, a4, a5, a6, a7, a8, -, -, -, -, -, -, -, -, -⟩ := hX0
  obtain ⟨b0, b1, b2, b3, b4, b5, b6, b7, b8, y0, y1, y2, y3, y4, y5, y6, y7, y8⟩ := hX1
  dsimp only [Fr.new, M.st0] at a0 a1 a2 a3 a4 a5 a6 a7 a8 b0 b1 b2 b3 b4 b5 b6 b7 b8
  go_region
  all_goals
    go_wp2_with fail
    refine bodyPost_ret (v := .tuple #[.slice none 0 0, .agg #[.string L, .int .i64 0, .int .i64 0, .string s, .int .i64 0, .string ⟨#[]⟩, .int .i64 0, .bool false, .bool false]]) (by simp [results, Tryz.results18, go_sem, b0, b1, b2, b3, b4, b5, b6, b7, b8]) rfl ⟨rfl, ?_⟩
    exact b_drew (bput9 (B := w.heap.size + 1) (unhide HY) (by omega) ⟨L, 0, 0, s, 0, ⟨#[]⟩, M.st0⟩)
-- by program
/-- What FrontOf answers. -/
def FoR (f : Fr) (p : ByteArray) (last : Bool) (w : World) (e' : Ending) (w' : World) : Prop :=
  ∃ v, e' = .returned (.tuple #[v, (f.nxt p last).v]) ∧ w'.ownsRow w.heap.size 3 1 v (f.outs p last).length ((f.outs p last).map (Value.int .i64)) ∧ Below w.heap.size w w'
set_option maxHeartbeats 3200000 in
set_option maxRecDepth 100000 in
theorem fo_on_false (L : ByteArray) (enc why e : Int) (r : ByteArray) (g : Int) (fr st : Bool) (p : ByteArray) (w : World) (hy : why ≠ 0) (he : 1 ≤ e ∧ e ≤ 7) (hk : M.Ok e (g, fr, st)) (hs : r.size + p.size ≤ 3300) :
    Calls Tryz.prog 18 #[.agg #[.string L, .int .i64 enc, .int .i64 why, .string ⟨#[]⟩, .int .i64 e, .string r, .int .i64 g, .bool fr, .bool st], .string p, .bool false] w fun e' w' => FoR ⟨L, enc, why, ⟨#[]⟩, e, r, (g, fr, st)⟩ p false w e' w' := by
  have hne : (why == 0) = false := beq_eq_false_iff_ne.2 hy
  have HYy := hide hy
  have HF := hide (fun w => feedOf_any e r (g, fr, st) p false w he hk hs)
  have HX0 : Hid (Fb w.heap.size ⟨L, enc, why, ⟨#[]⟩, e, r, (g, fr, st)⟩ ((w.alloc (.cells #[.string L, .int .i64 enc, .int .i64 why, .string ⟨#[]⟩, .int .i64 e, .string r, .int .i64 g, .bool fr, .bool st] 25)).alloc (.cells #[.string ⟨#[]⟩, .int .i64 0, .int .i64 0, .string ⟨#[]⟩, .int .i64 0, .string ⟨#[]⟩, .int .i64 0, .bool false, .bool false] 25))) := hide ((Fb.new w ⟨L, enc, why, ⟨#[]⟩, e, r, (g, fr, st)⟩).alloc _)
  have HX1 := hide (Fb.new2 w (.cells #[.string L, .int .i64 enc, .int .i64 why, .string ⟨#[]⟩, .int .i64 e, .string r, .int .i64 g, .bool fr, .bool st] 25))
  have HY := hide (bstep (balloc w (.cells #[.string L, .int .i64 enc, .int .i64 why, .string ⟨#[]⟩, .int .i64 e, .string r, .int .i64 g, .bool fr, .bool st] 25)) (balloc _ (.cells #[.string ⟨#[]⟩, .int .i64 0, .int .i64 0, .string ⟨#[]⟩, .int .i64 0, .string ⟨#[]⟩, .int .i64 0, .bool false, .bool false] 25)))
  unfold sv at HF
  dsimp only at HF
  clear hy
  go_enter Tryz.func18, Tryz.ntmps18
  go_wp2_with fail
  refine (unhide HF _).mono ?_
  rintro e' X1 ⟨v, r', t', Lo, rfl, hI, hb, k1, k2⟩
  obtain ⟨av, cv, hsv⟩ := owns_shape hI
  subst hsv
  have HP0 := hide ((unhide HX0).on hb)
  have HP1 := hide ((unhide HX1).on hb)
  have HPY := hide (bstep (unhide HY) hb)
  have hzx := (unhide HX1).lt
  have hzp := (unhide HP1).lt
  have HI := hide (owns_mono hI (show w.heap.size + 2 ≤ _ from by omega))
  have HK1 := hide k1
  have HK2 := hide k2
  obtain ⟨a0, a1, a2, a3, a4, a5, a6, a7, a8, x0, x1, x2, x3, x4, x5, x6, x7, x8⟩ := unhide HP0
  have hl0 := (unhide HP0).lt
  clear hI hb k1 k2 HF HX0 HX1 HY hzx
  unfold sv
  go_wp2_with fail
  have hX0 := ((unhide HP0).put5 e r' t').alloc (.cells #[.int .i64 e, .string r', .int .i64 t'.1, .bool t'.2.1, .bool t'.2.2] 23)
  have hX1 := ((unhide HP1).far5 (B := w.heap.size) (by omega) e r' t').alloc (.cells #[.int .i64 e, .string r', .int .i64 t'.1, .bool t'.2.1, .bool t'.2.2] 23)
  have HYY := hide ((bput5 (B := w.heap.size) (unhide HPY) (Nat.le_refl _) e r' t').alloc (by simp [World.setCell]; omega) (.cells #[.int .i64 e, .string r', .int .i64 t'.1, .bool t'.2.1, .bool t'.2.2] 23))
  have HOO := hide (owns_a (oput5 (B := w.heap.size) (unhide HI) (by omega) e r' t') (.cells #[.int .i64 e, .string r', .int .i64 t'.1, .bool t'.2.1, .bool t'.2.2] 23))
  clear a0 a1 a2 a3 a4 a5 a6 a7 a8 x0 x1 x2 x3 x4 x5 x6 x7 x8 hl0 HP0 HP1 HPY HI
  generalize ((((((X1.setCell ⟨w.heap.size, 4, none⟩ (.int .i64 e)).setCell ⟨w.heap.size, 5, none⟩ (.string r')).setCell ⟨w.heap.size, 6, none⟩ (.int .i64 t'.1)).setCell ⟨w.heap.size, 7, none⟩ (.bool t'.2.1)).setCell ⟨w.heap.size, 8, none⟩ (.bool t'.2.2)).alloc (.cells #[.int .i64 e, .string r', .int .i64 t'.1, .bool t'.2.1, .bool t'.2.2] 23)) = Z at *
  have hlx := hX0.lt
  have hly := hX1.lt
  obtain ⟨a0, a1, a2, a3, a4, a5, a6, a7, a8, -, -, -, -, -, -, -, -, -⟩ := hX0
  obtain ⟨b0, b1, b2, b3, b4, b5, b6, b7, b8, y0, y1, y2, y3, y4, y5, y6, y7, y8⟩ := hX1
  dsimp only [Fr.new, M.st0] at a0 a1 a2 a3 a4 a5 a6 a7 a8 b0 b1 b2 b3 b4 b5 b6 b7 b8
  go_region
  all_goals
    go_wp2_with fail
    refine bodyPost_ret (v := .tuple #[.slice av Lo.length cv, .agg #[.string L, .int .i64 enc, .int .i64 why, .string ⟨#[]⟩, .int .i64 e, .string r', .int .i64 t'.1, .bool t'.2.1, .bool t'.2.2]]) (by simp [results, Tryz.results18, go_sem, b0, b1, b2, b3, b4, b5, b6, b7, b8]) rfl ?_
    have HZ9 := bput9 (B := w.heap.size + 1) (unhide HYY) (by omega) ⟨L, enc, why, ⟨#[]⟩, e, r', t'⟩
    have HO9 := owns_mono (o_drew (oput9 (B := w.heap.size + 1) (unhide HOO) (by omega) ⟨L, enc, why, ⟨#[]⟩, e, r', t'⟩)) (show w.heap.size ≤ w.heap.size + 2 from by omega)
    obtain ⟨q1, q2, q3⟩ := unhide HK1 (by trivial)
    refine ⟨.slice av Lo.length cv, ?_, ?_, b_drew HZ9⟩
    · rw [nxt_on (f := ⟨L, enc, why, ⟨#[]⟩, e, r, (g, fr, st)⟩) (unhide HYy) q2 q3]; rfl
    · rw [outs_on (f := ⟨L, enc, why, ⟨#[]⟩, e, r, (g, fr, st)⟩) (unhide HYy), ← q1]; exact HO9
set_option maxHeartbeats 3200000 in
set_option maxRecDepth 100000 in
theorem fo_on_true (L : ByteArray) (enc why e : Int) (r : ByteArray) (g : Int) (fr st : Bool) (p : ByteArray) (w : World) (hy : why ≠ 0) (he : 1 ≤ e ∧ e ≤ 7) (hk : M.Ok e (g, fr, st)) (hs : r.size + p.size ≤ 3300) :
    Calls Tryz.prog 18 #[.agg #[.string L, .int .i64 enc, .int .i64 why, .string ⟨#[]⟩, .int .i64 e, .string r, .int .i64 g, .bool fr, .bool st], .string p, .bool true] w fun e' w' => FoR ⟨L, enc, why, ⟨#[]⟩, e, r, (g, fr, st)⟩ p true w e' w' := by
  have hne : (why == 0) = false := beq_eq_false_iff_ne.2 hy
  have HYy := hide hy
  have HF := hide (fun w => feedOf_any e r (g, fr, st) p true w he hk hs)
  have HX0 : Hid (Fb w.heap.size ⟨L, enc, why, ⟨#[]⟩, e, r, (g, fr, st)⟩ ((w.alloc (.cells #[.string L, .int .i64 enc, .int .i64 why, .string ⟨#[]⟩, .int .i64 e, .string r, .int .i64 g, .bool fr, .bool st] 25)).alloc (.cells #[.string ⟨#[]⟩, .int .i64 0, .int .i64 0, .string ⟨#[]⟩, .int .i64 0, .string ⟨#[]⟩, .int .i64 0, .bool false, .bool false] 25))) := hide ((Fb.new w ⟨L, enc, why, ⟨#[]⟩, e, r, (g, fr, st)⟩).alloc _)
  have HX1 := hide (Fb.new2 w (.cells #[.string L, .int .i64 enc, .int .i64 why, .string ⟨#[]⟩, .int .i64 e, .string r, .int .i64 g, .bool fr, .bool st] 25))
  have HY := hide (bstep (balloc w (.cells #[.string L, .int .i64 enc, .int .i64 why, .string ⟨#[]⟩, .int .i64 e, .string r, .int .i64 g, .bool fr, .bool st] 25)) (balloc _ (.cells #[.string ⟨#[]⟩, .int .i64 0, .int .i64 0, .string ⟨#[]⟩, .int .i64 0, .string ⟨#[]⟩, .int .i64 0, .bool false, .bool false] 25)))
  unfold sv at HF
  dsimp only at HF
  clear hy
  go_enter Tryz.func18, Tryz.ntmps18
  go_wp2_with fail
  refine (unhide HF _).mono ?_
  rintro e' X1 ⟨v, r', t', Lo, rfl, hI, hb, k1, k2⟩
  obtain ⟨av, cv, hsv⟩ := owns_shape hI
  subst hsv
  have HP0 := hide ((unhide HX0).on hb)
  have HP1 := hide ((unhide HX1).on hb)
  have HPY := hide (bstep (unhide HY) hb)
  have hzx := (unhide HX1).lt
  have hzp := (unhide HP1).lt
  have HI := hide (owns_mono hI (show w.heap.size + 2 ≤ _ from by omega))
  have HK1 := hide k1
  have HK2 := hide k2
  obtain ⟨a0, a1, a2, a3, a4, a5, a6, a7, a8, x0, x1, x2, x3, x4, x5, x6, x7, x8⟩ := unhide HP0
  have hl0 := (unhide HP0).lt
  clear hI hb k1 k2 HF HX0 HX1 HY hzx
  unfold sv
  go_wp2_with fail
  have hX0 := (((unhide HP0).put5 e r' t').put9 (Fr.new L)).alloc (.cells #[.int .i64 e, .string r', .int .i64 t'.1, .bool t'.2.1, .bool t'.2.2] 23)
  have hX1 := (((unhide HP1).far5 (B := w.heap.size) (by omega) e r' t').far9 (B := w.heap.size) (by omega) (Fr.new L)).alloc (.cells #[.int .i64 e, .string r', .int .i64 t'.1, .bool t'.2.1, .bool t'.2.2] 23)
  have HYY := hide ((bput9 (B := w.heap.size) (bput5 (B := w.heap.size) (unhide HPY) (Nat.le_refl _) e r' t') (Nat.le_refl _) (Fr.new L)).alloc (by simp [World.setCell]; omega) (.cells #[.int .i64 e, .string r', .int .i64 t'.1, .bool t'.2.1, .bool t'.2.2] 23))
  have HOO := hide (owns_a (oput9 (B := w.heap.size) (oput5 (B := w.heap.size) (unhide HI) (by omega) e r' t') (by omega) (Fr.new L)) (.cells #[.int .i64 e, .string r', .int .i64 t'.1, .bool t'.2.1, .bool t'.2.2] 23))
  clear a0 a1 a2 a3 a4 a5 a6 a7 a8 x0 x1 x2 x3 x4 x5 x6 x7 x8 hl0 HP0 HP1 HPY HI
  unfold Fr.new M.st0 at hX0 hX1 HYY HOO
  dsimp only at hX0 hX1 HYY HOO
  generalize (((((((((((((((X1.setCell ⟨w.heap.size, 4, none⟩ (.int .i64 e)).setCell ⟨w.heap.size, 5, none⟩ (.string r')).setCell ⟨w.heap.size, 6, none⟩ (.int .i64 t'.1)).setCell ⟨w.heap.size, 7, none⟩ (.bool t'.2.1)).setCell ⟨w.heap.size, 8, none⟩ (.bool t'.2.2)).setCell ⟨w.heap.size, 0, none⟩ (.string L)).setCell ⟨w.heap.size, 1, none⟩ (.int .i64 0)).setCell ⟨w.heap.size, 2, none⟩ (.int .i64 0)).setCell ⟨w.heap.size, 3, none⟩ (.string ⟨#[]⟩)).setCell ⟨w.heap.size, 4, none⟩ (.int .i64 0)).setCell ⟨w.heap.size, 5, none⟩ (.string ⟨#[]⟩)).setCell ⟨w.heap.size, 6, none⟩ (.int .i64 0)).setCell ⟨w.heap.size, 7, none⟩ (.bool false)).setCell ⟨w.heap.size, 8, none⟩ (.bool false)).alloc (.cells #[.int .i64 e, .string r', .int .i64 t'.1, .bool t'.2.1, .bool t'.2.2] 23)) = Z at *
  have hlx := hX0.lt
  have hly := hX1.lt
  obtain ⟨a0, a1, a2, a3, a4, a5, a6, a7, a8, -, -, -, -, -, -, -, -, -⟩ := hX0
  obtain ⟨b0, b1, b2, b3, b4, b5, b6, b7, b8, y0, y1, y2, y3, y4, y5, y6, y7, y8⟩ := hX1
  dsimp only [Fr.new, M.st0] at a0 a1 a2 a3 a4 a5 a6 a7 a8 b0 b1 b2 b3 b4 b5 b6 b7 b8
  go_region
  all_goals
    go_wp2_with fail
    refine bodyPost_ret (v := .tuple #[.slice av Lo.length cv, .agg #[.string L, .int .i64 0, .int .i64 0, .string ⟨#[]⟩, .int .i64 0, .string ⟨#[]⟩, .int .i64 0, .bool false, .bool false]]) (by simp [results, Tryz.results18, go_sem, b0, b1, b2, b3, b4, b5, b6, b7, b8]) rfl ?_
    have HZ9 := bput9 (B := w.heap.size + 1) (unhide HYY) (by omega) (Fr.new L)
    have HO9 := owns_mono (o_drew (oput9 (B := w.heap.size + 1) (unhide HOO) (by omega) (Fr.new L))) (show w.heap.size ≤ w.heap.size + 2 from by omega)
    obtain ⟨q1, q2, q3⟩ := unhide HK2 (by trivial)
    refine ⟨.slice av Lo.length cv, rfl, ?_, b_drew HZ9⟩
    rw [outs_end (f := ⟨L, enc, why, ⟨#[]⟩, e, r, (g, fr, st)⟩) (unhide HYy), ← q1]; exact HO9
set_option maxHeartbeats 3200000 in
set_option maxRecDepth 100000 in
theorem fo_got_false (L W p : ByteArray) (w : World) (hL : L.size ≤ 3000) (hs : W.size + p.size ≤ 3300) (hE : enF L (bl W ++ bl p) = true) :
    Calls Tryz.prog 18 #[.agg #[.string L, .int .i64 0, .int .i64 0, .string W, .int .i64 0, .string ⟨#[]⟩, .int .i64 0, .bool false, .bool false], .string p, .bool false] w fun e' w' => FoR ⟨L, 0, 0, W, 0, ⟨#[]⟩, M.st0⟩ p false w e' w' := by
  obtain ⟨s, hcat⟩ : ∃ s, W ++ p = s := ⟨_, rfl⟩
  have hsz : s.size ≤ 3300 := by rw [← hcat, ByteArray.size_append]; exact hs
  have HE := hide hE
  have HEn := hide (fun w => isEnough_any L s w hL (by unfold maxLen; omega))
  rw [← hcat, bl_app, hE, hcat] at HEn
  clear hE
  have HCh := hide (fun w => chooseOf_any L s w hL hsz)
  have hbd := chI_bd L (bl s)
  rw [bl_len] at hbd
  have HS : Hid (bl W ++ bl p = bl s) := hide (by rw [← hcat, bl_app])
  obtain ⟨n, y, m, HX⟩ : ∃ n y m, Hid (chI L (bl s) = (n, y, m)) := ⟨_, _, _, hide rfl⟩
  rw [unhide HX] at HCh hbd
  dsimp only at HCh hbd
  have HC : Hid (chI L (bl W ++ bl p) = (n, y, m)) := hide (by rw [unhide HS]; exact unhide HX)
  obtain ⟨he, hyy, hm0, hm3, hml⟩ := hbd
  obtain ⟨k, rfl⟩ : ∃ k : Nat, m = (k : Int) := ⟨m.toNat, by omega⟩
  have HQ : Hid (bl (s.extract k s.size) = (bl W ++ bl p).drop (k : Int).toNat) := hide (by rw [bl_extract, unhide HS, Int.toNat_natCast])
  have HF := hide (fun w => feedOf_any n ⟨#[]⟩ M.st0 (s.extract k s.size) false w he (M.Ok_st0 n) (by show 0 + _ ≤ _; simp; omega))
  unfold sv M.st0 at HF
  dsimp only at HF
  have hcat2 : W.append p = s := hcat
  clear HX HS
  go_enter Tryz.func18, Tryz.ntmps18
  go_wp2_with fail
  refine (unhide HEn _).mono ?_
  rintro e' w1 ⟨rfl, hb⟩
  have HB : Hid (Below w.heap.size w w1) := hide (bstep (bstep (balloc _ _) (balloc _ _)) hb)
  have H0 : Hid (Fb w.heap.size ⟨L, 0, 0, W, 0, ⟨#[]⟩, M.st0⟩ w1) := hide (((Fb.new w ⟨L, 0, 0, W, 0, ⟨#[]⟩, M.st0⟩).alloc _).on hb)
  have H1 : Hid (Fb (w.heap.size + 1) (Fr.new ⟨#[]⟩) w1) := hide ((Fb.new2 w _).on hb)
  clear hb HEn
  obtain ⟨a0, a1, a2, a3, a4, a5, a6, a7, a8, x0, x1, x2, x3, x4, x5, x6, x7, x8⟩ := unhide H0
  have hl0 := (unhide H0).lt
  go_wp2_with fail
  clear a0 a1 a2 a3 a4 a5 a6 a7 a8 x0 x1 x2 x3 x4 x5 x6 x7 x8 hl0
  refine (unhide HCh _).mono ?_
  rintro e' w2 ⟨rfl, hb⟩
  have HB2 := hide (bstep (unhide HB) hb)
  have H02 := hide ((unhide H0).on hb)
  have H12 := hide ((unhide H1).on hb)
  clear hb H0 H1 HB HCh
  obtain ⟨a0, a1, a2, a3, a4, a5, a6, a7, a8, x0, x1, x2, x3, x4, x5, x6, x7, x8⟩ := unhide H02
  have hl0 := (unhide H02).lt
  go_wp2_with fail
  have HX0 := hide ((((unhide H02).set1 n).set2 y).set3 ⟨#[]⟩ |>.put5 n ⟨#[]⟩ M.st0)
  have HX1 := hide (((((((((unhide H12).far ⟨w.heap.size, 1, none⟩ (.int .i64 n) (by simp)).far ⟨w.heap.size, 2, none⟩ (.int .i64 y) (by simp)).far ⟨w.heap.size, 3, none⟩ (.string ⟨#[]⟩) (by simp)).far ⟨w.heap.size, 4, none⟩ (.int .i64 n) (by simp)).far ⟨w.heap.size, 5, none⟩ (.string ⟨#[]⟩) (by simp)).far ⟨w.heap.size, 6, none⟩ (.int .i64 0) (by simp)).far ⟨w.heap.size, 7, none⟩ (.bool false) (by simp)).far ⟨w.heap.size, 8, none⟩ (.bool false) (by simp))
  have HY := hide (((((((((unhide HB2).setCell (p := ⟨w.heap.size, 1, none⟩) (Nat.le_refl _) (.int .i64 n)).setCell (p := ⟨w.heap.size, 2, none⟩) (Nat.le_refl _) (.int .i64 y)).setCell (p := ⟨w.heap.size, 3, none⟩) (Nat.le_refl _) (.string ⟨#[]⟩)).setCell (p := ⟨w.heap.size, 4, none⟩) (Nat.le_refl _) (.int .i64 n)).setCell (p := ⟨w.heap.size, 5, none⟩) (Nat.le_refl _) (.string ⟨#[]⟩)).setCell (p := ⟨w.heap.size, 6, none⟩) (Nat.le_refl _) (.int .i64 0)).setCell (p := ⟨w.heap.size, 7, none⟩) (Nat.le_refl _) (.bool false)).setCell (p := ⟨w.heap.size, 8, none⟩) (Nat.le_refl _) (.bool false))
  clear a0 a1 a2 a3 a4 a5 a6 a7 a8 x0 x1 x2 x3 x4 x5 x6 x7 x8 hl0 H02 H12 HB2
  unfold M.st0 at HX0
  dsimp only at HX0
  generalize ((((((((w2.setCell ⟨w.heap.size, 1, none⟩ (.int .i64 n)).setCell ⟨w.heap.size, 2, none⟩ (.int .i64 y)).setCell ⟨w.heap.size, 3, none⟩ (.string ⟨#[]⟩)).setCell ⟨w.heap.size, 4, none⟩ (.int .i64 n)).setCell ⟨w.heap.size, 5, none⟩ (.string ⟨#[]⟩)).setCell ⟨w.heap.size, 6, none⟩ (.int .i64 0)).setCell ⟨w.heap.size, 7, none⟩ (.bool false)).setCell ⟨w.heap.size, 8, none⟩ (.bool false)) = X at *
  refine (unhide HF _).mono ?_
  rintro e' X1 ⟨v, r', t', Lo, rfl, hI, hb, k1, k2⟩
  obtain ⟨av, cv, hsv⟩ := owns_shape hI
  subst hsv
  have HP0 := hide ((unhide HX0).on hb)
  have HP1 := hide ((unhide HX1).on hb)
  have HPY := hide (bstep (unhide HY) hb)
  have hzx := (unhide HX1).lt
  have hzp := (unhide HP1).lt
  have HI := hide (owns_mono hI (show w.heap.size + 2 ≤ _ from by omega))
  have HK1 := hide k1
  have HK2 := hide k2
  obtain ⟨a0, a1, a2, a3, a4, a5, a6, a7, a8, x0, x1, x2, x3, x4, x5, x6, x7, x8⟩ := unhide HP0
  have hl0 := (unhide HP0).lt
  clear hI hb k1 k2 HF HX0 HX1 HY hzx
  unfold sv
  go_wp2_with fail
  have hX0 := ((unhide HP0).put5 n r' t').alloc (.cells #[.int .i64 n, .string r', .int .i64 t'.1, .bool t'.2.1, .bool t'.2.2] 23)
  have hX1 := ((unhide HP1).far5 (B := w.heap.size) (by omega) n r' t').alloc (.cells #[.int .i64 n, .string r', .int .i64 t'.1, .bool t'.2.1, .bool t'.2.2] 23)
  have HYY := hide ((bput5 (B := w.heap.size) (unhide HPY) (Nat.le_refl _) n r' t').alloc (by simp [World.setCell]; omega) (.cells #[.int .i64 n, .string r', .int .i64 t'.1, .bool t'.2.1, .bool t'.2.2] 23))
  have HOO := hide (owns_a (oput5 (B := w.heap.size) (unhide HI) (by omega) n r' t') (.cells #[.int .i64 n, .string r', .int .i64 t'.1, .bool t'.2.1, .bool t'.2.2] 23))
  clear a0 a1 a2 a3 a4 a5 a6 a7 a8 x0 x1 x2 x3 x4 x5 x6 x7 x8 hl0 HP0 HP1 HPY HI
  generalize ((((((X1.setCell ⟨w.heap.size, 4, none⟩ (.int .i64 n)).setCell ⟨w.heap.size, 5, none⟩ (.string r')).setCell ⟨w.heap.size, 6, none⟩ (.int .i64 t'.1)).setCell ⟨w.heap.size, 7, none⟩ (.bool t'.2.1)).setCell ⟨w.heap.size, 8, none⟩ (.bool t'.2.2)).alloc (.cells #[.int .i64 n, .string r', .int .i64 t'.1, .bool t'.2.1, .bool t'.2.2] 23)) = Z at *
  have hlx := hX0.lt
  have hly := hX1.lt
  obtain ⟨a0, a1, a2, a3, a4, a5, a6, a7, a8, -, -, -, -, -, -, -, -, -⟩ := hX0
  obtain ⟨b0, b1, b2, b3, b4, b5, b6, b7, b8, y0, y1, y2, y3, y4, y5, y6, y7, y8⟩ := hX1
  dsimp only [Fr.new, M.st0] at a0 a1 a2 a3 a4 a5 a6 a7 a8 b0 b1 b2 b3 b4 b5 b6 b7 b8
  go_region
  all_goals
    go_wp2_with fail
    refine bodyPost_ret (v := .tuple #[.slice av Lo.length cv, .agg #[.string L, .int .i64 n, .int .i64 y, .string ⟨#[]⟩, .int .i64 n, .string r', .int .i64 t'.1, .bool t'.2.1, .bool t'.2.2]]) (by simp [results, Tryz.results18, go_sem, b0, b1, b2, b3, b4, b5, b6, b7, b8]) rfl ?_
    have HZ9 := bput9 (B := w.heap.size + 1) (unhide HYY) (by omega) ⟨L, n, y, ⟨#[]⟩, n, r', t'⟩
    have HO9 := owns_mono (o_drew (oput9 (B := w.heap.size + 1) (unhide HOO) (by omega) ⟨L, n, y, ⟨#[]⟩, n, r', t'⟩)) (show w.heap.size ≤ w.heap.size + 2 from by omega)
    obtain ⟨q1, q2, q3⟩ := unhide HK1 (by trivial)
    refine ⟨.slice av Lo.length cv, ?_, ?_, b_drew HZ9⟩
    · rw [nxt_got (unhide HE) (unhide HC) (unhide HQ) q2 q3]; rfl
    · rw [outs_got (unhide HE) (unhide HC) (unhide HQ), show (M.RE n M.st0 (bl ⟨#[]⟩ ++ bl (s.extract k s.size))).1 = Lo from q1.symm]; exact HO9
set_option maxHeartbeats 3200000 in
set_option maxRecDepth 100000 in
theorem fo_got_true (L W p : ByteArray) (w : World) (hL : L.size ≤ 3000) (hs : W.size + p.size ≤ 3300)  :
    Calls Tryz.prog 18 #[.agg #[.string L, .int .i64 0, .int .i64 0, .string W, .int .i64 0, .string ⟨#[]⟩, .int .i64 0, .bool false, .bool false], .string p, .bool true] w fun e' w' => FoR ⟨L, 0, 0, W, 0, ⟨#[]⟩, M.st0⟩ p true w e' w' := by
  obtain ⟨s, hcat⟩ : ∃ s, W ++ p = s := ⟨_, rfl⟩
  have hsz : s.size ≤ 3300 := by rw [← hcat, ByteArray.size_append]; exact hs
  have HCh := hide (fun w => chooseOf_any L s w hL hsz)
  have hbd := chI_bd L (bl s)
  rw [bl_len] at hbd
  have HS : Hid (bl W ++ bl p = bl s) := hide (by rw [← hcat, bl_app])
  obtain ⟨n, y, m, HX⟩ : ∃ n y m, Hid (chI L (bl s) = (n, y, m)) := ⟨_, _, _, hide rfl⟩
  rw [unhide HX] at HCh hbd
  dsimp only at HCh hbd
  have HC : Hid (chI L (bl W ++ bl p) = (n, y, m)) := hide (by rw [unhide HS]; exact unhide HX)
  obtain ⟨he, hyy, hm0, hm3, hml⟩ := hbd
  obtain ⟨k, rfl⟩ : ∃ k : Nat, m = (k : Int) := ⟨m.toNat, by omega⟩
  have HQ : Hid (bl (s.extract k s.size) = (bl W ++ bl p).drop (k : Int).toNat) := hide (by rw [bl_extract, unhide HS, Int.toNat_natCast])
  have HF := hide (fun w => feedOf_any n ⟨#[]⟩ M.st0 (s.extract k s.size) true w he (M.Ok_st0 n) (by show 0 + _ ≤ _; simp; omega))
  unfold sv M.st0 at HF
  dsimp only at HF
  have hcat2 : W.append p = s := hcat
  clear HX HS
  go_enter Tryz.func18, Tryz.ntmps18
  go_wp2_with fail
  refine (unhide HCh _).mono ?_
  rintro e' w2 ⟨rfl, hb⟩
  have HB2 : Hid (Below w.heap.size w w2) := hide (bstep (bstep (balloc _ _) (balloc _ _)) hb)
  have H02 : Hid (Fb w.heap.size ⟨L, 0, 0, W, 0, ⟨#[]⟩, M.st0⟩ w2) := hide (((Fb.new w ⟨L, 0, 0, W, 0, ⟨#[]⟩, M.st0⟩).alloc _).on hb)
  have H12 : Hid (Fb (w.heap.size + 1) (Fr.new ⟨#[]⟩) w2) := hide ((Fb.new2 w _).on hb)
  clear hb HCh
  obtain ⟨a0, a1, a2, a3, a4, a5, a6, a7, a8, x0, x1, x2, x3, x4, x5, x6, x7, x8⟩ := unhide H02
  have hl0 := (unhide H02).lt
  go_wp2_with fail
  have HX0 := hide ((((unhide H02).set1 n).set2 y).set3 ⟨#[]⟩ |>.put5 n ⟨#[]⟩ M.st0)
  have HX1 := hide (((((((((unhide H12).far ⟨w.heap.size, 1, none⟩ (.int .i64 n) (by simp)).far ⟨w.heap.size, 2, none⟩ (.int .i64 y) (by simp)).far ⟨w.heap.size, 3, none⟩ (.string ⟨#[]⟩) (by simp)).far ⟨w.heap.size, 4, none⟩ (.int .i64 n) (by simp)).far ⟨w.heap.size, 5, none⟩ (.string ⟨#[]⟩) (by simp)).far ⟨w.heap.size, 6, none⟩ (.int .i64 0) (by simp)).far ⟨w.heap.size, 7, none⟩ (.bool false) (by simp)).far ⟨w.heap.size, 8, none⟩ (.bool false) (by simp))
  have HY := hide (((((((((unhide HB2).setCell (p := ⟨w.heap.size, 1, none⟩) (Nat.le_refl _) (.int .i64 n)).setCell (p := ⟨w.heap.size, 2, none⟩) (Nat.le_refl _) (.int .i64 y)).setCell (p := ⟨w.heap.size, 3, none⟩) (Nat.le_refl _) (.string ⟨#[]⟩)).setCell (p := ⟨w.heap.size, 4, none⟩) (Nat.le_refl _) (.int .i64 n)).setCell (p := ⟨w.heap.size, 5, none⟩) (Nat.le_refl _) (.string ⟨#[]⟩)).setCell (p := ⟨w.heap.size, 6, none⟩) (Nat.le_refl _) (.int .i64 0)).setCell (p := ⟨w.heap.size, 7, none⟩) (Nat.le_refl _) (.bool false)).setCell (p := ⟨w.heap.size, 8, none⟩) (Nat.le_refl _) (.bool false))
  clear a0 a1 a2 a3 a4 a5 a6 a7 a8 x0 x1 x2 x3 x4 x5 x6 x7 x8 hl0 H02 H12 HB2
  unfold M.st0 at HX0
  dsimp only at HX0
  generalize ((((((((w2.setCell ⟨w.heap.size, 1, none⟩ (.int .i64 n)).setCell ⟨w.heap.size, 2, none⟩ (.int .i64 y)).setCell ⟨w.heap.size, 3, none⟩ (.string ⟨#[]⟩)).setCell ⟨w.heap.size, 4, none⟩ (.int .i64 n)).setCell ⟨w.heap.size, 5, none⟩ (.string ⟨#[]⟩)).setCell ⟨w.heap.size, 6, none⟩ (.int .i64 0)).setCell ⟨w.heap.size, 7, none⟩ (.bool false)).setCell ⟨w.heap.size, 8, none⟩ (.bool false)) = X at *
  refine (unhide HF _).mono ?_
  rintro e' X1 ⟨v, r', t', Lo, rfl, hI, hb, k1, k2⟩
  obtain ⟨av, cv, hsv⟩ := owns_shape hI
  subst hsv
  have HP0 := hide ((unhide HX0).on hb)
  have HP1 := hide ((unhide HX1).on hb)
  have HPY := hide (bstep (unhide HY) hb)
  have hzx := (unhide HX1).lt
  have hzp := (unhide HP1).lt
  have HI := hide (owns_mono hI (show w.heap.size + 2 ≤ _ from by omega))
  have HK1 := hide k1
  have HK2 := hide k2
  obtain ⟨a0, a1, a2, a3, a4, a5, a6, a7, a8, x0, x1, x2, x3, x4, x5, x6, x7, x8⟩ := unhide HP0
  have hl0 := (unhide HP0).lt
  clear hI hb k1 k2 HF HX0 HX1 HY hzx
  unfold sv
  go_wp2_with fail
  have hX0 := (((unhide HP0).put5 n r' t').put9 (Fr.new L)).alloc (.cells #[.int .i64 n, .string r', .int .i64 t'.1, .bool t'.2.1, .bool t'.2.2] 23)
  have hX1 := (((unhide HP1).far5 (B := w.heap.size) (by omega) n r' t').far9 (B := w.heap.size) (by omega) (Fr.new L)).alloc (.cells #[.int .i64 n, .string r', .int .i64 t'.1, .bool t'.2.1, .bool t'.2.2] 23)
  have HYY := hide ((bput9 (B := w.heap.size) (bput5 (B := w.heap.size) (unhide HPY) (Nat.le_refl _) n r' t') (Nat.le_refl _) (Fr.new L)).alloc (by simp [World.setCell]; omega) (.cells #[.int .i64 n, .string r', .int .i64 t'.1, .bool t'.2.1, .bool t'.2.2] 23))
  have HOO := hide (owns_a (oput9 (B := w.heap.size) (oput5 (B := w.heap.size) (unhide HI) (by omega) n r' t') (by omega) (Fr.new L)) (.cells #[.int .i64 n, .string r', .int .i64 t'.1, .bool t'.2.1, .bool t'.2.2] 23))
  clear a0 a1 a2 a3 a4 a5 a6 a7 a8 x0 x1 x2 x3 x4 x5 x6 x7 x8 hl0 HP0 HP1 HPY HI
  unfold Fr.new M.st0 at hX0 hX1 HYY HOO
  dsimp only at hX0 hX1 HYY HOO
  generalize (((((((((((((((X1.setCell ⟨w.heap.size, 4, none⟩ (.int .i64 n)).setCell ⟨w.heap.size, 5, none⟩ (.string r')).setCell ⟨w.heap.size, 6, none⟩ (.int .i64 t'.1)).setCell ⟨w.heap.size, 7, none⟩ (.bool t'.2.1)).setCell ⟨w.heap.size, 8, none⟩ (.bool t'.2.2)).setCell ⟨w.heap.size, 0, none⟩ (.string L)).setCell ⟨w.heap.size, 1, none⟩ (.int .i64 0)).setCell ⟨w.heap.size, 2, none⟩ (.int .i64 0)).setCell ⟨w.heap.size, 3, none⟩ (.string ⟨#[]⟩)).setCell ⟨w.heap.size, 4, none⟩ (.int .i64 0)).setCell ⟨w.heap.size, 5, none⟩ (.string ⟨#[]⟩)).setCell ⟨w.heap.size, 6, none⟩ (.int .i64 0)).setCell ⟨w.heap.size, 7, none⟩ (.bool false)).setCell ⟨w.heap.size, 8, none⟩ (.bool false)).alloc (.cells #[.int .i64 n, .string r', .int .i64 t'.1, .bool t'.2.1, .bool t'.2.2] 23)) = Z at *
  have hlx := hX0.lt
  have hly := hX1.lt
  obtain ⟨a0, a1, a2, a3, a4, a5, a6, a7, a8, -, -, -, -, -, -, -, -, -⟩ := hX0
  obtain ⟨b0, b1, b2, b3, b4, b5, b6, b7, b8, y0, y1, y2, y3, y4, y5, y6, y7, y8⟩ := hX1
  dsimp only [Fr.new, M.st0] at a0 a1 a2 a3 a4 a5 a6 a7 a8 b0 b1 b2 b3 b4 b5 b6 b7 b8
  go_region
  all_goals
    go_wp2_with fail
    refine bodyPost_ret (v := .tuple #[.slice av Lo.length cv, .agg #[.string L, .int .i64 0, .int .i64 0, .string ⟨#[]⟩, .int .i64 0, .string ⟨#[]⟩, .int .i64 0, .bool false, .bool false]]) (by simp [results, Tryz.results18, go_sem, b0, b1, b2, b3, b4, b5, b6, b7, b8]) rfl ?_
    have HZ9 := bput9 (B := w.heap.size + 1) (unhide HYY) (by omega) (Fr.new L)
    have HO9 := owns_mono (o_drew (oput9 (B := w.heap.size + 1) (unhide HOO) (by omega) (Fr.new L))) (show w.heap.size ≤ w.heap.size + 2 from by omega)
    obtain ⟨q1, q2, q3⟩ := unhide HK2 (by trivial)
    refine ⟨.slice av Lo.length cv, rfl, ?_, b_drew HZ9⟩
    rw [outs_whole (unhide HC) (unhide HQ), show (M.TE n M.st0 (bl ⟨#[]⟩ ++ bl (s.extract k s.size))).1 = Lo from q1.symm]; exact HO9
theorem frontOf_any (f : Fr) (p : ByteArray) (last : Bool) (w : World) (hk : f.chk = 0) (hp : p.size ≤ 3000) :
    Calls Tryz.prog 18 #[f.v, .string p, .bool last] w fun e' w' => FoR f p last w e' w' := by
  obtain ⟨L, enc, why, W, e, r, g, fr, st⟩ := f
  have h := hk
  unfold Fr.chk at h
  dsimp only at h
  split at h
  · cases h
  rename_i c1
  split at h
  · cases h
  split at h
  · cases h
  rename_i c3
  split at h
  · cases h
  rename_i c4
  split at h
  · rename_i c5
    subst c5
    split at h
    · cases h
    rename_i c6
    have h4 : enc = 0 := by omega
    obtain ⟨rfl, hr0, ht⟩ : e = 0 ∧ r.size = 0 ∧ (g, fr, st) = M.st0 := by
      refine Classical.byContradiction fun q => c4 (.inl ⟨rfl, q⟩)
    have hr := size0 hr0
    subst hr h4
    obtain ⟨rfl, rfl, rfl⟩ : g = 0 ∧ fr = false ∧ st = false := by simpa [M.st0] using ht
    have hW : W.size < 256 := by
      have := enF_few (name := L) (l := bl W) (by simpa using c6)
      rwa [bl_len] at this
    cases last
    · cases hE : enF L (bl W ++ bl p)
      · refine (fo_wait L W p w (by omega) (by omega) hE).mono fun e' w' hh => ?_
        obtain ⟨h1, h2⟩ := hh
        have hn : (⟨L, 0, 0, W, 0, ⟨#[]⟩, M.st0⟩ : Fr).nxt p false = ⟨L, 0, 0, W ++ p, 0, ⟨#[]⟩, M.st0⟩ := by
          unfold Fr.nxt
          rw [if_neg (by simp), if_pos rfl, if_neg (by simp [hE])]
        have ho : (⟨L, 0, 0, W, 0, ⟨#[]⟩, M.st0⟩ : Fr).outs p false = [] := by
          unfold Fr.outs
          rw [if_pos rfl, if_neg (by simp), if_neg (by simp [hE])]
        refine ⟨.slice none 0 0, ?_, ?_, h2⟩
        · rw [h1]
          show _ = Ending.returned (.tuple #[_, ((⟨L, 0, 0, W, 0, ⟨#[]⟩, M.st0⟩ : Fr).nxt p false).v])
          rw [hn]; rfl
        · show World.ownsRow w' _ _ _ _ ((⟨L, 0, 0, W, 0, ⟨#[]⟩, M.st0⟩ : Fr).outs p false).length (((⟨L, 0, 0, W, 0, ⟨#[]⟩, M.st0⟩ : Fr).outs p false).map _)
          rw [ho]; exact World.ownsRow_nil _ _ _ _
      · exact fo_got_false L W p w (by omega) (by omega) hE
    · exact fo_got_true L W p w (by omega) (by omega)
  · rename_i c5
    have hW0 : W.size = 0 := Classical.byContradiction fun q => c4 (.inr ⟨c5, .inl q⟩)
    have hee : e = enc := Classical.byContradiction fun q => c4 (.inr ⟨c5, .inr q⟩)
    have hW := size0 hW0
    subst hW hee
    obtain ⟨k1, k2, k3⟩ := chk_ok.1 h
    cases last
    · exact fo_on_false L e why e r g fr st p w c5 k1 k3 (by omega)
    · exact fo_on_true L e why e r g fr st p w c5 k1 k3 (by omega)
end Go.Proofs.YtaiinjfnkmidbaaGreatDoor
