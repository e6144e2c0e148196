/- The contract of cartoucheref.EncodeUtf8: the bytes of scalars; nothing that was there is written. Condition: at most 3000 integers, all scalars. -/
import Derived.Test.YthhjfedegbldfadDoorBase
import Derived.Test.YthhjfedegbldfadDoorMathC
namespace Go.Proofs.YthhjfedegbldfadDoor
open Go.RowKit
set_option linter.unusedVariables false

set_option maxHeartbeats 400000 in
set_option maxRecDepth 100000 in
theorem low_any (n : Int) (w : World) (h : 0 ≤ n) (h' : n < 4294967296) : Calls Tryd.prog 75 #[.int .i64 n] w fun e w' => e = .returned (.int .u8 (128 + n % 64)) ∧ w' = w := by
  go_enter Tryd.func75, Tryd.ntmps75
  go_wp2
  go_ret
  exact ⟨ret_int (by omega), rfl⟩

set_option maxHeartbeats 400000 in
set_option maxRecDepth 100000 in
theorem row_1 (n : Int) (w : World) (h : 0 ≤ n) (h' : n < 128) : Calls Tryd.prog 54 #[.int .i64 n] w fun e w' => e = .returned (.string (strOfNums (M.enc1 n))) ∧ Below w.heap.size w w' := by
  rw [M.enc1_1 h']
  have hcv := conv_built (w := w.alloc (.cells #[.int .u8 (n)] 5)) (b := w.heap.size) [n] 1 1 rfl (heap_alloc_new _ _)
  generalize strOfNums [n] = t at *
  go_enter Tryd.func54, Tryd.ntmps54
  go_wp2_with (go_at_call 75; refine (low_any _ _ (by omega) (by omega)).mono ?_; rintro e w1 ⟨rfl, hw⟩; replace hw := hw.symm; subst hw)
  go_ret
  exact ⟨rfl, balloc _ _⟩
set_option maxHeartbeats 400000 in
set_option maxRecDepth 100000 in
theorem row_2 (n : Int) (w : World) (h : 128 ≤ n) (h' : n < 2048) : Calls Tryd.prog 54 #[.int .i64 n] w fun e w' => e = .returned (.string (strOfNums (M.enc1 n))) ∧ Below w.heap.size w w' := by
  rw [M.enc1_2 h h']
  have hcv := conv_built (w := w.alloc (.cells #[.int .u8 (192 + n / 64), .int .u8 (128 + n % 64)] 5)) (b := w.heap.size) [192 + n / 64, 128 + n % 64] 2 2 rfl (heap_alloc_new _ _)
  generalize strOfNums [192 + n / 64, 128 + n % 64] = t at *
  go_enter Tryd.func54, Tryd.ntmps54
  go_wp2_with (go_at_call 75; refine (low_any _ _ (by omega) (by omega)).mono ?_; rintro e w1 ⟨rfl, hw⟩; replace hw := hw.symm; subst hw)
  go_ret
  exact ⟨rfl, balloc _ _⟩
set_option maxHeartbeats 400000 in
set_option maxRecDepth 100000 in
theorem row_3 (n : Int) (w : World) (h : 2048 ≤ n) (h' : n < 65536) : Calls Tryd.prog 54 #[.int .i64 n] w fun e w' => e = .returned (.string (strOfNums (M.enc1 n))) ∧ Below w.heap.size w w' := by
  rw [M.enc1_3 h h']
  have hcv := conv_built (w := w.alloc (.cells #[.int .u8 (224 + n / 4096), .int .u8 (128 + n / 64 % 64), .int .u8 (128 + n % 64)] 5)) (b := w.heap.size) [224 + n / 4096, 128 + n / 64 % 64, 128 + n % 64] 3 3 rfl (heap_alloc_new _ _)
  generalize strOfNums [224 + n / 4096, 128 + n / 64 % 64, 128 + n % 64] = t at *
  go_enter Tryd.func54, Tryd.ntmps54
  go_wp2_with (go_at_call 75; refine (low_any _ _ (by omega) (by omega)).mono ?_; rintro e w1 ⟨rfl, hw⟩; replace hw := hw.symm; subst hw)
  go_ret
  exact ⟨rfl, balloc _ _⟩
set_option maxHeartbeats 400000 in
set_option maxRecDepth 100000 in
theorem row_4 (n : Int) (w : World) (h : 65536 ≤ n) (h' : n ≤ 1114111) : Calls Tryd.prog 54 #[.int .i64 n] w fun e w' => e = .returned (.string (strOfNums (M.enc1 n))) ∧ Below w.heap.size w w' := by
  rw [M.enc1_4 h]
  have hcv := conv_built (w := w.alloc (.cells #[.int .u8 (240 + n / 262144), .int .u8 (128 + n / 4096 % 64), .int .u8 (128 + n / 64 % 64), .int .u8 (128 + n % 64)] 5)) (b := w.heap.size) [240 + n / 262144, 128 + n / 4096 % 64, 128 + n / 64 % 64, 128 + n % 64] 4 4 rfl (heap_alloc_new _ _)
  generalize strOfNums [240 + n / 262144, 128 + n / 4096 % 64, 128 + n / 64 % 64, 128 + n % 64] = t at *
  go_enter Tryd.func54, Tryd.ntmps54
  go_wp2_with (go_at_call 75; refine (low_any _ _ (by omega) (by omega)).mono ?_; rintro e w1 ⟨rfl, hw⟩; replace hw := hw.symm; subst hw)
  go_ret
  exact ⟨rfl, balloc _ _⟩

theorem row_any (n : Int) (w : World) (h : M.sclr n = true) : Calls Tryd.prog 54 #[.int .i64 n] w fun e w' => e = .returned (.string (strOfNums (M.enc1 n))) ∧ Below w.heap.size w w' := by
  have h' := (M.sclr_iff n).1 h
  rcases (show n < 128 ∨ (128 ≤ n ∧ n < 2048) ∨ (2048 ≤ n ∧ n < 65536) ∨ 65536 ≤ n from by omega) with g | ⟨g, g'⟩ | ⟨g, g'⟩ | g
  · exact row_1 n w h'.1 g
  · exact row_2 n w g g'
  · exact row_3 n w g g'
  · exact row_4 n w g h'.2.1

set_option maxHeartbeats 400000 in
set_option maxRecDepth 100000 in
theorem encRef_none (ao : Option Addr) (cap : Nat) (w : World) : Calls Tryd.prog 26 #[.slice ao 0 cap] w fun e w' => e = .returned (.string ⟨#[]⟩) ∧ w' = w := by
  go_enter Tryd.func26, Tryd.ntmps26
  go_wp2
  refine wp_loop_rounds 1 ?_
  rw [rounds_succ]
  go_wp2
  go_ret
  exact ⟨rfl, rfl⟩

set_option maxHeartbeats 400000 in
set_option maxRecDepth 100000 in
theorem encRef_some (b off cap : Nat) (xs : List Int) (w : World) (h0 : xs ≠ []) (h : xs.length ≤ 3000) (ha : xs.all M.sclr = true) (hc : ∀ i, i < xs.length → w.cell? ⟨b, off + i, none⟩ = some (.int .i64 (xs.getD i 0))) :
    Calls Tryd.prog 26 #[.slice (some ⟨b, off, none⟩) xs.length cap] w fun e w' => e = .returned (.string (strOfNums (M.enc xs))) ∧ Below w.heap.size w w' := by
  have hlen : 0 < xs.length := List.length_pos_iff.2 h0
  have hbl : b < w.heap.size := World.block_lt_of_cell? w _ (hc 0 hlen)
  have HC := hide hc
  have HA := hide ha
  clear hc h0 ha
  go_enter Tryd.func26, Tryd.ntmps26
  go_wp2_with fail
  go_loopw [3, 4] (fun sv i wr => ∃ k : Nat, k ≤ xs.length ∧ i = .int .i64 k ∧ sv = .string (strOfNums (M.enc (xs.take k))) ∧ Below w.heap.size w wr) (fun _ i _ => xs.length - (intOf i).toNat)
  case atStart => exact ⟨0, by omega, rfl, rfl, Below.refl _ _⟩
  case round =>
    obtain ⟨k, hk, rfl, rfl, hbw⟩ := hrel
    by_cases hlt : k < xs.length
    · have hcell : wr.cell? ⟨b, off + k, none⟩ = some (.int .i64 (xs.getD k 0)) := (hbw.cell (p := ⟨b, off + k, none⟩) hbl).trans (unhide HC k hlt)
      obtain ⟨p, HP⟩ : ∃ p, Hid (xs.getD k 0 = p) := ⟨_, rfl⟩
      rw [unhide HP] at hcell
      have hs : M.sclr p = true := by rw [← unhide HP]; exact List.all_eq_true.1 (unhide HA) _ (by simp [hlt])
      have HT : Hid (strOfNums (M.enc (xs.take k)) ++ strOfNums (M.enc1 p) = strOfNums (M.enc (xs.take (k + 1)))) := by
        show _ = _
        rw [str_app, take_snoc xs k hlt, M.enc_snoc, unhide HP]
      have hsz1 : (strOfNums (M.enc (xs.take k))).size ≤ 12000 := by
        rw [strOfNums_size]; have := M.enc_len (xs.take k); have := List.length_take_le k xs; omega
      have hsz2 : (strOfNums (M.enc1 p)).size ≤ 4 := by rw [strOfNums_size]; exact (M.enc1_len p).2
      have HR := hide (fun w => row_any p w hs)
      clear hs
      generalize strOfNums (M.enc (xs.take k)) = t1 at *
      generalize strOfNums (M.enc1 p) = t2 at *
      go_wp2_with fail
      refine (unhide HR _).mono ?_
      rintro e w2 ⟨rfl, hb2⟩
      have HB := hide (hbw.trans (hb2.mono hbw.size))
      clear hbw hb2 HR
      go_wp2_with fail
      go_roundw
      case rel => exact ⟨k + 1, by omega, by go_num, by rw [← unhide HT], unhide HB⟩
      case measure => simp [intOf]; omega
    · have ek : k = xs.length := by omega
      subst ek
      rw [List.take_length]
      go_wp2_with fail
      go_ret
      exact ⟨rfl, hbw⟩

theorem encRef_any {v : Value} {xs : List Int} (w : World) (hx : Ints w v xs) (h : xs.length ≤ 3000) (ha : xs.all M.sclr = true) :
    Calls Tryd.prog 26 #[v] w fun e w' => e = .returned (.string (strOfNums (M.enc xs))) ∧ Below w.heap.size w w' := by
  obtain ⟨ao, cap, rfl, hm, -, hx⟩ := hx
  by_cases h0 : xs = []
  · subst h0
    refine (encRef_none ao cap w).mono ?_
    rintro e w' ⟨rfl, rfl⟩
    exact ⟨rfl, Below.refl _ _⟩
  · rcases hx with hx | ⟨b, off, rfl, hc⟩
    · exact absurd hx h0
    · exact encRef_some b off cap xs w h0 h ha hc
end Go.Proofs.YthhjfedegbldfadDoor
