/- The contract of utf8.Encode: of more than 3000 integers ErrMany, where one is no scalar ErrRange, else the bytes of each, and OK; nothing that was there is written. -/
import Derived.Test.YthhjfedegbldfaaD
import Derived.Test.YthhjfedegbldfaaMathB
import Derived.Laws.BytesArg
namespace Go.Proofs.Ythhjfedegbldfaa
open Go.RowKit
set_option linter.unusedVariables false

theorem ret_bool {a b : Bool} (h : a = b) : Ending.returned (.bool a) = .returned (.bool b) := by rw [h]
set_option maxHeartbeats 400000 in
set_option maxRecDepth 100000 in
theorem scalar_any (n : Int) (w : World) : Calls Try.prog 22 #[.int .i64 n] w fun e w' => e = .returned (.bool (M.sclr n)) ∧ w' = w := by
  rcases (show n < 0 ∨ 1114111 < n ∨ (0 ≤ n ∧ n < 55296) ∨ (57343 < n ∧ n ≤ 1114111) ∨ (55296 ≤ n ∧ n ≤ 57343) from by omega) with h | h | ⟨h, h'⟩ | ⟨h, h'⟩ | ⟨h, h'⟩
  all_goals
    have HS : ∃ b, Hid (M.sclr n = b) := ⟨_, rfl⟩
    obtain ⟨b, HS⟩ := HS
  all_goals (rw [unhide HS])
  · have hb : b = false := by rw [← unhide HS]; simp [M.sclr]; omega
    subst hb
    go_enter Try.func22, Try.ntmps22
    go_wp2
    go_ret
    exact ⟨rfl, rfl⟩
  · have hb : b = false := by rw [← unhide HS]; simp [M.sclr]; omega
    subst hb
    have h0 : 0 ≤ n := by omega
    go_enter Try.func22, Try.ntmps22
    go_wp2
    go_ret
    exact ⟨rfl, rfl⟩
  · have hb : b = true := by rw [← unhide HS]; simp [M.sclr]; omega
    subst hb
    go_enter Try.func22, Try.ntmps22
    go_wp2
    go_ret
    exact ⟨rfl, rfl⟩
  · have hb : b = true := by rw [← unhide HS]; simp [M.sclr]; omega
    subst hb
    have h0 : 0 ≤ n := by omega
    go_enter Try.func22, Try.ntmps22
    go_wp2
    go_ret
    exact ⟨rfl, rfl⟩
  · have hb : b = false := by rw [← unhide HS]; simp [M.sclr]; omega
    subst hb
    have h0 : 0 ≤ n := by omega
    go_enter Try.func22, Try.ntmps22
    go_wp2
    go_ret
    exact ⟨ret_bool (by simp; omega), rfl⟩

theorem and63 (x : Int) (h0 : 0 ≤ x) (h1 : x < 2 ^ 62) : bits .and .i64 x 63 = x % 64 :=
  bits_mask .i64 62 (by decide) (fun n h h' => by rw [IntKind.wrap_i64]; omega) 6 (by decide) x h0 h1
theorem or_at (i : Nat) (x y : Int) (hx₀ : 0 ≤ x) (hx : x % 2 ^ i = 0) (hx₁ : x < 2 ^ 62) (hy₀ : 0 ≤ y) (hy : y < 2 ^ i) (hy₁ : y < 2 ^ 62) : bits .or .i64 x y = x + y :=
  bits_join .i64 62 (by decide) (fun n h h' => by rw [IntKind.wrap_i64]; omega) i x y hx₀ hx hx₁ hy₀ hy hy₁

theorem ret_int {k : IntKind} {a b : Int} (h : a = b) : Ending.returned (.int k a) = .returned (.int k b) := by rw [h]

set_option maxHeartbeats 400000 in
set_option maxRecDepth 100000 in
theorem further_any (n : Int) (w : World) (h0 : 0 ≤ n) (h1 : n < 4294967296) : Calls Try.prog 32 #[.int .i64 n] w fun e w' => e = .returned (.int .u8 (128 + n % 64)) ∧ w' = w := by
  have HA := and63 n h0 (by omega)
  have HO := or_at 6 128 (n % 64) (by omega) (by omega) (by omega) (by omega) (by omega) (by omega)
  go_enter Try.func32, Try.ntmps32
  go_wp2
  go_ret
  exact ⟨ret_int (by omega), rfl⟩

theorem info5 : (Try.prog.info? 5).map (fun i => (i.zero, i.size, i.bytes)) = some (some (.int .u8 0), 1, 1) := by kernel_rfl

set_option maxHeartbeats 400000 in
set_option maxRecDepth 100000 in
theorem put_1 (base : Nat) (n : Int) (v : Value) (xs : List Int) (w : World) (hbase : base ≤ w.heap.size) (hown : w.ownsRow base 5 1 v xs.length (xs.map (Value.int .u8))) (hl : xs.length ≤ 12000)
    (h0 : 0 ≤ n) (h1 : n < 128) :
    Calls Try.prog 23 #[v, .int .i64 n] w fun e w' => ∃ v', e = .returned v' ∧ w'.ownsRow base 5 1 v' (xs ++ M.enc1 n).length ((xs ++ M.enc1 n).map (Value.int .u8)) ∧ Below base w w' := by
  obtain ⟨i0, hi, hz0, hz1, hz2⟩ := info_parts info5
  have HE : Hid (M.enc1 n = [n]) := by show M.enc1 n = _; unfold M.enc1; rw [if_pos h1]
  go_enter Try.func23, Try.ntmps23
  go_wp2_with (at_builtin; refine wpList_append_own _ rfl (.tmp 8) (.tmp 11) 47 rfl base 5 i0 (.int .u8 0) 1 1 Try.underlying47 hi hz0 hz1 hz2 rfl (by decide) _ _ _ rfl (hown.alloc _) ⟨w.heap.size, 0, none⟩ 1 1 [.int .u8 n] rfl rfl ?c1 ?c2 ?c3 ?c4 ?c5 ?_)
  case c1 =>
    intro j u hj
    match j, hj with
    | 0, hj => simp at hj; subst hj; simp [Addr.add]
  case c2 => intro u hu; simp at hu; subst hu; rfl
  case c3 => unfold maxLen; omega
  case c4 => omega
  case c5 => simp; omega
  intro v' w1 hown' hgrow _
  obtain ⟨ao', cap', rfl⟩ := owns_shape hown'
  have R2 := hide hown'
  have R3 := hide (((Below.refl base w).alloc hbase _).grown hgrow (by simp; omega) (fun k hk => by have := hown.lt k hk; omega))
  clear hown hown' hgrow
  go_wp2_with fail
  go_ret
  refine ⟨_, rfl, ?_, unhide R3⟩
  rw [unhide HE]
  simpa using unhide R2
set_option maxHeartbeats 400000 in
set_option maxRecDepth 100000 in
theorem put_2 (base : Nat) (n : Int) (v : Value) (xs : List Int) (w : World) (hbase : base ≤ w.heap.size) (hown : w.ownsRow base 5 1 v xs.length (xs.map (Value.int .u8))) (hl : xs.length ≤ 12000)
    (h0 : 128 ≤ n) (h1 : n < 2048) :
    Calls Try.prog 23 #[v, .int .i64 n] w fun e w' => ∃ v', e = .returned v' ∧ w'.ownsRow base 5 1 v' (xs ++ M.enc1 n).length ((xs ++ M.enc1 n).map (Value.int .u8)) ∧ Below base w w' := by
  obtain ⟨i0, hi, hz0, hz1, hz2⟩ := info_parts info5
  have HE : Hid (M.enc1 n = [192 + n / 64, 128 + n % 64]) := by show M.enc1 n = _; unfold M.enc1; rw [if_neg (by omega), if_pos (by omega)]
  have HO := or_at 5 192 (n / 64) (by omega) (by omega) (by omega) (by omega) (by omega) (by omega)
  go_enter Try.func23, Try.ntmps23
  go_wp2_with (first | (go_at_call 32; refine (further_any _ _ (by omega) (by omega)).mono ?_; rintro e w1 ⟨rfl, hw⟩; replace hw := hw.symm; subst hw) | (at_builtin; refine wpList_append_own _ rfl (.tmp 16) (.tmp 23) 47 rfl base 5 i0 (.int .u8 0) 1 1 Try.underlying47 hi hz0 hz1 hz2 rfl (by decide) _ _ _ rfl (hown.alloc _) ⟨w.heap.size, 0, none⟩ 2 2 [.int .u8 (192 + n / 64), .int .u8 (128 + n % 64)] rfl rfl ?c1 ?c2 ?c3 ?c4 ?c5 ?_))
  case c1 =>
    intro j u hj
    match j, hj with
    | 0, hj => simp at hj; subst hj; simp [Addr.add]
    | 1, hj => simp at hj; subst hj; simp [Addr.add]
  case c2 => intro u hu; simp at hu; rcases hu with rfl | rfl <;> rfl
  case c3 => unfold maxLen; omega
  case c4 => omega
  case c5 => simp; omega
  intro v' w1 hown' hgrow _
  obtain ⟨ao', cap', rfl⟩ := owns_shape hown'
  have R2 := hide hown'
  have R3 := hide (((Below.refl base w).alloc hbase _).grown hgrow (by simp; omega) (fun k hk => by have := hown.lt k hk; omega))
  clear hown hown' hgrow
  go_wp2_with fail
  go_ret
  refine ⟨_, rfl, ?_, unhide R3⟩
  rw [unhide HE]
  simpa using unhide R2
set_option maxHeartbeats 400000 in
set_option maxRecDepth 100000 in
theorem put_3 (base : Nat) (n : Int) (v : Value) (xs : List Int) (w : World) (hbase : base ≤ w.heap.size) (hown : w.ownsRow base 5 1 v xs.length (xs.map (Value.int .u8))) (hl : xs.length ≤ 12000)
    (h0 : 2048 ≤ n) (h1 : n < 65536) :
    Calls Try.prog 23 #[v, .int .i64 n] w fun e w' => ∃ v', e = .returned v' ∧ w'.ownsRow base 5 1 v' (xs ++ M.enc1 n).length ((xs ++ M.enc1 n).map (Value.int .u8)) ∧ Below base w w' := by
  obtain ⟨i0, hi, hz0, hz1, hz2⟩ := info_parts info5
  have HE : Hid (M.enc1 n = [224 + n / 4096, 128 + n / 64 % 64, 128 + n % 64]) := by show M.enc1 n = _; unfold M.enc1; rw [if_neg (by omega), if_neg (by omega), if_pos (by omega)]
  have HO := or_at 4 224 (n / 4096) (by omega) (by omega) (by omega) (by omega) (by omega) (by omega)
  go_enter Try.func23, Try.ntmps23
  go_wp2_with (first | (go_at_call 32; refine (further_any _ _ (by omega) (by omega)).mono ?_; rintro e w1 ⟨rfl, hw⟩; replace hw := hw.symm; subst hw) | (at_builtin; refine wpList_append_own _ rfl (.tmp 28) (.tmp 38) 47 rfl base 5 i0 (.int .u8 0) 1 1 Try.underlying47 hi hz0 hz1 hz2 rfl (by decide) _ _ _ rfl (hown.alloc _) ⟨w.heap.size, 0, none⟩ 3 3 [.int .u8 (224 + n / 4096), .int .u8 (128 + n / 64 % 64), .int .u8 (128 + n % 64)] rfl rfl ?c1 ?c2 ?c3 ?c4 ?c5 ?_))
  case c1 =>
    intro j u hj
    match j, hj with
    | 0, hj => simp at hj; subst hj; simp [Addr.add]
    | 1, hj => simp at hj; subst hj; simp [Addr.add]
    | 2, hj => simp at hj; subst hj; simp [Addr.add]
  case c2 => intro u hu; simp at hu; rcases hu with rfl | rfl | rfl <;> rfl
  case c3 => unfold maxLen; omega
  case c4 => omega
  case c5 => simp; omega
  intro v' w1 hown' hgrow _
  obtain ⟨ao', cap', rfl⟩ := owns_shape hown'
  have R2 := hide hown'
  have R3 := hide (((Below.refl base w).alloc hbase _).grown hgrow (by simp; omega) (fun k hk => by have := hown.lt k hk; omega))
  clear hown hown' hgrow
  go_wp2_with fail
  go_ret
  refine ⟨_, rfl, ?_, unhide R3⟩
  rw [unhide HE]
  simpa using unhide R2
set_option maxHeartbeats 400000 in
set_option maxRecDepth 100000 in
theorem put_4 (base : Nat) (n : Int) (v : Value) (xs : List Int) (w : World) (hbase : base ≤ w.heap.size) (hown : w.ownsRow base 5 1 v xs.length (xs.map (Value.int .u8))) (hl : xs.length ≤ 12000)
    (h0 : 65536 ≤ n) (h1 : n ≤ 1114111) :
    Calls Try.prog 23 #[v, .int .i64 n] w fun e w' => ∃ v', e = .returned v' ∧ w'.ownsRow base 5 1 v' (xs ++ M.enc1 n).length ((xs ++ M.enc1 n).map (Value.int .u8)) ∧ Below base w w' := by
  obtain ⟨i0, hi, hz0, hz1, hz2⟩ := info_parts info5
  have HE : Hid (M.enc1 n = [240 + n / 262144, 128 + n / 4096 % 64, 128 + n / 64 % 64, 128 + n % 64]) := by show M.enc1 n = _; unfold M.enc1; rw [if_neg (by omega), if_neg (by omega), if_neg (by omega)]
  have HO := or_at 3 240 (n / 262144) (by omega) (by omega) (by omega) (by omega) (by omega) (by omega)
  go_enter Try.func23, Try.ntmps23
  go_wp2_with (first | (go_at_call 32; refine (further_any _ _ (by omega) (by omega)).mono ?_; rintro e w1 ⟨rfl, hw⟩; replace hw := hw.symm; subst hw) | (at_builtin; refine wpList_append_own _ rfl (.tmp 40) (.tmp 53) 47 rfl base 5 i0 (.int .u8 0) 1 1 Try.underlying47 hi hz0 hz1 hz2 rfl (by decide) _ _ _ rfl (hown.alloc _) ⟨w.heap.size, 0, none⟩ 4 4 [.int .u8 (240 + n / 262144), .int .u8 (128 + n / 4096 % 64), .int .u8 (128 + n / 64 % 64), .int .u8 (128 + n % 64)] rfl rfl ?c1 ?c2 ?c3 ?c4 ?c5 ?_))
  case c1 =>
    intro j u hj
    match j, hj with
    | 0, hj => simp at hj; subst hj; simp [Addr.add]
    | 1, hj => simp at hj; subst hj; simp [Addr.add]
    | 2, hj => simp at hj; subst hj; simp [Addr.add]
    | 3, hj => simp at hj; subst hj; simp [Addr.add]
  case c2 => intro u hu; simp at hu; rcases hu with rfl | rfl | rfl | rfl <;> rfl
  case c3 => unfold maxLen; omega
  case c4 => omega
  case c5 => simp; omega
  intro v' w1 hown' hgrow _
  obtain ⟨ao', cap', rfl⟩ := owns_shape hown'
  have R2 := hide hown'
  have R3 := hide (((Below.refl base w).alloc hbase _).grown hgrow (by simp; omega) (fun k hk => by have := hown.lt k hk; omega))
  clear hown hown' hgrow
  go_wp2_with fail
  go_ret
  refine ⟨_, rfl, ?_, unhide R3⟩
  rw [unhide HE]
  simpa using unhide R2
theorem put_any (base : Nat) (n : Int) (v : Value) (xs : List Int) (w : World) (hbase : base ≤ w.heap.size) (hown : w.ownsRow base 5 1 v xs.length (xs.map (Value.int .u8))) (hl : xs.length ≤ 12000)
    (h : M.sclr n = true) :
    Calls Try.prog 23 #[v, .int .i64 n] w fun e w' => ∃ v', e = .returned v' ∧ w'.ownsRow base 5 1 v' (xs ++ M.enc1 n).length ((xs ++ M.enc1 n).map (Value.int .u8)) ∧ Below base w w' := by
  have h' : 0 ≤ n ∧ n ≤ 1114111 := by simp [M.sclr] at h; omega
  rcases (show n < 128 ∨ (128 ≤ n ∧ n < 2048) ∨ (2048 ≤ n ∧ n < 65536) ∨ 65536 ≤ n from by omega) with g | ⟨g, g'⟩ | ⟨g, g'⟩ | g
  · exact put_1 base n v xs w hbase hown hl h'.1 g
  · exact put_2 base n v xs w hbase hown hl g g'
  · exact put_3 base n v xs w hbase hown hl g g'
  · exact put_4 base n v xs w hbase hown hl g h'.2
end Go.Proofs.Ythhjfedegbldfaa
