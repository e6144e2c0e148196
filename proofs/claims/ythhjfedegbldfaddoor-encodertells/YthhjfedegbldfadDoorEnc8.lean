/- The contract of utf8.Encode: of more than 3000 integers ErrMany, where one is no scalar ErrRange, else the bytes of each, and OK; nothing that was there is written. -/
import Derived.Test.YthhjfedegbldfadDoorBase
namespace Go.Proofs.YthhjfedegbldfadDoor
open Go.RowKit
set_option linter.unusedVariables false

set_option maxHeartbeats 400000 in
set_option maxRecDepth 100000 in
theorem scalar_any (n : Int) (w : World) : Calls Tryd.prog 43 #[.int .i64 n] w fun e w' => e = .returned (.bool (M.sclr n)) ∧ w' = w := by
  rcases (show n < 0 ∨ 1114111 < n ∨ (0 ≤ n ∧ n < 55296) ∨ (57343 < n ∧ n ≤ 1114111) ∨ (55296 ≤ n ∧ n ≤ 57343) from by omega) with h | h | ⟨h, h'⟩ | ⟨h, h'⟩ | ⟨h, h'⟩
  all_goals
    have HS : ∃ b, Hid (M.sclr n = b) := ⟨_, rfl⟩
    obtain ⟨b, HS⟩ := HS
  all_goals (rw [unhide HS])
  · have hb : b = false := by rw [← unhide HS]; simp [M.sclr]; omega
    subst hb
    go_enter Tryd.func43, Tryd.ntmps43
    go_wp2
    go_ret
    exact ⟨rfl, rfl⟩
  · have hb : b = false := by rw [← unhide HS]; simp [M.sclr]; omega
    subst hb
    have h0 : 0 ≤ n := by omega
    go_enter Tryd.func43, Tryd.ntmps43
    go_wp2
    go_ret
    exact ⟨rfl, rfl⟩
  · have hb : b = true := by rw [← unhide HS]; simp [M.sclr]; omega
    subst hb
    go_enter Tryd.func43, Tryd.ntmps43
    go_wp2
    go_ret
    exact ⟨rfl, rfl⟩
  · have hb : b = true := by rw [← unhide HS]; simp [M.sclr]; omega
    subst hb
    have h0 : 0 ≤ n := by omega
    go_enter Tryd.func43, Tryd.ntmps43
    go_wp2
    go_ret
    exact ⟨rfl, rfl⟩
  · have hb : b = false := by rw [← unhide HS]; simp [M.sclr]; omega
    subst hb
    have h0 : 0 ≤ n := by omega
    go_enter Tryd.func43, Tryd.ntmps43
    go_wp2
    go_ret
    exact ⟨ret_bool (by simp; omega), rfl⟩
set_option maxHeartbeats 400000 in
set_option maxRecDepth 100000 in
theorem further_any (n : Int) (w : World) (h0 : 0 ≤ n) (h1 : n < 4294967296) : Calls Tryd.prog 70 #[.int .i64 n] w fun e w' => e = .returned (.int .u8 (128 + n % 64)) ∧ w' = w := by
  have HA := and63 n h0 (by omega)
  have HO := or_at 6 128 (n % 64) (by omega) (by omega) (by omega) (by omega) (by omega) (by omega)
  go_enter Tryd.func70, Tryd.ntmps70
  go_wp2
  go_ret
  exact ⟨ret_int (by omega), rfl⟩
set_option maxHeartbeats 400000 in
set_option maxRecDepth 100000 in
theorem put_1 (base : Nat) (n : Int) (v : Value) (xs : List Int) (w : World) (hbase : base ≤ w.heap.size) (hown : w.ownsRow base 5 1 v xs.length (xs.map (Value.int .u8))) (hl : xs.length ≤ 12000)
    (h0 : 0 ≤ n) (h1 : n < 128) :
    Calls Tryd.prog 44 #[v, .int .i64 n] w fun e w' => ∃ v', e = .returned v' ∧ w'.ownsRow base 5 1 v' (xs ++ M.enc1 n).length ((xs ++ M.enc1 n).map (Value.int .u8)) ∧ Below base w w' := by
  obtain ⟨i0, hi, hz0, hz1, hz2⟩ := info_parts info5
  have HE : Hid (M.enc1 n = [n]) := by show M.enc1 n = _; unfold M.enc1; rw [if_pos h1]
  go_enter Tryd.func44, Tryd.ntmps44
  go_wp2_with (at_builtin; refine wpList_append_own _ rfl (.tmp 8) (.tmp 11) 68 rfl base 5 i0 (.int .u8 0) 1 1 Tryd.underlying68 hi hz0 hz1 hz2 rfl (by decide) _ _ _ rfl (hown.alloc _) ⟨w.heap.size, 0, none⟩ 1 1 [.int .u8 n] rfl rfl ?c1 ?c2 ?c3 ?c4 ?c5 ?_)
  case c1 =>
    intro j u hj
    match j, hj with
    | 0, hj => simp at hj; subst hj; simp [Addr.add]
  case c2 => intro u hu; simp at hu; subst hu; rfl
  case c3 => unfold maxLen; omega
  case c4 => omega
  case c5 => simp; omega
  intro v' w1 hown' hgrow _
  obtain ⟨ao', cap', rfl⟩ := owns_shape hown'
  have R2 := hide hown'
  have R3 := hide (((Below.refl base w).alloc hbase _).grown hgrow (by simp; omega) (fun k hk => by have := hown.lt k hk; omega))
  clear hown hown' hgrow
  go_wp2_with fail
  go_ret
  refine ⟨_, rfl, ?_, unhide R3⟩
  rw [unhide HE]
  simpa using unhide R2
set_option maxHeartbeats 400000 in
set_option maxRecDepth 100000 in
theorem put_2 (base : Nat) (n : Int) (v : Value) (xs : List Int) (w : World) (hbase : base ≤ w.heap.size) (hown : w.ownsRow base 5 1 v xs.length (xs.map (Value.int .u8))) (hl : xs.length ≤ 12000)
    (h0 : 128 ≤ n) (h1 : n < 2048) :
    Calls Tryd.prog 44 #[v, .int .i64 n] w fun e w' => ∃ v', e = .returned v' ∧ w'.ownsRow base 5 1 v' (xs ++ M.enc1 n).length ((xs ++ M.enc1 n).map (Value.int .u8)) ∧ Below base w w' := by
  obtain ⟨i0, hi, hz0, hz1, hz2⟩ := info_parts info5
  have HE : Hid (M.enc1 n = [192 + n / 64, 128 + n % 64]) := by show M.enc1 n = _; unfold M.enc1; rw [if_neg (by omega), if_pos (by omega)]
  have HO := or_at 5 192 (n / 64) (by omega) (by omega) (by omega) (by omega) (by omega) (by omega)
  go_enter Tryd.func44, Tryd.ntmps44
  go_wp2_with (first | (go_at_call 70; refine (further_any _ _ (by omega) (by omega)).mono ?_; rintro e w1 ⟨rfl, hw⟩; replace hw := hw.symm; subst hw) | (at_builtin; refine wpList_append_own _ rfl (.tmp 16) (.tmp 23) 68 rfl base 5 i0 (.int .u8 0) 1 1 Tryd.underlying68 hi hz0 hz1 hz2 rfl (by decide) _ _ _ rfl (hown.alloc _) ⟨w.heap.size, 0, none⟩ 2 2 [.int .u8 (192 + n / 64), .int .u8 (128 + n % 64)] rfl rfl ?c1 ?c2 ?c3 ?c4 ?c5 ?_))
  case c1 =>
    intro j u hj
    match j, hj with
    | 0, hj => simp at hj; subst hj; simp [Addr.add]
    | 1, hj => simp at hj; subst hj; simp [Addr.add]
  case c2 => intro u hu; simp at hu; rcases hu with rfl | rfl <;> rfl
  case c3 => unfold maxLen; omega
  case c4 => omega
  case c5 => simp; omega
  intro v' w1 hown' hgrow _
  obtain ⟨ao', cap', rfl⟩ := owns_shape hown'
  have R2 := hide hown'
  have R3 := hide (((Below.refl base w).alloc hbase _).grown hgrow (by simp; omega) (fun k hk => by have := hown.lt k hk; omega))
  clear hown hown' hgrow
  go_wp2_with fail
  go_ret
  refine ⟨_, rfl, ?_, unhide R3⟩
  rw [unhide HE]
  simpa using unhide R2
set_option maxHeartbeats 400000 in
set_option maxRecDepth 100000 in
theorem put_3 (base : Nat) (n : Int) (v : Value) (xs : List Int) (w : World) (hbase : base ≤ w.heap.size) (hown : w.ownsRow base 5 1 v xs.length (xs.map (Value.int .u8))) (hl : xs.length ≤ 12000)
    (h0 : 2048 ≤ n) (h1 : n < 65536) :
    Calls Tryd.prog 44 #[v, .int .i64 n] w fun e w' => ∃ v', e = .returned v' ∧ w'.ownsRow base 5 1 v' (xs ++ M.enc1 n).length ((xs ++ M.enc1 n).map (Value.int .u8)) ∧ Below base w w' := by
  obtain ⟨i0, hi, hz0, hz1, hz2⟩ := info_parts info5
  have HE : Hid (M.enc1 n = [224 + n / 4096, 128 + n / 64 % 64, 128 + n % 64]) := by show M.enc1 n = _; unfold M.enc1; rw [if_neg (by omega), if_neg (by omega), if_pos (by omega)]
  have HO := or_at 4 224 (n / 4096) (by omega) (by omega) (by omega) (by omega) (by omega) (by omega)
  go_enter Tryd.func44, Tryd.ntmps44
  go_wp2_with (first | (go_at_call 70; refine (further_any _ _ (by omega) (by omega)).mono ?_; rintro e w1 ⟨rfl, hw⟩; replace hw := hw.symm; subst hw) | (at_builtin; refine wpList_append_own _ rfl (.tmp 28) (.tmp 38) 68 rfl base 5 i0 (.int .u8 0) 1 1 Tryd.underlying68 hi hz0 hz1 hz2 rfl (by decide) _ _ _ rfl (hown.alloc _) ⟨w.heap.size, 0, none⟩ 3 3 [.int .u8 (224 + n / 4096), .int .u8 (128 + n / 64 % 64), .int .u8 (128 + n % 64)] rfl rfl ?c1 ?c2 ?c3 ?c4 ?c5 ?_))
  case c1 =>
    intro j u hj
    match j, hj with
    | 0, hj => simp at hj; subst hj; simp [Addr.add]
    | 1, hj => simp at hj; subst hj; simp [Addr.add]
    | 2, hj => simp at hj; subst hj; simp [Addr.add]
  case c2 => intro u hu; simp at hu; rcases hu with rfl | rfl | rfl <;> rfl
  case c3 => unfold maxLen; omega
  case c4 => omega
  case c5 => simp; omega
  intro v' w1 hown' hgrow _
  obtain ⟨ao', cap', rfl⟩ := owns_shape hown'
  have R2 := hide hown'
  have R3 := hide (((Below.refl base w).alloc hbase _).grown hgrow (by simp; omega) (fun k hk => by have := hown.lt k hk; omega))
  clear hown hown' hgrow
  go_wp2_with fail
  go_ret
  refine ⟨_, rfl, ?_, unhide R3⟩
  rw [unhide HE]
  simpa using unhide R2
set_option maxHeartbeats 400000 in
set_option maxRecDepth 100000 in
theorem put_4 (base : Nat) (n : Int) (v : Value) (xs : List Int) (w : World) (hbase : base ≤ w.heap.size) (hown : w.ownsRow base 5 1 v xs.length (xs.map (Value.int .u8))) (hl : xs.length ≤ 12000)
    (h0 : 65536 ≤ n) (h1 : n ≤ 1114111) :
    Calls Tryd.prog 44 #[v, .int .i64 n] w fun e w' => ∃ v', e = .returned v' ∧ w'.ownsRow base 5 1 v' (xs ++ M.enc1 n).length ((xs ++ M.enc1 n).map (Value.int .u8)) ∧ Below base w w' := by
  obtain ⟨i0, hi, hz0, hz1, hz2⟩ := info_parts info5
  have HE : Hid (M.enc1 n = [240 + n / 262144, 128 + n / 4096 % 64, 128 + n / 64 % 64, 128 + n % 64]) := by show M.enc1 n = _; unfold M.enc1; rw [if_neg (by omega), if_neg (by omega), if_neg (by omega)]
  have HO := or_at 3 240 (n / 262144) (by omega) (by omega) (by omega) (by omega) (by omega) (by omega)
  go_enter Tryd.func44, Tryd.ntmps44
  go_wp2_with (first | (go_at_call 70; refine (further_any _ _ (by omega) (by omega)).mono ?_; rintro e w1 ⟨rfl, hw⟩; replace hw := hw.symm; subst hw) | (at_builtin; refine wpList_append_own _ rfl (.tmp 40) (.tmp 53) 68 rfl base 5 i0 (.int .u8 0) 1 1 Tryd.underlying68 hi hz0 hz1 hz2 rfl (by decide) _ _ _ rfl (hown.alloc _) ⟨w.heap.size, 0, none⟩ 4 4 [.int .u8 (240 + n / 262144), .int .u8 (128 + n / 4096 % 64), .int .u8 (128 + n / 64 % 64), .int .u8 (128 + n % 64)] rfl rfl ?c1 ?c2 ?c3 ?c4 ?c5 ?_))
  case c1 =>
    intro j u hj
    match j, hj with
    | 0, hj => simp at hj; subst hj; simp [Addr.add]
    | 1, hj => simp at hj; subst hj; simp [Addr.add]
    | 2, hj => simp at hj; subst hj; simp [Addr.add]
    | 3, hj => simp at hj; subst hj; simp [Addr.add]
  case c2 => intro u hu; simp at hu; rcases hu with rfl | rfl | rfl | rfl <;> rfl
  case c3 => unfold maxLen; omega
  case c4 => omega
  case c5 => simp; omega
  intro v' w1 hown' hgrow _
  obtain ⟨ao', cap', rfl⟩ := owns_shape hown'
  have R2 := hide hown'
  have R3 := hide (((Below.refl base w).alloc hbase _).grown hgrow (by simp; omega) (fun k hk => by have := hown.lt k hk; omega))
  clear hown hown' hgrow
  go_wp2_with fail
  go_ret
  refine ⟨_, rfl, ?_, unhide R3⟩
  rw [unhide HE]
  simpa using unhide R2
theorem put_any (base : Nat) (n : Int) (v : Value) (xs : List Int) (w : World) (hbase : base ≤ w.heap.size) (hown : w.ownsRow base 5 1 v xs.length (xs.map (Value.int .u8))) (hl : xs.length ≤ 12000)
    (h : M.sclr n = true) :
    Calls Tryd.prog 44 #[v, .int .i64 n] w fun e w' => ∃ v', e = .returned v' ∧ w'.ownsRow base 5 1 v' (xs ++ M.enc1 n).length ((xs ++ M.enc1 n).map (Value.int .u8)) ∧ Below base w w' := by
  have h' : 0 ≤ n ∧ n ≤ 1114111 := by simp [M.sclr] at h; omega
  rcases (show n < 128 ∨ (128 ≤ n ∧ n < 2048) ∨ (2048 ≤ n ∧ n < 65536) ∨ 65536 ≤ n from by omega) with g | ⟨g, g'⟩ | ⟨g, g'⟩ | g
  · exact put_1 base n v xs w hbase hown hl h'.1 g
  · exact put_2 base n v xs w hbase hown hl g g'
  · exact put_3 base n v xs w hbase hown hl g g'
  · exact put_4 base n v xs w hbase hown hl g h'.2
/-- What Encode answers of at most 3000 integers. -/
def encRes (xs : List Int) : Value := if xs.all M.sclr then .tuple #[.string (strOfNums (M.enc xs)), .int .i64 0] else .tuple #[.string ⟨#[]⟩, .int .i64 3]
theorem encRes_yes {xs : List Int} (h : xs.all M.sclr = true) : encRes xs = .tuple #[.string (strOfNums (M.enc xs)), .int .i64 0] := by unfold encRes; rw [if_pos h]
theorem encRes_no {xs : List Int} (h : xs.all M.sclr = false) : encRes xs = .tuple #[.string ⟨#[]⟩, .int .i64 3] := by unfold encRes; rw [if_neg (by simp [h])]
/-- The bytes of scalars, gathered. -/
def InE (xs : List Int) (w wr : World) (k : Nat) (v : Value) : Prop :=
  wr.ownsRow w.heap.size 5 1 v (M.enc (xs.take k)).length ((M.enc (xs.take k)).map (Value.int .u8)) ∧ Below w.heap.size w wr ∧ (xs.take k).all M.sclr = true
theorem InE.step {xs : List Int} {w wr w1 : World} {k : Nat} {v v1 : Value} (h : InE xs w wr k v) (hk : k < xs.length) (hs : M.sclr (xs.getD k 0) = true)
    (ho : w1.ownsRow w.heap.size 5 1 v1 (M.enc (xs.take k) ++ M.enc1 (xs.getD k 0)).length ((M.enc (xs.take k) ++ M.enc1 (xs.getD k 0)).map (Value.int .u8))) (hb : Below w.heap.size wr w1) : InE xs w w1 (k + 1) v1 := by
  have e : xs.take (k + 1) = xs.take k ++ [xs.getD k 0] := by
    rw [List.take_succ_eq_append_getElem hk]; simp [hk]
  refine ⟨?_, h.2.1.trans hb, ?_⟩
  · rw [e, M.enc_snoc]; exact ho
  · rw [e, List.all_append, h.2.2]; simpa using hs
set_option maxHeartbeats 400000 in
set_option maxRecDepth 100000 in
theorem encode_many (ao : Option Addr) (len cap : Nat) (w : World) (h : 3000 < len) (hm : len ≤ maxLen) :
    Calls Tryd.prog 20 #[.slice ao len cap] w fun e w' => e = .returned (.tuple #[.string ⟨#[]⟩, .int .i64 2]) ∧ w' = w := by
  unfold maxLen at hm
  go_enter Tryd.func20, Tryd.ntmps20
  go_wp2
  go_ret2
  exact ⟨rfl, rfl⟩
set_option maxHeartbeats 400000 in
set_option maxRecDepth 100000 in
theorem encode_none (ao : Option Addr) (cap : Nat) (w : World) :
    Calls Tryd.prog 20 #[.slice ao 0 cap] w fun e w' => e = .returned (.tuple #[.string (strOfNums []), .int .i64 0]) ∧ w' = w := by
  have hc := conv_owned (xs := []) (World.ownsRow_nil w 0 5 1)
  go_enter Tryd.func20, Tryd.ntmps20
  go_wp2
  refine wp_loop_rounds 1 ?_
  rw [rounds_succ]
  go_wp2
  go_ret2
  exact ⟨rfl, rfl⟩
set_option maxHeartbeats 400000 in
set_option maxRecDepth 100000 in
theorem encode_some (b off cap : Nat) (xs : List Int) (w : World) (h0 : xs ≠ []) (h : xs.length ≤ 3000) (hc : ∀ i, i < xs.length → w.cell? ⟨b, off + i, none⟩ = some (.int .i64 (xs.getD i 0))) :
    Calls Tryd.prog 20 #[.slice (some ⟨b, off, none⟩) xs.length cap] w fun e w' => Below w.heap.size w w' ∧
      e = .returned (encRes xs) := by
  have hlen : 0 < xs.length := List.length_pos_iff.2 h0
  have hbl : b < w.heap.size := World.block_lt_of_cell? w _ (hc 0 hlen)
  have HC := hide hc
  have HI : InE xs w w 0 (.slice none 0 0) := ⟨World.ownsRow_nil _ _ _ _, Below.refl _ _, by simp⟩
  clear hc h0
  go_enter Tryd.func20, Tryd.ntmps20
  go_wp2_with fail
  go_loopw [4, 12] (fun v i wr => ∃ k : Nat, k ≤ xs.length ∧ i = .int .i64 k ∧ InE xs w wr k v) (fun _ i _ => xs.length - (intOf i).toNat)
  case atStart => exact ⟨0, by omega, rfl, HI⟩
  case round =>
    obtain ⟨k, hk, rfl, hI⟩ := hrel
    clear HI
    by_cases hlt : k < xs.length
    · have hcell : wr.cell? ⟨b, off + k, none⟩ = some (.int .i64 (xs.getD k 0)) := (hI.2.1.cell (p := ⟨b, off + k, none⟩) hbl).trans (unhide HC k hlt)
      obtain ⟨p, HP⟩ : ∃ p, Hid (xs.getD k 0 = p) := ⟨_, rfl⟩
      rw [unhide HP] at hcell
      obtain ⟨q, HQ⟩ : ∃ q, Hid (M.sclr p = q) := ⟨_, rfl⟩
      go_wp2_with fail
      refine (scalar_any _ _).mono ?_
      rintro e w1 ⟨rfl, hw⟩
      replace hw := hw.symm
      subst hw
      rw [unhide HQ]
      cases q
      · go_wp2_with fail
        go_ret2
        refine ⟨hI.2.1, ?_⟩
        have : xs.all M.sclr = false := by
          rw [List.all_eq_false]
          refine ⟨xs.getD k 0, ?_, by rw [unhide HP, unhide HQ]; simp⟩
          simp [hlt]
        rw [encRes_no this]; rfl
      · have hz := hI.2.1.size
        have hel := M.enc_len (xs.take k)
        have htl := List.length_take_le k xs
        go_wp2_with fail
        refine (put_any w.heap.size p _ (M.enc (xs.take k)) _ hz hI.1 (by omega) (unhide HQ)).mono ?_
        rintro e w2 ⟨v2, rfl, ho2, hb2⟩
        have HI := InE.step hI hlt (by rw [unhide HP]; exact unhide HQ) (by rw [unhide HP]; exact ho2) hb2
        obtain ⟨ao2, cap2, rfl⟩ := owns_shape ho2
        clear hI ho2 hb2
        go_wp2_with fail
        go_roundw
        case rel => exact ⟨k + 1, by omega, by go_num, by rw [List.length_append] at HI; exact HI⟩
        case measure => simp [intOf]; omega
    · have ek : k = xs.length := by omega
      have hcv := conv_owned hI.1
      obtain ⟨o1, o2, o3⟩ := hI
      have hb := hide o2
      subst ek
      rw [List.take_length] at hcv o1 o3
      obtain ⟨ao2, cap2, hsh⟩ := owns_shape o1
      subst hsh
      have HA := hide o3
      clear o1 o2 o3
      go_wp2_with fail
      go_ret2
      refine ⟨unhide hb, ?_⟩
      rw [encRes_yes (unhide HA)]; rfl
theorem encode_any {v : Value} {xs : List Int} (w : World) (hx : Ints w v xs) (h : xs.length ≤ 3000) :
    Calls Tryd.prog 20 #[v] w fun e w' => Below w.heap.size w w' ∧ e = .returned (encRes xs) := by
  obtain ⟨ao, cap, rfl, hm, -, hx⟩ := hx
  by_cases h0 : xs = []
  · subst h0
    refine (encode_none ao cap w).mono ?_
    rintro e w' ⟨rfl, rfl⟩
    exact ⟨Below.refl _ _, rfl⟩
  · rcases hx with hx | ⟨b, off, rfl, hc⟩
    · exact absurd hx h0
    · exact encode_some b off cap xs w h0 h hc
end Go.Proofs.YthhjfedegbldfadDoor
