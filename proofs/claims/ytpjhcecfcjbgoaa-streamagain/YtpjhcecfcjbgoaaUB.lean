/- The contract of utf16.Decode: a text of at most 3000 bytes gives what its units tell in new memory and OK, a longer one nil and ErrMany; nothing that was there is written. -/
import Derived.Test.YtpjhcecfcjbgoaaUA
namespace Go.Proofs.Ytpjhcecfcjbgoaa
open Go.RowKit
set_option linter.unusedVariables false

/-- What a round of utf16.Decode's loop knows. -/
def InU (big : Bool) (s : ByteArray) (w wr : World) (k : Nat) (xs : List Int) (v : Value) : Prop :=
  wr.ownsRow w.heap.size 3 1 v xs.length (xs.map (Value.int .i64)) ∧ Below w.heap.size w wr ∧ xs.length ≤ k ∧ xs ++ M.dec16 big ((bl s).drop k) = M.dec16 big (bl s)

theorem InU.step {big : Bool} {s : ByteArray} {w wr w2 : World} {k : Nat} {xs : List Int} {v v2 : Value} {p : Int} {z : Nat} (h : InU big s w wr k xs v) (hk : k < s.size) (hn : M.nx16 big ((bl s).drop k) = (p, z)) (hz : 1 ≤ z)
    (ho : w2.ownsRow w.heap.size 3 1 v2 (xs ++ [p]).length ((xs ++ [p]).map (Value.int .i64))) (hb : Below w.heap.size wr w2) : InU big s w w2 (k + z) (xs ++ [p]) v2 := by
  obtain ⟨h1, h2, h3, h4⟩ := h
  refine ⟨ho, h2.trans hb, by simp; omega, ?_⟩
  have hne : (bl s).drop k ≠ [] := fun e => by have := congrArg List.length e; simp [bl_len] at this; omega
  rw [← h4, M.dec16_step big hne, hn]
  simp

set_option maxHeartbeats 400000 in
set_option maxRecDepth 100000 in
theorem dec16_in (big : Bool) (s : ByteArray) (B : Nat) (w : World) (hs : s.size ≤ 3000) (hB : w.cell? ⟨B, 0, none⟩ = some (.bool big)) :
    Calls Try.prog 26 #[.string s, .pointer (some ⟨B, 0, none⟩)] w fun e w' => ∃ v, e = .returned v ∧ Ints w' v (M.dec16 big (bl s)) ∧ Below w.heap.size w w' := by
  have hlt := World.block_lt_of_cell? w _ hB
  have HB := hide hB
  have HI : InU big s w w 0 [] (.slice none 0 0) := ⟨World.ownsRow_nil _ _ _ _, Below.refl _ _, Nat.le_refl _, by simp⟩
  clear hB
  go_enter Try.func26, Try.ntmps26
  go_wp2_with fail
  go_loopw [4, 5] (fun v i wr => ∃ (k : Nat) (xs : List Int), k ≤ s.size ∧ i = .int .i64 k ∧ InU big s w wr k xs v) (fun _ i _ => s.size - (intOf i).toNat)
  case atStart => exact ⟨0, [], by omega, rfl, HI⟩
  case round =>
    obtain ⟨k, xs, hk, rfl, hI⟩ := hrel
    clear HI
    have hsz := hI.2.1.size
    have hxs := hI.2.2.1
    by_cases hks : k < s.size
    · have hcb : wr.cell? ⟨B, 0, none⟩ = some (.bool big) := (hI.2.1.cell (p := ⟨B, 0, none⟩) hlt).trans (unhide HB)
      obtain ⟨p, z, HN⟩ : ∃ p z, Hid (M.nx16 big ((bl s).drop k) = (p, z)) := ⟨_, _, rfl⟩
      have hz := M.nx16_size big ((bl s).drop k) (fun e => by have := congrArg List.length e; simp [bl_len] at this; omega)
      rw [unhide HN] at hz
      simp only [List.length_drop, bl_len] at hz
      have HR : Hid (∀ w : World, Calls Try.prog 27 #[.bool big, .string (s.extract k s.size)] w fun e w' => e = .returned (.tuple #[.int .i64 p, .int .i64 (z : Int)]) ∧ ∃ m, w' = w.drewN m) := by
        refine hide fun w => ?_
        have := next_any big (s.extract k s.size) w (by simp; omega) (by simp; omega)
        rw [bl_extract, unhide HN] at this
        exact this
      obtain ⟨ao, cap, hsh⟩ := owns_shape hI.1
      subst hsh
      go_wp2_with fail
      go_quiet ((go_at_call 27; exact Calls.quiet_of (unhide HR _)))
      go_wp2_with (at_builtin; refine append_ints rfl (.tmp 20) (.tmp 22) rfl w.heap.size _ xs rfl (owns_da hI.1 _ _) _ [p] rfl (one_int _ _) (by simp; omega) (by simp; omega) ?_)
      intro v2 w2 ho2 hb2
      have HI := hI.step (v2 := v2) hks HN hz.1 (by simpa using ho2) (((below_drewN (Below.refl _ _) _).alloc hsz _).trans hb2)
      obtain ⟨ao2, cap2, hsh2⟩ := owns_shape ho2
      subst hsh2
      clear hI ho2 hb2
      go_wp2_with fail
      go_roundw
      case rel => exact ⟨k + z, xs ++ [p], by omega, by go_num, HI⟩
      case measure => simp [intOf]; omega
    · obtain ⟨h1, h2, h3, h4⟩ := hI
      rw [List.drop_of_length_le (by rw [bl_len]; omega), M.dec16_nil, List.append_nil] at h4
      have HV := hide (Ints.of_owns h1)
      rw [h4] at HV
      obtain ⟨ao, cap, hsh⟩ := owns_shape h1
      subst hsh
      have hl := congrArg List.length h4
      clear h1 h4
      go_wp2_with fail
      go_ret
      exact ⟨_, rfl, unhide HV, h2⟩

set_option maxHeartbeats 400000 in
set_option maxRecDepth 100000 in
theorem decode16_any (big : Bool) (s : ByteArray) (w : World) (hs : s.size ≤ 3000) :
    Calls Try.prog 14 #[.bool big, .string s] w fun e w' => ∃ v, e = .returned (.tuple #[v, .int .i64 0]) ∧ Ints w' v (M.dec16 big (bl s)) ∧ Below w.heap.size w w' := by
  go_enter Try.func14, Try.ntmps14
  go_wp2_with (first | (go_at_call 26; refine (dec16_in big _ _ _ hs (by simp)).mono ?_; rintro e w1 ⟨v, rfl, hI, hb⟩; have HI := hide hI; have HB := hide (bstep (balloc _ _) hb); obtain ⟨ao, cap, rfl, _⟩ := hI; clear hb) | go_in)
  go_ret2
  exact ⟨_, rfl, unhide HI, unhide HB⟩

set_option maxHeartbeats 400000 in
set_option maxRecDepth 100000 in
theorem decode16_long (big : Bool) (s : ByteArray) (w : World) (hs : 3000 < s.size) (hm : s.size ≤ maxLen) :
    Calls Try.prog 14 #[.bool big, .string s] w fun e w' => e = .returned (.tuple #[.slice none 0 0, .int .i64 2]) ∧ Below w.heap.size w w' := by
  unfold maxLen at hm
  go_enter Try.func14, Try.ntmps14
  go_wp2
  go_ret2
  exact ⟨rfl, balloc _ _⟩
end Go.Proofs.Ytpjhcecfcjbgoaa
