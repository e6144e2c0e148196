/- The contracts of stream.waits and stream.Decode: how many bytes wait, and what bytes tell that are all there; nothing that was there is written. -/
import Derived.Test.YtpjhcecfcjbgoaaSX
import Derived.Test.YtpjhcecfcjbgoaaU8
import Derived.Test.YtpjhcecfcjbgoaaUB
import Derived.Test.YtpjhcecfcjbgoaaLN
namespace Go.Proofs.Ytpjhcecfcjbgoaa
open Go.RowKit
set_option linter.unusedVariables false

theorem decE_1 (l : List Int) : M.decE 1 l = M.dec l := by unfold M.decE; rw [M.TE_8]
theorem decE_2 (l : List Int) : M.decE 2 l = M.dec16 false l := by unfold M.decE; rw [show (2 : Int) = (if false then 3 else 2) from rfl, M.TE_16]
theorem decE_3 (l : List Int) : M.decE 3 l = M.dec16 true l := by unfold M.decE; rw [show (3 : Int) = (if true then 3 else 2) from rfl, M.TE_16]
theorem decE_4 (l : List Int) : M.decE 4 l = M.decS false l := by unfold M.decE; rw [show (4 : Int) = (if false then 5 else 4) from rfl, M.TE_S]
theorem decE_5 (l : List Int) : M.decE 5 l = M.decS true l := by unfold M.decE; rw [show (5 : Int) = (if true then 5 else 4) from rfl, M.TE_S]
theorem decE_6 (l : List Int) : M.decE 6 l = M.kdec l := by unfold M.decE; rw [M.TE_K]; exact M.gk_dec l
theorem decE_7 (s : ByteArray) : M.decE 7 (bl s) = if s.size = 0 then [] else [65533] := by
  unfold M.decE; rw [M.TE_X]
  show (if (false || (bl s).isEmpty) = true then [] else [65533]) = _
  have : (bl s).isEmpty = decide (s.size = 0) := by rw [← bl_len, Bool.eq_iff_iff]; simp [List.isEmpty_iff]
  rw [Bool.false_or, this]; simp only [decide_eq_true_eq]

set_option maxHeartbeats 800000 in
set_option maxRecDepth 100000 in
theorem waits_any (e : Int) (s : ByteArray) (w : World) (he : 1 ≤ e ∧ e ≤ 7) (hm : s.size ≤ maxLen) (h8 : e = 1 → s.size ≤ 3000) : Calls Try.prog 20 #[.int .i64 e, .string s] w fun e' w' => e' = .returned (.int .i64 (M.wE e (bl s))) ∧ Below w.heap.size w w' := by
  obtain rfl | rfl | rfl | rfl | rfl | rfl | rfl : e = 1 ∨ e = 2 ∨ e = 3 ∨ e = 4 ∨ e = 5 ∨ e = 6 ∨ e = 7 := by omega
  · have H := fun w => split_any s w (h8 rfl)
    have HW : Hid (M.wE 1 (bl s) = M.spl (bl s)) := hide rfl
    go_enter Try.func20, Try.ntmps20
    go_wp2_with fail
    refine (H _).mono ?_
    rintro e w1 ⟨rfl, hb⟩
    have HB := hide hb
    clear hb H
    go_wp2_with fail
    go_ret
    exact ⟨by rw [unhide HW]; rfl, unhide HB⟩
  · have H := fun w => units_any false s w hm
    have HW : Hid (M.wE 2 (bl s) = (M.wu false (bl s) : Nat)) := hide rfl
    go_enter Try.func20, Try.ntmps20
    go_wp2_with fail
    refine (H _).mono ?_
    rintro e w1 ⟨rfl, hw⟩
    replace hw := hw.symm
    subst hw
    clear H
    go_wp2_with fail
    go_ret
    exact ⟨by rw [unhide HW]; rfl, Below.refl _ _⟩
  · have H := fun w => units_any true s w hm
    have HW : Hid (M.wE 3 (bl s) = (M.wu true (bl s) : Nat)) := hide rfl
    go_enter Try.func20, Try.ntmps20
    go_wp2_with fail
    refine (H _).mono ?_
    rintro e w1 ⟨rfl, hw⟩
    replace hw := hw.symm
    subst hw
    clear H
    go_wp2_with fail
    go_ret
    exact ⟨by rw [unhide HW]; rfl, Below.refl _ _⟩
  · go_enter Try.func20, Try.ntmps20
    go_wp2_with fail
    go_ret
    exact ⟨rfl, Below.refl _ _⟩
  · go_enter Try.func20, Try.ntmps20
    go_wp2_with fail
    go_ret
    exact ⟨rfl, Below.refl _ _⟩
  · have H := fun w => waitsK_any s w hm
    have HW : Hid (M.wE 6 (bl s) = (M.wk (bl s) : Nat)) := hide rfl
    go_enter Try.func20, Try.ntmps20
    go_wp2_with fail
    refine (H _).mono ?_
    rintro e w1 ⟨rfl, hw⟩
    replace hw := hw.symm
    subst hw
    clear H
    go_wp2_with fail
    go_ret
    exact ⟨by rw [unhide HW]; rfl, Below.refl _ _⟩
  · go_enter Try.func20, Try.ntmps20
    go_wp2_with fail
    go_ret
    exact ⟨rfl, Below.refl _ _⟩
set_option maxHeartbeats 800000 in
set_option maxRecDepth 100000 in
theorem waits_long (s : ByteArray) (w : World) (hm : s.size ≤ maxLen) (h8 : 3000 < s.size) : Calls Try.prog 20 #[.int .i64 1, .string s] w fun e' w' => e' = .returned (.int .i64 0) ∧ Below w.heap.size w w' := by
  have H := fun w => split_long s w h8 hm
  go_enter Try.func20, Try.ntmps20
  go_wp2_with fail
  refine (H _).mono ?_
  rintro e w1 ⟨rfl, hw⟩
  replace hw := hw.symm
  subst hw
  clear H
  go_wp2_with fail
  go_ret
  exact ⟨rfl, Below.refl _ _⟩

set_option maxHeartbeats 800000 in
set_option maxRecDepth 100000 in
theorem stop_text (s : ByteArray) (w : World) (hs : s.size ≤ 3000) : Calls Try.prog 17 #[.string s, .func (Fn.func 18) #[] #[]] w fun e w' => ∃ v, e = .returned (.tuple #[v, .int .i64 0]) ∧ Ints w' v (M.decE 7 (bl s)) ∧ Below w.heap.size w w' := by
  have HD := hide (decE_7 s)
  go_enter Try.func17, Try.ntmps17
  go_wp2_with fail
  refine (stop_any s _).mono ?_
  rintro e w1 ⟨v, rfl, hI, hb⟩
  obtain ⟨ao, cap, rfl⟩ := owns_shape hI
  have HI := hide (Ints.of_owns hI)
  have HB := hide hb
  clear hI hb
  generalize (if s.size = 0 then [] else [(65533 : Int)]) = L at *
  go_wp2_with fail
  go_ret2
  exact ⟨_, rfl, by rw [unhide HD]; exact unhide HI, unhide HB⟩

set_option maxHeartbeats 1600000 in
set_option maxRecDepth 100000 in
theorem sdecode_any (e : Int) (s : ByteArray) (w : World) (he : 1 ≤ e ∧ e ≤ 7) (hs : s.size ≤ 3000) : Calls Try.prog 7 #[.int .i64 e, .string s] w fun e' w' => ∃ v, e' = .returned (.tuple #[v, .int .i64 0]) ∧ Ints w' v (M.decE e (bl s)) ∧ Below w.heap.size w w' := by
  obtain rfl | rfl | rfl | rfl | rfl | rfl | rfl : e = 1 ∨ e = 2 ∨ e = 3 ∨ e = 4 ∨ e = 5 ∨ e = 6 ∨ e = 7 := by omega
  · have H := fun w => decode_any s w hs
    have HD := hide (decE_1 (bl s))
    go_enter Try.func7, Try.ntmps7
    go_wp2_with fail
    refine (H _).mono ?_
    rintro e w1 ⟨v, rfl, hI, hb⟩
    rw [← unhide HD] at hI
    have HI := hide hI
    have HB := hide hb
    obtain ⟨ao, cap, rfl, -⟩ := hI
    clear hb H
    go_wp2_with fail
    go_ret2
    exact ⟨_, rfl, unhide HI, unhide HB⟩
  · have H := fun w => decode16_any false s w hs
    have HD := hide (decE_2 (bl s))
    go_enter Try.func7, Try.ntmps7
    go_wp2_with fail
    refine (H _).mono ?_
    rintro e w1 ⟨v, rfl, hI, hb⟩
    rw [← unhide HD] at hI
    have HI := hide hI
    have HB := hide hb
    obtain ⟨ao, cap, rfl, -⟩ := hI
    clear hb H
    go_wp2_with fail
    go_ret2
    exact ⟨_, rfl, unhide HI, unhide HB⟩
  · have H := fun w => decode16_any true s w hs
    have HD := hide (decE_3 (bl s))
    go_enter Try.func7, Try.ntmps7
    go_wp2_with fail
    refine (H _).mono ?_
    rintro e w1 ⟨v, rfl, hI, hb⟩
    rw [← unhide HD] at hI
    have HI := hide hI
    have HB := hide hb
    obtain ⟨ao, cap, rfl, -⟩ := hI
    clear hb H
    go_wp2_with fail
    go_ret2
    exact ⟨_, rfl, unhide HI, unhide HB⟩
  · have H := fun w => decodeS_any false s w hs
    have HD := hide (decE_4 (bl s))
    go_enter Try.func7, Try.ntmps7
    go_wp2_with fail
    refine (H _).mono ?_
    rintro e w1 ⟨v, rfl, hI, hb⟩
    rw [← unhide HD] at hI
    have HI := hide hI
    have HB := hide hb
    obtain ⟨ao, cap, rfl, -⟩ := hI
    clear hb H
    go_wp2_with fail
    go_ret2
    exact ⟨_, rfl, unhide HI, unhide HB⟩
  · have H := fun w => decodeS_any true s w hs
    have HD := hide (decE_5 (bl s))
    go_enter Try.func7, Try.ntmps7
    go_wp2_with fail
    refine (H _).mono ?_
    rintro e w1 ⟨v, rfl, hI, hb⟩
    rw [← unhide HD] at hI
    have HI := hide hI
    have HB := hide hb
    obtain ⟨ao, cap, rfl, -⟩ := hI
    clear hb H
    go_wp2_with fail
    go_ret2
    exact ⟨_, rfl, unhide HI, unhide HB⟩
  · have H := fun w => kdecode_any s w hs
    have HD := hide (decE_6 (bl s))
    go_enter Try.func7, Try.ntmps7
    go_wp2_with fail
    refine (H _).mono ?_
    rintro e w1 ⟨v, rfl, hI, hb⟩
    rw [← unhide HD] at hI
    have HI := hide hI
    have HB := hide hb
    obtain ⟨ao, cap, rfl, -⟩ := hI
    clear hb H
    go_wp2_with fail
    go_ret2
    exact ⟨_, rfl, unhide HI, unhide HB⟩
  · have H := fun w => stop_text s w hs
    go_enter Try.func7, Try.ntmps7
    go_wp2_with fail
    refine (H _).mono ?_
    rintro e w1 ⟨v, rfl, hI, hb⟩
    have HI := hide hI
    have HB := hide hb
    obtain ⟨ao, cap, rfl, -⟩ := hI
    clear hb H
    go_wp2_with fail
    go_ret2
    exact ⟨_, rfl, unhide HI, unhide HB⟩
set_option maxHeartbeats 400000 in
set_option maxRecDepth 100000 in
theorem sdecode_kind (e : Int) (s : ByteArray) (w : World) (he : ¬ (1 ≤ e ∧ e ≤ 7)) : Calls Try.prog 7 #[.int .i64 e, .string s] w fun e' w' => e' = .returned (.tuple #[.slice none 0 0, .int .i64 6]) ∧ w' = w := by
  have h1 : (e == 1) = false := by simp; omega
  have h2 : (e == 2) = false := by simp; omega
  have h3 : (e == 3) = false := by simp; omega
  have h4 : (e == 4) = false := by simp; omega
  have h5 : (e == 5) = false := by simp; omega
  have h6 : (e == 6) = false := by simp; omega
  have h7 : (e == 7) = false := by simp; omega
  go_enter Try.func7, Try.ntmps7
  go_wp2_with fail
  go_ret2
  exact ⟨rfl, rfl⟩
theorem stop_long (s : ByteArray) (w : World) (hs : 3000 < s.size) (hm : s.size ≤ maxLen) : Calls Try.prog 17 #[.string s, .func (Fn.func 18) #[] #[]] w fun e w' => e = .returned (.tuple #[.slice none 0 0, .int .i64 2]) ∧ w' = w := by
  unfold maxLen at hm
  go_enter Try.func17, Try.ntmps17
  go_wp2
  go_ret2
  exact ⟨rfl, rfl⟩
set_option maxHeartbeats 1600000 in
set_option maxRecDepth 100000 in
theorem sdecode_long (e : Int) (s : ByteArray) (w : World) (he : 1 ≤ e ∧ e ≤ 7) (hs : 3000 < s.size) (hm : s.size ≤ maxLen) : Calls Try.prog 7 #[.int .i64 e, .string s] w fun e' w' => e' = .returned (.tuple #[.slice none 0 0, .int .i64 2]) ∧ Below w.heap.size w w' := by
  obtain rfl | rfl | rfl | rfl | rfl | rfl | rfl : e = 1 ∨ e = 2 ∨ e = 3 ∨ e = 4 ∨ e = 5 ∨ e = 6 ∨ e = 7 := by omega
  · have H := fun w => decode_long s w hs hm
    go_enter Try.func7, Try.ntmps7
    go_wp2_with fail
    refine (H _).mono ?_
    rintro e w1 ⟨rfl, hw⟩
    replace hw := hw.symm
    subst hw
    clear H
    go_wp2_with fail
    go_ret2
    exact ⟨rfl, Below.refl _ _⟩
  · have H := fun w => decode16_long false s w hs hm
    go_enter Try.func7, Try.ntmps7
    go_wp2_with fail
    refine (H _).mono ?_
    rintro e w1 ⟨rfl, hb⟩
    have HB := hide hb
    clear hb
    clear H
    go_wp2_with fail
    go_ret2
    exact ⟨rfl, unhide HB⟩
  · have H := fun w => decode16_long true s w hs hm
    go_enter Try.func7, Try.ntmps7
    go_wp2_with fail
    refine (H _).mono ?_
    rintro e w1 ⟨rfl, hb⟩
    have HB := hide hb
    clear hb
    clear H
    go_wp2_with fail
    go_ret2
    exact ⟨rfl, unhide HB⟩
  · have H := fun w => decodeS_long false s w hs hm
    go_enter Try.func7, Try.ntmps7
    go_wp2_with fail
    refine (H _).mono ?_
    rintro e w1 ⟨rfl, hb⟩
    have HB := hide hb
    clear hb
    clear H
    go_wp2_with fail
    go_ret2
    exact ⟨rfl, unhide HB⟩
  · have H := fun w => decodeS_long true s w hs hm
    go_enter Try.func7, Try.ntmps7
    go_wp2_with fail
    refine (H _).mono ?_
    rintro e w1 ⟨rfl, hb⟩
    have HB := hide hb
    clear hb
    clear H
    go_wp2_with fail
    go_ret2
    exact ⟨rfl, unhide HB⟩
  · have H := fun w => kdecode_long s w hs hm
    go_enter Try.func7, Try.ntmps7
    go_wp2_with fail
    refine (H _).mono ?_
    rintro e w1 ⟨rfl, hw⟩
    replace hw := hw.symm
    subst hw
    clear H
    go_wp2_with fail
    go_ret2
    exact ⟨rfl, Below.refl _ _⟩
  · have H := fun w => stop_long s w hs hm
    go_enter Try.func7, Try.ntmps7
    go_wp2_with fail
    refine (H _).mono ?_
    rintro e w1 ⟨rfl, hw⟩
    replace hw := hw.symm
    subst hw
    clear H
    go_wp2_with fail
    go_ret2
    exact ⟨rfl, Below.refl _ _⟩
end Go.Proofs.Ytpjhcecfcjbgoaa
