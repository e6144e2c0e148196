/- Proved: for both orders of bytes and all texts s and t the law Utf16Parts returns true and leaves both as they were. No condition. -/
import Derived.Test.YthhjfedegbldfabUF
import Derived.Test.YthhjfedegbldfabMathV
import Derived.OpenShut
import Derived.ShutString
import Derived.ChangeOld
import Derived.SizedLaws
namespace Go.Proofs.Ythhjfedegbldfab.utf16Parts
open Go.ChangeShapes Go.WideShapes Go.ChangeAt Go.RowKit
open Go.ChangeMaps (open_string shut_string)
open Go.Proofs.Ythhjfedegbldfab
set_option linter.unusedVariables false

theorem own : ownKnob Try.prog.godebug = none := by kernel_rfl

theorem fst_last (big : Bool) (s : ByteArray) (j : Nat) (c : Int) (hj : s.size = j + 2) (h2 : s.size % 2 = 0) (hc : (if big then ((s[j]'(by omega)).toNat : Int) else ((s[j + 1]'(by omega)).toNat : Int)) = c) :
    M.fst16 (M.lastU big (bl s)) = decide (216 ≤ c ∧ c ≤ 219) := by
  rw [M.lastU_at big s.size (bl s) (by rw [bl_len]; omega) (by rw [bl_len]; exact h2) (fun e => by have := bl_len s; rw [e] at this; simp at this; omega), bl_len]
  have e1 : (bl s).getD (s.size - 2) 0 = ((s[j]'(by omega)).toNat : Int) := by rw [List.getD_eq_getElem?_getD, show s.size - 2 = j from by omega, bl_get s j (by omega)]; rfl
  have e2 : (bl s).getD (s.size - 1) 0 = ((s[j + 1]'(by omega)).toNat : Int) := by rw [List.getD_eq_getElem?_getD, show s.size - 1 = j + 1 from by omega, bl_get s (j + 1) (by omega)]; rfl
  rw [e1, e2]
  have b1 := (s[j]'(by omega)).toNat_lt
  have b2 := (s[j + 1]'(by omega)).toNat_lt
  exact M.fst16_at big (by omega) (by omega) hc.symm

set_option maxHeartbeats 1000000 in
set_option maxRecDepth 100000 in
theorem walk_odd (big : Bool) (s t : ByteArray) (w : World) (hs : s.size ≤ 140737488351232) (h : s.size % 2 = 1) :
    Calls Try.prog 5 #[.bool big, .string s, .string t] w fun e w' => e = .returned (.bool true) ∧ Below w.heap.size w w' := by
  have hm : ((s.size : Int) % 2 == 1) = true := by simp; omega
  go_enter Try.func5, Try.ntmps5
  go_wp2_with fail
  refine (begun16_any _).mono ?_
  rintro e w1 ⟨rfl, hb1⟩
  go_wp2_with fail
  go_ret
  exact ⟨rfl, hb1⟩

set_option maxHeartbeats 1000000 in
set_option maxRecDepth 100000 in
theorem walk_sum (big : Bool) (s t : ByteArray) (w : World) (hs : s.size ≤ 140737488351232) (ht : t.size ≤ 140737488351232) (h : s.size % 2 = 0) (hg : 3000 < s.size + t.size) :
    Calls Try.prog 5 #[.bool big, .string s, .string t] w fun e w' => e = .returned (.bool true) ∧ Below w.heap.size w w' := by
  have hm : ((s.size : Int) % 2 == 1) = false := by simp; omega
  go_enter Try.func5, Try.ntmps5
  go_wp2_with fail
  refine (begun16_any _).mono ?_
  rintro e w1 ⟨rfl, hb1⟩
  go_wp2_with fail
  go_ret
  exact ⟨rfl, hb1⟩

set_option maxHeartbeats 1000000 in
set_option maxRecDepth 100000 in
theorem walk_none (big : Bool) (s t : ByteArray) (w : World) (h : s.size = 0) (hg : s.size + t.size ≤ 3000) :
    Calls Try.prog 5 #[.bool big, .string s, .string t] w fun e w' => e = .returned (.bool true) ∧ Below w.heap.size w w' := by
  have hm : ((s.size : Int) % 2 == 1) = false := by simp; omega
  have HE := hide (bl_app s t)
  have la := M.dec16_le big (bl s)
  have lb := M.dec16_le big (bl t)
  have lc := M.dec16_le big (bl (s ++ t))
  rw [bl_len] at la lb lc
  simp only [ByteArray.size_append] at lc
  go_enter Try.func5, Try.ntmps5
  go_wp2_with fail
  refine (begun16_any _).mono ?_
  rintro e w1 ⟨rfl, hb1⟩
  go_wp2_with fail
  refine (decode16_any big s _ (by omega)).mono ?_
  rintro e w3 ⟨v3, rfl, hI3, hb3⟩
  generalize HA : M.dec16 big (bl s) = A at *
  replace HA := hide HA
  obtain ⟨ao3, cap3, hsh3, -⟩ := id hI3
  subst hsh3
  have HI3 := hide hI3
  clear hI3
  go_wp2_with fail
  refine (decode16_any big t _ (by omega)).mono ?_
  rintro e w4 ⟨v4, rfl, hI4, hb4⟩
  generalize HB : M.dec16 big (bl t) = B at *
  replace HB := hide HB
  obtain ⟨ao4, cap4, hsh4, -⟩ := id hI4
  subst hsh4
  have HI4 := hide hI4
  clear hI4
  go_wp2_with fail
  refine (decode16_any big (s ++ t) _ (by simp; omega)).mono ?_
  rintro e w5 ⟨v5, rfl, hI5, hb5⟩
  generalize HC : M.dec16 big (bl (s ++ t)) = C at *
  replace HC := hide HC
  obtain ⟨ao5, cap5, hsh5, -⟩ := id hI5
  subst hsh5
  have HI5 := hide hI5
  clear hI5
  have I3 := hide ((unhide HI3).below (bstep hb4 hb5))
  have I4 := hide ((unhide HI4).below hb5)
  have HB5 := hide (bstep (bstep (bstep hb1 hb3) hb4) hb5)
  clear hb1 hb3 hb4 hb5 HI3 HI4
  have HQ : Hid (C = A ++ B) := by
    have e0 : bl s = [] := List.eq_nil_of_length_eq_zero (by rw [bl_len]; exact h)
    rw [← unhide HA, ← unhide HB, ← unhide HC, unhide HE, e0]
    exact hide rfl
  have h0 : ¬ (0 : Int) < (s.size : Int) := by omega
  have o6 := World.ownsRow_made (base := w5.heap.size) (e := 3) (size := 1) w5 #[] 0 (Nat.le_refl _) (by simp) rfl
  go_wp2_with (at_builtin; refine append_ints rfl (.tmp 87) (.tmp 88) rfl w5.heap.size _ [] rfl o6 _ A rfl ((unhide I3).below (balloc _ _)) (by simp; omega) (by simp) ?_)
  intro v7 w7 ho7 hb7
  obtain ⟨ao7, cap7, hsh7⟩ := owns_shape ho7
  subst hsh7
  have HB7 : Hid (Below w5.heap.size w5 w7) := (balloc _ _).trans hb7
  have hz7 := (unhide HB7).size
  clear o6 hb7
  go_wp2_with (at_builtin; refine append_ints rfl (.tmp 89) (.tmp 90) rfl w5.heap.size _ A rfl ho7 _ B rfl ((unhide I4).below (unhide HB7)) (by omega) hz7 ?_)
  intro v8 w8 ho8 hb8
  obtain ⟨ao8, cap8, hsh8⟩ := owns_shape ho8
  subst hsh8
  have HB8 : Hid (Below w5.heap.size w5 w8) := (unhide HB7).trans hb8
  have I8 := hide (Ints.of_owns (xs := A ++ B) (by simpa using ho8))
  clear ho7 ho8 hb8 HB7
  go_wp2_with fail
  refine (same_any _ ((unhide HI5).below (unhide HB8)) (unhide I8)).mono ?_
  rintro e w9 ⟨rfl, hb9⟩
  rw [show (C == A ++ B) = true from by rw [unhide HQ]; simp]
  have HB9 := hide (bstep (bstep (unhide HB5) (unhide HB8)) hb9)
  clear hb9 HB8
  go_wp2_with fail
  go_ret
  exact ⟨rfl, unhide HB9⟩

set_option maxHeartbeats 1000000 in
set_option maxRecDepth 100000 in
theorem walk_big_first (s t : ByteArray) (j : Nat) (c : Int) (w : World) (hjt : j + 1 < s.size) (HJ : Hid (s.size = j + 2)) (h2 : s.size % 2 = 0) (hg : s.size + t.size ≤ 3000) (hc : ((s[j]'(by omega)).toNat : Int) = c) (hq : (216 ≤ c ∧ c ≤ 219)) :
    Calls Try.prog 5 #[.bool true, .string s, .string t] w fun e w' => e = .returned (.bool true) ∧ Below w.heap.size w w' := by
  have hc0 : 0 ≤ c ∧ c < 256 := by have := (s[j]'(by omega)).toNat_lt; omega
  have hj1 : (s.size : Int) - 1 = ((j + 1 : Nat) : Int) := by have := unhide HJ; omega
  have hj2 : (s.size : Int) - 2 = (j : Int) := by have := unhide HJ; omega
  have hjs : j < s.size := by omega
  have HF := hide (fst_last true s j c (unhide HJ) h2 hc)
  have hm : ((s.size : Int) % 2 == 1) = false := by simp; omega
  have HE := hide (bl_app s t)
  have la := M.dec16_le true (bl s)
  have lb := M.dec16_le true (bl t)
  have lc := M.dec16_le true (bl (s ++ t))
  rw [bl_len] at la lb lc
  simp only [ByteArray.size_append] at lc
  go_enter Try.func5, Try.ntmps5
  go_wp2_with fail
  refine (begun16_any _).mono ?_
  rintro e w1 ⟨rfl, hb1⟩
  go_wp2_with fail
  refine (decode16_any true s _ (by omega)).mono ?_
  rintro e w3 ⟨v3, rfl, hI3, hb3⟩
  generalize HA : M.dec16 true (bl s) = A at *
  replace HA := hide HA
  obtain ⟨ao3, cap3, hsh3, -⟩ := id hI3
  subst hsh3
  have HI3 := hide hI3
  clear hI3
  go_wp2_with fail
  refine (decode16_any true t _ (by omega)).mono ?_
  rintro e w4 ⟨v4, rfl, hI4, hb4⟩
  generalize HB : M.dec16 true (bl t) = B at *
  replace HB := hide HB
  obtain ⟨ao4, cap4, hsh4, -⟩ := id hI4
  subst hsh4
  have HI4 := hide hI4
  clear hI4
  go_wp2_with fail
  refine (decode16_any true (s ++ t) _ (by simp; omega)).mono ?_
  rintro e w5 ⟨v5, rfl, hI5, hb5⟩
  generalize HC : M.dec16 true (bl (s ++ t)) = C at *
  replace HC := hide HC
  obtain ⟨ao5, cap5, hsh5, -⟩ := id hI5
  subst hsh5
  have HI5 := hide hI5
  clear hI5
  have I3 := hide ((unhide HI3).below (bstep hb4 hb5))
  have I4 := hide ((unhide HI4).below hb5)
  have HB5 := hide (bstep (bstep (bstep hb1 hb3) hb4) hb5)
  clear hb1 hb3 hb4 hb5 HI3 HI4
  have hle : (C.length : Int) ≤ (A.length : Int) + (B.length : Int) := by
    have := M.parts_le true (bl t) s.size (bl s) (by rw [bl_len]; omega) (by rw [bl_len]; exact h2)
    rw [← unhide HE, unhide HA, unhide HB, unhide HC] at this
    omega
  have hq1 := hq.1
  have hq2 := hq.2
  go_wp2_with fail
  go_ret
  exact ⟨ret_bool (by simp), unhide HB5⟩

set_option maxHeartbeats 1000000 in
set_option maxRecDepth 100000 in
theorem walk_big_other (s t : ByteArray) (j : Nat) (c : Int) (w : World) (hjt : j + 1 < s.size) (HJ : Hid (s.size = j + 2)) (h2 : s.size % 2 = 0) (hg : s.size + t.size ≤ 3000) (hc : ((s[j]'(by omega)).toNat : Int) = c) (hq : ¬ (216 ≤ c ∧ c ≤ 219)) :
    Calls Try.prog 5 #[.bool true, .string s, .string t] w fun e w' => e = .returned (.bool true) ∧ Below w.heap.size w w' := by
  have hc0 : 0 ≤ c ∧ c < 256 := by have := (s[j]'(by omega)).toNat_lt; omega
  have hj1 : (s.size : Int) - 1 = ((j + 1 : Nat) : Int) := by have := unhide HJ; omega
  have hj2 : (s.size : Int) - 2 = (j : Int) := by have := unhide HJ; omega
  have hjs : j < s.size := by omega
  have HF := hide (fst_last true s j c (unhide HJ) h2 hc)
  have hm : ((s.size : Int) % 2 == 1) = false := by simp; omega
  have HE := hide (bl_app s t)
  have la := M.dec16_le true (bl s)
  have lb := M.dec16_le true (bl t)
  have lc := M.dec16_le true (bl (s ++ t))
  rw [bl_len] at la lb lc
  simp only [ByteArray.size_append] at lc
  go_enter Try.func5, Try.ntmps5
  go_wp2_with fail
  refine (begun16_any _).mono ?_
  rintro e w1 ⟨rfl, hb1⟩
  go_wp2_with fail
  refine (decode16_any true s _ (by omega)).mono ?_
  rintro e w3 ⟨v3, rfl, hI3, hb3⟩
  generalize HA : M.dec16 true (bl s) = A at *
  replace HA := hide HA
  obtain ⟨ao3, cap3, hsh3, -⟩ := id hI3
  subst hsh3
  have HI3 := hide hI3
  clear hI3
  go_wp2_with fail
  refine (decode16_any true t _ (by omega)).mono ?_
  rintro e w4 ⟨v4, rfl, hI4, hb4⟩
  generalize HB : M.dec16 true (bl t) = B at *
  replace HB := hide HB
  obtain ⟨ao4, cap4, hsh4, -⟩ := id hI4
  subst hsh4
  have HI4 := hide hI4
  clear hI4
  go_wp2_with fail
  refine (decode16_any true (s ++ t) _ (by simp; omega)).mono ?_
  rintro e w5 ⟨v5, rfl, hI5, hb5⟩
  generalize HC : M.dec16 true (bl (s ++ t)) = C at *
  replace HC := hide HC
  obtain ⟨ao5, cap5, hsh5, -⟩ := id hI5
  subst hsh5
  have HI5 := hide hI5
  clear hI5
  have I3 := hide ((unhide HI3).below (bstep hb4 hb5))
  have I4 := hide ((unhide HI4).below hb5)
  have HB5 := hide (bstep (bstep (bstep hb1 hb3) hb4) hb5)
  clear hb1 hb3 hb4 hb5 HI3 HI4
  have HQ : Hid (C = A ++ B) := by
    have := M.parts_eq true (bl t) s.size (bl s) (by rw [bl_len]; omega) (by rw [bl_len]; exact h2) (by rw [unhide HF]; simpa using hq)
    rw [← unhide HE, unhide HA, unhide HB, unhide HC] at this
    exact hide this
  have h0 : (0 : Int) < (s.size : Int) := by omega
  rcases (show c < 216 ∨ (216 ≤ c ∧ 219 < c) from by omega) with hq1 | ⟨hq1, hq2⟩
  · have o6 := World.ownsRow_made (base := w5.heap.size) (e := 3) (size := 1) w5 #[] 0 (Nat.le_refl _) (by simp) rfl
    go_wp2_with (at_builtin; refine append_ints rfl (.tmp 87) (.tmp 88) rfl w5.heap.size _ [] rfl o6 _ A rfl ((unhide I3).below (balloc _ _)) (by simp; omega) (by simp) ?_)
    intro v7 w7 ho7 hb7
    obtain ⟨ao7, cap7, hsh7⟩ := owns_shape ho7
    subst hsh7
    have HB7 : Hid (Below w5.heap.size w5 w7) := (balloc _ _).trans hb7
    have hz7 := (unhide HB7).size
    clear o6 hb7
    go_wp2_with (at_builtin; refine append_ints rfl (.tmp 89) (.tmp 90) rfl w5.heap.size _ A rfl ho7 _ B rfl ((unhide I4).below (unhide HB7)) (by omega) hz7 ?_)
    intro v8 w8 ho8 hb8
    obtain ⟨ao8, cap8, hsh8⟩ := owns_shape ho8
    subst hsh8
    have HB8 : Hid (Below w5.heap.size w5 w8) := (unhide HB7).trans hb8
    have I8 := hide (Ints.of_owns (xs := A ++ B) (by simpa using ho8))
    clear ho7 ho8 hb8 HB7
    go_wp2_with fail
    refine (same_any _ ((unhide HI5).below (unhide HB8)) (unhide I8)).mono ?_
    rintro e w9 ⟨rfl, hb9⟩
    rw [show (C == A ++ B) = true from by rw [unhide HQ]; simp]
    have HB9 := hide (bstep (bstep (unhide HB5) (unhide HB8)) hb9)
    clear hb9 HB8
    go_wp2_with fail
    go_ret
    exact ⟨rfl, unhide HB9⟩
  · have o6 := World.ownsRow_made (base := w5.heap.size) (e := 3) (size := 1) w5 #[] 0 (Nat.le_refl _) (by simp) rfl
    go_wp2_with (at_builtin; refine append_ints rfl (.tmp 87) (.tmp 88) rfl w5.heap.size _ [] rfl o6 _ A rfl ((unhide I3).below (balloc _ _)) (by simp; omega) (by simp) ?_)
    intro v7 w7 ho7 hb7
    obtain ⟨ao7, cap7, hsh7⟩ := owns_shape ho7
    subst hsh7
    have HB7 : Hid (Below w5.heap.size w5 w7) := (balloc _ _).trans hb7
    have hz7 := (unhide HB7).size
    clear o6 hb7
    go_wp2_with (at_builtin; refine append_ints rfl (.tmp 89) (.tmp 90) rfl w5.heap.size _ A rfl ho7 _ B rfl ((unhide I4).below (unhide HB7)) (by omega) hz7 ?_)
    intro v8 w8 ho8 hb8
    obtain ⟨ao8, cap8, hsh8⟩ := owns_shape ho8
    subst hsh8
    have HB8 : Hid (Below w5.heap.size w5 w8) := (unhide HB7).trans hb8
    have I8 := hide (Ints.of_owns (xs := A ++ B) (by simpa using ho8))
    clear ho7 ho8 hb8 HB7
    go_wp2_with fail
    refine (same_any _ ((unhide HI5).below (unhide HB8)) (unhide I8)).mono ?_
    rintro e w9 ⟨rfl, hb9⟩
    rw [show (C == A ++ B) = true from by rw [unhide HQ]; simp]
    have HB9 := hide (bstep (bstep (unhide HB5) (unhide HB8)) hb9)
    clear hb9 HB8
    go_wp2_with fail
    go_ret
    exact ⟨rfl, unhide HB9⟩

set_option maxHeartbeats 1000000 in
set_option maxRecDepth 100000 in
theorem walk_lit_first (s t : ByteArray) (j : Nat) (c : Int) (w : World) (hjt : j + 1 < s.size) (HJ : Hid (s.size = j + 2)) (h2 : s.size % 2 = 0) (hg : s.size + t.size ≤ 3000) (hc : ((s[j + 1]'(by omega)).toNat : Int) = c) (hq : (216 ≤ c ∧ c ≤ 219)) :
    Calls Try.prog 5 #[.bool false, .string s, .string t] w fun e w' => e = .returned (.bool true) ∧ Below w.heap.size w w' := by
  have hc0 : 0 ≤ c ∧ c < 256 := by have := (s[j + 1]'(by omega)).toNat_lt; omega
  have hj1 : (s.size : Int) - 1 = ((j + 1 : Nat) : Int) := by have := unhide HJ; omega
  have hj2 : (s.size : Int) - 2 = (j : Int) := by have := unhide HJ; omega
  have hjs : j < s.size := by omega
  have HF := hide (fst_last false s j c (unhide HJ) h2 hc)
  have hm : ((s.size : Int) % 2 == 1) = false := by simp; omega
  have HE := hide (bl_app s t)
  have la := M.dec16_le false (bl s)
  have lb := M.dec16_le false (bl t)
  have lc := M.dec16_le false (bl (s ++ t))
  rw [bl_len] at la lb lc
  simp only [ByteArray.size_append] at lc
  go_enter Try.func5, Try.ntmps5
  go_wp2_with fail
  refine (begun16_any _).mono ?_
  rintro e w1 ⟨rfl, hb1⟩
  go_wp2_with fail
  refine (decode16_any false s _ (by omega)).mono ?_
  rintro e w3 ⟨v3, rfl, hI3, hb3⟩
  generalize HA : M.dec16 false (bl s) = A at *
  replace HA := hide HA
  obtain ⟨ao3, cap3, hsh3, -⟩ := id hI3
  subst hsh3
  have HI3 := hide hI3
  clear hI3
  go_wp2_with fail
  refine (decode16_any false t _ (by omega)).mono ?_
  rintro e w4 ⟨v4, rfl, hI4, hb4⟩
  generalize HB : M.dec16 false (bl t) = B at *
  replace HB := hide HB
  obtain ⟨ao4, cap4, hsh4, -⟩ := id hI4
  subst hsh4
  have HI4 := hide hI4
  clear hI4
  go_wp2_with fail
  refine (decode16_any false (s ++ t) _ (by simp; omega)).mono ?_
  rintro e w5 ⟨v5, rfl, hI5, hb5⟩
  generalize HC : M.dec16 false (bl (s ++ t)) = C at *
  replace HC := hide HC
  obtain ⟨ao5, cap5, hsh5, -⟩ := id hI5
  subst hsh5
  have HI5 := hide hI5
  clear hI5
  have I3 := hide ((unhide HI3).below (bstep hb4 hb5))
  have I4 := hide ((unhide HI4).below hb5)
  have HB5 := hide (bstep (bstep (bstep hb1 hb3) hb4) hb5)
  clear hb1 hb3 hb4 hb5 HI3 HI4
  have hle : (C.length : Int) ≤ (A.length : Int) + (B.length : Int) := by
    have := M.parts_le false (bl t) s.size (bl s) (by rw [bl_len]; omega) (by rw [bl_len]; exact h2)
    rw [← unhide HE, unhide HA, unhide HB, unhide HC] at this
    omega
  have hq1 := hq.1
  have hq2 := hq.2
  go_wp2_with fail
  go_ret
  exact ⟨ret_bool (by simp), unhide HB5⟩

set_option maxHeartbeats 1000000 in
set_option maxRecDepth 100000 in
theorem walk_lit_other (s t : ByteArray) (j : Nat) (c : Int) (w : World) (hjt : j + 1 < s.size) (HJ : Hid (s.size = j + 2)) (h2 : s.size % 2 = 0) (hg : s.size + t.size ≤ 3000) (hc : ((s[j + 1]'(by omega)).toNat : Int) = c) (hq : ¬ (216 ≤ c ∧ c ≤ 219)) :
    Calls Try.prog 5 #[.bool false, .string s, .string t] w fun e w' => e = .returned (.bool true) ∧ Below w.heap.size w w' := by
  have hc0 : 0 ≤ c ∧ c < 256 := by have := (s[j + 1]'(by omega)).toNat_lt; omega
  have hj1 : (s.size : Int) - 1 = ((j + 1 : Nat) : Int) := by have := unhide HJ; omega
  have hj2 : (s.size : Int) - 2 = (j : Int) := by have := unhide HJ; omega
  have hjs : j < s.size := by omega
  have HF := hide (fst_last false s j c (unhide HJ) h2 hc)
  have hm : ((s.size : Int) % 2 == 1) = false := by simp; omega
  have HE := hide (bl_app s t)
  have la := M.dec16_le false (bl s)
  have lb := M.dec16_le false (bl t)
  have lc := M.dec16_le false (bl (s ++ t))
  rw [bl_len] at la lb lc
  simp only [ByteArray.size_append] at lc
  go_enter Try.func5, Try.ntmps5
  go_wp2_with fail
  refine (begun16_any _).mono ?_
  rintro e w1 ⟨rfl, hb1⟩
  go_wp2_with fail
  refine (decode16_any false s _ (by omega)).mono ?_
  rintro e w3 ⟨v3, rfl, hI3, hb3⟩
  generalize HA : M.dec16 false (bl s) = A at *
  replace HA := hide HA
  obtain ⟨ao3, cap3, hsh3, -⟩ := id hI3
  subst hsh3
  have HI3 := hide hI3
  clear hI3
  go_wp2_with fail
  refine (decode16_any false t _ (by omega)).mono ?_
  rintro e w4 ⟨v4, rfl, hI4, hb4⟩
  generalize HB : M.dec16 false (bl t) = B at *
  replace HB := hide HB
  obtain ⟨ao4, cap4, hsh4, -⟩ := id hI4
  subst hsh4
  have HI4 := hide hI4
  clear hI4
  go_wp2_with fail
  refine (decode16_any false (s ++ t) _ (by simp; omega)).mono ?_
  rintro e w5 ⟨v5, rfl, hI5, hb5⟩
  generalize HC : M.dec16 false (bl (s ++ t)) = C at *
  replace HC := hide HC
  obtain ⟨ao5, cap5, hsh5, -⟩ := id hI5
  subst hsh5
  have HI5 := hide hI5
  clear hI5
  have I3 := hide ((unhide HI3).below (bstep hb4 hb5))
  have I4 := hide ((unhide HI4).below hb5)
  have HB5 := hide (bstep (bstep (bstep hb1 hb3) hb4) hb5)
  clear hb1 hb3 hb4 hb5 HI3 HI4
  have HQ : Hid (C = A ++ B) := by
    have := M.parts_eq false (bl t) s.size (bl s) (by rw [bl_len]; omega) (by rw [bl_len]; exact h2) (by rw [unhide HF]; simpa using hq)
    rw [← unhide HE, unhide HA, unhide HB, unhide HC] at this
    exact hide this
  have h0 : (0 : Int) < (s.size : Int) := by omega
  rcases (show c < 216 ∨ (216 ≤ c ∧ 219 < c) from by omega) with hq1 | ⟨hq1, hq2⟩
  · have o6 := World.ownsRow_made (base := w5.heap.size) (e := 3) (size := 1) w5 #[] 0 (Nat.le_refl _) (by simp) rfl
    go_wp2_with (at_builtin; refine append_ints rfl (.tmp 87) (.tmp 88) rfl w5.heap.size _ [] rfl o6 _ A rfl ((unhide I3).below (balloc _ _)) (by simp; omega) (by simp) ?_)
    intro v7 w7 ho7 hb7
    obtain ⟨ao7, cap7, hsh7⟩ := owns_shape ho7
    subst hsh7
    have HB7 : Hid (Below w5.heap.size w5 w7) := (balloc _ _).trans hb7
    have hz7 := (unhide HB7).size
    clear o6 hb7
    go_wp2_with (at_builtin; refine append_ints rfl (.tmp 89) (.tmp 90) rfl w5.heap.size _ A rfl ho7 _ B rfl ((unhide I4).below (unhide HB7)) (by omega) hz7 ?_)
    intro v8 w8 ho8 hb8
    obtain ⟨ao8, cap8, hsh8⟩ := owns_shape ho8
    subst hsh8
    have HB8 : Hid (Below w5.heap.size w5 w8) := (unhide HB7).trans hb8
    have I8 := hide (Ints.of_owns (xs := A ++ B) (by simpa using ho8))
    clear ho7 ho8 hb8 HB7
    go_wp2_with fail
    refine (same_any _ ((unhide HI5).below (unhide HB8)) (unhide I8)).mono ?_
    rintro e w9 ⟨rfl, hb9⟩
    rw [show (C == A ++ B) = true from by rw [unhide HQ]; simp]
    have HB9 := hide (bstep (bstep (unhide HB5) (unhide HB8)) hb9)
    clear hb9 HB8
    go_wp2_with fail
    go_ret
    exact ⟨rfl, unhide HB9⟩
  · have o6 := World.ownsRow_made (base := w5.heap.size) (e := 3) (size := 1) w5 #[] 0 (Nat.le_refl _) (by simp) rfl
    go_wp2_with (at_builtin; refine append_ints rfl (.tmp 87) (.tmp 88) rfl w5.heap.size _ [] rfl o6 _ A rfl ((unhide I3).below (balloc _ _)) (by simp; omega) (by simp) ?_)
    intro v7 w7 ho7 hb7
    obtain ⟨ao7, cap7, hsh7⟩ := owns_shape ho7
    subst hsh7
    have HB7 : Hid (Below w5.heap.size w5 w7) := (balloc _ _).trans hb7
    have hz7 := (unhide HB7).size
    clear o6 hb7
    go_wp2_with (at_builtin; refine append_ints rfl (.tmp 89) (.tmp 90) rfl w5.heap.size _ A rfl ho7 _ B rfl ((unhide I4).below (unhide HB7)) (by omega) hz7 ?_)
    intro v8 w8 ho8 hb8
    obtain ⟨ao8, cap8, hsh8⟩ := owns_shape ho8
    subst hsh8
    have HB8 : Hid (Below w5.heap.size w5 w8) := (unhide HB7).trans hb8
    have I8 := hide (Ints.of_owns (xs := A ++ B) (by simpa using ho8))
    clear ho7 ho8 hb8 HB7
    go_wp2_with fail
    refine (same_any _ ((unhide HI5).below (unhide HB8)) (unhide I8)).mono ?_
    rintro e w9 ⟨rfl, hb9⟩
    rw [show (C == A ++ B) = true from by rw [unhide HQ]; simp]
    have HB9 := hide (bstep (bstep (unhide HB5) (unhide HB8)) hb9)
    clear hb9 HB8
    go_wp2_with fail
    go_ret
    exact ⟨rfl, unhide HB9⟩

theorem walk (big : Bool) (s t : ByteArray) (w : World) (hs : s.size ≤ 140737488351232) (ht : t.size ≤ 140737488351232) :
    Calls Try.prog 5 #[.bool big, .string s, .string t] w fun e w' => e = .returned (.bool true) ∧ Below w.heap.size w w' := by
  by_cases h2 : s.size % 2 = 1
  · exact walk_odd big s t w hs h2
  by_cases hg : 3000 < s.size + t.size
  · exact walk_sum big s t w hs ht (by omega) hg
  by_cases h0 : s.size = 0
  · exact walk_none big s t w h0 (by omega)
  obtain ⟨j, hj⟩ : ∃ j, s.size = j + 2 := ⟨s.size - 2, by omega⟩
  cases big
  · by_cases hq : 216 ≤ ((s[j + 1]'(by omega)).toNat : Int) ∧ ((s[j + 1]'(by omega)).toNat : Int) ≤ 219
    · exact walk_lit_first s t j _ w (by omega) hj (by omega) (by omega) rfl hq
    · exact walk_lit_other s t j _ w (by omega) hj (by omega) (by omega) rfl hq
  · by_cases hq : 216 ≤ ((s[j]'(by omega)).toNat : Int) ∧ ((s[j]'(by omega)).toNat : Int) ≤ 219
    · exact walk_big_first s t j _ w (by omega) hj (by omega) (by omega) rfl hq
    · exact walk_big_other s t j _ w (by omega) hj (by omega) (by omega) rfl hq

set_option maxRecDepth 100000 in
theorem lifted (os : Os) (started : os.Started) (H : Type) (enc : TypeId × Value → H) :
    ReturnsInHanded {} Try.checked os 5 .any (Rows.utf16PartsSpec.pre6 enc Try.prog Try.f5 Rows.utf16PartsRow.domain false) (Rows.utf16PartsSpec.post enc Try.prog Try.f5 false true false false) := by
  refine returnsInHanded_of_change_sized (C := Try.checked) own started (by kernel_rfl) Try.func5
    (ChangeSpec.witness6 (enc := enc) (C := Try.checked) false ⟨#[], #[.bool false, .string ByteArray.empty, .string ByteArray.empty], []⟩ 8 (by kernel_rfl) (by kernel_rfl) (by kernel_rfl) (by kernel_rfl)) ?_
  intro W base args ds gs before hval0 hW hcnd hsz0 _
  have hval : ∀ (j : Nat) t v, Try.f5.params[j]? = some t → args[j]? = some v → Value.okWide Try.prog W .any base t v := hval0
  have hW' := hW
  obtain ⟨p, q, hA0, hV, rfl, hfz, hnd⟩ := hW
  have hA : DataW.TrodAll enc Try.prog W 0 (fun _ => true) true Try.f5.params.toList args.toList ds p := hA0
  rw [Try.params5] at hA hval
  obtain ⟨v0, vs0, d0, ds0, p0, q0, hargs, rfl, rfl, h0, r0⟩ := trodAll_cons hA
  obtain ⟨v1, vs1, d1, ds1, p1, q1, rfl, rfl, rfl, h1, r1⟩ := trodAll_cons r0
  obtain ⟨v2, vs2, d2, ds2, p2, q2, rfl, rfl, rfl, h2, r2⟩ := trodAll_cons r1
  obtain ⟨rfl, rfl, rfl⟩ := trodAll_nil r2
  obtain rfl : args = #[v0, v1, v2] := by cases args; simp_all
  obtain ⟨rfl, rfl⟩ := trodVars_none hV
  obtain ⟨a0, rfl, rfl, rfl⟩ := open_bool Try.underlying4 (hval 0 4 v0 rfl rfl) h0
  obtain ⟨a1, rfl, rfl, rfl, w1⟩ := open_string Try.underlying9 (hval 1 9 v1 rfl rfl) h1
  obtain ⟨a2, rfl, rfl, rfl, w2⟩ := open_string Try.underlying9 (hval 2 9 v2 rfl rfl) h2
  have hsz : (DataW.weightsEach Try.prog (Try.f5.params.toList ++ Rows.utf16PartsSpec.plain.varTypes Try.prog) ([.lit (.bool a0), .lit (.string a1.data.toList), .lit (.string a2.data.toList)] ++ [])).all (fun x => decide (x ≤ reachBytes)) = true := hsz0
  rw [Try.params5] at hsz
  have sz1 : a1.size ≤ 140737488351232 := by
    have := sized_string hsz (j := 1) (t := 9) rfl rfl
    simp only [reachBytes] at this
    simpa using this
  have sz2 : a2.size ≤ 140737488351232 := by
    have := sized_string hsz (j := 2) (t := 9) rfl rfl
    simp only [reachBytes] at this
    simpa using this
  clear hA0 hval0
  refine (walk a0 a1 a2 W sz1 sz2).mono fun e W' ⟨he, bel⟩ => ?_
  subst he
  exact ⟨_, rfl, _, _, _, [], _, [], hW', trodAll_mk1 (shut_bool Try.underlying4 _), (trodAll_cons_mk (shut_bool Try.underlying4 _) (trodAll_cons_mk (shut_string Try.underlying9 w1) (trodAll_cons_mk (shut_string Try.underlying9 w2) trodAll_mk0))), rfl, bel.frame _, fun h => by cases h⟩

theorem over : Rows.utf16PartsRow.holds Try.pinned (OpenSpec.ofChange Rows.utf16PartsSpec) :=
  OpenClaim.holds_of_wide 5 Try.f5 rfl rfl rfl rfl rfl rfl rfl ⟨rfl, rfl, rfl, rfl, rfl⟩ rfl rfl rfl rfl rfl (by kernel_rfl) Try.func5 (by kernel_rfl)
    (of_decide_eq_true (by kernel_rfl)) (by unfold Func.isWrapper; first | (rw [if_pos (by decide +kernel)]; kernel_rfl) | (rw [if_neg (by decide +kernel)]; exact ⟨rfl, rfl⟩))
    (fun os started H enc _ => lifted os started H enc)
end Go.Proofs.Ythhjfedegbldfab.utf16Parts

namespace Go.Proofs.Ythhjfedegbldfab
theorem utf16Parts_holds : Rows.Utf16PartsSaid := utf16Parts.over
end Go.Proofs.Ythhjfedegbldfab
