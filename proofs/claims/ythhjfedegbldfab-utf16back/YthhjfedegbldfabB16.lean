/- Proved: for every text s and every list l of integers the law Utf16Back returns true and leaves both as they were. No condition. -/
import Derived.Test.YthhjfedegbldfabUF
import Derived.Test.YthhjfedegbldfabMathW
import Derived.OpenShut
import Derived.ShutString
import Derived.ChangeOld
namespace Go.Proofs.Ythhjfedegbldfab.utf16Back
open Go.ChangeShapes Go.WideShapes Go.ChangeAt Go.RowKit
open Go.ChangeMaps (open_string shut_string)
open Go.Proofs.Ythhjfedegbldfab
set_option linter.unusedVariables false

theorem own : ownKnob Try.prog.godebug = none := by kernel_rfl
theorem laidOut : laidOutB Try.prog = true := by kernel_rfl

theorem bl_one (s : ByteArray) (k : Nat) (h : k < s.size) : bl (s.extract k (k + 1)) = [(s[k].toNat : Int)] := by
  have h1 : bl (s.extract k (k + 1)) = ((bl s).drop k).take 1 := by
    simp [bl, ByteArray.data_extract]
  rw [h1, bl_drop s k h]; rfl
/-- What a round of the first loop knows. -/
def InB (w wr : World) : Prop := Below w.heap.size w wr

set_option maxHeartbeats 1000000 in
set_option maxRecDepth 100000 in
theorem many_long (s : ByteArray) (v : Value) (ys : List Int) (w : World) (hx : Ints w v ys) (hl : 3000 < ys.length) (hs : 3000 < s.size) (hsm : s.size ≤ maxLen) :
    Calls Try.prog 4 #[.string s, v] w fun e w' => e = .returned (.bool true) ∧ Below w.heap.size w w' := by
  obtain ⟨yo, yc, hv, hym, -⟩ := id hx
  subst hv
  have HX := hide hx
  clear hx
  unfold maxLen at hsm
  go_enter Try.func4, Try.ntmps4
  go_wp2_with fail
  refine (begun16_any _).mono ?_
  rintro e w1 ⟨rfl, hb1⟩
  go_wp2_with fail
  go_loopw [5] (fun i wr => ∃ k : Nat, k ≤ 2 ∧ i = .int .i64 k ∧ Hid (Below w.heap.size w wr)) (fun i _ => 2 - (intOf i).toNat)
  case atStart => exact ⟨0, by omega, rfl, hb1⟩
  case round =>
    obtain ⟨k, hk, rfl, HB⟩ := hrel
    clear hb1
    rcases (show k = 0 ∨ k = 1 ∨ k = 2 from by omega) with rfl | rfl | rfl
    · go_wp2_with fail
      refine (encode16_many true yo _ yc _ hl hym).mono ?_
      rintro e w2 ⟨rfl, hb2⟩
      have HW := hide (bstep (unhide HB) hb2)
      clear hb2
      go_wp2_with fail
      go_roundw
      case rel => exact ⟨1, by omega, by go_num, HW⟩
      case measure => simp [intOf]
    · go_wp2_with fail
      refine (encode16_many false yo _ yc _ hl hym).mono ?_
      rintro e w2 ⟨rfl, hb2⟩
      have HW := hide (bstep (unhide HB) hb2)
      clear hb2
      go_wp2_with fail
      go_roundw
      case rel => exact ⟨2, by omega, by go_num, HW⟩
      case measure => simp [intOf]
    · go_wp2_with fail
      go_ret
      exact ⟨rfl, unhide HB⟩

set_option maxHeartbeats 1000000 in
set_option maxRecDepth 100000 in
theorem many_odd (s : ByteArray) (v : Value) (ys : List Int) (w : World) (hx : Ints w v ys) (hl : 3000 < ys.length) (hs : s.size ≤ 3000) (ho : s.size % 2 = 1) :
    Calls Try.prog 4 #[.string s, v] w fun e w' => e = .returned (.bool true) ∧ Below w.heap.size w w' := by
  obtain ⟨yo, yc, hv, hym, -⟩ := id hx
  subst hv
  have HX := hide hx
  clear hx
  have hm : ((s.size : Int) % 2 == 1) = true := by simp; omega
  go_enter Try.func4, Try.ntmps4
  go_wp2_with fail
  refine (begun16_any _).mono ?_
  rintro e w1 ⟨rfl, hb1⟩
  go_wp2_with fail
  go_loopw [5] (fun i wr => ∃ k : Nat, k ≤ 2 ∧ i = .int .i64 k ∧ Hid (Below w.heap.size w wr)) (fun i _ => 2 - (intOf i).toNat)
  case atStart => exact ⟨0, by omega, rfl, hb1⟩
  case round =>
    obtain ⟨k, hk, rfl, HB⟩ := hrel
    clear hb1
    rcases (show k = 0 ∨ k = 1 ∨ k = 2 from by omega) with rfl | rfl | rfl
    · go_wp2_with fail
      refine (encode16_many true yo _ yc _ hl hym).mono ?_
      rintro e w2 ⟨rfl, hb2⟩
      have HW := hide (bstep (unhide HB) hb2)
      clear hb2
      go_wp2_with fail
      go_roundw
      case rel => exact ⟨1, by omega, by go_num, HW⟩
      case measure => simp [intOf]
    · go_wp2_with fail
      refine (encode16_many false yo _ yc _ hl hym).mono ?_
      rintro e w2 ⟨rfl, hb2⟩
      have HW := hide (bstep (unhide HB) hb2)
      clear hb2
      go_wp2_with fail
      go_roundw
      case rel => exact ⟨2, by omega, by go_num, HW⟩
      case measure => simp [intOf]
    · go_wp2_with fail
      go_ret
      exact ⟨rfl, unhide HB⟩

set_option maxHeartbeats 1000000 in
set_option maxRecDepth 100000 in
theorem many_even (s : ByteArray) (v : Value) (ys : List Int) (w : World) (hx : Ints w v ys) (hl : 3000 < ys.length) (hs : s.size ≤ 3000) (ho : s.size % 2 = 0) :
    Calls Try.prog 4 #[.string s, v] w fun e w' => e = .returned (.bool true) ∧ Below w.heap.size w w' := by
  obtain ⟨yo, yc, hv, hym, -⟩ := id hx
  subst hv
  have HX := hide hx
  clear hx
  have hm : ((s.size : Int) % 2 == 1) = false := by simp; omega
  go_enter Try.func4, Try.ntmps4
  go_wp2_with fail
  refine (begun16_any _).mono ?_
  rintro e w1 ⟨rfl, hb1⟩
  go_wp2_with fail
  go_loopw [5] (fun i wr => ∃ k : Nat, k ≤ 2 ∧ i = .int .i64 k ∧ Hid (Below w.heap.size w wr)) (fun i _ => 2 - (intOf i).toNat)
  case atStart => exact ⟨0, by omega, rfl, hb1⟩
  case round =>
    obtain ⟨k, hk, rfl, HB⟩ := hrel
    clear hb1
    rcases (show k = 0 ∨ k = 1 ∨ k = 2 from by omega) with rfl | rfl | rfl
    · go_wp2_with fail
      refine (encode16_many true yo _ yc _ hl hym).mono ?_
      rintro e w2 ⟨rfl, hb2⟩
      have HW := hide (bstep (unhide HB) hb2)
      clear hb2
      go_wp2_with fail
      go_roundw
      case rel => exact ⟨1, by omega, by go_num, HW⟩
      case measure => simp [intOf]
    · go_wp2_with fail
      refine (encode16_many false yo _ yc _ hl hym).mono ?_
      rintro e w2 ⟨rfl, hb2⟩
      have HW := hide (bstep (unhide HB) hb2)
      clear hb2
      go_wp2_with fail
      go_roundw
      case rel => exact ⟨2, by omega, by go_num, HW⟩
      case measure => simp [intOf]
    · go_wp2_with fail
      go_loopw [10, 11] (fun tv i wr => ∃ (n : Nat) (u : ByteArray), n ≤ s.size ∧ n % 2 = 0 ∧ u.size = n ∧ i = .int .i64 n ∧ tv = .string u ∧ Hid (bl u = M.swp ((bl s).take n)) ∧ Hid (Below w.heap.size w wr)) (fun _ i _ => s.size - (intOf i).toNat)
      case atStart => exact ⟨0, ⟨#[]⟩, by omega, rfl, rfl, rfl, rfl, hide rfl, HB⟩
      case round =>
        clear HB
        obtain ⟨n, u, hn1, hn2, hn3, rfl, rfl, HU, HB⟩ := hrel
        by_cases hlt : n < s.size
        · have hn4 : n + 2 ≤ s.size := by omega
          have hI1 : (n : Int) + 2 ≤ (s.size : Int) := by omega
          have hs1 : ∀ wx, (Instr.slice 9 (.string s) (some (.int .i64 ((n : Int) + 1))) (some (.int .i64 ((n : Int) + 2))) none).run Try.prog wx = .ok (.string (s.extract (n + 1) (n + 2))) wx :=
            fun wx => run_slice_string (P := Try.prog) wx 9 s .i64 .i64 ((n : Int) + 1) ((n : Int) + 2) Try.underlying9 (by omega) (by omega) (by omega)
          have hs2 : ∀ wx, (Instr.slice 9 (.string s) (some (.int .i64 (n : Int))) (some (.int .i64 ((n : Int) + 1))) none).run Try.prog wx = .ok (.string (s.extract n (n + 1))) wx :=
            fun wx => run_slice_string (P := Try.prog) wx 9 s .i64 .i64 (n : Int) ((n : Int) + 1) Try.underlying9 (by omega) (by omega) (by omega)
          have HU' : Hid (bl (u ++ (s.extract (n + 1) (n + 2) ++ s.extract n (n + 1))) = M.swp ((bl s).take (n + 2))) := by
            refine hide ?_
            rw [bl_app, bl_app, bl_one s (n + 1) (by omega), bl_one s n (by omega), unhide HU, M.swp_step hn2 (by rw [bl_len]; exact hn4) (bl_get s n (by omega)) (bl_get s (n + 1) (by omega))]
            rfl
          go_wp2_with fail
          go_quiet (fail)
          go_wp2_with fail
          go_roundw
          case rel => exact ⟨n + 2, _, by omega, by omega, by simp; omega, by go_num, rfl, HU', hide (below_drewN (unhide HB) _)⟩
          case measure => simp [intOf]; omega
        · have en : n = s.size := by omega
          have HD : Hid (M.dec16 false (bl u) = M.dec16 true (bl s)) := by
            refine hide ?_
            rw [unhide HU, en, ← bl_len s, List.take_length]
            exact M.dec16_swp _ _ (Nat.le_refl _)
          clear HU
          go_wp2_with fail
          refine (decode16_any true s _ hs).mono ?_
          rintro e w3 ⟨v3, rfl, hI3, hb3⟩
          obtain ⟨ao3, cap3, hsh3, -⟩ := id hI3
          subst hsh3
          have HI3 := hide hI3
          clear hI3
          go_wp2_with fail
          refine (decode16_any false u _ (by omega)).mono ?_
          rintro e w4 ⟨v4, rfl, hI4, hb4⟩
          rw [unhide HD] at hI4
          obtain ⟨ao4, cap4, hsh4, -⟩ := id hI4
          subst hsh4
          have HI4 := hide hI4
          clear hI4
          go_wp2_with fail
          refine (same_any _ ((unhide HI3).below hb4) (unhide HI4)).mono ?_
          rintro e w5 ⟨rfl, hb5⟩
          rw [show (M.dec16 true (bl s) == M.dec16 true (bl s)) = true from by simp]
          have HW := hide (bstep (bstep (bstep (unhide HB) hb3) hb4) hb5)
          clear hb3 hb4 hb5
          go_wp2_with fail
          go_ret
          exact ⟨rfl, unhide HW⟩

set_option maxHeartbeats 1000000 in
set_option maxRecDepth 100000 in
theorem rng_long (s : ByteArray) (v : Value) (ys : List Int) (w : World) (hx : Ints w v ys) (hl : ys.length ≤ 3000) (hn : Hid (ys.all M.sclr = false)) (hs : 3000 < s.size) (hsm : s.size ≤ maxLen) :
    Calls Try.prog 4 #[.string s, v] w fun e w' => e = .returned (.bool true) ∧ Below w.heap.size w w' := by
  obtain ⟨yo, yc, hv, hym, -⟩ := id hx
  subst hv
  have HX := hide hx
  clear hx
  unfold maxLen at hsm
  go_enter Try.func4, Try.ntmps4
  go_wp2_with fail
  refine (begun16_any _).mono ?_
  rintro e w1 ⟨rfl, hb1⟩
  go_wp2_with fail
  go_loopw [5] (fun i wr => ∃ k : Nat, k ≤ 2 ∧ i = .int .i64 k ∧ Hid (Below w.heap.size w wr)) (fun i _ => 2 - (intOf i).toNat)
  case atStart => exact ⟨0, by omega, rfl, hb1⟩
  case round =>
    obtain ⟨k, hk, rfl, HB⟩ := hrel
    clear hb1
    rcases (show k = 0 ∨ k = 1 ∨ k = 2 from by omega) with rfl | rfl | rfl
    · go_wp2_with fail
      refine (encode16_any true _ ((unhide HX).below (unhide HB)) hl).mono ?_
      rintro e w2 ⟨rfl, hb2⟩
      rw [encRes16_no (unhide hn)]
      have HW := hide (bstep (unhide HB) hb2)
      clear hb2
      go_wp2_with fail
      go_roundw
      case rel => exact ⟨1, by omega, by go_num, HW⟩
      case measure => simp [intOf]
    · go_wp2_with fail
      refine (encode16_any false _ ((unhide HX).below (unhide HB)) hl).mono ?_
      rintro e w2 ⟨rfl, hb2⟩
      rw [encRes16_no (unhide hn)]
      have HW := hide (bstep (unhide HB) hb2)
      clear hb2
      go_wp2_with fail
      go_roundw
      case rel => exact ⟨2, by omega, by go_num, HW⟩
      case measure => simp [intOf]
    · go_wp2_with fail
      go_ret
      exact ⟨rfl, unhide HB⟩

set_option maxHeartbeats 1000000 in
set_option maxRecDepth 100000 in
theorem rng_odd (s : ByteArray) (v : Value) (ys : List Int) (w : World) (hx : Ints w v ys) (hl : ys.length ≤ 3000) (hn : Hid (ys.all M.sclr = false)) (hs : s.size ≤ 3000) (ho : s.size % 2 = 1) :
    Calls Try.prog 4 #[.string s, v] w fun e w' => e = .returned (.bool true) ∧ Below w.heap.size w w' := by
  obtain ⟨yo, yc, hv, hym, -⟩ := id hx
  subst hv
  have HX := hide hx
  clear hx
  have hm : ((s.size : Int) % 2 == 1) = true := by simp; omega
  go_enter Try.func4, Try.ntmps4
  go_wp2_with fail
  refine (begun16_any _).mono ?_
  rintro e w1 ⟨rfl, hb1⟩
  go_wp2_with fail
  go_loopw [5] (fun i wr => ∃ k : Nat, k ≤ 2 ∧ i = .int .i64 k ∧ Hid (Below w.heap.size w wr)) (fun i _ => 2 - (intOf i).toNat)
  case atStart => exact ⟨0, by omega, rfl, hb1⟩
  case round =>
    obtain ⟨k, hk, rfl, HB⟩ := hrel
    clear hb1
    rcases (show k = 0 ∨ k = 1 ∨ k = 2 from by omega) with rfl | rfl | rfl
    · go_wp2_with fail
      refine (encode16_any true _ ((unhide HX).below (unhide HB)) hl).mono ?_
      rintro e w2 ⟨rfl, hb2⟩
      rw [encRes16_no (unhide hn)]
      have HW := hide (bstep (unhide HB) hb2)
      clear hb2
      go_wp2_with fail
      go_roundw
      case rel => exact ⟨1, by omega, by go_num, HW⟩
      case measure => simp [intOf]
    · go_wp2_with fail
      refine (encode16_any false _ ((unhide HX).below (unhide HB)) hl).mono ?_
      rintro e w2 ⟨rfl, hb2⟩
      rw [encRes16_no (unhide hn)]
      have HW := hide (bstep (unhide HB) hb2)
      clear hb2
      go_wp2_with fail
      go_roundw
      case rel => exact ⟨2, by omega, by go_num, HW⟩
      case measure => simp [intOf]
    · go_wp2_with fail
      go_ret
      exact ⟨rfl, unhide HB⟩

set_option maxHeartbeats 1000000 in
set_option maxRecDepth 100000 in
theorem rng_even (s : ByteArray) (v : Value) (ys : List Int) (w : World) (hx : Ints w v ys) (hl : ys.length ≤ 3000) (hn : Hid (ys.all M.sclr = false)) (hs : s.size ≤ 3000) (ho : s.size % 2 = 0) :
    Calls Try.prog 4 #[.string s, v] w fun e w' => e = .returned (.bool true) ∧ Below w.heap.size w w' := by
  obtain ⟨yo, yc, hv, hym, -⟩ := id hx
  subst hv
  have HX := hide hx
  clear hx
  have hm : ((s.size : Int) % 2 == 1) = false := by simp; omega
  go_enter Try.func4, Try.ntmps4
  go_wp2_with fail
  refine (begun16_any _).mono ?_
  rintro e w1 ⟨rfl, hb1⟩
  go_wp2_with fail
  go_loopw [5] (fun i wr => ∃ k : Nat, k ≤ 2 ∧ i = .int .i64 k ∧ Hid (Below w.heap.size w wr)) (fun i _ => 2 - (intOf i).toNat)
  case atStart => exact ⟨0, by omega, rfl, hb1⟩
  case round =>
    obtain ⟨k, hk, rfl, HB⟩ := hrel
    clear hb1
    rcases (show k = 0 ∨ k = 1 ∨ k = 2 from by omega) with rfl | rfl | rfl
    · go_wp2_with fail
      refine (encode16_any true _ ((unhide HX).below (unhide HB)) hl).mono ?_
      rintro e w2 ⟨rfl, hb2⟩
      rw [encRes16_no (unhide hn)]
      have HW := hide (bstep (unhide HB) hb2)
      clear hb2
      go_wp2_with fail
      go_roundw
      case rel => exact ⟨1, by omega, by go_num, HW⟩
      case measure => simp [intOf]
    · go_wp2_with fail
      refine (encode16_any false _ ((unhide HX).below (unhide HB)) hl).mono ?_
      rintro e w2 ⟨rfl, hb2⟩
      rw [encRes16_no (unhide hn)]
      have HW := hide (bstep (unhide HB) hb2)
      clear hb2
      go_wp2_with fail
      go_roundw
      case rel => exact ⟨2, by omega, by go_num, HW⟩
      case measure => simp [intOf]
    · go_wp2_with fail
      go_loopw [10, 11] (fun tv i wr => ∃ (n : Nat) (u : ByteArray), n ≤ s.size ∧ n % 2 = 0 ∧ u.size = n ∧ i = .int .i64 n ∧ tv = .string u ∧ Hid (bl u = M.swp ((bl s).take n)) ∧ Hid (Below w.heap.size w wr)) (fun _ i _ => s.size - (intOf i).toNat)
      case atStart => exact ⟨0, ⟨#[]⟩, by omega, rfl, rfl, rfl, rfl, hide rfl, HB⟩
      case round =>
        clear HB
        obtain ⟨n, u, hn1, hn2, hn3, rfl, rfl, HU, HB⟩ := hrel
        by_cases hlt : n < s.size
        · have hn4 : n + 2 ≤ s.size := by omega
          have hI1 : (n : Int) + 2 ≤ (s.size : Int) := by omega
          have hs1 : ∀ wx, (Instr.slice 9 (.string s) (some (.int .i64 ((n : Int) + 1))) (some (.int .i64 ((n : Int) + 2))) none).run Try.prog wx = .ok (.string (s.extract (n + 1) (n + 2))) wx :=
            fun wx => run_slice_string (P := Try.prog) wx 9 s .i64 .i64 ((n : Int) + 1) ((n : Int) + 2) Try.underlying9 (by omega) (by omega) (by omega)
          have hs2 : ∀ wx, (Instr.slice 9 (.string s) (some (.int .i64 (n : Int))) (some (.int .i64 ((n : Int) + 1))) none).run Try.prog wx = .ok (.string (s.extract n (n + 1))) wx :=
            fun wx => run_slice_string (P := Try.prog) wx 9 s .i64 .i64 (n : Int) ((n : Int) + 1) Try.underlying9 (by omega) (by omega) (by omega)
          have HU' : Hid (bl (u ++ (s.extract (n + 1) (n + 2) ++ s.extract n (n + 1))) = M.swp ((bl s).take (n + 2))) := by
            refine hide ?_
            rw [bl_app, bl_app, bl_one s (n + 1) (by omega), bl_one s n (by omega), unhide HU, M.swp_step hn2 (by rw [bl_len]; exact hn4) (bl_get s n (by omega)) (bl_get s (n + 1) (by omega))]
            rfl
          go_wp2_with fail
          go_quiet (fail)
          go_wp2_with fail
          go_roundw
          case rel => exact ⟨n + 2, _, by omega, by omega, by simp; omega, by go_num, rfl, HU', hide (below_drewN (unhide HB) _)⟩
          case measure => simp [intOf]; omega
        · have en : n = s.size := by omega
          have HD : Hid (M.dec16 false (bl u) = M.dec16 true (bl s)) := by
            refine hide ?_
            rw [unhide HU, en, ← bl_len s, List.take_length]
            exact M.dec16_swp _ _ (Nat.le_refl _)
          clear HU
          go_wp2_with fail
          refine (decode16_any true s _ hs).mono ?_
          rintro e w3 ⟨v3, rfl, hI3, hb3⟩
          obtain ⟨ao3, cap3, hsh3, -⟩ := id hI3
          subst hsh3
          have HI3 := hide hI3
          clear hI3
          go_wp2_with fail
          refine (decode16_any false u _ (by omega)).mono ?_
          rintro e w4 ⟨v4, rfl, hI4, hb4⟩
          rw [unhide HD] at hI4
          obtain ⟨ao4, cap4, hsh4, -⟩ := id hI4
          subst hsh4
          have HI4 := hide hI4
          clear hI4
          go_wp2_with fail
          refine (same_any _ ((unhide HI3).below hb4) (unhide HI4)).mono ?_
          rintro e w5 ⟨rfl, hb5⟩
          rw [show (M.dec16 true (bl s) == M.dec16 true (bl s)) = true from by simp]
          have HW := hide (bstep (bstep (bstep (unhide HB) hb3) hb4) hb5)
          clear hb3 hb4 hb5
          go_wp2_with fail
          go_ret
          exact ⟨rfl, unhide HW⟩

set_option maxHeartbeats 1000000 in
set_option maxRecDepth 100000 in
theorem big_long (s : ByteArray) (v : Value) (ys : List Int) (w : World) (hx : Ints w v ys) (hl : ys.length ≤ 3000) (hn : Hid (ys.all M.sclr = true)) (hg : 3000 < (M.enc16 true ys).length) (hs : 3000 < s.size) (hsm : s.size ≤ maxLen) :
    Calls Try.prog 4 #[.string s, v] w fun e w' => e = .returned (.bool true) ∧ Below w.heap.size w w' := by
  obtain ⟨yo, yc, hv, hym, -⟩ := id hx
  subst hv
  have HX := hide hx
  clear hx
  unfold maxLen at hsm
  go_enter Try.func4, Try.ntmps4
  go_wp2_with fail
  refine (begun16_any _).mono ?_
  rintro e w1 ⟨rfl, hb1⟩
  go_wp2_with fail
  go_loopw [5] (fun i wr => ∃ k : Nat, k ≤ 2 ∧ i = .int .i64 k ∧ Hid (Below w.heap.size w wr)) (fun i _ => 2 - (intOf i).toNat)
  case atStart => exact ⟨0, by omega, rfl, hb1⟩
  case round =>
    obtain ⟨k, hk, rfl, HB⟩ := hrel
    clear hb1
    rcases (show k = 0 ∨ k = 1 ∨ k = 2 from by omega) with rfl | rfl | rfl
    · go_wp2_with fail
      refine (encode16_any true _ ((unhide HX).below (unhide HB)) hl).mono ?_
      rintro e w2 ⟨rfl, hb2⟩
      rw [encRes16_yes (unhide hn)]
      have hsz : 3000 < (strOfNums (M.enc16 true ys)).size := by rw [strOfNums_size, M.enc16_len_eq true true]; exact hg
      have hsb : (strOfNums (M.enc16 true ys)).size ≤ 12000 := by rw [strOfNums_size]; have := M.enc16_len true ys; omega
      generalize strOfNums (M.enc16 true ys) = t0 at *
      have HW := hide (bstep (unhide HB) hb2)
      clear hb2
      go_wp2_with fail
      go_roundw
      case rel => exact ⟨1, by omega, by go_num, HW⟩
      case measure => simp [intOf]
    · go_wp2_with fail
      refine (encode16_any false _ ((unhide HX).below (unhide HB)) hl).mono ?_
      rintro e w2 ⟨rfl, hb2⟩
      rw [encRes16_yes (unhide hn)]
      have hsz : 3000 < (strOfNums (M.enc16 false ys)).size := by rw [strOfNums_size, M.enc16_len_eq false true]; exact hg
      have hsb : (strOfNums (M.enc16 false ys)).size ≤ 12000 := by rw [strOfNums_size]; have := M.enc16_len false ys; omega
      generalize strOfNums (M.enc16 false ys) = t0 at *
      have HW := hide (bstep (unhide HB) hb2)
      clear hb2
      go_wp2_with fail
      go_roundw
      case rel => exact ⟨2, by omega, by go_num, HW⟩
      case measure => simp [intOf]
    · go_wp2_with fail
      go_ret
      exact ⟨rfl, unhide HB⟩

set_option maxHeartbeats 1000000 in
set_option maxRecDepth 100000 in
theorem big_odd (s : ByteArray) (v : Value) (ys : List Int) (w : World) (hx : Ints w v ys) (hl : ys.length ≤ 3000) (hn : Hid (ys.all M.sclr = true)) (hg : 3000 < (M.enc16 true ys).length) (hs : s.size ≤ 3000) (ho : s.size % 2 = 1) :
    Calls Try.prog 4 #[.string s, v] w fun e w' => e = .returned (.bool true) ∧ Below w.heap.size w w' := by
  obtain ⟨yo, yc, hv, hym, -⟩ := id hx
  subst hv
  have HX := hide hx
  clear hx
  have hm : ((s.size : Int) % 2 == 1) = true := by simp; omega
  go_enter Try.func4, Try.ntmps4
  go_wp2_with fail
  refine (begun16_any _).mono ?_
  rintro e w1 ⟨rfl, hb1⟩
  go_wp2_with fail
  go_loopw [5] (fun i wr => ∃ k : Nat, k ≤ 2 ∧ i = .int .i64 k ∧ Hid (Below w.heap.size w wr)) (fun i _ => 2 - (intOf i).toNat)
  case atStart => exact ⟨0, by omega, rfl, hb1⟩
  case round =>
    obtain ⟨k, hk, rfl, HB⟩ := hrel
    clear hb1
    rcases (show k = 0 ∨ k = 1 ∨ k = 2 from by omega) with rfl | rfl | rfl
    · go_wp2_with fail
      refine (encode16_any true _ ((unhide HX).below (unhide HB)) hl).mono ?_
      rintro e w2 ⟨rfl, hb2⟩
      rw [encRes16_yes (unhide hn)]
      have hsz : 3000 < (strOfNums (M.enc16 true ys)).size := by rw [strOfNums_size, M.enc16_len_eq true true]; exact hg
      have hsb : (strOfNums (M.enc16 true ys)).size ≤ 12000 := by rw [strOfNums_size]; have := M.enc16_len true ys; omega
      generalize strOfNums (M.enc16 true ys) = t0 at *
      have HW := hide (bstep (unhide HB) hb2)
      clear hb2
      go_wp2_with fail
      go_roundw
      case rel => exact ⟨1, by omega, by go_num, HW⟩
      case measure => simp [intOf]
    · go_wp2_with fail
      refine (encode16_any false _ ((unhide HX).below (unhide HB)) hl).mono ?_
      rintro e w2 ⟨rfl, hb2⟩
      rw [encRes16_yes (unhide hn)]
      have hsz : 3000 < (strOfNums (M.enc16 false ys)).size := by rw [strOfNums_size, M.enc16_len_eq false true]; exact hg
      have hsb : (strOfNums (M.enc16 false ys)).size ≤ 12000 := by rw [strOfNums_size]; have := M.enc16_len false ys; omega
      generalize strOfNums (M.enc16 false ys) = t0 at *
      have HW := hide (bstep (unhide HB) hb2)
      clear hb2
      go_wp2_with fail
      go_roundw
      case rel => exact ⟨2, by omega, by go_num, HW⟩
      case measure => simp [intOf]
    · go_wp2_with fail
      go_ret
      exact ⟨rfl, unhide HB⟩

set_option maxHeartbeats 1000000 in
set_option maxRecDepth 100000 in
theorem big_even (s : ByteArray) (v : Value) (ys : List Int) (w : World) (hx : Ints w v ys) (hl : ys.length ≤ 3000) (hn : Hid (ys.all M.sclr = true)) (hg : 3000 < (M.enc16 true ys).length) (hs : s.size ≤ 3000) (ho : s.size % 2 = 0) :
    Calls Try.prog 4 #[.string s, v] w fun e w' => e = .returned (.bool true) ∧ Below w.heap.size w w' := by
  obtain ⟨yo, yc, hv, hym, -⟩ := id hx
  subst hv
  have HX := hide hx
  clear hx
  have hm : ((s.size : Int) % 2 == 1) = false := by simp; omega
  go_enter Try.func4, Try.ntmps4
  go_wp2_with fail
  refine (begun16_any _).mono ?_
  rintro e w1 ⟨rfl, hb1⟩
  go_wp2_with fail
  go_loopw [5] (fun i wr => ∃ k : Nat, k ≤ 2 ∧ i = .int .i64 k ∧ Hid (Below w.heap.size w wr)) (fun i _ => 2 - (intOf i).toNat)
  case atStart => exact ⟨0, by omega, rfl, hb1⟩
  case round =>
    obtain ⟨k, hk, rfl, HB⟩ := hrel
    clear hb1
    rcases (show k = 0 ∨ k = 1 ∨ k = 2 from by omega) with rfl | rfl | rfl
    · go_wp2_with fail
      refine (encode16_any true _ ((unhide HX).below (unhide HB)) hl).mono ?_
      rintro e w2 ⟨rfl, hb2⟩
      rw [encRes16_yes (unhide hn)]
      have hsz : 3000 < (strOfNums (M.enc16 true ys)).size := by rw [strOfNums_size, M.enc16_len_eq true true]; exact hg
      have hsb : (strOfNums (M.enc16 true ys)).size ≤ 12000 := by rw [strOfNums_size]; have := M.enc16_len true ys; omega
      generalize strOfNums (M.enc16 true ys) = t0 at *
      have HW := hide (bstep (unhide HB) hb2)
      clear hb2
      go_wp2_with fail
      go_roundw
      case rel => exact ⟨1, by omega, by go_num, HW⟩
      case measure => simp [intOf]
    · go_wp2_with fail
      refine (encode16_any false _ ((unhide HX).below (unhide HB)) hl).mono ?_
      rintro e w2 ⟨rfl, hb2⟩
      rw [encRes16_yes (unhide hn)]
      have hsz : 3000 < (strOfNums (M.enc16 false ys)).size := by rw [strOfNums_size, M.enc16_len_eq false true]; exact hg
      have hsb : (strOfNums (M.enc16 false ys)).size ≤ 12000 := by rw [strOfNums_size]; have := M.enc16_len false ys; omega
      generalize strOfNums (M.enc16 false ys) = t0 at *
      have HW := hide (bstep (unhide HB) hb2)
      clear hb2
      go_wp2_with fail
      go_roundw
      case rel => exact ⟨2, by omega, by go_num, HW⟩
      case measure => simp [intOf]
    · go_wp2_with fail
      go_loopw [10, 11] (fun tv i wr => ∃ (n : Nat) (u : ByteArray), n ≤ s.size ∧ n % 2 = 0 ∧ u.size = n ∧ i = .int .i64 n ∧ tv = .string u ∧ Hid (bl u = M.swp ((bl s).take n)) ∧ Hid (Below w.heap.size w wr)) (fun _ i _ => s.size - (intOf i).toNat)
      case atStart => exact ⟨0, ⟨#[]⟩, by omega, rfl, rfl, rfl, rfl, hide rfl, HB⟩
      case round =>
        clear HB
        obtain ⟨n, u, hn1, hn2, hn3, rfl, rfl, HU, HB⟩ := hrel
        by_cases hlt : n < s.size
        · have hn4 : n + 2 ≤ s.size := by omega
          have hI1 : (n : Int) + 2 ≤ (s.size : Int) := by omega
          have hs1 : ∀ wx, (Instr.slice 9 (.string s) (some (.int .i64 ((n : Int) + 1))) (some (.int .i64 ((n : Int) + 2))) none).run Try.prog wx = .ok (.string (s.extract (n + 1) (n + 2))) wx :=
            fun wx => run_slice_string (P := Try.prog) wx 9 s .i64 .i64 ((n : Int) + 1) ((n : Int) + 2) Try.underlying9 (by omega) (by omega) (by omega)
          have hs2 : ∀ wx, (Instr.slice 9 (.string s) (some (.int .i64 (n : Int))) (some (.int .i64 ((n : Int) + 1))) none).run Try.prog wx = .ok (.string (s.extract n (n + 1))) wx :=
            fun wx => run_slice_string (P := Try.prog) wx 9 s .i64 .i64 (n : Int) ((n : Int) + 1) Try.underlying9 (by omega) (by omega) (by omega)
          have HU' : Hid (bl (u ++ (s.extract (n + 1) (n + 2) ++ s.extract n (n + 1))) = M.swp ((bl s).take (n + 2))) := by
            refine hide ?_
            rw [bl_app, bl_app, bl_one s (n + 1) (by omega), bl_one s n (by omega), unhide HU, M.swp_step hn2 (by rw [bl_len]; exact hn4) (bl_get s n (by omega)) (bl_get s (n + 1) (by omega))]
            rfl
          go_wp2_with fail
          go_quiet (fail)
          go_wp2_with fail
          go_roundw
          case rel => exact ⟨n + 2, _, by omega, by omega, by simp; omega, by go_num, rfl, HU', hide (below_drewN (unhide HB) _)⟩
          case measure => simp [intOf]; omega
        · have en : n = s.size := by omega
          have HD : Hid (M.dec16 false (bl u) = M.dec16 true (bl s)) := by
            refine hide ?_
            rw [unhide HU, en, ← bl_len s, List.take_length]
            exact M.dec16_swp _ _ (Nat.le_refl _)
          clear HU
          go_wp2_with fail
          refine (decode16_any true s _ hs).mono ?_
          rintro e w3 ⟨v3, rfl, hI3, hb3⟩
          obtain ⟨ao3, cap3, hsh3, -⟩ := id hI3
          subst hsh3
          have HI3 := hide hI3
          clear hI3
          go_wp2_with fail
          refine (decode16_any false u _ (by omega)).mono ?_
          rintro e w4 ⟨v4, rfl, hI4, hb4⟩
          rw [unhide HD] at hI4
          obtain ⟨ao4, cap4, hsh4, -⟩ := id hI4
          subst hsh4
          have HI4 := hide hI4
          clear hI4
          go_wp2_with fail
          refine (same_any _ ((unhide HI3).below hb4) (unhide HI4)).mono ?_
          rintro e w5 ⟨rfl, hb5⟩
          rw [show (M.dec16 true (bl s) == M.dec16 true (bl s)) = true from by simp]
          have HW := hide (bstep (bstep (bstep (unhide HB) hb3) hb4) hb5)
          clear hb3 hb4 hb5
          go_wp2_with fail
          go_ret
          exact ⟨rfl, unhide HW⟩

set_option maxHeartbeats 1000000 in
set_option maxRecDepth 100000 in
theorem small_long (s : ByteArray) (v : Value) (ys : List Int) (w : World) (hx : Ints w v ys) (hl : ys.length ≤ 3000) (hn : Hid (ys.all M.sclr = true)) (hg : (M.enc16 true ys).length ≤ 3000) (hs : 3000 < s.size) (hsm : s.size ≤ maxLen) :
    Calls Try.prog 4 #[.string s, v] w fun e w' => e = .returned (.bool true) ∧ Below w.heap.size w w' := by
  obtain ⟨yo, yc, hv, hym, -⟩ := id hx
  subst hv
  have HX := hide hx
  clear hx
  unfold maxLen at hsm
  go_enter Try.func4, Try.ntmps4
  go_wp2_with fail
  refine (begun16_any _).mono ?_
  rintro e w1 ⟨rfl, hb1⟩
  go_wp2_with fail
  go_loopw [5] (fun i wr => ∃ k : Nat, k ≤ 2 ∧ i = .int .i64 k ∧ Hid (Below w.heap.size w wr)) (fun i _ => 2 - (intOf i).toNat)
  case atStart => exact ⟨0, by omega, rfl, hb1⟩
  case round =>
    obtain ⟨k, hk, rfl, HB⟩ := hrel
    clear hb1
    rcases (show k = 0 ∨ k = 1 ∨ k = 2 from by omega) with rfl | rfl | rfl
    · go_wp2_with fail
      refine (encode16_any true _ ((unhide HX).below (unhide HB)) hl).mono ?_
      rintro e w2 ⟨rfl, hb2⟩
      rw [encRes16_yes (unhide hn)]
      have hsz : (strOfNums (M.enc16 true ys)).size ≤ 3000 := by rw [strOfNums_size, M.enc16_len_eq true true]; exact hg
      have HY := hide (show M.dec16 true (bl (strOfNums (M.enc16 true ys))) = ys from by rw [bl_str _ (M.enc16_byt true ys (unhide hn)), M.dec16_enc true ys (unhide hn)])
      generalize strOfNums (M.enc16 true ys) = t0 at *
      go_wp2_with fail
      refine (decode16_any true t0 _ hsz).mono ?_
      rintro e w3 ⟨v3, rfl, hI3, hb3⟩
      rw [unhide HY] at hI3
      obtain ⟨ao3, cap3, hsh3, -⟩ := id hI3
      subst hsh3
      have HI3 := hide hI3
      clear hI3
      go_wp2_with fail
      refine (same_any _ (unhide HI3) ((unhide HX).below (bstep (bstep (unhide HB) hb2) hb3))).mono ?_
      rintro e w4 ⟨rfl, hb4⟩
      rw [show (ys == ys) = true from by simp]
      have HW := hide (bstep (bstep (bstep (unhide HB) hb2) hb3) hb4)
      clear hb2 hb3 hb4
      go_wp2_with fail
      go_roundw
      case rel => exact ⟨1, by omega, by go_num, HW⟩
      case measure => simp [intOf]
    · go_wp2_with fail
      refine (encode16_any false _ ((unhide HX).below (unhide HB)) hl).mono ?_
      rintro e w2 ⟨rfl, hb2⟩
      rw [encRes16_yes (unhide hn)]
      have hsz : (strOfNums (M.enc16 false ys)).size ≤ 3000 := by rw [strOfNums_size, M.enc16_len_eq false true]; exact hg
      have HY := hide (show M.dec16 false (bl (strOfNums (M.enc16 false ys))) = ys from by rw [bl_str _ (M.enc16_byt false ys (unhide hn)), M.dec16_enc false ys (unhide hn)])
      generalize strOfNums (M.enc16 false ys) = t0 at *
      go_wp2_with fail
      refine (decode16_any false t0 _ hsz).mono ?_
      rintro e w3 ⟨v3, rfl, hI3, hb3⟩
      rw [unhide HY] at hI3
      obtain ⟨ao3, cap3, hsh3, -⟩ := id hI3
      subst hsh3
      have HI3 := hide hI3
      clear hI3
      go_wp2_with fail
      refine (same_any _ (unhide HI3) ((unhide HX).below (bstep (bstep (unhide HB) hb2) hb3))).mono ?_
      rintro e w4 ⟨rfl, hb4⟩
      rw [show (ys == ys) = true from by simp]
      have HW := hide (bstep (bstep (bstep (unhide HB) hb2) hb3) hb4)
      clear hb2 hb3 hb4
      go_wp2_with fail
      go_roundw
      case rel => exact ⟨2, by omega, by go_num, HW⟩
      case measure => simp [intOf]
    · go_wp2_with fail
      go_ret
      exact ⟨rfl, unhide HB⟩

set_option maxHeartbeats 1000000 in
set_option maxRecDepth 100000 in
theorem small_odd (s : ByteArray) (v : Value) (ys : List Int) (w : World) (hx : Ints w v ys) (hl : ys.length ≤ 3000) (hn : Hid (ys.all M.sclr = true)) (hg : (M.enc16 true ys).length ≤ 3000) (hs : s.size ≤ 3000) (ho : s.size % 2 = 1) :
    Calls Try.prog 4 #[.string s, v] w fun e w' => e = .returned (.bool true) ∧ Below w.heap.size w w' := by
  obtain ⟨yo, yc, hv, hym, -⟩ := id hx
  subst hv
  have HX := hide hx
  clear hx
  have hm : ((s.size : Int) % 2 == 1) = true := by simp; omega
  go_enter Try.func4, Try.ntmps4
  go_wp2_with fail
  refine (begun16_any _).mono ?_
  rintro e w1 ⟨rfl, hb1⟩
  go_wp2_with fail
  go_loopw [5] (fun i wr => ∃ k : Nat, k ≤ 2 ∧ i = .int .i64 k ∧ Hid (Below w.heap.size w wr)) (fun i _ => 2 - (intOf i).toNat)
  case atStart => exact ⟨0, by omega, rfl, hb1⟩
  case round =>
    obtain ⟨k, hk, rfl, HB⟩ := hrel
    clear hb1
    rcases (show k = 0 ∨ k = 1 ∨ k = 2 from by omega) with rfl | rfl | rfl
    · go_wp2_with fail
      refine (encode16_any true _ ((unhide HX).below (unhide HB)) hl).mono ?_
      rintro e w2 ⟨rfl, hb2⟩
      rw [encRes16_yes (unhide hn)]
      have hsz : (strOfNums (M.enc16 true ys)).size ≤ 3000 := by rw [strOfNums_size, M.enc16_len_eq true true]; exact hg
      have HY := hide (show M.dec16 true (bl (strOfNums (M.enc16 true ys))) = ys from by rw [bl_str _ (M.enc16_byt true ys (unhide hn)), M.dec16_enc true ys (unhide hn)])
      generalize strOfNums (M.enc16 true ys) = t0 at *
      go_wp2_with fail
      refine (decode16_any true t0 _ hsz).mono ?_
      rintro e w3 ⟨v3, rfl, hI3, hb3⟩
      rw [unhide HY] at hI3
      obtain ⟨ao3, cap3, hsh3, -⟩ := id hI3
      subst hsh3
      have HI3 := hide hI3
      clear hI3
      go_wp2_with fail
      refine (same_any _ (unhide HI3) ((unhide HX).below (bstep (bstep (unhide HB) hb2) hb3))).mono ?_
      rintro e w4 ⟨rfl, hb4⟩
      rw [show (ys == ys) = true from by simp]
      have HW := hide (bstep (bstep (bstep (unhide HB) hb2) hb3) hb4)
      clear hb2 hb3 hb4
      go_wp2_with fail
      go_roundw
      case rel => exact ⟨1, by omega, by go_num, HW⟩
      case measure => simp [intOf]
    · go_wp2_with fail
      refine (encode16_any false _ ((unhide HX).below (unhide HB)) hl).mono ?_
      rintro e w2 ⟨rfl, hb2⟩
      rw [encRes16_yes (unhide hn)]
      have hsz : (strOfNums (M.enc16 false ys)).size ≤ 3000 := by rw [strOfNums_size, M.enc16_len_eq false true]; exact hg
      have HY := hide (show M.dec16 false (bl (strOfNums (M.enc16 false ys))) = ys from by rw [bl_str _ (M.enc16_byt false ys (unhide hn)), M.dec16_enc false ys (unhide hn)])
      generalize strOfNums (M.enc16 false ys) = t0 at *
      go_wp2_with fail
      refine (decode16_any false t0 _ hsz).mono ?_
      rintro e w3 ⟨v3, rfl, hI3, hb3⟩
      rw [unhide HY] at hI3
      obtain ⟨ao3, cap3, hsh3, -⟩ := id hI3
      subst hsh3
      have HI3 := hide hI3
      clear hI3
      go_wp2_with fail
      refine (same_any _ (unhide HI3) ((unhide HX).below (bstep (bstep (unhide HB) hb2) hb3))).mono ?_
      rintro e w4 ⟨rfl, hb4⟩
      rw [show (ys == ys) = true from by simp]
      have HW := hide (bstep (bstep (bstep (unhide HB) hb2) hb3) hb4)
      clear hb2 hb3 hb4
      go_wp2_with fail
      go_roundw
      case rel => exact ⟨2, by omega, by go_num, HW⟩
      case measure => simp [intOf]
    · go_wp2_with fail
      go_ret
      exact ⟨rfl, unhide HB⟩

set_option maxHeartbeats 1000000 in
set_option maxRecDepth 100000 in
theorem small_even (s : ByteArray) (v : Value) (ys : List Int) (w : World) (hx : Ints w v ys) (hl : ys.length ≤ 3000) (hn : Hid (ys.all M.sclr = true)) (hg : (M.enc16 true ys).length ≤ 3000) (hs : s.size ≤ 3000) (ho : s.size % 2 = 0) :
    Calls Try.prog 4 #[.string s, v] w fun e w' => e = .returned (.bool true) ∧ Below w.heap.size w w' := by
  obtain ⟨yo, yc, hv, hym, -⟩ := id hx
  subst hv
  have HX := hide hx
  clear hx
  have hm : ((s.size : Int) % 2 == 1) = false := by simp; omega
  go_enter Try.func4, Try.ntmps4
  go_wp2_with fail
  refine (begun16_any _).mono ?_
  rintro e w1 ⟨rfl, hb1⟩
  go_wp2_with fail
  go_loopw [5] (fun i wr => ∃ k : Nat, k ≤ 2 ∧ i = .int .i64 k ∧ Hid (Below w.heap.size w wr)) (fun i _ => 2 - (intOf i).toNat)
  case atStart => exact ⟨0, by omega, rfl, hb1⟩
  case round =>
    obtain ⟨k, hk, rfl, HB⟩ := hrel
    clear hb1
    rcases (show k = 0 ∨ k = 1 ∨ k = 2 from by omega) with rfl | rfl | rfl
    · go_wp2_with fail
      refine (encode16_any true _ ((unhide HX).below (unhide HB)) hl).mono ?_
      rintro e w2 ⟨rfl, hb2⟩
      rw [encRes16_yes (unhide hn)]
      have hsz : (strOfNums (M.enc16 true ys)).size ≤ 3000 := by rw [strOfNums_size, M.enc16_len_eq true true]; exact hg
      have HY := hide (show M.dec16 true (bl (strOfNums (M.enc16 true ys))) = ys from by rw [bl_str _ (M.enc16_byt true ys (unhide hn)), M.dec16_enc true ys (unhide hn)])
      generalize strOfNums (M.enc16 true ys) = t0 at *
      go_wp2_with fail
      refine (decode16_any true t0 _ hsz).mono ?_
      rintro e w3 ⟨v3, rfl, hI3, hb3⟩
      rw [unhide HY] at hI3
      obtain ⟨ao3, cap3, hsh3, -⟩ := id hI3
      subst hsh3
      have HI3 := hide hI3
      clear hI3
      go_wp2_with fail
      refine (same_any _ (unhide HI3) ((unhide HX).below (bstep (bstep (unhide HB) hb2) hb3))).mono ?_
      rintro e w4 ⟨rfl, hb4⟩
      rw [show (ys == ys) = true from by simp]
      have HW := hide (bstep (bstep (bstep (unhide HB) hb2) hb3) hb4)
      clear hb2 hb3 hb4
      go_wp2_with fail
      go_roundw
      case rel => exact ⟨1, by omega, by go_num, HW⟩
      case measure => simp [intOf]
    · go_wp2_with fail
      refine (encode16_any false _ ((unhide HX).below (unhide HB)) hl).mono ?_
      rintro e w2 ⟨rfl, hb2⟩
      rw [encRes16_yes (unhide hn)]
      have hsz : (strOfNums (M.enc16 false ys)).size ≤ 3000 := by rw [strOfNums_size, M.enc16_len_eq false true]; exact hg
      have HY := hide (show M.dec16 false (bl (strOfNums (M.enc16 false ys))) = ys from by rw [bl_str _ (M.enc16_byt false ys (unhide hn)), M.dec16_enc false ys (unhide hn)])
      generalize strOfNums (M.enc16 false ys) = t0 at *
      go_wp2_with fail
      refine (decode16_any false t0 _ hsz).mono ?_
      rintro e w3 ⟨v3, rfl, hI3, hb3⟩
      rw [unhide HY] at hI3
      obtain ⟨ao3, cap3, hsh3, -⟩ := id hI3
      subst hsh3
      have HI3 := hide hI3
      clear hI3
      go_wp2_with fail
      refine (same_any _ (unhide HI3) ((unhide HX).below (bstep (bstep (unhide HB) hb2) hb3))).mono ?_
      rintro e w4 ⟨rfl, hb4⟩
      rw [show (ys == ys) = true from by simp]
      have HW := hide (bstep (bstep (bstep (unhide HB) hb2) hb3) hb4)
      clear hb2 hb3 hb4
      go_wp2_with fail
      go_roundw
      case rel => exact ⟨2, by omega, by go_num, HW⟩
      case measure => simp [intOf]
    · go_wp2_with fail
      go_loopw [10, 11] (fun tv i wr => ∃ (n : Nat) (u : ByteArray), n ≤ s.size ∧ n % 2 = 0 ∧ u.size = n ∧ i = .int .i64 n ∧ tv = .string u ∧ Hid (bl u = M.swp ((bl s).take n)) ∧ Hid (Below w.heap.size w wr)) (fun _ i _ => s.size - (intOf i).toNat)
      case atStart => exact ⟨0, ⟨#[]⟩, by omega, rfl, rfl, rfl, rfl, hide rfl, HB⟩
      case round =>
        clear HB
        obtain ⟨n, u, hn1, hn2, hn3, rfl, rfl, HU, HB⟩ := hrel
        by_cases hlt : n < s.size
        · have hn4 : n + 2 ≤ s.size := by omega
          have hI1 : (n : Int) + 2 ≤ (s.size : Int) := by omega
          have hs1 : ∀ wx, (Instr.slice 9 (.string s) (some (.int .i64 ((n : Int) + 1))) (some (.int .i64 ((n : Int) + 2))) none).run Try.prog wx = .ok (.string (s.extract (n + 1) (n + 2))) wx :=
            fun wx => run_slice_string (P := Try.prog) wx 9 s .i64 .i64 ((n : Int) + 1) ((n : Int) + 2) Try.underlying9 (by omega) (by omega) (by omega)
          have hs2 : ∀ wx, (Instr.slice 9 (.string s) (some (.int .i64 (n : Int))) (some (.int .i64 ((n : Int) + 1))) none).run Try.prog wx = .ok (.string (s.extract n (n + 1))) wx :=
            fun wx => run_slice_string (P := Try.prog) wx 9 s .i64 .i64 (n : Int) ((n : Int) + 1) Try.underlying9 (by omega) (by omega) (by omega)
          have HU' : Hid (bl (u ++ (s.extract (n + 1) (n + 2) ++ s.extract n (n + 1))) = M.swp ((bl s).take (n + 2))) := by
            refine hide ?_
            rw [bl_app, bl_app, bl_one s (n + 1) (by omega), bl_one s n (by omega), unhide HU, M.swp_step hn2 (by rw [bl_len]; exact hn4) (bl_get s n (by omega)) (bl_get s (n + 1) (by omega))]
            rfl
          go_wp2_with fail
          go_quiet (fail)
          go_wp2_with fail
          go_roundw
          case rel => exact ⟨n + 2, _, by omega, by omega, by simp; omega, by go_num, rfl, HU', hide (below_drewN (unhide HB) _)⟩
          case measure => simp [intOf]; omega
        · have en : n = s.size := by omega
          have HD : Hid (M.dec16 false (bl u) = M.dec16 true (bl s)) := by
            refine hide ?_
            rw [unhide HU, en, ← bl_len s, List.take_length]
            exact M.dec16_swp _ _ (Nat.le_refl _)
          clear HU
          go_wp2_with fail
          refine (decode16_any true s _ hs).mono ?_
          rintro e w3 ⟨v3, rfl, hI3, hb3⟩
          obtain ⟨ao3, cap3, hsh3, -⟩ := id hI3
          subst hsh3
          have HI3 := hide hI3
          clear hI3
          go_wp2_with fail
          refine (decode16_any false u _ (by omega)).mono ?_
          rintro e w4 ⟨v4, rfl, hI4, hb4⟩
          rw [unhide HD] at hI4
          obtain ⟨ao4, cap4, hsh4, -⟩ := id hI4
          subst hsh4
          have HI4 := hide hI4
          clear hI4
          go_wp2_with fail
          refine (same_any _ ((unhide HI3).below hb4) (unhide HI4)).mono ?_
          rintro e w5 ⟨rfl, hb5⟩
          rw [show (M.dec16 true (bl s) == M.dec16 true (bl s)) = true from by simp]
          have HW := hide (bstep (bstep (bstep (unhide HB) hb3) hb4) hb5)
          clear hb3 hb4 hb5
          go_wp2_with fail
          go_ret
          exact ⟨rfl, unhide HW⟩

theorem walk (s : ByteArray) (v : Value) (ys : List Int) (w : World) (hs : s.size ≤ maxLen) (hx : Ints w v ys) :
    Calls Try.prog 4 #[.string s, v] w fun e w' => e = .returned (.bool true) ∧ Below w.heap.size w w' := by
  by_cases h : 3000 < s.size
  · by_cases hl : 3000 < ys.length
    · exact many_long s v ys w hx hl h hs
    · by_cases hn : ys.all M.sclr = true
      · by_cases hg : 3000 < (M.enc16 true ys).length
        · exact big_long s v ys w hx (by omega) hn hg h hs
        · exact small_long s v ys w hx (by omega) hn (by omega) h hs
      · exact rng_long s v ys w hx (by omega) (Bool.eq_false_iff.2 hn) h hs
  · by_cases ho : s.size % 2 = 1
    · by_cases hl : 3000 < ys.length
      · exact many_odd s v ys w hx hl (by omega) ho
      · by_cases hn : ys.all M.sclr = true
        · by_cases hg : 3000 < (M.enc16 true ys).length
          · exact big_odd s v ys w hx (by omega) hn hg (by omega) ho
          · exact small_odd s v ys w hx (by omega) hn (by omega) (by omega) ho
        · exact rng_odd s v ys w hx (by omega) (Bool.eq_false_iff.2 hn) (by omega) ho
    · by_cases hl : 3000 < ys.length
      · exact many_even s v ys w hx hl (by omega) (by omega)
      · by_cases hn : ys.all M.sclr = true
        · by_cases hg : 3000 < (M.enc16 true ys).length
          · exact big_even s v ys w hx (by omega) hn hg (by omega) (by omega)
          · exact small_even s v ys w hx (by omega) hn (by omega) (by omega) (by omega)
        · exact rng_even s v ys w hx (by omega) (Bool.eq_false_iff.2 hn) (by omega) (by omega)

set_option maxRecDepth 100000 in
theorem lifted (os : Os) (started : os.Started) (H : Type) (enc : TypeId × Value → H) :
    ReturnsInHanded {} Try.checked os 4 .any (Rows.utf16BackSpec.pre6 enc Try.prog Try.f4 Rows.utf16BackRow.domain false) (Rows.utf16BackSpec.post enc Try.prog Try.f4 false true false false) := by
  refine returnsInHanded_of_change (C := Try.checked) own started (by kernel_rfl) Try.func4
    (ChangeSpec.witness6 (enc := enc) (C := Try.checked) false ⟨#[], #[.string ByteArray.empty, .slice none 0 0], []⟩ 8 (by kernel_rfl) (by kernel_rfl) (by kernel_rfl) (by kernel_rfl)) ?_
  intro W base args ds gs before hval0 hW hcnd _
  have hval : ∀ (j : Nat) t v, Try.f4.params[j]? = some t → args[j]? = some v → Value.okWide Try.prog W .any base t v := hval0
  have hW' := hW
  obtain ⟨p, q, hA0, hV, rfl, hfz, hnd⟩ := hW
  have hA : DataW.TrodAll enc Try.prog W 0 (fun _ => true) true Try.f4.params.toList args.toList ds p := hA0
  rw [Try.params4] at hA hval
  obtain ⟨v0, vs0, d0, ds0, p0, q0, hargs, rfl, rfl, h0, r0⟩ := trodAll_cons hA
  obtain ⟨v1, vs1, d1, ds1, p1, q1, rfl, rfl, rfl, h1, r1⟩ := trodAll_cons r0
  obtain ⟨rfl, rfl, rfl⟩ := trodAll_nil r1
  obtain rfl : args = #[v0, v1] := by cases args; simp_all
  obtain ⟨rfl, rfl⟩ := trodVars_none hV
  obtain ⟨a0, rfl, rfl, rfl, w0⟩ := open_string Try.underlying9 (hval 0 9 v0 rfl rfl) h0
  obtain ⟨a1, len1, cap1, rfl⟩ := okWide_slice Try.underlying22 (hval 1 22 v1 rfl rfl)
  have k1 := h1
  have lt1 : ∀ x ∈ p1, x.block < W.heap.size := by obtain ⟨m, hm⟩ := k1; exact DataW.trod_lt m _ _ _ hm
  obtain ⟨z1, w1⟩ : ∃ zs, IsRow .i64 W a1 len1 cap1 zs := by
    obtain ⟨fuel, hf⟩ := h1
    rcases open_ints Try.underlying22 Try.underlying3 (by kernel_rfl) hf with ⟨hcs, _⟩ | ⟨x, l, c, zs, hcs, _, hl, hm, hz, _, hcell, hwz⟩
    · simp [Value.cells] at hcs
      obtain ⟨rfl, rfl, rfl⟩ := hcs
      exact ⟨[], .inl ⟨rfl, rfl, rfl, rfl⟩⟩
    · simp [Value.cells] at hcs
      obtain ⟨rfl, rfl, rfl⟩ := hcs
      exact ⟨zs, .inr ⟨_, rfl, hl, hm, by simpa using hz, hcell, hwz⟩⟩
  clear hA0 hval0
  refine (walk a0 (.slice a1 len1 cap1) (z1.take len1) W w0 (Ints.of_row w1)).mono fun e W' ⟨he, bel⟩ => ?_
  subst he
  exact ⟨_, rfl, _, _, _, [], _, [], hW', trodAll_mk1 (shut_bool Try.underlying4 _), (trodAll_cons_mk (shut_string Try.underlying9 w0) (trodAll_cons_mk (Below.trod laidOut (by kernel_rfl) (of_decide_eq_true (by kernel_rfl)) k1 bel lt1) trodAll_mk0)), rfl, bel.frame _, fun h => by cases h⟩

theorem over : Rows.utf16BackRow.holds Try.pinned (OpenSpec.ofChange Rows.utf16BackSpec) :=
  OpenClaim.holds_of_wide 4 Try.f4 rfl rfl rfl rfl rfl rfl rfl ⟨rfl, rfl, rfl, rfl, rfl⟩ rfl rfl rfl rfl rfl (by kernel_rfl) Try.func4 (by kernel_rfl)
    (of_decide_eq_true (by kernel_rfl)) (by unfold Func.isWrapper; first | (rw [if_pos (by decide +kernel)]; kernel_rfl) | (rw [if_neg (by decide +kernel)]; exact ⟨rfl, rfl⟩))
    (fun os started H enc _ => lifted os started H enc)
end Go.Proofs.Ythhjfedegbldfab.utf16Back

namespace Go.Proofs.Ythhjfedegbldfab
theorem utf16Back_holds : Rows.Utf16BackSaid := utf16Back.over
end Go.Proofs.Ythhjfedegbldfab
