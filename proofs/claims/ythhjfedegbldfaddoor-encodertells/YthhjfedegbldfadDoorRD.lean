/- The contracts of the reference's Digits, OutputOf, IsEncoding, HasOf: each returns what the plain function of its name computes; nothing that was there is written. -/
import Derived.Test.YthhjfedegbldfadDoorBase
import Derived.Test.YthhjfedegbldfadDoorMathG
namespace Go.Proofs.YthhjfedegbldfadDoor
open Go.RowKit
set_option linter.unusedVariables false

set_option maxHeartbeats 400000 in
set_option maxRecDepth 100000 in
theorem digits_lo (n : Nat) (w : World) (h : n < 10) : Calls Tryd.prog 25 #[.int .i64 (n : Int)] w fun e w' => e = .returned (.string (strOfNums (M.digs n))) ∧ Below w.heap.size w w' := by
  rw [M.digs_lo h]
  have hcv := conv_built (w := w.alloc (.cells #[.int .u8 (48 + (n : Int))] 5)) (b := w.heap.size) [48 + (n : Int)] 1 1 rfl (heap_alloc_new _ _)
  generalize strOfNums [48 + (n : Int)] = t at *
  go_enter Tryd.func25, Tryd.ntmps25
  go_wp2
  go_ret
  exact ⟨rfl, balloc _ _⟩

set_option maxHeartbeats 400000 in
set_option maxRecDepth 100000 in
theorem digits_any : ∀ (k n : Nat) (w : World), k ≤ 6 → n < 10 ^ (k + 1) → Calls Tryd.prog 25 #[.int .i64 (n : Int)] w fun e w' => e = .returned (.string (strOfNums (M.digs n))) ∧ Below w.heap.size w w' := by
  intro k
  induction k with
  | zero => intro n w hk hn; exact digits_lo n w (by simpa using hn)
  | succ k ih =>
    intro n w hk hn
    by_cases h : n < 10
    · exact digits_lo n w h
    · have hn7 : n < 10000000 := by
        have : (10 : Nat) ^ (k + 1 + 1) ≤ 10 ^ 7 := Nat.pow_le_pow_right (by omega) (by omega)
        have e : (10 : Nat) ^ 7 = 10000000 := rfl
        omega
      have hn1 : n / 10 < 10 ^ (k + 1) := by rw [Nat.pow_succ] at hn; omega
      have h1 := hide (fun w => ih (n / 10) w (by omega) hn1)
      have h2 := hide (fun w => digits_lo (n % 10) w (by omega))
      have hz1 : (strOfNums (M.digs (n / 10))).size ≤ 19 := by rw [strOfNums_size]; have := M.digs_len (k + 1) (n / 10) (by omega) hn1; omega
      have hz2 : (strOfNums (M.digs (n % 10))).size ≤ 1 := by rw [strOfNums_size]; exact M.digs_len 1 (n % 10) (by omega) (by simp; omega)
      have HE : Hid (strOfNums (M.digs n) = strOfNums (M.digs (n / 10)) ++ strOfNums (M.digs (n % 10))) := hide (by rw [M.digs_hi h, str_app, M.digs_lo (n := n % 10) (by omega)])
      rw [unhide HE]
      rw [show ((n / 10 : Nat) : Int) = (n : Int) / 10 from by omega] at h1
      rw [show ((n % 10 : Nat) : Int) = (n : Int) % 10 from by omega] at h2
      clear HE ih hn hn1 hk
      generalize strOfNums (M.digs (n / 10)) = t1 at *
      generalize strOfNums (M.digs (n % 10)) = t2 at *
      go_enter Tryd.func25, Tryd.ntmps25
      go_wp2_with fail
      refine (unhide h1 _).mono ?_
      rintro e w1 ⟨rfl, hb1⟩
      have HB1 := hide hb1
      clear hb1 h1
      go_wp2_with fail
      refine (unhide h2 _).mono ?_
      rintro e w2 ⟨rfl, hb2⟩
      have HB2 := hide (bstep (unhide HB1) hb2)
      clear hb2 h2
      go_wp2_with fail
      go_ret
      exact ⟨rfl, unhide HB2⟩
theorem digits_pt {p : Int} (h : M.sclr p = true) (w : World) : Calls Tryd.prog 25 #[.int .i64 p] w fun e w' => e = .returned (.string (strOfNums (M.digs p.toNat))) ∧ Below w.heap.size w w' := by
  have hb := M.sclr_bd h
  have := digits_any 6 p.toNat w (by omega) (by have : (10 : Nat) ^ (6 + 1) = 10000000 := rfl; omega)
  rwa [Int.toNat_of_nonneg hb.1] at this

set_option maxHeartbeats 400000 in
set_option maxRecDepth 100000 in
theorem outputOf_any (n : Int) (w : World) : Calls Tryd.prog 11 #[.int .i64 n] w fun e w' => e = .returned (.int .i64 (M.outE n)) ∧ w' = w := by
  by_cases h2 : n = 2
  · subst h2
    go_enter Tryd.func11, Tryd.ntmps11
    go_wp2
    go_ret
    exact ⟨rfl, rfl⟩
  · by_cases h3 : n = 3
    · subst h3
      go_enter Tryd.func11, Tryd.ntmps11
      go_wp2
      go_ret
      exact ⟨rfl, rfl⟩
    · by_cases h7 : n = 7
      · subst h7
        go_enter Tryd.func11, Tryd.ntmps11
        go_wp2
        go_ret
        exact ⟨rfl, rfl⟩
      · have e2 : (n == 2) = false := by simpa using h2
        have e3 : (n == 3) = false := by simpa using h3
        have e7 : (n == 7) = false := by simpa using h7
        have HE : Hid (M.outE n = n) := hide (by unfold M.outE; rw [if_neg (by omega)])
        rw [unhide HE]
        clear h2 h3 h7
        go_enter Tryd.func11, Tryd.ntmps11
        go_wp2
        go_ret
        exact ⟨rfl, rfl⟩
end Go.Proofs.YthhjfedegbldfadDoor
