/- The contract of cartoucheref.SameInts: whether two slices read the same integers; nothing that was there is written. -/
import Derived.Test.YtpjhcecfcjbgoaaBase
namespace Go.Proofs.Ytpjhcecfcjbgoaa
open Go.RowKit
set_option linter.unusedVariables false

set_option maxHeartbeats 400000 in
set_option maxRecDepth 100000 in
theorem same_len (ao bo : Option Addr) (n m c d : Nat) (w : World) (hn : n ≤ maxLen) (hm : m ≤ maxLen) (h : n ≠ m) :
    Calls Try.prog 8 #[.slice ao n c, .slice bo m d] w fun e w' => e = .returned (.bool false) ∧ w' = w := by
  unfold maxLen at hn hm
  have h' : ((n : Int) != (m : Int)) = true := by simp; omega
  go_enter Try.func8, Try.ntmps8
  go_wp2
  go_ret
  exact ⟨rfl, rfl⟩
set_option maxHeartbeats 400000 in
set_option maxRecDepth 100000 in
theorem same_none (ao bo : Option Addr) (c d : Nat) (w : World) :
    Calls Try.prog 8 #[.slice ao 0 c, .slice bo 0 d] w fun e w' => e = .returned (.bool true) ∧ w' = w := by
  go_enter Try.func8, Try.ntmps8
  go_wp2
  refine wp_loop_rounds 1 ?_
  rw [rounds_succ]
  go_wp2
  go_ret
  exact ⟨rfl, rfl⟩
set_option maxHeartbeats 400000 in
set_option maxRecDepth 100000 in
theorem same_some (b off c b' off' c' : Nat) (xs ys : List Int) (w : World) (hm : xs.length ≤ maxLen) (he : xs.length = ys.length) (h0 : 0 < xs.length)
    (hx : ∀ i, i < xs.length → w.cell? ⟨b, off + i, none⟩ = some (.int .i64 (xs.getD i 0))) (hy : ∀ i, i < ys.length → w.cell? ⟨b', off' + i, none⟩ = some (.int .i64 (ys.getD i 0))) :
    Calls Try.prog 8 #[.slice (some ⟨b, off, none⟩) xs.length c, .slice (some ⟨b', off', none⟩) xs.length c'] w fun e w' => e = .returned (.bool (xs == ys)) ∧ Below w.heap.size w w' := by
  unfold maxLen at hm
  have HX := hide hx
  have HY := hide hy
  have HE := hide he
  clear hx hy he
  go_enter Try.func8, Try.ntmps8
  go_wp2_with fail
  go_loopw [5] (fun i wr => ∃ (k nq : Nat), k ≤ xs.length ∧ i = .int .i64 k ∧ wr = w.drewN nq ∧ Hid (xs.take k = ys.take k)) (fun i _ => xs.length - (intOf i).toNat)
  case atStart => exact ⟨0, 0, by omega, rfl, rfl, rfl⟩
  case round =>
    obtain ⟨k, nq, hk, rfl, rfl, HT⟩ := hrel
    by_cases hlt : k < xs.length
    · have cx := unhide HX k hlt
      have cy := unhide HY k (by rw [← unhide HE]; exact hlt)
      obtain ⟨p, HP⟩ : ∃ p, Hid (xs.getD k 0 = p) := ⟨_, rfl⟩
      obtain ⟨q, HQ⟩ : ∃ q, Hid (ys.getD k 0 = q) := ⟨_, rfl⟩
      rw [unhide HP] at cx
      rw [unhide HQ] at cy
      have hltI : (k : Int) < (xs.length : Int) := by omega
      by_cases hpq : p = q
      · have hne : (p != q) = false := by simp [hpq]
        have HT' : Hid (xs.take (k + 1) = ys.take (k + 1)) := by
          show xs.take (k + 1) = ys.take (k + 1)
          rw [take_snoc xs k hlt, take_snoc ys k (by rw [← unhide HE]; exact hlt), unhide HT, unhide HP, unhide HQ, hpq]
        clear hpq
        go_wp2_with fail
        go_quiet (fail)
        go_wp2_with fail
        go_roundw
        case rel => exact ⟨k + 1, _, by omega, by go_num, rfl, HT'⟩
        case measure => simp [intOf]; omega
      · have hne : (p != q) = true := by simp [hpq]
        have HF : Hid ((xs == ys) = false) := by
          show (xs == ys) = false
          rw [beq_eq_false_iff_ne]
          intro e
          apply hpq
          rw [← unhide HP, ← unhide HQ, e]
        clear hpq
        go_wp2_with fail
        go_quiet (fail)
        go_wp2_with fail
        go_ret
        exact ⟨by rw [unhide HF]; rfl, below_drewN (below_drewN (Below.refl _ _) _) _⟩
    · have HF : Hid ((xs == ys) = true) := by
        show (xs == ys) = true
        rw [beq_iff_eq]
        have := unhide HT
        rw [List.take_of_length_le (by omega), List.take_of_length_le (by rw [← unhide HE]; omega)] at this
        exact this
      go_wp2_with fail
      go_ret
      exact ⟨by rw [unhide HF]; rfl, below_drewN (Below.refl _ _) _⟩
theorem same_any {v u : Value} {xs ys : List Int} (w : World) (hx : Ints w v xs) (hy : Ints w u ys) :
    Calls Try.prog 8 #[v, u] w fun e w' => e = .returned (.bool (xs == ys)) ∧ Below w.heap.size w w' := by
  obtain ⟨ao, cap, rfl, hm, -, hx⟩ := hx
  obtain ⟨bo, cap', rfl, hm', -, hy⟩ := hy
  by_cases he : xs.length = ys.length
  · by_cases h0 : xs = []
    · subst h0
      have : ys = [] := List.eq_nil_of_length_eq_zero he.symm
      subst this
      refine (same_none ao bo cap cap' w).mono ?_
      rintro e w' ⟨rfl, rfl⟩
      exact ⟨rfl, Below.refl _ _⟩
    · have h1 : ys ≠ [] := fun e => h0 (List.eq_nil_of_length_eq_zero (by rw [he, e]; rfl))
      rcases hx with hx | ⟨b, off, rfl, hx⟩
      · exact absurd hx h0
      rcases hy with hy | ⟨b', off', rfl, hy⟩
      · exact absurd hy h1
      rw [← he]
      exact same_some b off cap b' off' cap' xs ys w hm he (List.length_pos_iff.2 h0) hx hy
  · refine (same_len ao bo _ _ cap cap' w hm hm' he).mono ?_
    rintro e w' ⟨rfl, rfl⟩
    refine ⟨?_, Below.refl _ _⟩
    have : (xs == ys) = false := by rw [beq_eq_false_iff_ne]; intro e; exact he (by rw [e])
    rw [this]
end Go.Proofs.Ytpjhcecfcjbgoaa
