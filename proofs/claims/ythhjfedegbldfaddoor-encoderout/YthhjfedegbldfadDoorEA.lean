/- The contracts of slices.Index and slices.Contains at code points: whether one is among them; nothing is written. -/
import Derived.Test.YthhjfedegbldfadDoorSA
namespace Go.Proofs.YthhjfedegbldfadDoor
open Go.RowKit
set_option linter.unusedVariables false

/-- The place of a number, or -1. -/
def plc (xs : List Int) (n : Int) : Int := match xs.findIdx? (· == n) with | some k => k | none => -1
theorem plc_hit {xs : List Int} {n : Int} {k : Nat} (hk : k < xs.length) (h : ∀ j, j < k → xs.getD j 0 ≠ n) (hn : xs.getD k 0 = n) : plc xs n = k := by
  have e : xs.findIdx? (· == n) = some k := by
    rw [List.findIdx?_eq_some_iff_getElem]
    refine ⟨hk, by simpa [List.getD, hk] using hn, fun j hj => ?_⟩
    have := h j hj
    have hj' : j < xs.length := by omega
    simpa [List.getD, hj'] using this
  unfold plc; rw [e]
theorem plc_miss {xs : List Int} {n : Int} (h : ∀ j, j < xs.length → xs.getD j 0 ≠ n) : plc xs n = -1 := by
  have e : xs.findIdx? (· == n) = none := by
    rw [List.findIdx?_eq_none_iff]
    intro x hx
    obtain ⟨j, hj, rfl⟩ := List.getElem_of_mem hx
    have := h j hj
    simpa [List.getD, hj] using this
  unfold plc; rw [e]
theorem plc_has (xs : List Int) (n : Int) : decide (0 ≤ plc xs n) = xs.any (· == n) := by
  unfold plc
  cases h : xs.findIdx? (· == n) with
  | some k =>
    rw [List.findIdx?_eq_some_iff_getElem] at h
    obtain ⟨hk, hq, _⟩ := h
    have : xs.any (· == n) = true := List.any_eq_true.2 ⟨xs[k], List.getElem_mem _, hq⟩
    rw [this]; simp
  | none =>
    rw [List.findIdx?_eq_none_iff] at h
    have : xs.any (· == n) = false := by rw [List.any_eq_false]; intro x hx; simp [h x hx]
    rw [this]; simp

set_option maxHeartbeats 400000 in
set_option maxRecDepth 100000 in
theorem index_ints {v : Value} {xs : List Int} (n : Int) (w : World) (hx : Ints w v xs) :
    Calls Tryd.prog 71 #[v, .int .i64 n] w fun e w' => e = .returned (.int .i64 (plc xs n)) ∧ w' = w := by
  obtain ⟨ao, cap, rfl, hm, -, hc⟩ := id hx
  unfold maxLen at hm
  clear hx
  have HC := hide hc
  clear hc
  go_enter Tryd.func71, Tryd.ntmps71
  go_wp2_with fail
  go_loop [8] (fun i => ∃ k : Nat, k ≤ xs.length ∧ i = .int .i64 k ∧ Hid (∀ j, j < k → xs.getD j 0 ≠ n)) (fun i => xs.length - (intOf i).toNat)
  case atStart => exact ⟨0, by omega, rfl, hide (fun j hj => by omega)⟩
  case round =>
    obtain ⟨k, hk, rfl, HN⟩ := hrel
    by_cases hlt : k < xs.length
    · obtain ⟨b, off, rfl, hc⟩ : ∃ b off, ao = some ⟨b, off, none⟩ ∧ ∀ i, i < xs.length → w.cell? ⟨b, off + i, none⟩ = some (.int .i64 (xs.getD i 0)) := by
        rcases unhide HC with h | h
        · subst h; simp at hlt
        · exact h
      have hcell := hc k hlt
      have hbr : b < w.heap.size := World.block_lt_of_cell? w _ hcell
      obtain ⟨p, HP⟩ : ∃ p, Hid (xs.getD k 0 = p) := ⟨_, hide rfl⟩
      rw [unhide HP] at hcell
      clear hc
      by_cases hq : n = p
      · subst hq
        have HR := hide (plc_hit hlt (unhide HN) (unhide HP))
        go_wp2_with fail
        go_ret
        exact ⟨by rw [unhide HR]; rfl, rfl⟩
      · have hq' : (n == p) = false := by simpa using hq
        have HN' : Hid (∀ j, j < k + 1 → xs.getD j 0 ≠ n) := hide (fun j hj => by
          by_cases e : j = k
          · rw [e, unhide HP]; exact fun h => hq h.symm
          · exact unhide HN j (by omega))
        clear HN
        go_wp2_with fail
        go_round
        case rel => exact ⟨k + 1, by omega, by go_num, HN'⟩
        case measure => simp [intOf]; omega
    · have HR : Hid (plc xs n = -1) := hide (plc_miss (fun j hj => unhide HN j (by omega)))
      go_wp2_with fail
      go_ret
      exact ⟨by rw [unhide HR]; rfl, rfl⟩

set_option maxHeartbeats 400000 in
set_option maxRecDepth 100000 in
theorem contains_ints {v : Value} {xs : List Int} (n : Int) (w : World) (hx : Ints w v xs) :
    Calls Tryd.prog 47 #[v, .int .i64 n] w fun e w' => e = .returned (.bool (xs.any (· == n))) ∧ w' = w := by
  have H := index_ints n w hx
  obtain ⟨ao, cap, rfl, hm, -, hc⟩ := id hx
  have HD := hide (plc_has xs n)
  generalize plc xs n = q at *
  generalize xs.any (· == n) = r at *
  clear hx hc
  go_enter Tryd.func47, Tryd.ntmps47
  go_wp2_with fail
  refine H.mono ?_
  rintro e w1 ⟨rfl, hw⟩
  replace hw := hw.symm
  subst hw
  go_wp2_with fail
  go_ret
  refine ⟨?_, rfl⟩
  rw [← unhide HD]
  rfl
end Go.Proofs.YthhjfedegbldfadDoor
