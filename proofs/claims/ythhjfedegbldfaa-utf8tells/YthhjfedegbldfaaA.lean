/- Contracts of utf8.begin and utf8.next: each returns what the plain function of its name computes, and writes nothing that was there. -/
import Derived.Test.YthhjfedegbldfaaRows
import Derived.Test.YthhjfedegbldfaaMath
import Derived.WalkKit
import Derived.ProofKit
import Derived.BigQuiet
import Derived.Deep.QuietTactic
namespace Go.Proofs.Ythhjfedegbldfaa
open Go.RowKit
set_option linter.unusedVariables false

theorem ret_start {a b c d a' b' c' d' : Int} (h1 : a = a') (h2 : b = b') (h3 : c = c') (h4 : d = d') :
    Ending.returned (.agg #[.int .i64 a, .int .i64 b, .int .u8 c, .int .u8 d]) = .returned (.agg #[.int .i64 a', .int .i64 b', .int .u8 c', .int .u8 d']) := by
  rw [h1, h2, h3, h4]

set_option maxHeartbeats 1000000 in
theorem begin_any (c : Int) (h0 : 0 ≤ c) (h1 : c ≤ 255) (w : World) :
    Calls Try.prog 35 #[.int .u8 c] w fun e w' => e = .returned (.agg #[.int .i64 (M.bSize c), .int .i64 (M.bBits c), .int .u8 (M.bLow c), .int .u8 (M.bHigh c)]) ∧ Below w.heap.size w w' := by
  rcases (show (c < 128) ∨ (128 ≤ c ∧ c < 194) ∨ (194 ≤ c ∧ c < 224) ∨ c = 224 ∨ c = 237 ∨ (224 < c ∧ c < 237) ∨ (237 < c ∧ c < 240) ∨ c = 240 ∨ (240 < c ∧ c < 244) ∨ c = 244 ∨ 244 < c from by omega) with h | ⟨h, h'⟩ | ⟨h, h'⟩ | h | h | ⟨h, h'⟩ | ⟨h, h'⟩ | h | ⟨h, h'⟩ | h | h
  all_goals (try subst h)
  all_goals
    go_enter Try.func35, Try.ntmps35
    go_wp2
    refine bodyPost_ret (by simp [results, Try.results35, go_sem]; exact ⟨rfl, rfl, rfl, rfl⟩) rfl ⟨ret_start ?_ ?_ ?_ ?_, (Below.refl _ _).alloc (Nat.le_refl _) _⟩
  all_goals simp only [M.bSize, M.bBits, M.bLow, M.bHigh]
  all_goals (repeat (first | rfl | omega | (rw [if_pos (by omega)]) | (rw [if_neg (by omega)])))
end Go.Proofs.Ythhjfedegbldfaa
