/- Plain mathematics of UTF-16: the last unit of a text of whole units. No condition. -/
import Derived.Test.YthhjfedegbldfabMathU
namespace Go.Proofs.Ythhjfedegbldfab.M
theorem lastU_at (big : Bool) : ∀ (n : Nat) (l : List Int), l.length ≤ n → l.length % 2 = 0 → l ≠ [] → lastU big l = ut big (l.getD (l.length - 2) 0) (l.getD (l.length - 1) 0) := by
  intro n
  induction n with
  | zero => intro l h _ h0; exact absurd (List.eq_nil_of_length_eq_zero (by omega)) h0
  | succ n ih =>
    intro l h he h0
    match l, h, he, h0 with
    | [_], _, he, _ => simp at he
    | [a, b], _, _, _ => rfl
    | a :: b :: c :: t, h, he, _ =>
      simp only [List.length_cons] at h he
      rw [lastU_cons big a b (by simp), ih (c :: t) (by simp; omega) (by simp; omega) (by simp)]
      match t, he with
      | d :: t, _ => rfl
theorem fst16_at (big : Bool) {x y h : Int} (hx : 0 ≤ x ∧ x ≤ 255) (hy : 0 ≤ y ∧ y ≤ 255) (hh : h = if big then x else y) : fst16 (ut big x y) = decide (216 ≤ h ∧ h ≤ 219) := by
  subst hh
  cases big
  · show decide (55296 ≤ y * 256 + x ∧ y * 256 + x < 56320) = decide (216 ≤ y ∧ y ≤ 219)
    rw [decide_eq_decide]; omega
  · show decide (55296 ≤ x * 256 + y ∧ x * 256 + y < 56320) = decide (216 ≤ x ∧ x ≤ 219)
    rw [decide_eq_decide]; omega
end Go.Proofs.Ythhjfedegbldfab.M
