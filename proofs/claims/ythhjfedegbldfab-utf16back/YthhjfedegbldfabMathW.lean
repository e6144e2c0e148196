/- Plain mathematics of UTF-16: how long what is encoded is by either order; turning bytes two by two, from the beginning on. Conditions stand at each law. -/
import Derived.Test.YthhjfedegbldfabMathU
namespace Go.Proofs.Ythhjfedegbldfab.M
theorem enc16_len_eq (b c : Bool) (l : List Int) : (enc16 b l).length = (enc16 c l).length := by
  induction l with
  | nil => simp [enc16]
  | cons n l ih =>
    rw [enc16_cons, enc16_cons, List.length_append, List.length_append, ih]
    have : (enc16a b n).length = (enc16a c n).length := by unfold enc16a; split <;> simp [two_len]
    rw [this]
theorem swp_take : ∀ (k : Nat) (l : List Int), 2 * k + 2 ≤ l.length → swp (l.take (2 * k + 2)) = swp (l.take (2 * k)) ++ [l.getD (2 * k + 1) 0, l.getD (2 * k) 0] := by
  intro k
  induction k with
  | zero =>
    intro l h
    match l, h with
    | a :: b :: t, _ => simp [swp]
  | succ k ih =>
    intro l h
    match l, h with
    | a :: b :: t, h =>
      simp only [List.length_cons] at h
      have := ih t (by omega)
      show swp (a :: b :: t.take (2 * k + 2)) = swp (a :: b :: t.take (2 * k)) ++ [t.getD (2 * k + 1) 0, t.getD (2 * k) 0]
      simp only [swp, this, List.cons_append]
theorem swp_step {l : List Int} {n : Nat} {a b : Int} (he : n % 2 = 0) (h : n + 2 ≤ l.length) (ha : l[n]? = some a) (hb : l[n + 1]? = some b) : swp (l.take (n + 2)) = swp (l.take n) ++ [b, a] := by
  obtain ⟨k, rfl⟩ : ∃ k, n = 2 * k := ⟨n / 2, by omega⟩
  rw [swp_take k l h, List.getD_eq_getElem?_getD, List.getD_eq_getElem?_getD, ha, hb]
  rfl
end Go.Proofs.Ythhjfedegbldfab.M
