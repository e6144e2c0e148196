/- Plain mathematics of decoders that are fed in pieces: a step tells something and how many integers tell it, or waits; what is told of two parts, one behind the other, is what is told of both together. Conditions: a step takes at least one integer and no more than there are; what is told for certain is not turned by what stands behind. -/
namespace Go.Proofs.Ytpjhcecfcjbgoaa.M

def run {σ : Type} (f : σ → List Int → Option (List Int × Nat × σ)) : Nat → σ → List Int → List Int × σ × List Int
  | 0, s, l => ([], s, l)
  | n + 1, s, l => match f s l with
    | none => ([], s, l)
    | some (o, k, s') => (o ++ (run f n s' (l.drop k)).1, (run f n s' (l.drop k)).2)

structure Steps {σ : Type} (f : σ → List Int → Option (List Int × Nat × σ)) : Prop where
  size : ∀ s l o k s', f s l = some (o, k, s') → 1 ≤ k ∧ k ≤ l.length
  stay : ∀ s l t r, f s l = some r → f s (l ++ t) = some r

section
variable {σ : Type} {f : σ → List Int → Option (List Int × Nat × σ)} (hf : Steps f)
include hf

theorem Steps.nil (s : σ) : f s [] = none := by
  cases h : f s [] with
  | none => rfl
  | some r =>
    obtain ⟨o, k, s'⟩ := r
    have := hf.size s [] o k s' h
    simp at this
    omega

theorem run_fuel : ∀ (n m : Nat) (s : σ) (l : List Int), l.length ≤ n → l.length ≤ m → run f n s l = run f m s l := by
  intro n
  induction n with
  | zero =>
    intro m s l h1 h2
    have : l = [] := List.eq_nil_of_length_eq_zero (by omega)
    subst this
    cases m with
    | zero => rfl
    | succ m => simp [run, hf.nil]
  | succ n ih =>
    intro m s l h1 h2
    cases m with
    | zero =>
      have : l = [] := List.eq_nil_of_length_eq_zero (by omega)
      subst this
      simp [run, hf.nil]
    | succ m =>
      simp only [run]
      cases h : f s l with
      | none => rfl
      | some r =>
        obtain ⟨o, k, s'⟩ := r
        have hs := hf.size s l o k s' h
        simp only
        rw [ih m s' (l.drop k) (by simp; omega) (by simp; omega)]
end

def Run {σ : Type} (f : σ → List Int → Option (List Int × Nat × σ)) (s : σ) (l : List Int) : List Int × σ × List Int := run f l.length s l

section
variable {σ : Type} {f : σ → List Int → Option (List Int × Nat × σ)}
theorem Run_wait {s : σ} {l : List Int} (h : f s l = none) : Run f s l = ([], s, l) := by
  unfold Run
  cases hl : l.length with
  | zero => rfl
  | succ n => simp [run, h]
theorem Run_step (hf : Steps f) {s s' : σ} {l o : List Int} {k : Nat} (h : f s l = some (o, k, s')) : Run f s l = (o ++ (Run f s' (l.drop k)).1, (Run f s' (l.drop k)).2) := by
  have hs := hf.size s l o k s' h
  unfold Run
  obtain ⟨n, hn⟩ : ∃ n, l.length = n + 1 := ⟨l.length - 1, by omega⟩
  rw [hn]
  simp only [run, h]
  rw [run_fuel hf n (l.drop k).length s' (l.drop k) (by simp; omega) (Nat.le_refl _)]
theorem Run_ind {C : σ → List Int → Prop} (hf : Steps f) (h0 : ∀ s l, f s l = none → C s l) (h1 : ∀ s l o k s', f s l = some (o, k, s') → C s' (l.drop k) → C s l) : ∀ s l, C s l := by
  have : ∀ (n : Nat) s l, l.length ≤ n → C s l := by
    intro n
    induction n with
    | zero =>
      intro s l h
      have : l = [] := List.eq_nil_of_length_eq_zero (by omega)
      subst this
      exact h0 s [] (hf.nil s)
    | succ n ih =>
      intro s l h
      cases hq : f s l with
      | none => exact h0 s l hq
      | some r =>
        obtain ⟨o, k, s'⟩ := r
        have hs := hf.size s l o k s' hq
        exact h1 s l o k s' hq (ih s' (l.drop k) (by simp; omega))
  exact fun s l => this l.length s l (Nat.le_refl _)
/-- What is left waits. -/
theorem Run_left (hf : Steps f) (s : σ) (l : List Int) : f (Run f s l).2.1 (Run f s l).2.2 = none := by
  refine Run_ind (C := fun s l => f (Run f s l).2.1 (Run f s l).2.2 = none) hf ?_ ?_ s l
  · intro s l h; rw [Run_wait h]; exact h
  · intro s l o k s' h ih; rw [Run_step hf h]; exact ih
theorem Run_end (hf : Steps f) (s : σ) (l : List Int) : ∃ n, (Run f s l).2.2 = l.drop n ∧ n ≤ l.length := by
  refine Run_ind (C := fun s l => ∃ n, (Run f s l).2.2 = l.drop n ∧ n ≤ l.length) hf ?_ ?_ s l
  · intro s l h; rw [Run_wait h]; exact ⟨0, rfl, Nat.zero_le _⟩
  · intro s l o k s' h ih
    obtain ⟨n, e, hn⟩ := ih
    have hs := hf.size s l o k s' h
    rw [Run_step hf h]
    refine ⟨k + n, ?_, ?_⟩
    · show (Run f s' (l.drop k)).2.2 = _; rw [e, List.drop_drop]
    · simp at hn; omega
/-- Two parts, one behind the other. -/
theorem Run_app (hf : Steps f) (s : σ) (l t : List Int) : Run f s (l ++ t) = ((Run f s l).1 ++ (Run f (Run f s l).2.1 ((Run f s l).2.2 ++ t)).1, (Run f (Run f s l).2.1 ((Run f s l).2.2 ++ t)).2) := by
  refine Run_ind (C := fun s l => Run f s (l ++ t) = ((Run f s l).1 ++ (Run f (Run f s l).2.1 ((Run f s l).2.2 ++ t)).1, (Run f (Run f s l).2.1 ((Run f s l).2.2 ++ t)).2)) hf ?_ ?_ s l
  · intro s l h; rw [Run_wait h]; simp
  · intro s l o k s' h ih
    have hs := hf.size s l o k s' h
    rw [Run_step hf h, Run_step hf (hf.stay s l t _ h), List.drop_append_of_le_length hs.2, ih]
    simp [List.append_assoc]
end
end Go.Proofs.Ytpjhcecfcjbgoaa.M
