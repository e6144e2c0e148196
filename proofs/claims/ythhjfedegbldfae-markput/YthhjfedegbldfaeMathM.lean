/- Plain functions on integers that say what calls of byte order marks compute. Conditions stand at each law. -/
import Derived.Test.YthhjfedegbldfaeMathB
namespace Go.Proofs.Ythhjfedegbldfae.M

/-- An encoding's mark. -/
def mkL (n : Int) : List Int := if n = 1 then [239, 187, 191] else if n = 2 then [255, 254] else if n = 3 then [254, 255] else []
/-- The encoding whose mark stands at a text's beginning, and how many bytes that has. -/
def sn (l : List Int) : Int × Int := if [239, 187, 191] <+: l then (1, 3) else if [254, 255] <+: l then (3, 2) else if [255, 254] <+: l then (2, 2) else (0, 0)
def may (l : List Int) : Bool := decide (l = [] ∨ l = [239] ∨ l = [239, 187] ∨ l = [254] ∨ l = [255])
def enc7 (n : Int) : Bool := decide (1 ≤ n ∧ n ≤ 7)

theorem pre3 (a b c : Int) (l : List Int) : [a, b, c] <+: l ↔ ∃ t, l = a :: b :: c :: t := by
  constructor
  · rintro ⟨t, rfl⟩; exact ⟨t, rfl⟩
  · rintro ⟨t, rfl⟩; exact ⟨t, rfl⟩
theorem pre2 (a b : Int) (l : List Int) : [a, b] <+: l ↔ ∃ t, l = a :: b :: t := by
  constructor
  · rintro ⟨t, rfl⟩; exact ⟨t, rfl⟩
  · rintro ⟨t, rfl⟩; exact ⟨t, rfl⟩
theorem sn_1 (t : List Int) : sn (239 :: 187 :: 191 :: t) = (1, 3) := by
  unfold sn; rw [if_pos ((pre3 _ _ _ _).2 ⟨t, rfl⟩)]
theorem sn_3 (t : List Int) : sn (254 :: 255 :: t) = (3, 2) := by
  unfold sn; rw [if_neg (by rw [pre3]; rintro ⟨u, h⟩; simp at h), if_pos ((pre2 _ _ _).2 ⟨t, rfl⟩)]
theorem sn_2 (t : List Int) : sn (255 :: 254 :: t) = (2, 2) := by
  unfold sn; rw [if_neg (by rw [pre3]; rintro ⟨u, h⟩; simp at h), if_neg (by rw [pre2]; rintro ⟨u, h⟩; simp at h), if_pos ((pre2 _ _ _).2 ⟨t, rfl⟩)]
/-- A text has a mark, or none. -/
theorem sn_cases (l : List Int) : (∃ t, l = 239 :: 187 :: 191 :: t ∧ sn l = (1, 3)) ∨ (∃ t, l = 254 :: 255 :: t ∧ sn l = (3, 2)) ∨ (∃ t, l = 255 :: 254 :: t ∧ sn l = (2, 2)) ∨ (sn l = (0, 0) ∧ ¬ [239, 187, 191] <+: l ∧ ¬ [254, 255] <+: l ∧ ¬ [255, 254] <+: l) := by
  by_cases h1 : [239, 187, 191] <+: l
  · obtain ⟨t, rfl⟩ := (pre3 _ _ _ _).1 h1
    exact .inl ⟨t, rfl, sn_1 t⟩
  · by_cases h2 : [254, 255] <+: l
    · obtain ⟨t, rfl⟩ := (pre2 _ _ _).1 h2
      exact .inr (.inl ⟨t, rfl, sn_3 t⟩)
    · by_cases h3 : [255, 254] <+: l
      · obtain ⟨t, rfl⟩ := (pre2 _ _ _).1 h3
        exact .inr (.inr (.inl ⟨t, rfl, sn_2 t⟩))
      · refine .inr (.inr (.inr ⟨?_, h1, h2, h3⟩))
        unfold sn; rw [if_neg h1, if_neg h2, if_neg h3]
theorem sn_some {l : List Int} (h : (sn l).1 ≠ 0) (m : List Int) : sn (l ++ m) = sn l ∧ may l = false := by
  rcases sn_cases l with ⟨t, rfl, e⟩ | ⟨t, rfl, e⟩ | ⟨t, rfl, e⟩ | ⟨e, _⟩
  · rw [e]; exact ⟨sn_1 _, by simp [may]⟩
  · rw [e]; exact ⟨sn_3 _, by simp [may]⟩
  · rw [e]; exact ⟨sn_2 _, by simp [may]⟩
  · rw [e] at h; exact absurd rfl h
theorem sn_zero {l : List Int} (h : (sn l).1 = 0) : sn l = (0, 0) := by
  rcases sn_cases l with ⟨t, rfl, e⟩ | ⟨t, rfl, e⟩ | ⟨t, rfl, e⟩ | ⟨e, _⟩
  · rw [e] at h; cases h
  · rw [e] at h; cases h
  · rw [e] at h; cases h
  · exact e
theorem sn_none {l : List Int} (h : (sn l).1 = 0) (hm : may l = false) (m : List Int) : (sn (l ++ m)).1 = 0 := by
  rcases sn_cases l with ⟨t, rfl, e⟩ | ⟨t, rfl, e⟩ | ⟨t, rfl, e⟩ | ⟨e, h1, h2, h3⟩
  · rw [e] at h; cases h
  · rw [e] at h; cases h
  · rw [e] at h; cases h
  · unfold may at hm
    rw [decide_eq_false_iff_not] at hm
    have g1 : ¬ [239, 187, 191] <+: l ++ m := by
      intro hp
      rcases List.prefix_or_prefix_of_prefix hp (List.prefix_append l m) with q | q
      · exact h1 q
      · obtain ⟨t, ht⟩ := q
        rcases l with _ | ⟨a, _ | ⟨b, _ | ⟨c, l⟩⟩⟩
        · simp at hm
        · simp at ht hm; omega
        · simp at ht hm; omega
        · simp at ht
          exact h1 ⟨l, by simp [ht.1, ht.2.1, ht.2.2.1]⟩
    have g2 : ¬ [254, 255] <+: l ++ m := by
      intro hp
      rcases List.prefix_or_prefix_of_prefix hp (List.prefix_append l m) with q | q
      · exact h2 q
      · obtain ⟨t, ht⟩ := q
        rcases l with _ | ⟨a, _ | ⟨b, l⟩⟩
        · simp at hm
        · simp at ht hm; omega
        · simp at ht
          exact h2 ⟨l, by simp [ht.1, ht.2.1]⟩
    have g3 : ¬ [255, 254] <+: l ++ m := by
      intro hp
      rcases List.prefix_or_prefix_of_prefix hp (List.prefix_append l m) with q | q
      · exact h3 q
      · obtain ⟨t, ht⟩ := q
        rcases l with _ | ⟨a, _ | ⟨b, l⟩⟩
        · simp at hm
        · simp at ht hm; omega
        · simp at ht
          exact h3 ⟨l, by simp [ht.1, ht.2.1]⟩
    unfold sn; rw [if_neg g1, if_neg g2, if_neg g3]
theorem mkL_no {n : Int} (h : n ≠ 1) (h2 : n ≠ 2) (h3 : n ≠ 3) : mkL n = [] := by unfold mkL; rw [if_neg h, if_neg h2, if_neg h3]
theorem mkL_len (n : Int) : (mkL n).length ≤ 3 := by unfold mkL; split <;> (try split) <;> (try split) <;> simp
theorem sn_mk {n : Int} (h : 0 < (mkL n).length) (l : List Int) : sn (mkL n ++ l) = (n, ((mkL n).length : Int)) := by
  by_cases h1 : n = 1
  · subst h1; exact sn_1 l
  · by_cases h2 : n = 2
    · subst h2; exact sn_2 l
    · by_cases h3 : n = 3
      · subst h3; exact sn_3 l
      · rw [mkL_no h1 h2 h3] at h; simp at h
theorem mkL_byt (n : Int) : ∀ x ∈ mkL n, 0 ≤ x ∧ x ≤ 255 := by
  intro x hx
  unfold mkL at hx
  split at hx
  · simp at hx; omega
  · split at hx
    · simp at hx; omega
    · split at hx
      · simp at hx; omega
      · simp at hx
end Go.Proofs.Ythhjfedegbldfae.M
