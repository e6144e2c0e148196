/- Plain functions on lists of bytes that say what calls on attributes compute: places from which bytes are passed, names and values. Conditions stand at each law. -/
import Derived.Test.YtofbghdkmjhniaaDoorMathL
namespace Go.Proofs.YtofbghdkmjhniaaDoor

/-- The first place from i on where p does not hold. -/
def run (p : Int → Bool) (l : List Int) (i : Nat) : Nat := i + ((l.drop i).takeWhile p).length
/-- The bytes from i to j. -/
def cut (l : List Int) (i j : Nat) : List Int := (l.drop i).take (j - i)

theorem run_ge (p : Int → Bool) (l : List Int) (i : Nat) : i ≤ run p l i := by unfold run; omega
theorem run_le (p : Int → Bool) (l : List Int) {i : Nat} (h : i ≤ l.length) : run p l i ≤ l.length := by
  unfold run
  have := (List.takeWhile_sublist p (l := l.drop i)).length_le
  rw [List.length_drop] at this
  omega
theorem run_step {p : Int → Bool} {l : List Int} {i : Nat} (h : i < l.length) (hp : p (l.getD i 0) = true) : run p l i = run p l (i + 1) := by
  unfold run
  have e : l.drop i = l.getD i 0 :: l.drop (i + 1) := by
    rw [List.drop_eq_getElem_cons h]; simp [h]
  rw [e, List.takeWhile_cons_of_pos hp]
  simp; omega
theorem run_stop {p : Int → Bool} {l : List Int} {i : Nat} (h : i < l.length) (hp : p (l.getD i 0) = false) : run p l i = i := by
  unfold run
  have e : l.drop i = l.getD i 0 :: l.drop (i + 1) := by
    rw [List.drop_eq_getElem_cons h]; simp [h]
  rw [e, List.takeWhile_cons_of_neg (by rw [hp]; simp)]
  simp
theorem run_end {p : Int → Bool} {l : List Int} {i : Nat} (h : l.length ≤ i) : run p l i = i := by
  unfold run; rw [List.drop_of_length_le h]; simp
/-- At the place that is found p does not hold, or it is the end. -/
theorem run_not (p : Int → Bool) (l : List Int) : ∀ (n i : Nat), l.length - i ≤ n → run p l i < l.length → p (l.getD (run p l i) 0) = false
  | 0, i, hn, h => by
    rw [run_end (by omega)] at h; omega
  | n + 1, i, hn, h => by
    by_cases hi : i < l.length
    · cases hp : p (l.getD i 0)
      · rw [run_stop hi hp]; exact hp
      · rw [run_step hi hp] at h ⊢
        exact run_not p l n (i + 1) (by omega) h
    · rw [run_end (by omega)] at h; omega
theorem run_no (p : Int → Bool) (l : List Int) (i : Nat) (h : run p l i < l.length) : p (l.getD (run p l i) 0) = false := run_not p l _ i (Nat.le_refl _) h
theorem cut_self (l : List Int) (i : Nat) : cut l i i = [] := by simp [cut]
theorem cut_snoc {l : List Int} {i k : Nat} (hik : i ≤ k) (hk : k < l.length) : cut l i (k + 1) = cut l i k ++ [l.getD k 0] := by
  unfold cut
  rw [show k + 1 - i = (k - i) + 1 from by omega]
  have h1 : k - i < (l.drop i).length := by rw [List.length_drop]; omega
  rw [List.take_succ_eq_append_getElem h1]
  congr 1
  rw [List.getElem_drop]
  have e : i + (k - i) = k := by omega
  simp [e, hk]
theorem cut_len {l : List Int} {i j : Nat} (hj : j ≤ l.length) : (cut l i j).length = j - i := by
  unfold cut
  rw [List.length_take, List.length_drop]; omega

/-- Bytes that are passed ahead of a name; bytes of a name; bytes of a value without quotes. -/
def pAhead (c : Int) : Bool := wh c || c == 47
def pName (c : Int) : Bool := !(c == 61 || c == 47 || c == 62 || wh c)
def pVal (c : Int) : Bool := !(c == 62 || wh c)
def pNot (q c : Int) : Bool := !(c == q)
/-- An attribute from a place on: its name and value, the place behind it, whether there is one. -/
def attrI (l : List Int) (at' : Nat) : (List Int × List Int) × Nat × Bool :=
  let a0 := run pAhead l at'
  if l.length ≤ a0 ∨ l.getD a0 0 = 62 then (([], []), a0, false) else
  let a1 := run pName l (a0 + 1)
  let a2 := run wh l a1
  if l.length ≤ a2 ∨ l.getD a2 0 ≠ 61 then ((fdI (cut l a0 a1), []), a2, true) else
  let a3 := run wh l (a2 + 1)
  if a3 < l.length ∧ (l.getD a3 0 = 34 ∨ l.getD a3 0 = 39) then
    let a4 := run (pNot (l.getD a3 0)) l (a3 + 1)
    if l.length ≤ a4 then (([], []), a4, false) else ((fdI (cut l a0 a1), fdI (cut l (a3 + 1) a4)), a4 + 1, true)
  else
    let a4 := run pVal l a3
    ((fdI (cut l a0 a1), fdI (cut l a3 a4)), a4, true)
theorem attrI_le {l : List Int} {at' : Nat} (h : at' ≤ l.length) : (attrI l at').2.1 ≤ l.length ∧ at' ≤ (attrI l at').2.1 ∧ ((attrI l at').2.2 = true → at' < (attrI l at').2.1) := by
  have g0 := run_ge pAhead l at'
  have h0 := run_le pAhead l h
  unfold attrI
  simp only
  split
  · exact ⟨h0, g0, fun h => by cases h⟩
  · rename_i c0
    have l0 : run pAhead l at' < l.length := by omega
    have g1 := run_ge pName l (run pAhead l at' + 1)
    have h1 := run_le pName l (i := run pAhead l at' + 1) (by omega)
    have g2 := run_ge wh l (run pName l (run pAhead l at' + 1))
    have h2 := run_le wh l h1
    split
    · exact ⟨h2, by simp only; omega, fun _ => by simp only; omega⟩
    · rename_i c2
      have l2 : run wh l (run pName l (run pAhead l at' + 1)) < l.length := by omega
      generalize run wh l (run pName l (run pAhead l at' + 1)) = a2 at *
      have g3 := run_ge wh l (a2 + 1)
      have h3 := run_le wh l (i := a2 + 1) (by omega)
      generalize run wh l (a2 + 1) = a3 at *
      split
      · rename_i c3
        have g4 := run_ge (pNot (l.getD a3 0)) l (a3 + 1)
        have h4 := run_le (pNot (l.getD a3 0)) l (i := a3 + 1) (by omega)
        split
        · exact ⟨h4, by simp only; omega, fun h => by cases h⟩
        · exact ⟨by simp only; omega, by simp only; omega, fun _ => by simp only; omega⟩
      · have g4 := run_ge pVal l a3
        have h4 := run_le pVal l h3
        exact ⟨h4, by simp only; omega, fun _ => by simp only; omega⟩
/-- Attributes one by one: all, and the place then. -/
def attrsN : Nat → List Int → Nat → List (List Int × List Int) × Nat
  | 0, _, i => ([], i)
  | n + 1, l, i => if (attrI l i).2.2 then ((attrI l i).1 :: (attrsN n l (attrI l i).2.1).1, (attrsN n l (attrI l i).2.1).2) else ([], (attrI l i).2.1)
def attrsI (l : List Int) (i : Nat) : List (List Int × List Int) × Nat := attrsN (l.length + 1 - i) l i
theorem attrsN_more : ∀ (n m : Nat) (l : List Int) (i : Nat), i ≤ l.length → l.length + 1 - i ≤ n → l.length + 1 - i ≤ m → attrsN n l i = attrsN m l i
  | 0, _, l, i, hi, hn, _ => by omega
  | n + 1, 0, l, i, hi, _, hm => by omega
  | n + 1, m + 1, l, i, hi, hn, hm => by
    have hb := attrI_le hi
    unfold attrsN
    cases hq : (attrI l i).2.2
    · rfl
    · have := hb.2.2 hq
      rw [attrsN_more n m l (attrI l i).2.1 hb.1 (by omega) (by omega)]
theorem attrsI_no {l : List Int} {i : Nat} (hi : i ≤ l.length) (h : (attrI l i).2.2 = false) : attrsI l i = ([], (attrI l i).2.1) := by
  unfold attrsI
  rw [show l.length + 1 - i = (l.length - i) + 1 from by omega]
  unfold attrsN
  rw [h]; rfl
theorem attrsI_yes {l : List Int} {i : Nat} (hi : i ≤ l.length) (h : (attrI l i).2.2 = true) : attrsI l i = ((attrI l i).1 :: (attrsI l (attrI l i).2.1).1, (attrsI l (attrI l i).2.1).2) := by
  have hb := attrI_le hi
  have hl := hb.2.2 h
  unfold attrsI
  rw [show l.length + 1 - i = (l.length - i) + 1 from by omega]
  conv => lhs; unfold attrsN
  rw [if_pos h, attrsN_more (l.length - i) (l.length + 1 - (attrI l i).2.1) l _ hb.1 (by omega) (Nat.le_refl _)]
theorem attrsI_le (l : List Int) : ∀ (n i : Nat), l.length - i ≤ n → i ≤ l.length → (attrsI l i).2 ≤ l.length ∧ i ≤ (attrsI l i).2 ∧ (attrsI l i).1.length ≤ l.length - i
  | n, i, hn, hi => by
    have hb := attrI_le hi
    cases hq : (attrI l i).2.2
    · rw [attrsI_no hi hq]; exact ⟨hb.1, hb.2.1, by simp⟩
    · have hl := hb.2.2 hq
      rw [attrsI_yes hi hq]
      match n with
      | 0 => omega
      | n + 1 =>
        have := attrsI_le l n (attrI l i).2.1 (by omega) hb.1
        exact ⟨this.1, by omega, by simp; omega⟩
end Go.Proofs.YtofbghdkmjhniaaDoor
