/- Plain functions on lists of bytes that say what a text says of itself. Conditions stand at each law. -/
import Derived.Test.YthhjfedegbldfaeDoorRK5
namespace Go.Proofs.YthhjfedegbldfaeDoor
set_option linter.unusedVariables false

def isLet (c : Int) : Bool := (decide (97 ≤ c) && decide (c ≤ 122)) || (decide (65 ≤ c) && decide (c ≤ 90))
/-- The beginnings that are looked for. -/
def b4 : List Int := [60, 33, 45, 45]
def b3 : List Int := [45, 45, 62]
def b5 : List Int := [60, 109, 101, 116, 97]
def bE : List Int := [60, 33]
def bS : List Int := [60, 47]
def bQ : List Int := [60, 63]
/-- The first place from i on where a comment ends, or the end. -/
def fb : Nat → List Int → Nat → Nat
  | 0, _, i => i
  | n + 1, l, i => if bgn l i b3 = true then i else fb n l (i + 1)
def fbI (l : List Int) (i : Nat) : Nat := fb (l.length - i) l i
theorem fbI_hit {l : List Int} {i : Nat} (hi : i < l.length) (h : bgn l i b3 = true) : fbI l i = i := by
  unfold fbI; rw [show l.length - i = (l.length - i - 1) + 1 from by omega]; unfold fb; rw [if_pos h]
theorem fbI_miss {l : List Int} {i : Nat} (hi : i < l.length) (h : bgn l i b3 = false) : fbI l i = fbI l (i + 1) := by
  unfold fbI; rw [show l.length - i = (l.length - i - 1) + 1 from by omega]
  conv => lhs; unfold fb
  rw [if_neg (by simp [h])]; rfl
theorem fbI_end {l : List Int} {i : Nat} (hi : l.length ≤ i) : fbI l i = i := by
  unfold fbI; rw [show l.length - i = 0 from by omega]; rfl
theorem fbI_ge (l : List Int) : ∀ (n i : Nat), l.length - i ≤ n → i ≤ fbI l i
  | 0, i, h => by rw [fbI_end (by omega)]; exact Nat.le_refl _
  | n + 1, i, h => by
    by_cases hi : i < l.length
    · cases hb : bgn l i b3
      · rw [fbI_miss hi hb]; have := fbI_ge l n (i + 1) (by omega); omega
      · rw [fbI_hit hi hb]; exact Nat.le_refl _
    · rw [fbI_end (by omega)]; exact Nat.le_refl _
/-- The place of a tag's name, or 0. -/
def nmAt (l : List Int) (k : Nat) : Nat :=
  if l.getD k 0 = 60 then (if k + 2 < l.length ∧ l.getD (k + 1) 0 = 47 ∧ isLet (l.getD (k + 2) 0) = true then k + 2 else if k + 1 < l.length ∧ isLet (l.getD (k + 1) 0) = true then k + 1 else 0) else 0
/-- Is there a meta? -/
def isMeta (l : List Int) (k : Nat) : Bool := bgn l k b5 && (decide (k + 5 < l.length) && pAhead (l.getD (k + 5) 0))
def isDecl (l : List Int) (k : Nat) : Bool := bgn l k bE || (bgn l k bS || bgn l k bQ)
def metaAt (l : List Int) (k : Nat) : Int := metaI (txts (attrsI l (k + 5)).1)
/-- The next place to look at, where no meta tells anything. -/
def nxtP (l : List Int) (k : Nat) : Nat :=
  if bgn l k b4 = true then fbI l (k + 2) + 3
  else if isMeta l k = true then (attrsI l (k + 5)).2 + 1
  else if 0 < nmAt l k then (attrsI l (run pVal l (nmAt l k))).2 + 1
  else if isDecl l k = true then run (pNot 62) l k + 1 else k + 1
def scn : Nat → List Int → Nat → Int
  | 0, _, _ => 0
  | n + 1, l, k => if l.length ≤ k then 0 else if bgn l k b4 = false ∧ isMeta l k = true ∧ metaAt l k ≠ 0 then metaAt l k else scn n l (nxtP l k)
theorem nmAt_le {l : List Int} {k : Nat} (h : 0 < nmAt l k) : k < nmAt l k ∧ nmAt l k < l.length := by
  unfold nmAt at *
  split at h
  · rename_i c0
    rw [if_pos c0] at *
    split at h
    · rename_i c; rw [if_pos c]; omega
    · rename_i c; rw [if_neg c]
      split at h
      · rename_i c'; rw [if_pos c']; omega
      · omega
  · omega
theorem nxtP_gt {l : List Int} {k : Nat} (hk : k < l.length) : k < nxtP l k := by
  unfold nxtP
  split
  · have := fbI_ge l _ (k + 2) (Nat.le_refl _); omega
  · split
    · rename_i h
      have h5 : k + 5 < l.length := by
        unfold isMeta at h
        simp at h
        exact h.2.1
      have := attrsI_le l _ (k + 5) (Nat.le_refl _) (by omega)
      omega
    · split
      · rename_i h
        have hn := nmAt_le h
        have g := run_ge pVal l (nmAt l k)
        have e := run_le pVal l (i := nmAt l k) (by omega)
        have := attrsI_le l _ (run pVal l (nmAt l k)) (Nat.le_refl _) e
        omega
      · split
        · have := run_ge (pNot 62) l k; omega
        · omega
def scnF (l : List Int) (k : Nat) : Int := scn (l.length - k) l k
def scnI (l : List Int) : Int := scnF (l.take 256) 0
theorem scn_more : ∀ (n m : Nat) (l : List Int) (k : Nat), l.length - k ≤ n → l.length - k ≤ m → scn n l k = scn m l k
  | 0, m, l, k, hn, _ => by
    cases m with
    | zero => rfl
    | succ m => unfold scn; rw [if_pos (by omega)]
  | n + 1, 0, l, k, _, hm => by unfold scn; rw [if_pos (by omega)]
  | n + 1, m + 1, l, k, hn, hm => by
    unfold scn
    split
    · rfl
    · split
      · rfl
      · have := nxtP_gt (l := l) (k := k) (by omega)
        exact scn_more n m l _ (by omega) (by omega)
theorem scnF_end {l : List Int} {k : Nat} (h : l.length ≤ k) : scnF l k = 0 := by
  unfold scnF; rw [show l.length - k = 0 from by omega]; rfl
theorem scnF_meta {l : List Int} {k : Nat} (hk : k < l.length) (h4 : bgn l k b4 = false) (hm : isMeta l k = true) (hn : metaAt l k ≠ 0) : scnF l k = metaAt l k := by
  unfold scnF; rw [show l.length - k = (l.length - k - 1) + 1 from by omega]; unfold scn
  rw [if_neg (by omega), if_pos ⟨h4, hm, hn⟩]
theorem scnF_next {l : List Int} {k a : Nat} (hk : k < l.length) (hn : ¬ (bgn l k b4 = false ∧ isMeta l k = true ∧ metaAt l k ≠ 0)) (ha : nxtP l k = a) : scnF l k = scnF l a := by
  have hg := nxtP_gt hk
  unfold scnF; rw [show l.length - k = (l.length - k - 1) + 1 from by omega]
  conv => lhs; unfold scn
  rw [if_neg (by omega), if_neg hn, ha]
  exact scn_more _ _ l a (by omega) (by omega)
end Go.Proofs.YthhjfedegbldfaeDoor
