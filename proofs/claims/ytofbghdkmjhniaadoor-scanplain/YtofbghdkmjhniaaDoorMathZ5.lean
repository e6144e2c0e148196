/- Plain facts on attributes one by one, and what is told of the texts that must be told in any case. Conditions stand at each law. -/
import Derived.Test.YtofbghdkmjhniaaDoorMathX5
namespace Go.Proofs.YtofbghdkmjhniaaDoor

/-- Where there is no attribute it is the end, or a 62. -/
theorem attrI_end {l : List Int} {i : Nat} (hi : i ≤ l.length) (h : (attrI l i).2.2 = false) : (attrI l i).2.1 = l.length ∨ ((attrI l i).2.1 < l.length ∧ l.getD (attrI l i).2.1 0 = 62) := by
  have hb := attrI_le hi
  revert hb h
  unfold attrI
  simp only
  split
  · rename_i c; intro _ hb; simp only at hb ⊢; omega
  · split
    · intro h; cases h
    · split
      · split
        · rename_i c; intro _ hb; simp only at hb ⊢; omega
        · intro h; cases h
      · intro h; cases h
theorem attrsI_end (l : List Int) : ∀ (n i : Nat), l.length - i ≤ n → i ≤ l.length → (attrsI l i).2 = l.length ∨ ((attrsI l i).2 < l.length ∧ l.getD (attrsI l i).2 0 = 62)
  | n, i, hn, hi => by
    have hb := attrI_le hi
    cases hq : (attrI l i).2.2
    · rw [attrsI_no hi hq]; exact attrI_end hi hq
    · have hl := hb.2.2 hq
      rw [attrsI_yes hi hq]
      match n with
      | 0 => omega
      | n + 1 => exact attrsI_end l n (attrI l i).2.1 (by omega) hb.1

theorem begun_next : attrI [47, 32, 65, 32, 61, 32, 39, 66, 32, 99, 39, 32, 100, 62] 0 = (([97], [98, 32, 99]), 11, true) := by decide +kernel
theorem begun_all : attrsI [97, 61, 49, 32, 98, 62] 0 = ([([97], [49]), ([98], [])], 5) := by decide +kernel
theorem begun_charset : chsI [116, 101, 120, 116, 47, 104, 116, 109, 108, 59, 32, 67, 104, 97, 114, 115, 101, 116, 32, 61, 32, 34, 108, 97, 116, 105, 110, 49, 34] = 4 := by decide +kernel
theorem begun_scan : scnI [60, 33, 45, 45, 32, 60, 109, 101, 116, 97, 32, 99, 104, 97, 114, 115, 101, 116, 61, 117, 116, 102, 45, 56, 62, 32, 45, 45, 62, 60, 112, 32, 97, 61, 39, 62, 39, 62, 60, 77, 69, 84, 65, 32, 99, 111, 110, 116, 101, 110, 116, 61, 39, 116, 101, 120, 116, 47, 104, 116, 109, 108, 59, 99, 104, 97, 114, 115, 101, 116, 61, 108, 97, 116, 105, 110, 49, 39, 32, 104, 116, 116, 112, 45, 101, 113, 117, 105, 118, 61, 67, 111, 110, 116, 101, 110, 116, 45, 84, 121, 112, 101, 62] = 4 := by decide +kernel
theorem begun_meta : metaI [(csB, ⟨#[117, 116, 102, 45, 49, 54]⟩)] = 1 := by decide +kernel
theorem begun_user : scnI [60, 33, 45, 45, 62, 60, 109, 101, 116, 97, 32, 99, 104, 97, 114, 115, 101, 116, 61, 120, 45, 117, 115, 101, 114, 45, 100, 101, 102, 105, 110, 101, 100, 62] = 4 := by decide +kernel
end Go.Proofs.YtofbghdkmjhniaaDoor
