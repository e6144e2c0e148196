/- The contract of the reference's isLetter and ScanOf: what a text says of itself; nothing that was there is written. Condition: at most 3000 bytes. What this seat's program lacks is left out. -/
import Derived.Test.YtofbghdkmjhniaaDoorMathP
import Derived.Deep.CutBlock
import Derived.Deep.DeepCutAuto
namespace Go.Proofs.YtofbghdkmjhniaaDoor
open Go.RowKit
set_option linter.unusedVariables false

theorem cut_few (l : List Int) (i j : Nat) : (cut l i j).length ≤ l.length := by
  unfold cut; rw [List.length_take, List.length_drop]; omega
theorem attrI_few (l : List Int) (k : Nat) : (attrI l k).1.1.length ≤ l.length ∧ (attrI l k).1.2.length ≤ l.length := by
  have h := fun i j => cut_few l i j
  unfold attrI
  simp only
  split
  · simp
  · split
    · exact ⟨by simp only [fd_len]; exact h _ _, by simp⟩
    · split
      · split
        · simp
        · exact ⟨by simp only [fd_len]; exact h _ _, by simp only [fd_len]; exact h _ _⟩
      · exact ⟨by simp only [fd_len]; exact h _ _, by simp only [fd_len]; exact h _ _⟩
theorem attrsN_few (l : List Int) : ∀ (n k : Nat), ∀ x ∈ (attrsN n l k).1, x.1.length ≤ l.length ∧ x.2.length ≤ l.length
  | 0, k, x, hx => by simp [attrsN] at hx
  | n + 1, k, x, hx => by
    unfold attrsN at hx
    split at hx
    · simp only [List.mem_cons] at hx
      rcases hx with rfl | hx
      · exact attrI_few l k
      · exact attrsN_few l n _ x hx
    · simp at hx
theorem txts_few {l : List Int} {k n : Nat} (h : l.length ≤ n) : ∀ x ∈ txts (attrsI l k).1, x.2.size ≤ n := by
  intro x hx
  unfold txts at hx
  rw [List.mem_map] at hx
  obtain ⟨y, hy, rfl⟩ := hx
  have := attrsN_few l _ k y hy
  rw [strOfNums_size]; omega
theorem fbI_le (l : List Int) : ∀ (n i : Nat), l.length - i ≤ n → i ≤ l.length → fbI l i ≤ l.length
  | 0, i, h, hi => by rw [fbI_end (by omega)]; exact hi
  | n + 1, i, h, hi => by
    by_cases hl : i < l.length
    · cases hb : bgn l i b3
      · rw [fbI_miss hl hb]; exact fbI_le l n (i + 1) (by omega) (by omega)
      · rw [fbI_hit hl hb]; exact hi
    · rw [fbI_end (by omega)]; exact hi
theorem nxtP_4 {l : List Int} {k : Nat} (h : bgn l k b4 = true) : nxtP l k = fbI l (k + 2) + 3 := by unfold nxtP; rw [if_pos h]
theorem nxtP_m {l : List Int} {k : Nat} (h : bgn l k b4 = false) (hm : isMeta l k = true) : nxtP l k = (attrsI l (k + 5)).2 + 1 := by unfold nxtP; rw [if_neg (by simp [h]), if_pos hm]
theorem nxtP_n {l : List Int} {k : Nat} (h : bgn l k b4 = false) (hm : isMeta l k = false) (hn : 0 < nmAt l k) : nxtP l k = (attrsI l (run pVal l (nmAt l k))).2 + 1 := by unfold nxtP; rw [if_neg (by simp [h]), if_neg (by simp [hm]), if_pos hn]
theorem nxtP_d {l : List Int} {k : Nat} (h : bgn l k b4 = false) (hm : isMeta l k = false) (hn : ¬ 0 < nmAt l k) (hd : isDecl l k = true) : nxtP l k = run (pNot 62) l k + 1 := by unfold nxtP; rw [if_neg (by simp [h]), if_neg (by simp [hm]), if_neg hn, if_pos hd]
theorem nxtP_0 {l : List Int} {k : Nat} (h : bgn l k b4 = false) (hm : isMeta l k = false) (hn : ¬ 0 < nmAt l k) (hd : isDecl l k = false) : nxtP l k = k + 1 := by unfold nxtP; rw [if_neg (by simp [h]), if_neg (by simp [hm]), if_neg hn, if_neg (by simp [hd])]
theorem no_meta {l : List Int} {k : Nat} (hm : isMeta l k = false) : ¬ (bgn l k b4 = false ∧ isMeta l k = true ∧ metaAt l k ≠ 0) := fun h => by rw [hm] at h; cases h.2.1

end Go.Proofs.YtofbghdkmjhniaaDoor
