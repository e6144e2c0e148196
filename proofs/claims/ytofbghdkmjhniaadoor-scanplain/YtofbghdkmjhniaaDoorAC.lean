/- The walk of AttrCharset over what attr's and label's calls have to answer: true; nothing that was there is written. What this seat's program lacks is left out. -/
import Derived.Test.YtofbghdkmjhniaaDoorAD
namespace Go.Proofs.YtofbghdkmjhniaaDoor
open Go.RowKit
set_option linter.unusedVariables false

def FindSays : Prop := ∀ (s : ByteArray) (w : World), s.size ≤ 3000 → Calls Tryd.prog 9 #[.string s] w fun e w' => e = .returned (.tuple #[.int .i64 (findI s), .int .i64 0]) ∧ Below w.heap.size w w'
def LabelsBegun : Prop := ∀ w : World, Calls Tryd.prog 7 #[] w fun e w' => e = .returned (.bool true) ∧ Below w.heap.size w w'

theorem fnd_bl (s : ByteArray) : fnd (bl s) = findI s := by unfold fnd; rw [str_bl]
theorem charset_bare {a n b : ByteArray} (ha : ∀ x ∈ bl a, x ≠ 99 ∧ x ≠ 67) (hn : plain n = true) :
    chsI (bl (a ++ ⟨#[99, 104, 97, 114, 115, 101, 116, 61]⟩ ++ n ++ ⟨#[59]⟩ ++ b)) = findI n := by
  obtain ⟨h1, h2⟩ := plain_yes hn
  have := chs_bare (ahead := bl a) (W := csL) (g := []) (g2 := []) (nm := bl n) (behind := bl b) ha (by decide) rfl rfl h1 h2
  rw [fnd_bl] at this
  rw [← this]
  simp only [bl_app]
  congr 1
  rw [show bl ⟨#[99, 104, 97, 114, 115, 101, 116, 61]⟩ = csL ++ [61] from by decide, show bl ⟨#[59]⟩ = [59] from by decide]
  simp
theorem charset_quote {a n b : ByteArray} (ha : ∀ x ∈ bl a, x ≠ 99 ∧ x ≠ 67) (hn : plain n = true) :
    chsI (bl (a ++ ⟨#[67, 104, 97, 114, 83, 101, 116, 32, 61, 32, 39]⟩ ++ n ++ ⟨#[39]⟩ ++ b)) = findI n := by
  obtain ⟨h1, h2⟩ := plain_yes hn
  have := chs_quote (ahead := bl a) (W := [67, 104, 97, 114, 83, 101, 116]) (g := [32]) (g2 := [32]) (nm := bl n) (behind := bl b) (q := 39) ha (by decide) rfl rfl h1 (.inr rfl)
  rw [fnd_bl] at this
  rw [← this]
  simp only [bl_app]
  congr 1
  rw [show bl ⟨#[67, 104, 97, 114, 83, 101, 116, 32, 61, 32, 39]⟩ = [67, 104, 97, 114, 83, 101, 116] ++ [32] ++ [61] ++ [32] ++ [39] from by decide, show bl ⟨#[39]⟩ = [39] from by decide]
  simp
theorem charset_open {a n : ByteArray} (ha : ∀ x ∈ bl a, x ≠ 99 ∧ x ≠ 67) (hn : plain n = true) :
    chsI (bl (a ++ ⟨#[99, 104, 97, 114, 115, 101, 116, 61, 34]⟩ ++ n)) = 0 := by
  obtain ⟨h1, h2⟩ := plain_yes hn
  have := chs_open (ahead := bl a) (W := csL) (g := []) (g2 := []) (nm := bl n) (q := 34) ha (by decide) rfl rfl h1 (.inl rfl)
  rw [← this]
  simp only [bl_app]
  congr 1
  rw [show bl ⟨#[99, 104, 97, 114, 115, 101, 116, 61, 34]⟩ = csL ++ [61] ++ [34] from by decide]
  simp

theorem noC_snoc {a : ByteArray} {k : Nat} {c : Int} (hk : k < a.size) (hc : (bl a).getD k 0 = c) (h : ∀ j, j < k → (bl a).getD j 0 ≠ 99 ∧ (bl a).getD j 0 ≠ 67) (h1 : c ≠ 99) (h2 : c ≠ 67) : ∀ j, j < k + 1 → (bl a).getD j 0 ≠ 99 ∧ (bl a).getD j 0 ≠ 67 := by
  intro j hj
  by_cases e : j = k
  · subst e; rw [hc]; exact ⟨h1, h2⟩
  · exact h j (by omega)
theorem noC_all {a : ByteArray} (h : ∀ j, j < a.size → (bl a).getD j 0 ≠ 99 ∧ (bl a).getD j 0 ≠ 67) : ∀ x ∈ bl a, x ≠ 99 ∧ x ≠ 67 := by
  intro x hx
  obtain ⟨j, hj, e⟩ := List.mem_iff_getElem.1 hx
  have := h j (by rw [← bl_len]; exact hj)
  rw [show (bl a).getD j 0 = x from by rw [← e]; simp [hj]] at this
  exact this
end Go.Proofs.YtofbghdkmjhniaaDoor
