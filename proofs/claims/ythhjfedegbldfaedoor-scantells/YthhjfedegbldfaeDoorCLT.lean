/- What scan.Meta answers of too many attributes, or of too long ones. -/
import Derived.Test.YthhjfedegbldfaeDoorCLS
import Derived.Test.YthhjfedegbldfaeDoorST5
namespace Go.Proofs.YthhjfedegbldfaeDoor
open Go.RowKit

theorem metaErrs : MetaErrs := fun v L w hv hz he hM => by
  have h := Meta_any w hv hz hM
  have e : mtE L = (0, 2) := by
    unfold mtE
    rw [if_neg]
    rintro ⟨h1, h2⟩
    unfold mxE at he
    rw [if_pos] at he
    · cases he
    · rw [decide_eq_true h1, List.take_of_length_le (Nat.le_refl _), show okx = okM from rfl, h2]; rfl
  rw [e] at h
  exact h
end Go.Proofs.YthhjfedegbldfaeDoor
