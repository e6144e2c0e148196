/- The contract of the reference's AttrsAt: attributes one by one, till there is none; nothing that was there is written. Condition: at most 3000 bytes, the place within them. What this seat's program lacks is left out. -/
import Derived.Test.YtofbghdkmjhniaaDoorRA
namespace Go.Proofs.YtofbghdkmjhniaaDoor
open Go.RowKit
set_option linter.unusedVariables false

/-- The cells of attributes. -/
def atCells (L : List (List Int × List Int)) : List Value := L.flatMap fun x => [.string (strOfNums x.1), .string (strOfNums x.2)]
theorem atCells_snoc (L : List (List Int × List Int)) (x : List Int × List Int) : atCells (L ++ [x]) = atCells L ++ [.string (strOfNums x.1), .string (strOfNums x.2)] := by simp [atCells]
theorem atCells_len (L : List (List Int × List Int)) : (atCells L).length = L.length * 2 := by
  induction L with
  | nil => rfl
  | cons x t ih => simp only [atCells, List.flatMap_cons, List.length_append, List.length_cons, List.length_nil] at ih ⊢; omega
theorem infoA : (Tryd.prog.info? 33).map (fun i => (i.zero, i.size, i.bytes)) = some (some (.agg #[.string ⟨#[]⟩, .string ⟨#[]⟩]), 2, 32) := by kernel_rfl
/-- What a round of AttrsAt's loop knows. -/
def InA (l : List Int) (k0 : Nat) (w wr : World) (k : Nat) (v : Value) : Prop := ∃ L, wr.ownsRow w.heap.size 33 2 v L.length (atCells L) ∧ Below w.heap.size w wr ∧ L.length ≤ k ∧ attrsI l k0 = (L ++ (attrsI l k).1, (attrsI l k).2)

end Go.Proofs.YtofbghdkmjhniaaDoor
