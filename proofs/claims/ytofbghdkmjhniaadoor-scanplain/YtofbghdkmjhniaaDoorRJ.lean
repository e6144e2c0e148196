/- The contract of the reference's CharsetOf: the encoding of the label behind a charset; nothing that was there is written. Condition: at most 3000 bytes. What this seat's program lacks is left out. -/
import Derived.Test.YtofbghdkmjhniaaDoorMathO
import Derived.Deep.CutBlock
import Derived.Deep.DeepCutAuto
namespace Go.Proofs.YtofbghdkmjhniaaDoor
open Go.RowKit
set_option linter.unusedVariables false

theorem cs_bl : bl ⟨#[99, 104, 97, 114, 115, 101, 116]⟩ = csL := by decide
end Go.Proofs.YtofbghdkmjhniaaDoor
