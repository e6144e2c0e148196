/- What label's calls have to answer, they answer. -/
import Derived.Test.YtofbghdkmjhniaaDoorAC
import Derived.Test.YtofbghdkmjhniaaDoorLM
namespace Go.Proofs.YtofbghdkmjhniaaDoor
open Go.RowKit

theorem findSays : FindSays := fun s w hs => Find_ok s w hs
theorem labelsBegun : LabelsBegun := fun w => labelBegun_any w
end Go.Proofs.YtofbghdkmjhniaaDoor
