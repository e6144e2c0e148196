/- What label's calls have to answer, they answer. -/
import Derived.Test.YthhjfedegbldfaeDoorAC
import Derived.Test.YthhjfedegbldfaeDoorLM
namespace Go.Proofs.YthhjfedegbldfaeDoor
open Go.RowKit

theorem findSays : FindSays := fun s w hs => Find_ok s w hs
theorem labelsBegun : LabelsBegun := fun w => labelBegun_any w
end Go.Proofs.YthhjfedegbldfaeDoor
