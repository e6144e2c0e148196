/- What label's calls have to answer, they answer. -/
import Derived.Test.YtbbkimlngdnblafDoorAC
import Derived.Test.YtbbkimlngdnblafDoorLM
namespace Go.Proofs.YtbbkimlngdnblafDoor
open Go.RowKit

theorem findSays : FindSays := fun s w hs => Find_ok s w hs
theorem labelsBegun : LabelsBegun := fun w => labelBegun_any w
end Go.Proofs.YtbbkimlngdnblafDoor
