/- What scan's calls have to answer, they answer. -/
import Derived.Test.YtofbghdkmjhniaaDoorSF
import Derived.Test.YtofbghdkmjhniaaDoorSD6
namespace Go.Proofs.YtofbghdkmjhniaaDoor
open Go.RowKit

theorem metaSays : MetaSays := fun _ _ w hv hl hs hM => Meta_ok w hv hl hs hM
theorem scanSays : ScanSays := fun s w hs hM => Scan_ok s w hs hM
theorem scanErrs : ScanErrs := fun s w hm hs _ => Scan_long s w hm hs
end Go.Proofs.YtofbghdkmjhniaaDoor
