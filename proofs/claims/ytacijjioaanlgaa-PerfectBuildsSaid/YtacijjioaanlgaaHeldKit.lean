/- What the walks of a region that draws and makes memory lean on. No statement of the seat is proved here. -/
import Derived.Test.YtacijjioaanlgaaMem
import Derived.Deep.RegionHeld3
import Derived.IntWalk
namespace Go.Proofs.Ytacijjioaanlgaa
end Go.Proofs.Ytacijjioaanlgaa
