/- What the walks of a region that draws and makes memory lean on. No statement of the seat is proved here. -/
import Derived.Test.YtjahlachoabmkaaMem
import Derived.Deep.RegionHeld3
import Derived.IntWalk
namespace Go.Proofs.Ytjahlachoabmkaa
end Go.Proofs.Ytjahlachoabmkaa
