/- What the walks of a region that draws lean on. No statement of the seat is proved here. -/
import Derived.Test.YtoimhajijjhbiaaRollShown
import Derived.Deep.QuietTactic
import Derived.BigQuiet
import Derived.Lib.QuietBelow
namespace Go.Proofs.Ytoimhajijjhbiaa
open Go.RowKit
theorem below_drewN {B : Nat} {a w : World} (h : Below B a w) (q : Nat) : Below B a (w.drewN q) := ⟨h.os, h.tape, h.output, h.size, h.block⟩
end Go.Proofs.Ytoimhajijjhbiaa
