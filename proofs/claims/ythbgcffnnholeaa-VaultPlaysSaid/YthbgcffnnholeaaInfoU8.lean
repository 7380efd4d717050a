/- What a byte is in memory. No statement of the seat is proved here. -/
import Derived.Test.YthbgcffnnholeaaMem
namespace Go.Proofs.Ythbgcffnnholeaa
open Go.RowKit
set_option linter.unusedVariables false

theorem info_u8 : (Try.prog.info? 5).map (fun i => (i.zero, i.size, i.bytes)) = some (some (.int .u8 0), 1, 1) := by kernel_rfl
end Go.Proofs.Ythbgcffnnholeaa
