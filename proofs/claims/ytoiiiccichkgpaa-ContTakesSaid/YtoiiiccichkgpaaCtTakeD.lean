/- The reference's Take (cellarageref11), of any bytes. No statement of the seat is proved here. -/
import Derived.Test.YtoiiiccichkgpaaCtTakeC
import Derived.Test.YtoiiiccichkgpaaRefSealN
namespace Go.Proofs.Ytoiiiccichkgpaa
open Go.RowKit
set_option linter.unusedVariables false
set_option linter.unusedSimpArgs false

theorem rtake_any (A : Option Addr) (k c : Nat) (b : List UInt8) (w : World) (hl : b.length = k) (hk : k ≤ c) (hc : c ≤ maxLen) (hn : k ≤ 100000) (hr : Rd w w.heap.size A b) :
    Calls Try.prog 16 #[.slice A k c] w (RTook w b) := by
  by_cases h4 : k < 4
  · exact rtake_no A k c b w (take_short (by omega)) (refopen_short A k c w h4)
  · obtain ⟨n, rfl⟩ : ∃ n, k = n + 4 := ⟨k - 4, by omega⟩
    by_cases hse : b = sealB (b.take n)
    · exact rtake_long A n c b _ w rfl hl (by omega) hk hc hr hse ((refopen_long A n c b w hl hk hc hr (by omega)).mono fun e w' ⟨h1, _, h3⟩ => ⟨h1 hse, h3⟩)
    · exact rtake_no A (n + 4) c b w (take_unsealed hl hse) ((refopen_long A n c b w hl hk hc hr (by omega)).mono fun e w' ⟨_, h2, h3⟩ => ⟨h2 hse, h3⟩)
end Go.Proofs.Ytoiiiccichkgpaa
