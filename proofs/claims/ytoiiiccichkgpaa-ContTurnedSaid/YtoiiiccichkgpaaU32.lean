/- A uint32 that came in. No statement of the seat is proved here. -/
import Derived.Test.YtoiiiccichkgpaaArgB
namespace Go.Proofs.Ytoiiiccichkgpaa
theorem u32_in {a : Int} (h : (Lit.int .u32 a).wf = true) : ∃ n : Nat, a = n ∧ n < 4294967296 := by
  simp [Lit.wf, IntKind.min, IntKind.max, IntKind.signed, IntKind.bits] at h
  exact ⟨a.toNat, by omega, by omega⟩
end Go.Proofs.Ytoiiiccichkgpaa
