/- The contracts of value and Next. No statement of the seat is proved here. -/
import Derived.Test.YtmnbfmcgnddlaaaMem
import Derived.Test.YtmnbfmcgnddlaaaRollMath
import Derived.WalkSpells
import Derived.WalkLawsBesides
namespace Go.Proofs.Ytmnbfmcgnddlaaa
open Go.RowKit

theorem ret_u32 {a b : Int} (h : a = b) : Ending.returned (.int .u32 a) = .returned (.int .u32 b) := by rw [h]

theorem value_any (c : UInt8) (w : World) : Calls Try.prog 31 #[.int .u8 c.toNat] w fun e w' => e = .returned (.int .u32 ((c.toNat : Int) + 1)) ∧ w = w' := by
  have hc := c.toNat_lt
  generalize c.toNat = x at *
  go_enter Try.func31, Try.ntmps31
  go_wp2
  go_ret
  exact ⟨rfl, rfl⟩

set_option maxHeartbeats 1000000 in
theorem next_any (s : BitVec 32) (o i : UInt8) (w : World) : Calls Try.prog 26 #[.int .u32 s.toNat, .int .u8 o.toNat, .int .u8 i.toNat] w fun e w' => e = .returned (.int .u32 (nextB s o i).toNat) ∧ w = w' := by
  have ho := o.toNat_lt
  have hi := i.toNat_lt
  have hs := s.isLt
  go_enter Try.func26, Try.ntmps26
  go_wp2_with ((with_reducible refine (value_any _ _).mono ?_); rintro e w' ⟨rfl, rfl⟩)
  go_ret
  refine ⟨ret_u32 ?_, rfl⟩
  exact next_walk s o i

end Go.Proofs.Ytmnbfmcgnddlaaa
