/- The contracts of value, Next, Of, and of the reference's Next and Of. No statement of the seat is proved here. -/
import Derived.Test.YtoimhajijjhbiaaMem
import Derived.Test.YtoimhajijjhbiaaRollMath
import Derived.WalkSpells
import Derived.WalkLawsBesides
namespace Go.Proofs.Ytoimhajijjhbiaa
open Go.RowKit

theorem ret_u32 {a b : Int} (h : a = b) : Ending.returned (.int .u32 a) = .returned (.int .u32 b) := by rw [h]

theorem value_any (c : UInt8) (w : World) : Calls Try.prog 15 #[.int .u8 c.toNat] w fun e w' => e = .returned (.int .u32 ((c.toNat : Int) + 1)) ∧ w = w' := by
  have hc := c.toNat_lt
  generalize c.toNat = x at *
  go_enter Try.func15, Try.ntmps15
  go_wp2
  go_ret
  exact ⟨rfl, rfl⟩

set_option maxHeartbeats 1000000 in
theorem next_any (s : BitVec 32) (o i : UInt8) (w : World) : Calls Try.prog 11 #[.int .u32 s.toNat, .int .u8 o.toNat, .int .u8 i.toNat] w fun e w' => e = .returned (.int .u32 (nextB s o i).toNat) ∧ w = w' := by
  have ho := o.toNat_lt
  have hi := i.toNat_lt
  have hs := s.isLt
  go_enter Try.func11, Try.ntmps11
  go_wp2_with ((with_reducible refine (value_any _ _).mono ?_); rintro e w' ⟨rfl, rfl⟩)
  go_ret
  refine ⟨ret_u32 ?_, rfl⟩
  exact next_walk s o i

set_option maxHeartbeats 1000000 in
theorem refnext_any (s : BitVec 32) (o i : UInt8) (w : World) : Calls Try.prog 12 #[.int .u32 s.toNat, .int .u8 o.toNat, .int .u8 i.toNat] w fun e w' => e = .returned (.int .u32 (nextB s o i).toNat) ∧ w = w' := by
  have ho := o.toNat_lt
  have hi := i.toNat_lt
  have hs := s.isLt
  go_enter Try.func12, Try.ntmps12
  go_wp2
  go_loop [7, 8] (fun x j => ∃ k : Nat, 1 ≤ k ∧ k ≤ 16 ∧ j = .int .i64 k ∧ x = .int .u32 (powB (hv o) (k - 1)).toNat) (fun _ j => 16 - (intOf j).toNat)
  case atStart => exact ⟨1, Nat.le_refl _, by omega, rfl, by show _ = Value.int .u32 ((hv o * 1#32).toNat : Nat); rw [BitVec.mul_one, hv_toNat]; rfl⟩
  case round =>
    obtain ⟨k, hk1, hk, rfl, rfl⟩ := hrel
    by_cases hlt : k < 16
    · have h1 := Lib.hid (powB_snoc (hv o) (k - 1))
      have h2 := Lib.hid (mul_walk (powB (hv o) (k - 1)))
      have h3 := (powB (hv o) (k - 1)).isLt
      have h4 := Lib.hid (show k + 1 - 1 = k - 1 + 1 by omega)
      go_wp2
      go_round
      case rel => exact ⟨k + 1, by omega, by omega, by go_num, by rw [h4.out, h1.out, h2.out]⟩
      case measure => simp [intOf]; omega
    · obtain rfl : k = 16 := by omega
      have h3 := (powB (hv o) (16 - 1)).isLt
      go_wp2
      go_ret
      refine ⟨ret_u32 ?_, rfl⟩
      exact refnext_walk s o i
end Go.Proofs.Ytoimhajijjhbiaa
