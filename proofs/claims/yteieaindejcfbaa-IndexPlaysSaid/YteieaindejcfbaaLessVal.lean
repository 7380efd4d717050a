/- Of two lists of bytes as long as one another the one whose number is less stands ahead. No statement of the seat is proved here. -/
import Derived.Test.YteieaindejcfbaaMath
import Derived.Handy
namespace Go.Proofs.Yteieaindejcfbaa
open Go.RowKit

theorem less_val : ∀ (x y : List UInt8), x.length = y.length → Op.bytesLess x y = decide (val x < val y)
  | [], [], _ => by simp [Op.bytesLess, val]
  | a :: x, b :: y, h => by
    have hl : x.length = y.length := by simpa using h
    have ih := less_val x y hl
    rw [Op.bytesLess, ih, val_cons, val_cons, hl]
    have h1 := val_lt x
    have h2 := val_lt y
    rw [hl] at h1
    rcases Nat.lt_trichotomy a.toNat b.toNat with h3 | h3 | h3
    · have e1 : (a < b) := UInt8.lt_iff_toNat_lt.2 h3
      have h4 : (a.toNat + 1) * 256 ^ y.length ≤ b.toNat * 256 ^ y.length := Nat.mul_le_mul_right _ h3
      rw [Nat.add_mul, Nat.one_mul] at h4
      simp only [e1, decide_true, Bool.true_or]
      symm; rw [decide_eq_true_iff]; omega
    · have e1 : a = b := UInt8.toNat_inj.1 h3
      subst e1
      simp
    · have e1 : ¬ (a < b) := fun h => by have := UInt8.lt_iff_toNat_lt.1 h; omega
      have e2 : (a == b) = false := by
        rw [beq_eq_false_iff_ne]; rintro rfl; omega
      have h4 : (b.toNat + 1) * 256 ^ y.length ≤ a.toNat * 256 ^ y.length := Nat.mul_le_mul_right _ h3
      rw [Nat.add_mul, Nat.one_mul] at h4
      simp only [e1, e2, decide_false, Bool.false_or, Bool.false_and]
      symm; rw [decide_eq_false_iff_not]; omega
end Go.Proofs.Yteieaindejcfbaa
