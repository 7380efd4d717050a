/- Bits of bytes, zeros: small facts. No statement of the seat is proved here. -/
import Derived.Test.YtlcbmpojigjjlaaBloomMath
import Derived.Test.YtlcbmpojigjjlaaMem
import Derived.Laws.MakeOwn
import Derived.Laws.BitsAllLaws
namespace Go.Proofs.Ytlcbmpojigjjlaa
open Go.RowKit
set_option linter.unusedVariables false

theorem pow8_ltN (q : Nat) : 2 ^ (q % 8) < 256 := Nat.pow_lt_pow_right (show 1 < 2 by omega) (show q % 8 < 8 by omega)
theorem shl8N (U : Nat) (h : U < 8) : (2 : Int) ^ U % 256 = 2 ^ U := by
  have h1 : 2 ^ U < 256 := Nat.pow_lt_pow_right (show 1 < 2 by omega) h
  rw [show (2 : Int) ^ U = ((2 ^ U : Nat) : Int) by simp]
  generalize 2 ^ U = x at h1 ⊢
  omega
theorem made_zeros (m : Nat) : madeCells #[Value.int .u8 0] m = (bv (List.replicate m 0)).toArray := by
  rw [← Array.toList_inj, toList_madeCells_one]
  simp [bv]
theorem bv_setN (l : List UInt8) (j : Nat) (b : UInt8) {X : Nat} (hb : b.toNat = X) : (bv (l.set j b)).toArray = (bv l).toArray.setIfInBounds j (.int .u8 (X : Nat)) := by
  subst hb
  simp [bv, List.map_set]
def upK (S : Nat → Bool) (k : Nat) : Nat → Bool := fun q => decide (q < k) && S q
theorem upK_zero (S : Nat → Bool) : upK S 0 = fun _ => false := by funext q; simp [upK]
theorem upK_yes {S : Nat → Bool} {k : Nat} (h : S k = true) : put1 (upK S k) k = upK S (k + 1) := by
  funext q
  unfold put1 upK
  by_cases e : q = k
  · subst e; simp [h]
  · have e1 : (q == k) = false := by simpa using e
    have e2 : (decide (q < k)) = decide (q < k + 1) := by
      by_cases h2 : q < k
      · simp [h2, Nat.lt_succ_of_lt h2]
      · have : ¬ q < k + 1 := by omega
        simp [h2, this]
    rw [e1, e2, Bool.false_or]
theorem upK_no {S : Nat → Bool} {k : Nat} (h : S k = false) : upK S k = upK S (k + 1) := by
  funext q
  unfold upK
  by_cases e : q = k
  · subst e; simp [h]
  · have e2 : (decide (q < k)) = decide (q < k + 1) := by
      by_cases h2 : q < k
      · simp [h2, Nat.lt_succ_of_lt h2]
      · have : ¬ q < k + 1 := by omega
        simp [h2, this]
    rw [e2]
theorem upK_end (S : Nat → Bool) (n : Nat) : pk n (upK S n) = pk n S := pk_congr fun q hq => by simp [upK, hq]
end Go.Proofs.Ytlcbmpojigjjlaa
