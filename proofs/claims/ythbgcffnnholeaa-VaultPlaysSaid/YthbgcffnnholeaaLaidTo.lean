/- What Put has laid on its way. No statement of the seat is proved here. -/
import Derived.Test.YthbgcffnnholeaaInfoU8
import Derived.Handy
import Derived.WalkSpells
import Derived.WalkLawsBesides
namespace Go.Proofs.Ythbgcffnnholeaa
open Go.RowKit
set_option linter.unusedVariables false

/-- What Put has laid when its counter stands at i. -/
def laidTo (k m : Nat) (i : Int) : List UInt8 := (be k m).take (k - (i + 1).toNat)
theorem laidTo_start (k m : Nat) : laidTo k m ((k : Int) - 1) = [] := by
  unfold laidTo
  rw [show k - ((k : Int) - 1 + 1).toNat = 0 by omega]; rfl
theorem laidTo_end (k m : Nat) : laidTo k m (-1) = be k m := by
  unfold laidTo
  rw [show k - ((-1 : Int) + 1).toNat = k by omega]
  exact List.take_of_length_le (by rw [be_length]; exact Nat.le_refl _)
theorem be_get (k m j : Nat) (h : j < k) : (be k m)[j]? = some (UInt8.ofNat (m / 256 ^ (k - 1 - j))) := by
  induction k generalizing j with
  | zero => omega
  | succ k ih =>
    rw [be]
    cases j with
    | zero => simp
    | succ j =>
      rw [List.getElem?_cons_succ, ih j (by omega)]
      congr 4
      omega
theorem laidTo_step (k m i : Nat) (h : i < k) : laidTo k m ((i : Int) - 1) = laidTo k m (i : Int) ++ [UInt8.ofNat (m / 256 ^ i)] := by
  unfold laidTo
  rw [show k - ((i : Int) - 1 + 1).toNat = (k - (i + 1)) + 1 by omega, show k - ((i : Int) + 1).toNat = k - (i + 1) by omega, List.take_add_one, be_get k m _ (by omega)]
  simp [show k - 1 - (k - (i + 1)) = i by omega]
theorem laidTo_length (k m : Nat) (i : Int) (h : -1 ≤ i) (hk : i < k) : (laidTo k m i).length = k - (i + 1).toNat := by
  unfold laidTo
  rw [List.length_take, be_length]; omega
end Go.Proofs.Ythbgcffnnholeaa
