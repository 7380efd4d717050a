/- What a reader's Get returns, leaves, and its fault behind it (the package's and the reference's alike). No statement of the seat is proved here; nothing of the program is imported. -/
import Derived.Test.YtmfbidohmkoeeaaMath
namespace Go.Proofs.Ytmfbidohmkoeeaa
open Go.RowKit

/-- What Get returns, leaves, and its fault behind it. -/
def getV (l : List UInt8) (f many : Int) : Nat := if f = 0 ∧ 0 ≤ many ∧ many ≤ 8 ∧ many ≤ l.length then val (l.take many.toNat) else 0
def getL (l : List UInt8) (f many : Int) : List UInt8 := if f = 0 ∧ 0 ≤ many ∧ many ≤ 8 ∧ many ≤ l.length then l.drop many.toNat else l
def getF (l : List UInt8) (f many : Int) : Int := if f = 0 then (if many < 0 ∨ 8 < many then 1 else if (l.length : Int) < many then 10 else 0) else f
theorem getV_lt (l : List UInt8) (f : Int) (k : Nat) : getV l f k < 256 ^ k := by
  unfold getV
  split
  · rename_i h
    refine Nat.lt_of_lt_of_le (val_lt _) (Nat.pow_le_pow_right (by omega) ?_)
    rw [List.length_take]
    omega
  · exact Nat.pow_pos (by omega)
end Go.Proofs.Ytmfbidohmkoeeaa
