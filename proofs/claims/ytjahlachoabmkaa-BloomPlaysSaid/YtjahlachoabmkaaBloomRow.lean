/- A filter beside rows of the call's own. No statement of the seat is proved here. -/
import Derived.Test.YtjahlachoabmkaaBloomRest
import Derived.Test.YtjahlachoabmkaaOwnRow
namespace Go.Proofs.Ytjahlachoabmkaa
open Go.RowKit

theorem xor_255 (x : UInt8) : bits BinOp.xor IntKind.u8 ((x.toNat : Nat) : Int) 255 = (((x ^^^ 255 : UInt8).toNat : Nat) : Int) := by
  have := u8_xor_nat x.toNat 255 x.toNat_lt (by omega)
  rw [UInt8.toNat_xor]
  exact this
theorem own_not {w : World} {b n : Nat} {v : Value} {xs : List Value} (h : w.ownsRow b 5 1 v n xs) {g : Nat} (hg : g < b) : some g ≠ v.ownBlock := fun e => by
  have := (h.lt g e.symm).1; omega
theorem Vec.row {w w' : World} {v g n p : Nat} {S : Nat → Bool} {b k : Nat} {V : Value} {xs : List Value} (h : Vec w v g n p S) (ho : w.ownsRow b 5 1 V k xs) (hg : w.grownBy w' V.ownBlock) (h1 : v < b) (h2 : g < b) : Vec w' v g n p S :=
  h.same (hg.block v h.vb.lt (own_not ho h1)) (hg.block g h.gb.lt (own_not ho h2))
end Go.Proofs.Ytjahlachoabmkaa
