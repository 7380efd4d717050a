/- A row of many cells loaded out of a block's middle, at an operation whose guard says yes. No statement of the seat is proved here. -/
import Derived.Test.YtiomfkhblmmdoaaMem
import Derived.Deep.MidRow
import Derived.BigFrame
namespace Go.Proofs.Ytiomfkhblmmdoaa
open Go.RowKit

/-- A row out of the middle of a block, loaded by a guarded operation. -/
theorem wpList_mid_want {P : Program} {ops : Array Oper} {rest : List Oper} {o : Oper} {a : Act} {w : World} {Q : Exit → Act → World → Prop} (hgd : Region.wanted o (yielded ops a.tmps) = true) (ty : TypeId) (x : Operand) (ho : o.op = .load ty x)
    (b of : Nat) (hx : a.eval x = .pointer (some ⟨b, of, none⟩)) (cs : List Value) (d : TypeDesc) (hc : w.rangeAt b of cs) (hu : P.underlying ty = some d) (hd : d.isRow = true) (hi : (P.info? ty).map (·.size) = some cs.length)
    (h : wpList P ops Q rest (a.put o.dst (.agg cs.toArray)) w) : wpList P ops Q (o :: rest) a w :=
  BigFrame.wpList_want hgd fun _ hK => wp_load_mid ty x ho b of hx cs d hc hu hd hi (hK _ _ h)
end Go.Proofs.Ytiomfkhblmmdoaa
