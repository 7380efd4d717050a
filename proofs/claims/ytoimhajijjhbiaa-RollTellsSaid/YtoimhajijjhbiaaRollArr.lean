/- Arrays of bytes that came in: their slices. No statement of the seat is proved here. -/
import Derived.Test.YtoimhajijjhbiaaRollQuiet
import Derived.Test.YtoimhajijjhbiaaArgC
namespace Go.Proofs.Ytoimhajijjhbiaa
open Go.RowKit

theorem quiet_left {P : Program} {f : FuncId} {args : Array Value} {w : World} {n : Nat} {v : Value}
    (h : Calls P f args (w.drewN n) fun e w' => e = .returned v ∧ w.drewN n = w') : Calls P f args (w.drewN n) fun e w'' => e = .returned v ∧ ∃ m, w'' = w.drewN m :=
  h.mono fun _ _ ⟨he, hm⟩ => ⟨he, n, hm.symm⟩
theorem Rd.drewN {w : World} {B : Nat} {A : Option Addr} {l : List UInt8} (h : Rd w B A l) (n : Nat) : Rd (w.drewN n) B A l := h
/-- The bytes of a block, from a place on. -/
theorem Blk.rd_from {w : World} {g : Nat} {t : TypeId} {l : List UInt8} (h : Blk w g t (bv l).toArray) (k : Nat) : Rd w w.heap.size (some ⟨g, k, none⟩) (l.drop k) := fun hn => by
  refine ⟨g, k, rfl, h.lt, fun j hj => ?_⟩
  rw [List.length_drop] at hj
  rw [h.cell, List.getElem_drop]
  have := bv_get (l := l) (j := k + j) (by omega)
  simpa using this
theorem Blk.at_ {w : World} {g : Nat} {t : TypeId} {l : List UInt8} (h : Blk w g t (bv l).toArray) {k : Nat} (hk : k < l.length) : w.cell? ⟨g, k, none⟩ = some (.int .u8 l[k].toNat) := by
  rw [h.cell]
  have := bv_get hk
  simpa using this
end Go.Proofs.Ytoimhajijjhbiaa
