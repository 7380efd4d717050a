/- Texts as elements of slices; slices of texts that read. No statement of the seat is proved here. -/
import Derived.Test.YtcpoejejmngiaaaDoorPaMath
import Derived.Test.YtcpoejejmngiaaaDoorOwnG
import Derived.Laws.Strings2
namespace Go.Proofs.YtcpoejejmngiaaaDoor
open Go.RowKit
set_option linter.unusedVariables false
set_option linter.unusedSimpArgs false

def tcs (n : List UInt8) : List Value := [.string (st n)]
theorem strE : Elem Tryd.prog 23 9 1 tcs (fun _ => True) :=
  ⟨Tryd.underlying23, elem_info (by kernel_rfl), by decide, by decide, fun _ _ => rfl, fun n v hv => by
    rw [List.mem_singleton.1 hv]; rfl⟩
/-- A slice of texts that reads. -/
def RdT (w : World) (B : Nat) (A : Option Addr) (ls : List (List UInt8)) : Prop := RdS w B 1 A (ls.map tcs)
section
variable {w w' : World} {B B' : Nat} {A : Option Addr} {ls : List (List UInt8)}
theorem RdT.below (h : RdT w B A ls) (hb : Below B w w') : RdT w' B A ls := RdS.below h hb
theorem RdT.more (h : RdT w B A ls) (hB : B ≤ B') : RdT w B' A ls := RdS.more h hB
theorem RdT.on (h : RdT w w.heap.size A ls) (hb : Below w.heap.size w w') : RdT w' w'.heap.size A ls := (h.below hb).more hb.size
theorem RdT.nil (w : World) (B : Nat) (A : Option Addr) : RdT w B A [] := fun h => absurd h (by simp)
theorem RdT.at_ (h : RdT w B A ls) {j : Nat} (hj : j < ls.length) : ∃ g off, A = some ⟨g, off, none⟩ ∧ g < B ∧ w.cell? ⟨g, off + j, none⟩ = some (.string (st ls[j])) := by
  obtain ⟨g, off, e, hg, hc⟩ := h (by simp; omega)
  refine ⟨g, off, e, hg, ?_⟩
  have := hc j (by simpa using hj) 0 (.string (st ls[j])) (by simp [tcs])
  simpa using this
theorem RdT.take (h : RdT w B A ls) (k : Nat) : RdT w B A (ls.take k) := by
  unfold RdT
  rw [List.map_take]
  exact RdS.take h k
theorem RdT.own {c : Nat} {b : Nat} (h : OwnG 9 1 tcs w b A c ls) : RdT w w.heap.size A ls := h.rd strE fun _ _ => trivial
end
/-- A text's part. -/
theorem st_extract (s : List UInt8) (a b : Nat) : (st s).extract a b = st ((s.drop a).take (b - a)) := by
  exact ByteArray.extract_mk s a b
end Go.Proofs.YtcpoejejmngiaaaDoor
