/- Pairs as elements of slices; slices of pairs that read. No statement of the seat is proved here. -/
import Derived.Test.YtiomfkhblmmdoaaTrMath
import Derived.Test.YtiomfkhblmmdoaaPaMath
import Derived.Test.YtiomfkhblmmdoaaOwnG
import Derived.Laws.Strings2
import Derived.Laws.StructEq
namespace Go.Proofs.Ytiomfkhblmmdoaa
open Go.RowKit
set_option linter.unusedVariables false
set_option linter.unusedSimpArgs false

def pcs (p : PT) : List Value := [.string (st p.1), .string (st p.2)]
theorem prE : Elem Try.prog 25 30 2 pcs (fun _ => True) :=
  ⟨Try.underlying25, elem_info (by kernel_rfl), by decide, by decide, fun _ _ => rfl, fun n v hv => by
    simp only [pcs, List.mem_cons, List.not_mem_nil, or_false] at hv
    rcases hv with rfl | rfl <;> rfl⟩
/-- A slice of pairs that reads. -/
def RdP (w : World) (B : Nat) (A : Option Addr) (ls : List PT) : Prop := RdS w B 2 A (ls.map pcs)
section
variable {w w' : World} {B B' : Nat} {A : Option Addr} {ls : List PT}
theorem RdP.below (h : RdP w B A ls) (hb : Below B w w') : RdP w' B A ls := RdS.below h hb
theorem RdP.more (h : RdP w B A ls) (hB : B ≤ B') : RdP w B' A ls := RdS.more h hB
theorem RdP.on (h : RdP w w.heap.size A ls) (hb : Below w.heap.size w w') : RdP w' w'.heap.size A ls := (h.below hb).more hb.size
theorem RdP.nil (w : World) (B : Nat) (A : Option Addr) : RdP w B A [] := fun h => absurd h (by simp)
theorem RdP.at_ (h : RdP w B A ls) {j : Nat} (hj : j < ls.length) : ∃ g off, A = some ⟨g, off, none⟩ ∧ g < B ∧ w.cell? ⟨g, off + j * 2, none⟩ = some (.string (st ls[j].1)) ∧ w.cell? ⟨g, off + j * 2 + 1, none⟩ = some (.string (st ls[j].2)) := by
  obtain ⟨g, off, e, hg, hc⟩ := h (by simp; omega)
  have h1 := hc j (by simpa using hj) 0 (.string (st ls[j].1)) (by simp [pcs])
  have h2 := hc j (by simpa using hj) 1 (.string (st ls[j].2)) (by simp [pcs])
  exact ⟨g, off, e, hg, by simpa using h1, by simpa using h2⟩
theorem RdP.take (h : RdP w B A ls) (k : Nat) : RdP w B A (ls.take k) := by
  unfold RdP
  rw [List.map_take]
  exact RdS.take h k
theorem RdP.own {c : Nat} {b : Nat} (h : OwnG 30 2 pcs w b A c ls) : RdP w w.heap.size A ls := h.rd prE fun _ _ => trivial
/-- A slice's end. -/
theorem RdP.drop (h : RdP w B A ls) {k : Nat} (hk : k < ls.length) : ∃ g off, A = some ⟨g, off, none⟩ ∧ RdP w B (some ⟨g, off + k * 2, none⟩) (ls.drop k) := by
  obtain ⟨g, off, e, hg, hc⟩ := h (by simp; omega)
  refine ⟨g, off, e, fun hn => ⟨g, off + k * 2, rfl, hg, fun j hj => ?_⟩⟩
  simp only [List.length_map, List.length_drop] at hj
  have := hc (k + j) (by simp; omega)
  simp only [List.getElem_map, List.getElem_drop] at this ⊢
  rw [show off + k * 2 + j * 2 = off + (k + j) * 2 by omega]
  exact this
end
end Go.Proofs.Ytiomfkhblmmdoaa
