/- Slices that came in, read as lists of cells. No statement of the seat is proved here. -/
import Derived.Test.YtiomfkhblmmdoaaMem
namespace Go.Proofs.Ytiomfkhblmmdoaa
open Go.RowKit

/-- The slice value '.slice A vs.length c' reads as the cells vs (one cell an element), in blocks below B. -/
def RdV (w : World) (B : Nat) (A : Option Addr) (vs : List Value) : Prop :=
  0 < vs.length → ∃ g off, A = some ⟨g, off, none⟩ ∧ g < B ∧ ∀ j (_ : j < vs.length), w.cell? ⟨g, off + j, none⟩ = some vs[j]
theorem RdV.at_ {w w' : World} {B : Nat} {A : Option Addr} {vs : List Value} (h : RdV w B A vs) (hb : Below B w w') {k : Nat} (hk : k < vs.length) :
    ∃ g off, A = some ⟨g, off, none⟩ ∧ g < B ∧ w'.cell? ⟨g, off + k, none⟩ = some vs[k] := by
  obtain ⟨g, off, e, hg, hc⟩ := h (by omega)
  exact ⟨g, off, e, hg, (hb.cell (p := ⟨g, off + k, none⟩) hg).trans (hc k hk)⟩
theorem RdV.take {w : World} {B : Nat} {A : Option Addr} {vs : List Value} (h : RdV w B A vs) (k : Nat) : RdV w B A (vs.take k) := fun hn => by
  rw [List.length_take] at hn
  obtain ⟨g, off, e, hb, hc⟩ := h (by omega)
  refine ⟨g, off, e, hb, fun j hj => ?_⟩
  rw [List.length_take] at hj
  rw [hc j (by omega), List.getElem_take]
end Go.Proofs.Ytiomfkhblmmdoaa
