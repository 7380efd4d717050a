/- Arguments that are slices, opened as lists of cells. No statement of the seat is proved here. -/
import Derived.Test.YtiomfkhblmmdoaaArgs
import Derived.ProofKit
import Derived.OpenShut
import Derived.SliceStrings
namespace Go.Proofs.Ytiomfkhblmmdoaa
open Go.ChangeShapes Go.WideShapes Go.ChangeAt Go.RowKit

/-- A whole row of cells that the reader met, from an address on. -/
theorem rdv_of {w : World} {a : Addr} (vs : List Value) (h : ∀ i (_ : i < vs.length), w.cell? (a.add i) = some vs[i]) : RdV w w.heap.size (some a) vs := fun hn => by
  have h0 := h 0 hn
  obtain ⟨b, off, spot⟩ := a
  have hz : (⟨b, off, spot⟩ : Addr).add 0 = ⟨b, off, spot⟩ := by simp [Addr.add]
  rw [hz] at h0
  have hs : spot = none := World.cell?_spot h0
  subst hs
  refine ⟨b, off, rfl, World.block_lt_of_cell? w _ h0, fun j hj => ?_⟩
  rw [← Addr.add_lit]; exact h j hj

section
variable {H : Type} {enc : TypeId × Value → H} {P : Program} {w : World} {base : Nat}
theorem open_ints_arg {t e : TypeId} {k : IntKind} {fuel : Nat} {a : Option Addr} {len cap : Nat} {x : DataW H × List MemPlace} (ht : P.underlying t = some (.slice e)) (he : P.underlying e = some (.int k)) (hc : P.cellsOf e = 1)
    (h : DataW.trod enc P w base (fun _ => true) true fuel t (Value.slice a len cap).cells.toList = some x) :
    ∃ zs : List Int, len = zs.length ∧ RdV w w.heap.size a (zs.map (Value.int k)) ∧ zs.length ≤ cap ∧ cap ≤ maxLen ∧ ∀ n ∈ zs, (Lit.int k n).wf = true := by
  rcases open_ints ht he hc h with ⟨hcs, _⟩ | ⟨ad, l, c, zs, hcs, _, hl, hm, hz, _, hcell, hwz⟩
  · simp [Value.cells] at hcs
    obtain ⟨rfl, rfl, rfl⟩ := hcs
    exact ⟨[], rfl, fun h => absurd h (by simp), by simp, by simp [maxLen], by simp⟩
  · simp [Value.cells] at hcs
    obtain ⟨rfl, rfl, rfl⟩ := hcs
    have hz' : zs.length = cap := by simpa using hz
    refine ⟨zs.take len, by rw [List.length_take]; omega, ?_, by rw [List.length_take]; omega, hm, fun n hn => hwz n (List.mem_of_mem_take hn)⟩
    refine rdv_of _ fun i hi => ?_
    rw [List.length_map, List.length_take] at hi
    rw [hcell i (by omega)]
    simp [List.getD, show i < zs.length by omega]
theorem open_strings_arg {t e : TypeId} {fuel : Nat} {a : Option Addr} {len cap : Nat} {x : DataW H × List MemPlace} (ht : P.underlying t = some (.slice e)) (he : P.underlying e = some .string) (hc : P.cellsOf e = 1)
    (h : DataW.trod enc P w base (fun _ => true) true fuel t (Value.slice a len cap).cells.toList = some x) :
    ∃ zs : List ByteArray, len = zs.length ∧ RdV w w.heap.size a (zs.map Value.string) ∧ zs.length ≤ cap ∧ cap ≤ maxLen ∧ ∀ s ∈ zs, s.size ≤ maxLen := by
  rcases open_strings ht he hc h with ⟨hcs, _⟩ | ⟨ad, l, c, zs, hcs, _, hl, hm, hz, _, hcell, hwz⟩
  · simp [Value.cells] at hcs
    obtain ⟨rfl, rfl, rfl⟩ := hcs
    exact ⟨[], rfl, fun h => absurd h (by simp), by simp, by simp [maxLen], by simp⟩
  · simp [Value.cells] at hcs
    obtain ⟨rfl, rfl, rfl⟩ := hcs
    have hz' : zs.length = cap := by simpa using hz
    refine ⟨zs.take len, by rw [List.length_take]; omega, ?_, by rw [List.length_take]; omega, hm, fun n hn => hwz n (List.mem_of_mem_take hn)⟩
    refine rdv_of _ fun i hi => ?_
    rw [List.length_map, List.length_take] at hi
    rw [hcell i (by omega)]
    simp [List.getD, show i < zs.length by omega]
end
end Go.Proofs.Ytiomfkhblmmdoaa
