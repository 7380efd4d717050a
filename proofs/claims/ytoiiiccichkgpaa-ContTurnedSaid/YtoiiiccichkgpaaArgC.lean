/- Arrays of integers that came in. No statement of the seat is proved here. -/
import Derived.Test.YtoiiiccichkgpaaArgB
import Derived.WideKeyArr2
namespace Go.Proofs.Ytoiiiccichkgpaa
open Go.ChangeShapes Go.WideShapes Go.ChangeAt Go.RowKit

section
variable {H : Type} {enc : TypeId × Value → H} {P : Program} {w : World} {base : Nat}
/-- An array of integers, opened: its cells as a list of numbers. -/
theorem open_array_arg {t e : TypeId} {k : IntKind} {n : Nat} {v : Value} {sp : Nat → Bool} {held : Bool} {r : Reach} {b0 : Nat} {d : DataW H} {p : List MemPlace}
    (ht : P.underlying t = some (.array n e)) (he : P.underlying e = some (.int k)) (hc : P.cellsOf e = 1) (hs : P.cellsOf t = n) (hv : Value.okWide P w r b0 t v)
    (h : DataW.Trod enc P w base sp held t v d p) :
    ∃ zs : List Int, v = .agg (zs.map (Value.int k)).toArray ∧ zs.length = n ∧ ∀ n ∈ zs, (Lit.int k n).wf = true := by
  simp only [Value.okWide, ht] at hv
  obtain ⟨cs, rfl, h2, _⟩ := hv
  rw [hs] at h2
  obtain ⟨fuel, hf⟩ := h
  obtain ⟨xs, m, rfl, _, _, hx, hi⟩ := DataW.trod_array ht hf
  have key : ∀ i (h : i < n), ∃ z : Int, cs[i]'(by omega) = .int k z ∧ (Lit.int k z).wf = true := fun i h => by
    have h1 := hi i h
    rw [hc, List.getElem?_eq_getElem (by omega)] at h1
    have h3 : (((Value.agg cs).cells.toList).drop (i * 1)).take 1 = [cs[i]'(by omega)] := by
      simp only [Value.cells, Nat.mul_one]
      rw [List.drop_eq_getElem_cons (by simpa using (by omega : i < cs.size))]
      simp
    rw [h3] at h1
    obtain ⟨a, ea, _, wa⟩ := DataW.trod_int he h1
    exact ⟨a, by simpa using ea, wa⟩
  refine ⟨(List.range n).map fun i => ((cs[i]?.bind fun v => match v with | .int _ z => some z | _ => none).getD 0), ?_, by simp, ?_⟩
  · congr 1
    apply Array.ext
    · simp [h2]
    · intro i h3 h4
      obtain ⟨z, hz, _⟩ := key i (by omega)
      simp [Array.getElem?_eq_getElem h3, hz]
  · intro y hy
    simp only [List.mem_map, List.mem_range] at hy
    obtain ⟨i, hin, rfl⟩ := hy
    obtain ⟨z, hz, hw⟩ := key i hin
    simp [Array.getElem?_eq_getElem (show i < cs.size by omega), hz, hw]
end
end Go.Proofs.Ytoiiiccichkgpaa
