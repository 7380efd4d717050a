/- A row handed over by value. No statement of the seat is proved here. -/
import Derived.Test.YtmnjaocdhelebaaIxRow
namespace Go.Proofs.Ytmnjaocdhelebaa
open Go.ChangeShapes Go.WideShapes Go.ChangeAt Go.RowKit Go.Deep Go.Joins
set_option linter.unusedVariables false

set_option maxRecDepth 100000 in
theorem open_rowv {H : Type} {enc : TypeId × Value → H} {w : World} {base : Nat} {sp : Nat → Bool} {held : Bool} {v : Value} {r : Reach} {b0 : Nat} {d : DataW H} {p : List MemPlace}
    (hv : Value.okWide Try.prog w r b0 31 v) (h : DataW.Trod enc Try.prog w base sp held 31 v d p) : ∃ q : RowT, v = .agg (rcs q).toArray ∧ q.Ok := by
  obtain ⟨f0, f1, hs, _⟩ := row_fields
  obtain ⟨cs, rfl, hsz⟩ := okWide_struct hs hv
  obtain ⟨fuel, hf⟩ := h
  obtain ⟨q, hcs, h1⟩ := row_cells hf
  refine ⟨q, ?_, h1⟩
  have e : cs = (rcs q).toArray := by rw [← Array.toList_inj]; exact hcs
  rw [e]
end Go.Proofs.Ytmnjaocdhelebaa
