/- Texts that came in. No statement of the seat is proved here. -/
import Derived.Test.YtcpoejejmngiaaaDoorPaKit
import Derived.Test.YtcpoejejmngiaaaDoorOpen
namespace Go.Proofs.YtcpoejejmngiaaaDoor
open Go.RowKit
set_option linter.unusedVariables false
set_option linter.unusedSimpArgs false

theorem st_of (b : ByteArray) : st b.data.toList = b := by
  apply ByteArray.ext
  simp [st]
theorem data_len (b : ByteArray) : b.data.toList.length = b.size := by cases b; rfl
theorem rdt_of {w : World} {B : Nat} {A : Option Addr} {z : List ByteArray} (h : RdV w B A (z.map Value.string)) : RdT w B A (z.map fun b => b.data.toList) := fun hn => by
  have hn' : 0 < z.length := by simpa using hn
  obtain ⟨g, off, e, hg, hc⟩ := h (by simpa using hn')
  refine ⟨g, off, e, hg, fun j hj i v hv => ?_⟩
  have hj' : j < z.length := by simpa using hj
  simp only [List.getElem_map, tcs, st_of] at hv
  have hi : i = 0 := by
    have := (List.getElem?_eq_some_iff.1 hv).1
    simp at this
    exact this
  subst hi
  simp only [List.getElem?_cons_zero, Option.some.injEq] at hv
  rw [← hv, Nat.mul_one, Nat.add_zero]
  have := hc j (by simpa using hj')
  simpa using this
end Go.Proofs.YtcpoejejmngiaaaDoor
