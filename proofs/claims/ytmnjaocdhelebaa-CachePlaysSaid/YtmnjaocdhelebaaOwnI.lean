/- Integers as elements of slices of the call's own. No statement of the seat is proved here. -/
import Derived.Test.YtmnjaocdhelebaaOwnG
import Derived.Test.YtmnjaocdhelebaaStKit
namespace Go.Proofs.Ytmnjaocdhelebaa
open Go.RowKit
set_option linter.unusedVariables false
set_option linter.unusedSimpArgs false

abbrev i1 (x : Int) : List Value := [.int .i64 x]
theorem intE : Elem Try.prog 51 3 1 i1 (fun _ => True) :=
  ⟨Try.underlying51, elem_info (by kernel_rfl), by decide, by decide, fun _ _ => rfl, fun x v hv => by rw [List.mem_singleton.1 hv]; rfl⟩
theorem flat_i1 (l : List Int) : l.flatMap i1 = iv l := by
  unfold i1 iv
  induction l with
  | nil => rfl
  | cons x l ih => rw [List.flatMap_cons, ih]; rfl
theorem OwnG.rdv {w : World} {B c : Nat} {A : Option Addr} {l : List Int} (h : OwnG 3 1 i1 w B A c l) : RdV w w.heap.size A (iv l) := fun h0 => by
  have h1 := h.rd intE (fun _ _ => trivial)
  obtain ⟨g, off, e, hg, hc⟩ := h1 (by simpa [iv] using h0)
  refine ⟨g, off, e, hg, fun j hj => ?_⟩
  have hj' : j < l.length := by simpa [iv] using hj
  have := hc j (by simpa using hj') 0 (.int .i64 l[j]) (by simp [i1])
  rw [Nat.mul_one, Nat.add_zero] at this
  rw [this]
  simp [iv]
theorem rds_of_rdv {w : World} {B : Nat} {A : Option Addr} {l : List Int} (h : RdV w B A (iv l)) : RdS w B 1 A (l.map i1) := fun h0 => by
  have h0' : 0 < l.length := by simpa using h0
  obtain ⟨g, off, e, hg, hc⟩ := h (by simpa [iv] using h0')
  refine ⟨g, off, e, hg, fun j hj i v hv => ?_⟩
  have hj' : j < l.length := by simpa using hj
  simp only [List.getElem_map, i1] at hv
  cases i with
  | zero =>
    simp at hv
    subst hv
    have := hc j (by simpa [iv] using hj')
    rw [Nat.mul_one, Nat.add_zero, this]
    simp [iv]
  | succ i => simp at hv
/-- '[]int{x}'. -/
theorem rds_int (w : World) (x : Int) : RdS (w.alloc (.cells #[.int .i64 x] 3)) (w.alloc (.cells #[.int .i64 x] 3)).heap.size 1 (some ⟨w.heap.size, 0, none⟩) ([x].map i1) := rds_one w x 3 1 i1
end Go.Proofs.Ytmnjaocdhelebaa
