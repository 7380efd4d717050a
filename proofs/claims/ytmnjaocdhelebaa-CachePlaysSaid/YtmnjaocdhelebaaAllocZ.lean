/- A variable of many cells is made. No statement of the seat is proved here. -/
import Derived.Test.YtmnjaocdhelebaaMem
namespace Go.Proofs.Ytmnjaocdhelebaa
open Go.RowKit
set_option linter.unusedVariables false
set_option linter.unusedSimpArgs false

/-- A variable of its own, its zero cells by a letter. -/
theorem wpList_alloc_z {ops : Array Oper} {rest : List Oper} {o : Oper} {a : Act} {w : World} {Q : Exit → Act → World → Prop} (hgd : o.guard = none) (ty : TypeId) (ho : o.op = .alloc ty) (i : TypeInfo) (z : Array Value) (hi : Try.prog.info? ty = some i) (hz : i.zero = some (.agg z))
    (h : wpList Try.prog ops Q rest (a.put o.dst (.pointer (some ⟨w.heap.size, 0, none⟩))) (w.alloc (.cells z ty))) : wpList Try.prog ops Q (o :: rest) a w := by
  refine wpList_plain hgd fun K hK => ?_
  unfold Oper.wp execOp
  have hr : (Instr.alloc ty true (.tuple #[])).run Try.prog w = .ok (.pointer (some ⟨w.heap.size, 0, none⟩)) (w.alloc (.cells z ty)) := by
    simp [Instr.alloc, zeroValue, typeInfo, hi, hz, newVar, newRow, Value.cells]
  simp only [ho, Sem.run_bind, hr, Result.andThen_ok, Sem.run_pure]
  exact hK _ _ h
theorem zero_parts {x : Option TypeInfo} {n : Nat} {z : Array Value} (h : x.map (fun i => (i.zero, i.size)) = some (some (.agg z), n)) : ∃ i, x = some i ∧ i.zero = some (.agg z) ∧ i.size = n := by
  cases x with
  | none => cases h
  | some i =>
    refine ⟨i, rfl, ?_⟩
    simp only [Option.map_some, Option.some.injEq, Prod.mk.injEq] at h
    exact h
end Go.Proofs.Ytmnjaocdhelebaa
