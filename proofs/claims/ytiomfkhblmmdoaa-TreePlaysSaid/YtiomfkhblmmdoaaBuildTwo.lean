/- A struct built from two parts. No statement of the seat is proved here; nothing of the program is named. -/
import Derived.Test.YtiomfkhblmmdoaaMem
import Derived.OrdersHeld
import Derived.Laws.Tables
namespace Go.Proofs.Ytiomfkhblmmdoaa
open Go.RowKit
set_option linter.unusedVariables false
set_option linter.unusedSimpArgs false

theorem fold_head : ∀ (cs done rest tail : List Value), rest.length = cs.length → List.foldl (fun (z : Array Value) (x : Value × Nat) => z.setIfInBounds (0 + x.2) x.1) (done ++ (rest ++ tail)).toArray (cs.zipIdx done.length) = (done ++ (cs ++ tail)).toArray
  | [], done, rest, tail, h => by rw [List.eq_nil_of_length_eq_zero h]; rfl
  | c :: cs, done, [], tail, h => by simp at h
  | c :: cs, done, r :: rest, tail, h => by
    rw [List.zipIdx_cons, List.foldl_cons]
    have e : (done ++ (r :: rest ++ tail)).toArray.setIfInBounds (0 + done.length) c = ((done ++ [c]) ++ (rest ++ tail)).toArray := by
      rw [List.setIfInBounds_toArray, Nat.zero_add]
      congr 1
      rw [List.set_append_right _ _ (Nat.le_refl _)]
      simp
    show List.foldl _ ((done ++ (r :: rest ++ tail)).toArray.setIfInBounds (0 + done.length) c) _ = _
    rw [e, show done.length + 1 = (done ++ [c]).length by simp, fold_head cs (done ++ [c]) rest tail (by simpa using h)]
    simp
theorem yields_build {P : Program} {ops : Array Oper} {S : World → Prop} {op : Oper} {a : Act} (hw : Region.wanted op (yielded ops a.tmps) = true) (t : TypeId) (parts : Array (Nat × Operand)) (ho : op.op = .build t parts)
    (cells : Array Value) (hc : P.built t (parts.map fun (i, x) => (i, a.eval x)).toList = some cells) : YieldsIf P ops S op (.agg cells) a :=
  .inl ⟨hw, fun w hw' => by
    unfold execOp
    simp only [ho, Sem.run_bind, run_build w t _ cells hc, Result.andThen_ok, Sem.run_pure]⟩
theorem built_two {P : Program} {t : TypeId} {it : TypeInfo} {fields : Array Field} {z : Value} {places : List (Nat × Nat)} {v1 v2 : Value} {n1 o2 n2 : Nat} (r1 : Array Value) (hi : P.info? t = some it) (hu : P.underlying t = some (.struct fields)) (hz : it.zero = some z)
    (hp : fields.toList.mapM (fun f => (P.info? f.type).map fun i => (f.offset, i.size)) = some places) (h0 : places.toArray[0]? = some (0, n1)) (h1 : places.toArray[1]? = some (o2, n2)) (hv1 : v1.cells.size = n1) (hv2 : v2.cells.size = n2) (hn1 : n1 ≤ z.cells.size)
    (hr : v1.cells.zipIdx.foldl (fun cs (c, j) => cs.setIfInBounds (0 + j) c) z.cells = r1) (hn2 : o2 + n2 ≤ r1.size) :
    P.built t [(0, v1), (1, v2)] = some (v2.cells.zipIdx.foldl (fun cs (c, j) => cs.setIfInBounds (o2 + j) c) r1) := by
  unfold Program.built
  rw [hi, hu]
  simp only [hz, hp]
  unfold Instr.fill
  rw [h0]
  simp only [hv1]
  rw [if_neg (by simp; omega)]
  have hr' : v1.cells.zipIdx.foldl (fun cs (x : Value × Nat) => cs.setIfInBounds (0 + x.2) x.1) z.cells = r1 := hr
  unfold Instr.fill
  rw [h1]
  simp only [hv2]
  rw [hr', if_neg (by simp; omega)]
  rfl
end Go.Proofs.Ytiomfkhblmmdoaa
