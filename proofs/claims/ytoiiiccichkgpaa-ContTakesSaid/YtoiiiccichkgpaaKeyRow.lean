/- A slice of one key, made of a literal or for an append. No statement of the seat is proved here. -/
import Derived.Test.YtoiiiccichkgpaaKeys
namespace Go.Proofs.Ytoiiiccichkgpaa
open Go.RowKit
set_option linter.unusedVariables false

theorem fold_set : ∀ (cs done rest : List Value), rest.length = cs.length → List.foldl (fun (z : Array Value) (x : Value × Nat) => z.setIfInBounds x.2 x.1) (done ++ rest).toArray (cs.zipIdx done.length) = (done ++ cs).toArray
  | [], done, rest, h => by rw [List.eq_nil_of_length_eq_zero h]; rfl
  | c :: cs, done, [], h => by simp at h
  | c :: cs, done, r :: rest, h => by
    rw [List.zipIdx_cons, List.foldl_cons]
    have e : (done ++ r :: rest).toArray.setIfInBounds done.length c = ((done ++ [c]) ++ rest).toArray := by
      rw [List.setIfInBounds_toArray]
      congr 1
      rw [List.set_append_right _ _ (Nat.le_refl _)]
      simp
    show List.foldl _ ((done ++ r :: rest).toArray.setIfInBounds done.length c) _ = _
    rw [e, show done.length + 1 = (done ++ [c]).length by simp, fold_set cs (done ++ [c]) rest (by simpa using h)]
    simp
theorem fold_key {k : KeyT} (hk : k.Ok) : List.foldl (fun (z : Array Value) (x : Value × Nat) => z.setIfInBounds x.2 x.1) (kz 0) (kcs k).zipIdx = (kcs k).toArray :=
  fold_set (kcs k) [] (kz 0).toList (by rw [kcs_length hk]; rfl)
set_option maxRecDepth 100000 in
theorem run_buildKey {k : KeyT} (hk : k.Ok) (W : World) : (Instr.buildSlice 34 1 #[(0, .agg (kcs k).toArray)]).run Try.prog W = .ok (.slice (some ⟨W.heap.size, 0, none⟩) 1 1) (W.alloc (.cells (kcs k).toArray 40)) := by
  have hl := kcs_length hk
  have hf := fold_key hk
  unfold kz at hf
  simp [Instr.buildSlice, run_underlying Try.underlying34, Try.sizeOf40, go_sem]
  rw [if_neg (by omega), hf]
  rfl
theorem wp_buildKey {o : Oper} {a : Act} {w : World} {K : Act → World → Prop} {Q : Exit → Act → World → Prop} (x : Operand) (ho : o.op = .buildSlice 34 1 #[(0, x)]) {k : KeyT} (hk : k.Ok) (hx : a.eval x = .agg (kcs k).toArray)
    (h : K (a.put o.dst (.slice (some ⟨w.heap.size, 0, none⟩) 1 1)) (w.alloc (.cells (kcs k).toArray 40))) : Oper.wp Try.prog o a w K Q := by
  unfold Oper.wp execOp
  simp only [ho, hx, List.map_toArray, List.map_cons, List.map_nil, Sem.run_bind, run_buildKey hk, Result.andThen_ok, Sem.run_pure]
  exact h
theorem wpList_buildKey {ops : Array Oper} {rest : List Oper} {o : Oper} {a : Act} {w : World} {Q : Exit → Act → World → Prop} (hgd : o.guard = none) (x : Operand) (ho : o.op = .buildSlice 34 1 #[(0, x)]) {k : KeyT} (hk : k.Ok) (hx : a.eval x = .agg (kcs k).toArray)
    (h : wpList Try.prog ops Q rest (a.put o.dst (.slice (some ⟨w.heap.size, 0, none⟩) 1 1)) (w.alloc (.cells (kcs k).toArray 40))) : wpList Try.prog ops Q (o :: rest) a w :=
  wpList_plain hgd fun _ hK => wp_buildKey x ho hk hx (hK _ _ h)
end Go.Proofs.Ytoiiiccichkgpaa
