/- Struct literals of two and three parts, slice literals of two elements, at operations whose guard says yes (or that have none). For every stage. No statement of the seat is proved here. -/
import Derived.Test.YtiomfkhblmmdoaaBuildTwo
import Derived.Test.YtiomfkhblmmdoaaOwnG
import Derived.Test.YtiomfkhblmmdoaaMidWant
namespace Go.Proofs.Ytiomfkhblmmdoaa
open Go.RowKit
set_option linter.unusedVariables false
set_option linter.unusedSimpArgs false

theorem wpList_built3 {P : Program} {ops : Array Oper} {rest : List Oper} {o : Oper} {a : Act} {w : World} {Q : Exit → Act → World → Prop} (hgd : Region.wanted o (yielded ops a.tmps) = true) (t : TypeId) (x y z : Operand) (ho : o.op = .build t #[(0, x), (1, y), (2, z)])
    (v1 v2 v3 : Value) (hx : a.eval x = v1) (hy : a.eval y = v2) (hz : a.eval z = v3) (cells : Array Value) (hc : P.built t [(0, v1), (1, v2), (2, v3)] = some cells) (h : wpList P ops Q rest (a.put o.dst (.agg cells)) w) : wpList P ops Q (o :: rest) a w :=
  BigFrame.wpList_want hgd fun K hK => by
    have := run_build w t #[(0, v1), (1, v2), (2, v3)] cells hc
    unfold Oper.wp execOp
    simp only [ho, List.map_toArray, List.map_cons, List.map_nil, hx, hy, hz, Sem.run_bind, this, Result.andThen_ok, Sem.run_pure]
    exact hK _ _ h
theorem wpList_built02 {P : Program} {ops : Array Oper} {rest : List Oper} {o : Oper} {a : Act} {w : World} {Q : Exit → Act → World → Prop} (hgd : Region.wanted o (yielded ops a.tmps) = true) (t : TypeId) (x z : Operand) (ho : o.op = .build t #[(0, x), (2, z)])
    (v1 v3 : Value) (hx : a.eval x = v1) (hz : a.eval z = v3) (cells : Array Value) (hc : P.built t [(0, v1), (2, v3)] = some cells) (h : wpList P ops Q rest (a.put o.dst (.agg cells)) w) : wpList P ops Q (o :: rest) a w :=
  BigFrame.wpList_want hgd fun K hK => by
    have := run_build w t #[(0, v1), (2, v3)] cells hc
    unfold Oper.wp execOp
    simp only [ho, List.map_toArray, List.map_cons, List.map_nil, hx, hz, Sem.run_bind, this, Result.andThen_ok, Sem.run_pure]
    exact hK _ _ h
theorem fold_at : ∀ (cs : List Value) (pre : List Value) (rest : List Value) (n : Nat), pre.length = n → rest.length = cs.length → ∀ tail : List Value, List.foldl (fun (z : Array Value) (x : Value × Nat) => z.setIfInBounds (n + x.2) x.1) (pre ++ rest ++ tail).toArray cs.zipIdx = (pre ++ cs ++ tail).toArray := by
  have key : ∀ (cs pre done rest tail : List Value), rest.length = cs.length → List.foldl (fun (z : Array Value) (x : Value × Nat) => z.setIfInBounds (pre.length + x.2) x.1) (pre ++ (done ++ rest) ++ tail).toArray (cs.zipIdx done.length) = (pre ++ (done ++ cs) ++ tail).toArray := by
    intro cs
    induction cs with
    | nil =>
      intro pre done rest tail h
      rw [List.eq_nil_of_length_eq_zero h]
      rfl
    | cons c cs ih =>
      intro pre done rest tail h
      cases rest with
      | nil => simp at h
      | cons r rest =>
        rw [List.zipIdx_cons, List.foldl_cons]
        have e : (pre ++ (done ++ r :: rest) ++ tail).toArray.setIfInBounds (pre.length + done.length) c = (pre ++ ((done ++ [c]) ++ rest) ++ tail).toArray := by
          rw [List.setIfInBounds_toArray]
          congr 1
          rw [List.append_assoc, List.append_assoc, List.append_assoc, List.append_assoc, List.set_append_right _ _ (by omega), show pre.length + done.length - pre.length = done.length by omega]
          congr 1
          rw [List.append_assoc, List.set_append_right _ _ (Nat.le_refl _), Nat.sub_self]
          simp
        show List.foldl _ ((pre ++ (done ++ r :: rest) ++ tail).toArray.setIfInBounds (pre.length + done.length) c) _ = _
        rw [e, show done.length + 1 = (done ++ [c]).length by simp, ih pre (done ++ [c]) rest tail (by simpa using h)]
        simp
  intro cs pre rest n hn hr tail
  subst hn
  have := key cs pre [] rest tail hr
  simpa using this
section
variable {P : Program} {α : Type} {t e : TypeId} {sz : Nat} {g : α → List Value} {Q : α → Prop}
theorem run_buildTwo (E : Elem P t e sz g Q) {x y : α} (hx : Q x) (hy : Q y) (W : World) : (Instr.buildSlice t 2 #[(0, .agg (g x).toArray), (1, .agg (g y).toArray)]).run P W = .ok (.slice (some ⟨W.heap.size, 0, none⟩) 2 2) (W.alloc (.cells (g x ++ g y).toArray e)) := by
  obtain ⟨i, z, hi, hz, hsize, hzs, hby⟩ := E.info
  have hl := E.len x hx
  have hl2 := E.len y hy
  have hp := E.pos
  have hm := E.most
  have h1 : ¬ (2 ^ 24 < sz) := by omega
  have h2 : ¬ (sz = 0) := by omega
  have hf1 : ∀ Z : Array Value, Z.size = 2 * sz → List.foldl (fun (cs : Array Value) (x : Value × Nat) => cs.setIfInBounds x.2 x.1) Z (g x).zipIdx = (g x ++ Z.toList.drop sz).toArray := fun Z hZ => by
    have h := fold_at (g x) [] (Z.toList.take sz) 0 rfl (by rw [List.length_take, hl]; simp; omega) (Z.toList.drop sz)
    simpa using h
  have hf2 : ∀ T : List Value, T.length = sz → List.foldl (fun (cs : Array Value) (x : Value × Nat) => cs.setIfInBounds (sz + x.2) x.1) (g x ++ T).toArray (g y).zipIdx = (g x ++ g y).toArray := fun T hT => by
    have h := fold_at (g y) (g x) T sz hl (by rw [hT, hl2]) []
    simpa using h
  have hd : ∀ Z : Array Value, Z.size = 2 * sz → (Z.toList.drop sz).length = sz := fun Z hZ => by rw [List.length_drop]; simp; omega
  simp [Instr.buildSlice, run_underlying E.slice, sizeOf, typeInfo, zeroValue, hi, hz, hsize, h2, go_sem]
  rw [if_neg (by omega), if_neg (by omega), if_neg (by omega), hf1 _ (by simp), hf2 _ (hd _ (by simp)), if_neg (by rw [List.size_toArray, List.length_append, hd _ (by simp)]; omega)]
  rfl
theorem wp_buildTwo (E : Elem P t e sz g Q) {o : Oper} {a : Act} {w : World} {K : Act → World → Prop} {R : Exit → Act → World → Prop} (x y : Operand) (ho : o.op = .buildSlice t 2 #[(0, x), (1, y)]) {p q : α} (hp : Q p) (hq : Q q) (hx : a.eval x = .agg (g p).toArray) (hy : a.eval y = .agg (g q).toArray)
    (h : K (a.put o.dst (.slice (some ⟨w.heap.size, 0, none⟩) 2 2)) (w.alloc (.cells (g p ++ g q).toArray e))) : Oper.wp P o a w K R := by
  unfold Oper.wp execOp
  simp only [ho, hx, hy, List.map_toArray, List.map_cons, List.map_nil, Sem.run_bind, run_buildTwo E hp hq, Result.andThen_ok, Sem.run_pure]
  exact h
theorem wpList_buildTwo (E : Elem P t e sz g Q) {ops : Array Oper} {rest : List Oper} {o : Oper} {a : Act} {w : World} {R : Exit → Act → World → Prop} (hgd : Region.wanted o (yielded ops a.tmps) = true) (x y : Operand) (ho : o.op = .buildSlice t 2 #[(0, x), (1, y)]) {p q : α} (hp : Q p) (hq : Q q) (hx : a.eval x = .agg (g p).toArray) (hy : a.eval y = .agg (g q).toArray)
    (h : wpList P ops R rest (a.put o.dst (.slice (some ⟨w.heap.size, 0, none⟩) 2 2)) (w.alloc (.cells (g p ++ g q).toArray e))) : wpList P ops R (o :: rest) a w :=
  BigFrame.wpList_want hgd fun _ hK => wp_buildTwo E x y ho hp hq hx hy (hK _ _ h)
/-- A block of a list's elements reads. -/
theorem rds_list (E : Elem P t e sz g Q) {w : World} {b c : Nat} {l : List α} (h : Blk w b e (l.flatMap g).toArray) (hq : ∀ x ∈ l, Q x) : RdS w w.heap.size sz (some ⟨b, 0, none⟩) (l.map g) := fun hn => by
  refine ⟨b, 0, rfl, h.lt, fun j hj i v hv => ?_⟩
  have hj' : j < l.length := by simpa using hj
  rw [List.getElem_map] at hv
  have hi : i < sz := by
    have := (List.getElem?_eq_some_iff.1 hv).1
    rw [E.len _ (hq _ (List.getElem_mem hj'))] at this; exact this
  have h2 := E.at_ hq hj' i hi
  rw [h.cell, Nat.zero_add, List.getElem?_toArray, h2]
  exact hv
end
end Go.Proofs.Ytiomfkhblmmdoaa
