/- The contract of the package's Write. No statement of the seat is proved here. -/
import Derived.Test.YtdnconakpajdgaaDskLandC
import Derived.Test.YtdnconakpajdgaaStillMid
namespace Go.Proofs.Ytdnconakpajdgaa
open Go.RowKit
set_option linter.unusedVariables false
set_option linter.unusedSimpArgs false

theorem write_size : (Try.prog.info? 67).map (·.size) = some 129 := by kernel_rfl
theorem write_desc : ∃ fs, Try.prog.underlying 67 = some (.struct fs) := ⟨_, Try.underlying67⟩
theorem wc_zero (t : Nat) : (wc (0, List.replicate 128 0)).set 0 (.int .i64 (t : Nat)) = wc (t, List.replicate 128 0) := rfl
theorem run_build_w (t : Nat) (W : World) : (Instr.build 67 #[(0, .int .i64 (t : Nat))]).run Try.prog W = .ok (.agg (wc (t, List.replicate 128 0)).toArray) W := by
  obtain ⟨i, h1, h2, h3⟩ := write_zero
  have h5 := wc_zero t
  have h6 : wc (0, List.replicate 128 0) ≠ [] := by simp [wc]
  obtain ⟨Z, hZ⟩ : ∃ Z, wc (0, List.replicate 128 0) = Z := ⟨_, rfl⟩
  rw [hZ] at h2 h5 h6
  rw [← h5]
  simp [Instr.build, zeroValue, typeInfo, h1, h2, Value.cells, run_underlying Try.underlying67, Try.sizeOf64, Try.sizeOf3, h6, go_sem]
/-- Zeros, told by a letter. -/
def z128 : List UInt8 := List.replicate 128 0
theorem z128_length : z128.length = 128 := by simp [z128]
theorem write_zero2 : ∃ i, Try.prog.info? 67 = some i ∧ i.zero = some (.agg (wc (0, z128)).toArray) := by
  obtain ⟨i, h1, h2, _⟩ := write_zero
  exact ⟨i, h1, h2⟩
/-- The write is built. -/
theorem wpList_build_w {ops : Array Oper} {rest : List Oper} {o : Oper} {a : Act} {w : World} {Q : Exit → Act → World → Prop} (hgd : o.guard = none) (x : Operand) (ho : o.op = .build 67 #[(0, x)]) (t : Nat) (hx : a.eval x = .int .i64 (t : Nat))
    (h : wpList Try.prog ops Q rest (a.put o.dst (.agg (wc (t, z128)).toArray)) w) : wpList Try.prog ops Q (o :: rest) a w := by
  unfold z128 at h
  refine wpList_plain hgd fun K hK => ?_
  unfold Oper.wp execOp
  simp only [ho, hx, List.map_toArray, List.map_cons, List.map_nil, Sem.run_bind, run_build_w, Result.andThen_ok, Sem.run_pure]
  exact hK _ _ h
theorem fold_set129 : ∀ (cs done rest : List Value), rest.length = cs.length → List.foldl (fun (z : Array Value) (x : Value × Nat) => z.setIfInBounds x.2 x.1) (done ++ rest).toArray (cs.zipIdx done.length) = (done ++ cs).toArray
  | [], done, rest, h => by rw [List.eq_nil_of_length_eq_zero h]; rfl
  | c :: cs, done, [], h => by simp at h
  | c :: cs, done, r :: rest, h => by
    rw [List.zipIdx_cons, List.foldl_cons]
    have e : (done ++ r :: rest).toArray.setIfInBounds done.length c = ((done ++ [c]) ++ rest).toArray := by
      rw [List.setIfInBounds_toArray]
      congr 1
      rw [List.set_append_right _ _ (Nat.le_refl _)]
      simp
    show List.foldl _ ((done ++ r :: rest).toArray.setIfInBounds done.length c) _ = _
    rw [e, show done.length + 1 = (done ++ [c]).length by simp, fold_set129 cs (done ++ [c]) rest (by simpa using h)]
    simp
theorem run_buildW (q : Nat × List UInt8) (hq : q.2.length = 128) (W : World) : (Instr.buildSlice 55 1 #[(0, .agg (wc q).toArray)]).run Try.prog W = .ok (.slice (some ⟨W.heap.size, 0, none⟩) 1 1) (W.alloc (.cells (wc q).toArray 67)) := by
  obtain ⟨i, h1, h2, h3⟩ := write_zero
  have hl := wc_length hq
  have hz : (wc (0, List.replicate 128 0)).length = 129 := wc_length (by simp)
  obtain ⟨Z, hZ⟩ : ∃ Z, wc (0, List.replicate 128 0) = Z := ⟨_, rfl⟩
  rw [hZ] at h2 hz
  obtain ⟨C, hC⟩ : ∃ C, wc q = C := ⟨_, rfl⟩
  rw [hC] at hl ⊢
  obtain ⟨Y, hY⟩ : ∃ Y : List Value, (Array.map (fun x => Z.toArray[x % Z.toArray.size]!) (Array.range 129)) = Y.toArray := ⟨_, (Array.toArray_toList).symm⟩
  have hYl : Y.length = 129 := by
    have := congrArg Array.size hY
    simpa using this.symm
  have hf := fold_set129 C [] Y (by rw [hYl, hl])
  have hzv : (zeroValue 67).run Try.prog W = .ok (.agg Z.toArray) W := by simp [zeroValue, typeInfo, h1, h2]
  have hfill : Instr.fill (fun i => some (i * 129, 129)) Y.toArray [(0, .agg C.toArray)] = some C.toArray := by
    rw [List.nil_append, List.nil_append] at hf
    unfold Instr.fill
    simp only [Nat.zero_mul, Value.cells, List.size_toArray, hl, hYl, Nat.zero_add, Instr.fill]
    rw [if_neg (by decide)]
    simp
    exact hf
  unfold Instr.buildSlice
  simp only [Sem.run_bind, run_underlying Try.underlying55, Try.sizeOf67, Result.andThen_ok, Nat.one_mul]
  rw [if_neg (by decide), if_neg (by decide)]
  simp only [Sem.run_bind, hzv, Result.andThen_ok, Sem.run_pure, Value.cells, hY, hfill]
  simp [newRow]
theorem wp_buildW {o : Oper} {a : Act} {w : World} {K : Act → World → Prop} {Q : Exit → Act → World → Prop} (x : Operand) (ho : o.op = .buildSlice 55 1 #[(0, x)]) {q : Nat × List UInt8} (hq : q.2.length = 128) (hx : a.eval x = .agg (wc q).toArray)
    (h : K (a.put o.dst (.slice (some ⟨w.heap.size, 0, none⟩) 1 1)) (w.alloc (.cells (wc q).toArray 67))) : Oper.wp Try.prog o a w K Q := by
  unfold Oper.wp execOp
  simp only [ho, hx, List.map_toArray, List.map_cons, List.map_nil, Sem.run_bind, run_buildW q hq, Result.andThen_ok, Sem.run_pure]
  exact h
end Go.Proofs.Ytdnconakpajdgaa
