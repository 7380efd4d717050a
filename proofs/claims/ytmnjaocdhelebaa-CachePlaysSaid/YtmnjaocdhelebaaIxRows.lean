/- Rows (api.Row) and keys (api.Key) as elements of slices of the call's own; parts of a list of rows around a key. No statement of the seat is proved here. -/
import Derived.Test.YtmnjaocdhelebaaIxAt
import Derived.Test.YtmnjaocdhelebaaIxRow
import Derived.Test.YtmnjaocdhelebaaOwnG
import Derived.Test.YtmnjaocdhelebaaBuildTwo
namespace Go.Proofs.Ytmnjaocdhelebaa
open Go.RowKit
set_option linter.unusedVariables false
set_option linter.unusedSimpArgs false

theorem rowE : Elem Try.prog 42 31 35 rcs RowT.Ok :=
  ⟨Try.underlying42, elem_info (by kernel_rfl), by decide, by decide, fun _ h => rcs_length h, fun r v hv => by
    have := rcs_one (r := r)
    rw [Array.all_eq_true_iff_forall_mem] at this
    exact this v (by simpa using hv)⟩
theorem RdS.drop {w : World} {B sz : Nat} {A : Option Addr} {rows : List (List Value)} (h : RdS w B sz A rows) {k c : Nat} (hc : rows.length ≤ c) : RdS w B sz (if c = k then A else A.map (·.add (k * sz))) (rows.drop k) := fun hn => by
  rw [List.length_drop] at hn
  obtain ⟨g, off, e, hg, hr⟩ := h (by omega)
  refine ⟨g, off + k * sz, by rw [if_neg (by omega), e]; simp [Addr.add_lit], hg, fun j hj => ?_⟩
  rw [List.length_drop] at hj
  rw [List.getElem_drop]
  have := hr (k + j) (by omega)
  rwa [show off + (k + j) * sz = off + k * sz + j * sz by rw [Nat.add_mul]; omega] at this
theorem RdRw.take {w : World} {B : Nat} {A : Option Addr} {ls : List RowT} (h : RdRw w B A ls) (k : Nat) : RdRw w B A (ls.take k) := ⟨by rw [List.map_take]; exact h.rows.take k, fun x hx => h.each x (List.mem_of_mem_take hx)⟩
theorem RdRw.drop {w : World} {B : Nat} {A : Option Addr} {ls : List RowT} (h : RdRw w B A ls) {k c : Nat} (hc : ls.length ≤ c) : RdRw w B (if c = k then A else A.map (·.add (k * 35))) (ls.drop k) := ⟨by rw [List.map_drop]; exact h.rows.drop (by simpa using hc), fun x hx => h.each x (List.mem_of_mem_drop hx)⟩
/-- What stands ahead of a key, and behind it. -/
theorem parts_at {L : List RowT} (h : RowsOk L) {k : List UInt8 × Nat} (hk : KeyOk k) : L.take (under L k).length = under L k ∧ (hasX L k = true → (under L k).length < L.length ∧ L.drop ((under L k).length + 1) = over L k) ∧ (hasX L k = false → L.drop (under L k).length = over L k) := by
  rcases rise_split h.rise hk h.key with ⟨h1, h2⟩ | ⟨p, h1, _, h2⟩
  · refine ⟨?_, fun e => (by rw [h1] at e; cases e), fun _ => ?_⟩
    · have := congrArg (List.take (under L k).length) h2
      rwa [List.take_left' rfl] at this
    · have := congrArg (List.drop (under L k).length) h2
      rwa [List.drop_left' rfl] at this
  · refine ⟨?_, fun _ => ⟨?_, ?_⟩, fun e => (by rw [h1] at e; cases e)⟩
    · have := congrArg (List.take (under L k).length) h2
      rwa [List.take_left' rfl] at this
    · have := congrArg List.length h2
      rw [List.length_append, List.length_cons] at this
      omega
    · have h3 : (under L k ++ (k, p) :: over L k).drop ((under L k).length + 1) = over L k := by
        rw [← List.drop_drop, List.drop_left' rfl]; rfl
      rw [← h2] at h3
      exact h3
theorem row_places : ∃ fields, Try.prog.underlying 31 = some (.struct fields) ∧ fields.toList.mapM (fun f => (Try.prog.info? f.type).map fun i => (f.offset, i.size)) = some [(0, 33), (33, 2)] := ⟨_, Try.underlying31, by kernel_rfl⟩
theorem info_row : (Try.prog.info? 31).map (fun i => i.zero) = some (some (.agg (kcs (List.replicate 32 0, 0) ++ [Value.int .i64 0, Value.int .i64 0]).toArray)) := by kernel_rfl
set_option maxRecDepth 100000 in
theorem built_row {k : KeyT} (hk : KeyT.Ok k) (p : Int × Int) : Try.prog.built 31 [(0, .agg (kcs k).toArray), (1, .agg (pvs p).toArray)] = some (rcs (k, p)).toArray := by
  obtain ⟨fields, hf, hm⟩ := row_places
  have hz := info_row
  cases hi : Try.prog.info? 31 with
  | none => rw [hi] at hz; cases hz
  | some it =>
    rw [hi] at hz
    simp only [Option.map_some, Option.some.injEq] at hz
    have hfold : ((kcs k).toArray.zipIdx.foldl (fun cs (c, j) => cs.setIfInBounds (0 + j) c) (Value.agg (kcs (List.replicate 32 0, 0) ++ [Value.int .i64 0, Value.int .i64 0]).toArray).cells) = (kcs k ++ [Value.int .i64 0, Value.int .i64 0]).toArray := by
      have := fold_head (kcs k) [] (kcs (List.replicate 32 0, 0)) [Value.int .i64 0, Value.int .i64 0] (by rw [kcs_length hk, kcs_length ⟨by simp, by decide⟩])
      rw [← Array.foldl_toList, Array.toList_zipIdx]
      exact this
    rw [built_two (v1 := .agg (kcs k).toArray) (v2 := .agg (pvs p).toArray) (n1 := 33) (o2 := 33) (n2 := 2) (kcs k ++ [Value.int .i64 0, Value.int .i64 0]).toArray hi hf hz hm rfl rfl (by show (kcs k).toArray.size = 33; simp [kcs_length hk]) rfl (by show 33 ≤ (kcs (List.replicate 32 0, 0) ++ [Value.int .i64 0, Value.int .i64 0]).toArray.size; rw [List.size_toArray, List.length_append, kcs_length ⟨by simp, by decide⟩]; exact Nat.le_add_right _ _) hfold (by simp [kcs_length hk])]
    congr 1
    show ((kcs k ++ [Value.int .i64 0, Value.int .i64 0]).toArray.setIfInBounds (33 + 0) (.int .i64 p.1)).setIfInBounds (33 + 1) (.int .i64 p.2) = _
    rw [List.setIfInBounds_toArray, List.setIfInBounds_toArray]
    congr 1
    rw [List.set_append_right _ _ (by rw [kcs_length hk]; omega), kcs_length hk, List.set_append_right _ _ (by rw [kcs_length hk]; omega), kcs_length hk]
    rfl
end Go.Proofs.Ytmnjaocdhelebaa
