/- A key, a piece built from their first parts. No statement of the seat is proved here. -/
import Derived.Test.YtoiiiccichkgpaaCtRow
import Derived.Test.YtoiiiccichkgpaaOwnKey
import Derived.Laws.Tables
namespace Go.Proofs.Ytoiiiccichkgpaa
open Go.RowKit
set_option linter.unusedVariables false
set_option linter.unusedSimpArgs false

theorem fold_head : ∀ (cs done rest tail : List Value), rest.length = cs.length → List.foldl (fun (z : Array Value) (x : Value × Nat) => z.setIfInBounds (0 + x.2) x.1) (done ++ (rest ++ tail)).toArray (cs.zipIdx done.length) = (done ++ (cs ++ tail)).toArray
  | [], done, rest, tail, h => by rw [List.eq_nil_of_length_eq_zero h]; rfl
  | c :: cs, done, [], tail, h => by simp at h
  | c :: cs, done, r :: rest, tail, h => by
    rw [List.zipIdx_cons, List.foldl_cons]
    have e : (done ++ (r :: rest ++ tail)).toArray.setIfInBounds (0 + done.length) c = ((done ++ [c]) ++ (rest ++ tail)).toArray := by
      rw [List.setIfInBounds_toArray, Nat.zero_add]
      congr 1
      rw [List.set_append_right _ _ (Nat.le_refl _)]
      simp
    show List.foldl _ ((done ++ (r :: rest ++ tail)).toArray.setIfInBounds (0 + done.length) c) _ = _
    rw [e, show done.length + 1 = (done ++ [c]).length by simp, fold_head cs (done ++ [c]) rest tail (by simpa using h)]
    simp
theorem built_first {P : Program} {t : TypeId} {it : TypeInfo} {fields : Array Field} {z : Value} {places : List (Nat × Nat)} {v : Value} {n : Nat} (hi : P.info? t = some it) (hu : P.underlying t = some (.struct fields)) (hz : it.zero = some z)
    (hp : fields.toList.mapM (fun f => (P.info? f.type).map fun i => (f.offset, i.size)) = some places) (h0 : places.toArray[0]? = some (0, n)) (hv : v.cells.size = n) (hn : n ≤ z.cells.size) :
    P.built t [(0, v)] = some (v.cells.zipIdx.foldl (fun cs (c, j) => cs.setIfInBounds (0 + j) c) z.cells) := by
  unfold Program.built
  rw [hi, hu]
  simp only [hz, hp]
  unfold Instr.fill
  rw [h0]
  simp only [hv]
  rw [if_neg (by simp; omega)]
  rfl
theorem built_key {s : List UInt8} (hs : s.length = 32) : Try.prog.built 40 [(0, .agg (bv s).toArray)] = some (kcs (s, 0)).toArray := by
  obtain ⟨i0, hi, hz0, hz1, hz2⟩ := info_parts info_key
  have hu := Try.underlying40
  have hp : ∃ fields, Try.prog.underlying 40 = some (.struct fields) ∧ fields.toList.mapM (fun f => (Try.prog.info? f.type).map fun i => (f.offset, i.size)) = some [(0, 32), (32, 1)] := ⟨_, hu, by kernel_rfl⟩
  obtain ⟨fields, hf, hm⟩ := hp
  rw [built_first (v := .agg (bv s).toArray) (n := 32) hi hf hz0 hm rfl (by show (bv s).toArray.size = 32; simp [bv_length, hs]) (by show 32 ≤ (kz 0).size; decide)]
  congr 1
  have := fold_head (bv s) [] (bv (List.replicate 32 0)) [.int .u32 0] (by rw [bv_length, bv_length, hs, List.length_replicate])
  show ((bv s).toArray.zipIdx.foldl (fun cs (c, j) => cs.setIfInBounds (0 + j) c) (kz 0)) = _
  rw [← Array.foldl_toList, Array.toList_zipIdx]
  exact this
theorem piece_places : ∃ fields, Try.prog.underlying 42 = some (.struct fields) ∧ fields.toList.mapM (fun f => (Try.prog.info? f.type).map fun i => (f.offset, i.size)) = some [(0, 33), (33, 1)] := ⟨_, Try.underlying42, by kernel_rfl⟩
theorem built_piece {k : KeyT} (hk : k.Ok) : Try.prog.built 42 [(0, .agg (kcs k).toArray)] = some (pcs (PieceT.bare k)).toArray := by
  obtain ⟨i0, hi, hz0, hz1, hz2⟩ := info_parts info_piece
  obtain ⟨fields, hf, hm⟩ := piece_places
  rw [built_first (v := .agg (kcs k).toArray) (n := 33) hi hf hz0 hm rfl (by show (kcs k).toArray.size = 33; simp [kcs_length hk]) (by show 33 ≤ pz.size; decide)]
  congr 1
  have := fold_head (kcs k) [] (bv (List.replicate 32 0) ++ [.int .u32 0]) [.slice none 0 0] (by rw [kcs_length hk]; rfl)
  show ((kcs k).toArray.zipIdx.foldl (fun cs (c, j) => cs.setIfInBounds (0 + j) c) pz) = _
  rw [← Array.foldl_toList, Array.toList_zipIdx]
  exact this
theorem bare_ok {k : KeyT} (hk : k.Ok) : (PieceT.bare k).p.Ok := ⟨hk.1, hk.2⟩
theorem pcs_set_num {s : List UInt8} (hs : s.length = 32) (n : Nat) : (pcs (PieceT.bare (s, 0))).toArray.setIfInBounds 32 (.int .u32 n) = (pcs (PieceT.bare (s, n))).toArray := by
  rw [List.setIfInBounds_toArray]
  congr 1
  show (bv s ++ [Value.int .u32 (0 : Nat)] ++ [Value.slice none 0 0]).set 32 _ = bv s ++ [Value.int .u32 n] ++ [Value.slice none 0 0]
  rw [List.append_assoc, List.append_assoc, List.set_append_right _ _ (by rw [bv_length, hs]; exact Nat.le_refl _), bv_length, hs]
  rfl
end Go.Proofs.Ytoiiiccichkgpaa
