/- Slices of pieces of the call's own: that they read; a piece appended to them. No statement of the seat is proved here. -/
import Derived.Test.YtoiiiccichkgpaaCtMF
import Derived.Test.YtoiiiccichkgpaaAppRd
import Derived.Test.YtoiiiccichkgpaaOwnRow
namespace Go.Proofs.Ytoiiiccichkgpaa
open Go.RowKit
set_option linter.unusedVariables false
set_option linter.unusedSimpArgs false

/-- A piece of no bytes. -/
def PieceT.bare (k : KeyT) : PieceT := ⟨none, 0, ⟨k.1, k.2, []⟩⟩
def pz : Array Value := (pcs (PieceT.bare (List.replicate 32 0, 0))).toArray
theorem info_piece : (Try.prog.info? 42).map (fun i => (i.zero, i.size, i.bytes)) = some (some (.agg pz), 34, 64) := by kernel_rfl
theorem pcs_one (x : PieceT) : ∀ v ∈ pcs x, v.oneCell' = true := fun v hv => by
  rcases List.mem_append.1 hv with h | h
  · have := kcs_one (k := x.p.key)
    rw [Array.all_eq_true_iff_forall_mem] at this
    exact this v (by simpa using h)
  · rw [List.mem_singleton.1 h]; rfl
theorem flat_pcs {l : List PieceT} (h : ∀ x ∈ l, x.p.Ok) : (l.flatMap pcs).length = l.length * 34 := by
  induction l with
  | nil => rfl
  | cons k l ih =>
    rw [List.flatMap_cons, List.length_append, pcs_length (h k (by simp)), ih fun x hx => h x (by simp [hx]), List.length_cons]; omega
theorem flatp_at {l : List PieceT} (h : ∀ x ∈ l, x.p.Ok) {j : Nat} (hj : j < l.length) (i : Nat) (hi : i < 34) : (l.flatMap pcs)[j * 34 + i]? = (pcs l[j])[i]? := by
  induction l generalizing j with
  | nil => simp at hj
  | cons k l ih =>
    rw [List.flatMap_cons]
    cases j with
    | zero =>
      rw [Nat.zero_mul, Nat.zero_add, List.getElem?_append_left (by rw [pcs_length (h k (by simp))]; exact hi)]
      rfl
    | succ j =>
      rw [List.getElem?_append_right (by rw [pcs_length (h k (by simp))]; omega), pcs_length (h k (by simp)), show (j + 1) * 34 + i - 34 = j * 34 + i by omega]
      exact ih (fun x hx => h x (by simp [hx])) (by simpa using hj)
/-- A slice of pieces of the call's own. -/
abbrev OwnP (w : World) (B : Nat) (A : Option Addr) (c n : Nat) (l : List PieceT) : Prop := w.ownsRow B 42 34 (.slice A n c) n (l.flatMap pcs)
theorem OwnP.rd {w : World} {B c : Nat} {A : Option Addr} {l : List PieceT} (h : OwnP w B A c l.length l) (ho : ∀ x ∈ l, x.Ok w w.heap.size) : RdPc w w.heap.size A l := by
  refine ⟨fun hn => ?_, ho⟩
  have hn' : 0 < l.length := by simpa using hn
  rcases h.2 with ⟨_, h0⟩ | ⟨g, cap, cur, hv, _, hh, hnc, _, hcs, ht⟩
  · omega
  · injection hv with hA _ _
    refine ⟨g, 0, hA, (Array.getElem?_eq_some_iff.1 hh).1, fun j hj i v hv => ?_⟩
    have hj' : j < l.length := by simpa using hj
    rw [List.getElem_map] at hv
    have hi : i < 34 := by
      have := (List.getElem?_eq_some_iff.1 hv).1
      rw [pcs_length (ho _ (List.getElem_mem hj')).ok] at this; exact this
    have h1 := flatp_at (fun x hx => (ho x hx).ok) hj' i hi
    rw [hv, ← ht, List.getElem?_take] at h1
    split at h1
    · rw [Nat.zero_add, cell_of_row w g (j * 34 + i) cur _ (0, 0) hh]
      simpa using h1
    · cases h1
theorem foldp_set : ∀ (cs done rest : List Value), rest.length = cs.length → List.foldl (fun (z : Array Value) (x : Value × Nat) => z.setIfInBounds x.2 x.1) (done ++ rest).toArray (cs.zipIdx done.length) = (done ++ cs).toArray
  | [], done, rest, h => by rw [List.eq_nil_of_length_eq_zero h]; rfl
  | c :: cs, done, [], h => by simp at h
  | c :: cs, done, r :: rest, h => by
    rw [List.zipIdx_cons, List.foldl_cons]
    have e : (done ++ r :: rest).toArray.setIfInBounds done.length c = ((done ++ [c]) ++ rest).toArray := by
      rw [List.setIfInBounds_toArray]
      congr 1
      rw [List.set_append_right _ _ (Nat.le_refl _)]
      simp
    show List.foldl _ ((done ++ r :: rest).toArray.setIfInBounds done.length c) _ = _
    rw [e, show done.length + 1 = (done ++ [c]).length by simp, foldp_set cs (done ++ [c]) rest (by simpa using h)]
    simp
theorem pz_length : pz.toList.length = 34 := by rfl
theorem fold_piece {x : PieceT} (hx : x.p.Ok) : List.foldl (fun (z : Array Value) (y : Value × Nat) => z.setIfInBounds y.2 y.1) pz (pcs x).zipIdx = (pcs x).toArray :=
  foldp_set (pcs x) [] pz.toList (by rw [pcs_length hx, pz_length])
set_option maxRecDepth 100000 in
theorem run_buildPiece {x : PieceT} (hx : x.p.Ok) (W : World) : (Instr.buildSlice 23 1 #[(0, .agg (pcs x).toArray)]).run Try.prog W = .ok (.slice (some ⟨W.heap.size, 0, none⟩) 1 1) (W.alloc (.cells (pcs x).toArray 42)) := by
  have hl := pcs_length hx
  have hf := fold_piece hx
  have hz : pz = #[.int .u8 0, .int .u8 0, .int .u8 0, .int .u8 0, .int .u8 0, .int .u8 0, .int .u8 0, .int .u8 0, .int .u8 0, .int .u8 0, .int .u8 0, .int .u8 0, .int .u8 0, .int .u8 0, .int .u8 0, .int .u8 0, .int .u8 0, .int .u8 0, .int .u8 0, .int .u8 0, .int .u8 0, .int .u8 0, .int .u8 0, .int .u8 0, .int .u8 0, .int .u8 0, .int .u8 0, .int .u8 0, .int .u8 0, .int .u8 0, .int .u8 0, .int .u8 0, .int .u32 0, .slice none 0 0] := by rfl
  rw [hz] at hf
  simp [Instr.buildSlice, run_underlying Try.underlying23, Try.sizeOf42, go_sem]
  rw [if_neg (by omega), hf]
  rfl
theorem wpList_buildPiece {ops : Array Oper} {rest : List Oper} {o : Oper} {a : Act} {w : World} {Q : Exit → Act → World → Prop} (hgd : o.guard = none) (y : Operand) (ho : o.op = .buildSlice 23 1 #[(0, y)]) {x : PieceT} (hx : x.p.Ok) (hy : a.eval y = .agg (pcs x).toArray)
    (h : wpList Try.prog ops Q rest (a.put o.dst (.slice (some ⟨w.heap.size, 0, none⟩) 1 1)) (w.alloc (.cells (pcs x).toArray 42))) : wpList Try.prog ops Q (o :: rest) a w :=
  wpList_plain hgd fun K hK => by
    unfold Oper.wp execOp
    simp only [ho, hy, List.map_toArray, List.map_cons, List.map_nil, Sem.run_bind, run_buildPiece hx, Result.andThen_ok, Sem.run_pure]
    exact hK _ _ h
theorem run_append_piece (w : World) (ty : TypeId) (base : Nat) (i : TypeInfo) (hi : Try.prog.info? 42 = some i) (hz : i.zero = some (.agg pz)) (hsize : i.size = 34) (hby : i.bytes = 64)
    (A0 : Option Addr) (c0 k0 : Nat) (l0 : List PieceT) (hown : OwnP w base A0 c0 k0 l0) (b c : Nat) (x : PieceT) (hx : x.p.Ok) (hb : Blk w b 42 (pcs x).toArray) (hl : k0 + 1 ≤ 100000) (hbase : base ≤ w.heap.size) :
    ∃ A' c' w', (Builtin.append_ #[23, 23] ty #[.slice A0 k0 c0, .slice (some ⟨b, 0, none⟩) 1 c]).run Try.prog w = .ok (.slice A' (k0 + 1) c') w' ∧ OwnP w' base A' c' (k0 + 1) (l0 ++ [x]) ∧ w.grownBy w' (Value.slice A0 k0 c0).ownBlock := by
  have hc : ∀ j u, (pcs x)[j]? = some u → w.cell? ((⟨b, 0, none⟩ : Addr).add j) = some u := fun j u hu => by
    rw [Addr.add_lit, hb.cell, Nat.zero_add, List.getElem?_toArray]
    exact hu
  obtain ⟨v', w', h1, h2, h3, _⟩ := run_append_own (P := Try.prog) w base 23 ty 42 i (.agg pz) 34 64 Try.underlying23 hi hz hsize hby rfl (by decide) _ _ _ hown ⟨b, 0, none⟩ 1 c (pcs x) (by rw [pcs_length hx]) hc (pcs_one x) (by unfold maxLen; omega) (by omega) hbase
  have hf : ∃ A' c', v' = .slice A' (k0 + 1) c' := by
    rcases h2.2 with ⟨hv, h0⟩ | ⟨g, cp, cur, hv, _⟩
    · exact ⟨none, 0, by rw [hv, h0]⟩
    · exact ⟨_, _, hv⟩
  obtain ⟨A', c', rfl⟩ := hf
  refine ⟨A', c', w', h1, ?_, h3⟩
  unfold OwnP
  rw [List.flatMap_append, show [x].flatMap pcs = pcs x by simp]
  exact h2
theorem wpList_append_piece {ops : Array Oper} {rest : List Oper} {o : Oper} {a : Act} {w : World} {Q : Exit → Act → World → Prop} (hgd : o.guard = none) (s y : Operand)
    (ho : o.op = .call { callee := .builtin .append, args := #[s, y], argTypes := #[23, 23] })
    (base : Nat) (i : TypeInfo) (hi : Try.prog.info? 42 = some i) (hz : i.zero = some (.agg pz)) (hsize : i.size = 34) (hby : i.bytes = 64)
    (A0 : Option Addr) (c0 k0 : Nat) (l0 : List PieceT) (hs : a.eval s = .slice A0 k0 c0) (hown : OwnP w base A0 c0 k0 l0) (b c : Nat) (x : PieceT) (hy : a.eval y = .slice (some ⟨b, 0, none⟩) 1 c) (hx : x.p.Ok) (hb : Blk w b 42 (pcs x).toArray) (hl : k0 + 1 ≤ 100000) (hbase : base ≤ w.heap.size)
    (h : ∀ A' c' w', OwnP w' base A' c' (k0 + 1) (l0 ++ [x]) → w.grownBy w' (Value.slice A0 k0 c0).ownBlock → wpList Try.prog ops Q rest (a.put o.dst (.slice A' (k0 + 1) c')) w') : wpList Try.prog ops Q (o :: rest) a w := by
  obtain ⟨A', c', w', h1, h2, h3⟩ := run_append_piece w o.type base i hi hz hsize hby A0 c0 k0 l0 hown b c x hx hb hl hbase
  refine wpList_plain hgd fun K hK => ?_
  unfold Oper.wp execOp
  simp only [ho, resolve, invoke, builtin, Sem.run_bind, Sem.run_pure, Result.andThen_ok, List.map_toArray, List.map_cons, List.map_nil, hs, hy, h1]
  exact hK _ _ (h A' c' w' h2 h3)
end Go.Proofs.Ytoiiiccichkgpaa
