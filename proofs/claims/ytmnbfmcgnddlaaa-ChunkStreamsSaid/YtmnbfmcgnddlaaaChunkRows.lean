/- append of a row of slices onto another one; what stays under a stream's Write. No statement of the seat is proved here. -/
import Derived.Test.YtmnbfmcgnddlaaaChunkWrite
namespace Go.Proofs.Ytmnbfmcgnddlaaa
open Go.RowKit

section
variable {P : Program} (w : World)
theorem run_append_any (t ty : TypeId) (base : Nat) (e : TypeId) (i : TypeInfo) (z : Value) (bytes : Nat) (ht : P.underlying t = some (.slice e)) (hi : P.info? e = some i) (hz : i.zero = some z) (hsize : i.size = 1) (hby : i.bytes = bytes) (hzs : z.cells.size = 1)
    (v : Value) (n : Nat) (xs : List Value) (hown : w.ownsRow base e 1 v n xs)
    (B : Nat) (A : Option Addr) (c k : Nat) (ys : List Value) (hk : ys.length = k) (hr : RdV w B A ys) (h1 : ∀ u ∈ ys, u.oneCell' = true) (hl : (n + k) * bytes ≤ 140737488355328) (hl2 : n + k ≤ 140737488355328) (hbase : base ≤ w.heap.size) :
    ∃ A' c' w', (Builtin.append_ #[t, t] ty #[v, .slice A k c]).run P w = .ok (.slice A' (n + k) c') w' ∧ w'.ownsRow base e 1 (.slice A' (n + k) c') (n + k) (xs ++ ys) ∧ w.grownBy w' v.ownBlock := by
  subst hk
  have hrun : ∃ v' w', (Builtin.append_ #[t, t] ty #[v, .slice A ys.length c]).run P w = .ok v' w' ∧ w'.ownsRow base e 1 v' (n + ys.length) (xs ++ ys) ∧ w.grownBy w' v.ownBlock := by
    rcases A with _ | ad
    · have hl0 : ys = [] := by
        rcases Nat.eq_zero_or_pos ys.length with h0 | h0
        · exact List.eq_nil_of_length_eq_zero h0
        · obtain ⟨_, _, e, _⟩ := hr h0; cases e
      subst hl0
      exact ⟨v, w, run_append_of_nil w base t ty e i 1 ht hi v n xs hown c, by simpa using hown, World.grownBy.refl w _⟩
    · have hcells : ∀ j u, ys[j]? = some u → w.cell? (ad.add j) = some u := by
        intro j u hu
        obtain ⟨hj, rfl⟩ := List.getElem?_eq_some_iff.1 hu
        obtain ⟨g, off, e, _, hc⟩ := hr (by omega)
        injection e with e; subst e
        rw [Addr.add_lit]; exact hc j hj
      obtain ⟨v', w', h1, h2, h3, _⟩ := run_append_own (P := P) w base t ty e i z 1 bytes ht hi hz hsize hby hzs (by decide) v n xs hown ad ys.length c ys (by rw [Nat.mul_one]) hcells h1 (by simp [maxLen]; omega) hl hbase
      exact ⟨v', w', h1, h2, h3⟩
  obtain ⟨v', w', h1, h2, h3⟩ := hrun
  obtain ⟨A', c', rfl, _, _⟩ := ownsRow_form h2
  exact ⟨A', c', w', h1, h2, h3⟩
/-- 'append(v, ys...)', v the call's own, ys whatever row that can be read. -/
theorem wpList_append_any {ops : Array Oper} {rest : List Oper} {o : Oper} {a : Act} {Q : Exit → Act → World → Prop} (hgd : o.guard = none) (s x : Operand) (t : TypeId)
    (ho : o.op = .call { callee := .builtin .append, args := #[s, x], argTypes := #[t, t] })
    (base : Nat) (e : TypeId) (i : TypeInfo) (z : Value) (bytes : Nat) (ht : P.underlying t = some (.slice e)) (hi : P.info? e = some i) (hz : i.zero = some z) (hsize : i.size = 1) (hby : i.bytes = bytes) (hzs : z.cells.size = 1)
    (v : Value) (n : Nat) (xs : List Value) (hs : a.eval s = v) (hown : w.ownsRow base e 1 v n xs)
    (B : Nat) (A : Option Addr) (c k : Nat) (ys : List Value) (hx : a.eval x = .slice A k c) (hk : ys.length = k) (hr : RdV w B A ys) (h1 : ∀ u ∈ ys, u.oneCell' = true) (hl : (n + k) * bytes ≤ 140737488355328) (hl2 : n + k ≤ 140737488355328) (hbase : base ≤ w.heap.size)
    (h : ∀ A' c' w', w'.ownsRow base e 1 (.slice A' (n + k) c') (n + k) (xs ++ ys) → w.grownBy w' v.ownBlock → wpList P ops Q rest (a.put o.dst (.slice A' (n + k) c')) w') : wpList P ops Q (o :: rest) a w := by
  obtain ⟨A', c', w', h1, h2, h3⟩ := run_append_any (P := P) w t o.type base e i z bytes ht hi hz hsize hby hzs v n xs hown B A c k ys hk hr h1 hl hl2 hbase
  refine wpList_plain hgd fun K hK => ?_
  unfold Oper.wp execOp
  simp only [ho, resolve, invoke, builtin, Sem.run_bind, Sem.run_pure, Result.andThen_ok, List.map_toArray, List.map_cons, List.map_nil, hs, hx, h1]
  exact hK _ _ (h A' c' w' h2 h3)
/-- The same at an operation whose guard says yes: 'append(v, ys...)', v the call's own, ys whatever row that can be read. -/
theorem wpList_append_want {ops : Array Oper} {rest : List Oper} {o : Oper} {a : Act} {Q : Exit → Act → World → Prop} (hgd : Region.wanted o (yielded ops a.tmps) = true) (s x : Operand) (t : TypeId)
    (ho : o.op = .call { callee := .builtin .append, args := #[s, x], argTypes := #[t, t] })
    (base : Nat) (e : TypeId) (i : TypeInfo) (z : Value) (bytes : Nat) (ht : P.underlying t = some (.slice e)) (hi : P.info? e = some i) (hz : i.zero = some z) (hsize : i.size = 1) (hby : i.bytes = bytes) (hzs : z.cells.size = 1)
    (v : Value) (n : Nat) (xs : List Value) (hs : a.eval s = v) (hown : w.ownsRow base e 1 v n xs)
    (B : Nat) (A : Option Addr) (c k : Nat) (ys : List Value) (hx : a.eval x = .slice A k c) (hk : ys.length = k) (hr : RdV w B A ys) (h1 : ∀ u ∈ ys, u.oneCell' = true) (hl : (n + k) * bytes ≤ 140737488355328) (hl2 : n + k ≤ 140737488355328) (hbase : base ≤ w.heap.size)
    (h : ∀ A' c' w', w'.ownsRow base e 1 (.slice A' (n + k) c') (n + k) (xs ++ ys) → w.grownBy w' v.ownBlock → wpList P ops Q rest (a.put o.dst (.slice A' (n + k) c')) w') : wpList P ops Q (o :: rest) a w := by
  obtain ⟨A', c', w', h1, h2, h3⟩ := run_append_any (P := P) w t o.type base e i z bytes ht hi hz hsize hby hzs v n xs hown B A c k ys hk hr h1 hl hl2 hbase
  refine BigFrame.wpList_want hgd fun K hK => ?_
  unfold Oper.wp execOp
  simp only [ho, resolve, invoke, builtin, Sem.run_bind, Sem.run_pure, Result.andThen_ok, List.map_toArray, List.map_cons, List.map_nil, hs, hx, h1]
  exact hK _ _ (h A' c' w' h2 h3)
end
theorem psv_one (ps : List Part) : ∀ u ∈ psv ps, u.oneCell' = true := by
  intro u hu
  obtain ⟨p, _, rfl⟩ := List.mem_map.1 hu
  rfl
section
variable {w w' w'' : World} {B s : Nat} {C : Ctr} {A : Option Addr} {n c : Nat} {h : List UInt8} {V V' : Value} {ps qs : List Part}
theorem ty_row : (25 : TypeId) ≠ 5 := by decide
/-- Two rows, one behind the other. -/
theorem Chunks.join (h1 : Chunks w B V ps) (h2 : ∀ q ∈ qs, w.ownsRow B 5 1 q.val q.2.2.length (bv q.2.2)) (ho : w'.ownsRow B 25 1 V' (ps.length + qs.length) (psv ps ++ psv qs)) (hg : w.grownBy w' V.ownBlock) : Chunks w' B V' (ps ++ qs) := by
  refine ⟨by rw [List.length_append, psv, List.map_append]; exact ho, fun q hq => ?_⟩
  rcases List.mem_append.1 hq with hq | hq
  · exact ownsRow_grown (h1.each q hq) hg fun g e => ownsRow_other h1.row (h1.each q hq) ty_row g e
  · exact ownsRow_grown (h2 q hq) hg fun g e => ownsRow_other h1.row (h2 q hq) ty_row g e
theorem Touch.trans (h1 : Touch s w w') (h2 : Touch s w' w'') : Touch s w w'' :=
  ⟨h2.os.trans h1.os, h2.tape.trans h1.tape, h2.output.trans h1.output, Nat.le_trans h1.size h2.size, fun g hg hn => (h2.block g (Nat.lt_of_lt_of_le hg h1.size) hn).trans (h1.block g hg hn)⟩
theorem Touch.grown {r : Option Nat} (h1 : Touch s w w') (hg : w'.grownBy w'' r) (hr : ∀ k, r = some k → w.heap.size ≤ k) : Touch s w w'' :=
  ⟨hg.os.trans h1.os, hg.tape.trans h1.tape, hg.output.trans h1.output, Nat.le_trans h1.size hg.size, fun g hl hn =>
    (hg.block g (Nat.lt_of_lt_of_le hl h1.size) (fun e => by have := hr g e.symm; omega)).trans (h1.block g hl hn)⟩
theorem St.grown {e : TypeId} {b sz m : Nat} {xs : List Value} (hs : St w B s C A n c h) (hv : w.ownsRow b e sz V m xs) (h1 : e ≠ 5) (h2 : e ≠ 49) (hg : w.grownBy w' V.ownBlock) : St w' B s C A n c h :=
  ⟨hs.blk.same (hg.block s hs.blk.lt fun e => row_not_blk hv hs.blk h2 e.symm), ownsRow_grown hs.own hg fun g e => ownsRow_other hv hs.own h1 g e, hs.len, hs.le⟩
end
end Go.Proofs.Ytmnbfmcgnddlaaa
