/- Slices of the call's own whose elements have several cells, whatever they are: they read, others are appended to them, one is made of one element. No statement of the seat is proved here; nothing of the program is named. -/
import Derived.Test.YtiomfkhblmmdoaaAppRd
import Derived.Test.YtiomfkhblmmdoaaOwnRow
import Derived.Test.YtiomfkhblmmdoaaRowsOf
import Derived.BigFrame
namespace Go.Proofs.Ytiomfkhblmmdoaa
open Go.RowKit
set_option linter.unusedVariables false
set_option linter.unusedSimpArgs false

/-- Elements: the slice's type t, theirs e, their cells (as many as sz), which of them are meant. -/
structure Elem {α : Type} (P : Program) (t e : TypeId) (sz : Nat) (g : α → List Value) (Q : α → Prop) : Prop where
  slice : P.underlying t = some (.slice e)
  info : ∃ i z, P.info? e = some i ∧ i.zero = some z ∧ i.size = sz ∧ z.cells.size = sz ∧ i.bytes ≤ 1000
  pos : 0 < sz
  most : sz ≤ 1000
  len : ∀ x, Q x → (g x).length = sz
  one : ∀ x, ∀ v ∈ g x, v.oneCell' = true
theorem elem_info {P : Program} {e : TypeId} {sz : Nat} (h : (P.info? e).map (fun i => (i.size, i.zero.map (·.cells.size), decide (i.bytes ≤ 1000))) = some (sz, some sz, true)) :
    ∃ i z, P.info? e = some i ∧ i.zero = some z ∧ i.size = sz ∧ z.cells.size = sz ∧ i.bytes ≤ 1000 := by
  cases hi : P.info? e with
  | none => rw [hi] at h; cases h
  | some i =>
    rw [hi] at h
    simp only [Option.map_some, Option.some.injEq, Prod.mk.injEq, decide_eq_true_eq] at h
    obtain ⟨h1, h2, h3⟩ := h
    cases hz : i.zero with
    | none => rw [hz] at h2; cases h2
    | some z =>
      rw [hz] at h2
      simp only [Option.map_some, Option.some.injEq] at h2
      exact ⟨i, z, rfl, hz, h1, h2, h3⟩
section
variable {α : Type} {P : Program} {t e : TypeId} {sz : Nat} {g : α → List Value} {Q : α → Prop} {w w' : World} {B c n : Nat} {A : Option Addr} {l : List α}
theorem Elem.flat (E : Elem P t e sz g Q) (h : ∀ x ∈ l, Q x) : (l.flatMap g).length = l.length * sz := by
  induction l with
  | nil => simp
  | cons k l ih =>
    rw [List.flatMap_cons, List.length_append, E.len k (h k (by simp)), ih fun x hx => h x (by simp [hx]), List.length_cons, Nat.succ_mul]; omega
theorem Elem.at_ (E : Elem P t e sz g Q) (h : ∀ x ∈ l, Q x) {j : Nat} (hj : j < l.length) (i : Nat) (hi : i < sz) : (l.flatMap g)[j * sz + i]? = (g l[j])[i]? := by
  induction l generalizing j with
  | nil => simp at hj
  | cons k l ih =>
    rw [List.flatMap_cons]
    cases j with
    | zero =>
      rw [Nat.zero_mul, Nat.zero_add, List.getElem?_append_left (by rw [E.len k (h k (by simp))]; exact hi)]
      rfl
    | succ j =>
      rw [List.getElem?_append_right (by rw [E.len k (h k (by simp)), Nat.succ_mul]; omega), E.len k (h k (by simp)), show (j + 1) * sz + i - sz = j * sz + i by rw [Nat.succ_mul]; omega]
      exact ih (fun x hx => h x (by simp [hx])) (by simpa using hj)
/-- A slice of such elements, of the call's own. -/
def OwnG (e : TypeId) (sz : Nat) (g : α → List Value) (w : World) (B : Nat) (A : Option Addr) (c : Nat) (l : List α) : Prop := w.ownsRow B e sz (.slice A l.length c) l.length (l.flatMap g)
theorem OwnG.on (h : OwnG e sz g w B A c l) (hb : Below w.heap.size w w') : OwnG e sz g w' B A c l := by
  have h1 : w.ownsRow B e sz (.slice A l.length c) l.length (l.flatMap g) := h
  refine ⟨h1.1, ?_⟩
  rcases h1.2 with h2 | ⟨k, cp, cur, a1, a2, a3, a4⟩
  · exact .inl h2
  · exact .inr ⟨k, cp, cur, a1, a2, (hb.block k (Array.getElem?_eq_some_iff.1 a3).1).trans a3, a4⟩
theorem OwnG.base {B' : Nat} (h : OwnG e sz g w B A c l) (hb : B' ≤ B) : OwnG e sz g w B' A c l := by
  have h1 : w.ownsRow B e sz (.slice A l.length c) l.length (l.flatMap g) := h
  refine ⟨h1.1, ?_⟩
  rcases h1.2 with h2 | ⟨k, cp, cur, a1, a2, a3⟩
  · exact .inl h2
  · exact .inr ⟨k, cp, cur, a1, by omega, a3⟩
theorem OwnG.nil (w : World) (B : Nat) : OwnG e sz g w B none 0 ([] : List α) := World.ownsRow_nil _ _ _ _
/-- '[]T{}'. -/
theorem OwnG.empty (w : World) : OwnG e sz g (w.alloc (.cells #[] e)) w.heap.size (some ⟨w.heap.size, 0, none⟩) 0 ([] : List α) :=
  ⟨by simp, .inr ⟨w.heap.size, 0, #[], rfl, Nat.le_refl _, heap_alloc_new w _, Nat.le_refl _, by simp [maxLen], by simp, by simp⟩⟩
theorem OwnG.cap (h : OwnG e sz g w B A c l) : l.length ≤ c ∧ c ≤ maxLen := by
  have h1 : w.ownsRow B e sz (.slice A l.length c) l.length (l.flatMap g) := h
  rcases h1.2 with ⟨hv, h0⟩ | ⟨_, _, _, hv, _, _, a1, a2, _⟩
  · injection hv with _ _ hv
    rw [hv, h0]
    exact ⟨Nat.le_refl _, Nat.zero_le _⟩
  · injection hv with _ _ hv
    rw [hv]
    exact ⟨a1, a2⟩
theorem OwnG.lt (h : OwnG e sz g w B A c l) {k : Nat} (hk : (Value.slice A l.length c).ownBlock = some k) : B ≤ k ∧ k < w.heap.size := World.ownsRow.lt h k hk
theorem OwnG.adr (h : OwnG e sz g w B A c l) : ∀ ad, A = some ad → B ≤ ad.block ∧ ad.block < w.heap.size := fun ad hA => by
  have h1 : w.ownsRow B e sz (.slice A l.length c) l.length (l.flatMap g) := h
  rcases h1.2 with ⟨hv, h0⟩ | ⟨k, _, _, hv, hb, hh, _⟩
  · injection hv with hv _ _
    rw [hv] at hA; cases hA
  · injection hv with hv _ _
    rw [hv] at hA
    injection hA with hA
    subst hA
    exact ⟨hb, (Array.getElem?_eq_some_iff.1 hh).1⟩
theorem OwnG.grown (h : OwnG e sz g w B A c l) {r : Option Nat} (hg : w.grownBy w' r) (hr : ∀ k, r = some k → (Value.slice A l.length c).ownBlock ≠ some k) : OwnG e sz g w' B A c l := ownsRow_grown h hg hr
theorem OwnG.rd (E : Elem P t e sz g Q) (h : OwnG e sz g w B A c l) (ho : ∀ x ∈ l, Q x) : RdS w w.heap.size sz A (l.map g) := fun hn => by
  have hn' : 0 < l.length := by simpa using hn
  have h1 : w.ownsRow B e sz (.slice A l.length c) l.length (l.flatMap g) := h
  rcases h1.2 with ⟨_, h0⟩ | ⟨k, cap, cur, hv, _, hh, hnc, _, hcs, ht⟩
  · omega
  · injection hv with hA _ _
    refine ⟨k, 0, hA, (Array.getElem?_eq_some_iff.1 hh).1, fun j hj i v hv => ?_⟩
    have hj' : j < l.length := by simpa using hj
    rw [List.getElem_map] at hv
    have hi : i < sz := by
      have := (List.getElem?_eq_some_iff.1 hv).1
      rw [E.len _ (ho _ (List.getElem_mem hj'))] at this; exact this
    have h2 := E.at_ ho hj' i hi
    rw [hv, ← ht, List.getElem?_take] at h2
    split at h2
    · rw [Nat.zero_add, cell_of_row w k (j * sz + i) cur _ (0, 0) hh]
      simpa using h2
    · cases h2
theorem Elem.flatRd (E : Elem P t e sz g Q) (h : RdS w B sz A (l.map g)) (ho : ∀ x ∈ l, Q x) (h0 : 0 < l.length) :
    ∃ b off, A = some ⟨b, off, none⟩ ∧ b < B ∧ ∀ j u, (l.flatMap g)[j]? = some u → w.cell? ((⟨b, off, none⟩ : Addr).add j) = some u := by
  obtain ⟨b, off, e1, hb, hc⟩ := h (by simpa using h0)
  refine ⟨b, off, e1, hb, fun j u hu => ?_⟩
  have hp := E.pos
  have hj : j < l.length * sz := by have := (List.getElem?_eq_some_iff.1 hu).1; rwa [E.flat ho] at this
  have hj2 : j / sz < l.length := (Nat.div_lt_iff_lt_mul hp).2 hj
  have h1 := E.at_ ho hj2 (j % sz) (Nat.mod_lt _ hp)
  have hd : j / sz * sz + j % sz = j := by rw [Nat.mul_comm]; exact Nat.div_add_mod j sz
  rw [hd, hu] at h1
  have h2 := hc (j / sz) (by simpa using hj2) (j % sz) u (by rw [List.getElem_map]; exact h1.symm)
  rw [Addr.add_lit]
  rw [Nat.add_assoc, hd] at h2
  exact h2
/-- 'append(v, b...)', v the call's own, b whatever slice that reads (nil, too). -/
theorem run_append_g (E : Elem P t e sz g Q) (w : World) (ty : TypeId) (base : Nat) (A0 : Option Addr) (c0 k0 : Nat) (l0 : List α) (h0 : l0.length = k0) (hown : OwnG e sz g w base A0 c0 l0) (B : Nat) (A : Option Addr) (c k : Nat) (l : List α) (hk : l.length = k)
    (hr : RdS w B sz A (l.map g)) (ho : ∀ x ∈ l, Q x) (hl : k0 + k ≤ 1000000) (hbase : base ≤ w.heap.size) :
    ∃ A' c' w', (Builtin.append_ #[t, t] ty #[.slice A0 k0 c0, .slice A k c]).run P w = .ok (.slice A' (k0 + k) c') w' ∧ OwnG e sz g w' base A' c' (l0 ++ l) ∧ w.grownBy w' (Value.slice A0 k0 c0).ownBlock := by
  subst hk h0
  obtain ⟨i, z, hi, hz, hsize, hzs, hby⟩ := E.info
  have hbb : (l0.length + l.length) * i.bytes ≤ 140737488355328 := Nat.le_trans (Nat.mul_le_mul hl hby) (by omega)
  have hrun : ∃ v' w', (Builtin.append_ #[t, t] ty #[.slice A0 l0.length c0, .slice A l.length c]).run P w = .ok v' w' ∧ w'.ownsRow base e sz v' (l0.length + l.length) (l0.flatMap g ++ l.flatMap g) ∧ w.grownBy w' (Value.slice A0 l0.length c0).ownBlock := by
    rcases Nat.eq_zero_or_pos l.length with hl0 | hl0
    · have hl0 := List.eq_nil_of_length_eq_zero hl0
      subst hl0
      rcases A with _ | ad
      · exact ⟨_, w, run_append_of_nil w base t ty e i sz E.slice hi _ _ _ hown c, by simpa [OwnG] using hown, World.grownBy.refl w _⟩
      · obtain ⟨v', w', h1, h2, h3, _⟩ := run_append_own (P := P) w base t ty e i z sz i.bytes E.slice hi hz hsize rfl hzs E.pos _ _ _ hown ad 0 c [] (by simp) (fun j u hu => by simp at hu) (fun u hu => by simp at hu) (by unfold maxLen; simp at hl ⊢; omega) (by simpa using hbb) hbase
        exact ⟨v', w', h1, by simpa using h2, h3⟩
    · obtain ⟨b, off, rfl, hb, hc⟩ := E.flatRd hr ho hl0
      obtain ⟨v', w', h1, h2, h3, _⟩ := run_append_own (P := P) w base t ty e i z sz i.bytes E.slice hi hz hsize rfl hzs E.pos _ _ _ hown ⟨b, off, none⟩ l.length c (l.flatMap g) (E.flat ho) hc (fun u hu => by
          obtain ⟨k, _, hk⟩ := List.mem_flatMap.1 hu
          exact E.one k u hk) (by unfold maxLen; omega) hbb hbase
      exact ⟨v', w', h1, h2, h3⟩
  obtain ⟨v', w', h1, h2, h3⟩ := hrun
  have hf : ∃ A' c', v' = .slice A' (l0.length + l.length) c' := by
    rcases h2.2 with ⟨hv, h0⟩ | ⟨_, cp, cur, hv, _⟩
    · exact ⟨none, 0, by rw [hv, h0]⟩
    · exact ⟨_, _, hv⟩
  obtain ⟨A', c', rfl⟩ := hf
  refine ⟨A', c', w', h1, ?_, h3⟩
  unfold OwnG
  rw [List.length_append, List.flatMap_append]
  exact h2
theorem wp_append_g (E : Elem P t e sz g Q) {o : Oper} {a : Act} {w : World} {K : Act → World → Prop} {R : Exit → Act → World → Prop} (s x : Operand) (ho : o.op = .call { callee := .builtin .append, args := #[s, x], argTypes := #[t, t] })
    (base : Nat) (A0 : Option Addr) (c0 k0 : Nat) (l0 : List α) (h0 : l0.length = k0) (hs : a.eval s = .slice A0 k0 c0) (hown : OwnG e sz g w base A0 c0 l0) (B : Nat) (A : Option Addr) (c k : Nat) (l : List α) (hx : a.eval x = .slice A k c) (hk : l.length = k)
    (hr : RdS w B sz A (l.map g)) (hq : ∀ x ∈ l, Q x) (hl : k0 + k ≤ 1000000) (hbase : base ≤ w.heap.size)
    (h : ∀ A' c' w', OwnG e sz g w' base A' c' (l0 ++ l) → w.grownBy w' (Value.slice A0 k0 c0).ownBlock → K (a.put o.dst (.slice A' (k0 + k) c')) w') : Oper.wp P o a w K R := by
  obtain ⟨A', c', w', h1, h2, h3⟩ := run_append_g E w o.type base A0 c0 k0 l0 h0 hown B A c k l hk hr hq hl hbase
  unfold Oper.wp execOp
  simp only [ho, resolve, invoke, builtin, Sem.run_bind, Sem.run_pure, Result.andThen_ok, List.map_toArray, List.map_cons, List.map_nil, hs, hx, h1]
  exact h A' c' w' h2 h3
theorem wpList_append_g (E : Elem P t e sz g Q) {ops : Array Oper} {rest : List Oper} {o : Oper} {a : Act} {w : World} {R : Exit → Act → World → Prop} (hgd : o.guard = none) (s x : Operand) (ho : o.op = .call { callee := .builtin .append, args := #[s, x], argTypes := #[t, t] })
    (base : Nat) (A0 : Option Addr) (c0 k0 : Nat) (l0 : List α) (h0 : l0.length = k0) (hs : a.eval s = .slice A0 k0 c0) (hown : OwnG e sz g w base A0 c0 l0) (B : Nat) (A : Option Addr) (c k : Nat) (l : List α) (hx : a.eval x = .slice A k c) (hk : l.length = k)
    (hr : RdS w B sz A (l.map g)) (hq : ∀ x ∈ l, Q x) (hl : k0 + k ≤ 1000000) (hbase : base ≤ w.heap.size)
    (h : ∀ A' c' w', OwnG e sz g w' base A' c' (l0 ++ l) → w.grownBy w' (Value.slice A0 k0 c0).ownBlock → wpList P ops R rest (a.put o.dst (.slice A' (k0 + k) c')) w') : wpList P ops R (o :: rest) a w :=
  wpList_plain hgd fun _ hK => wp_append_g E s x ho base A0 c0 k0 l0 h0 hs hown B A c k l hx hk hr hq hl hbase fun A' c' w' h1 h2 => hK _ _ (h A' c' w' h1 h2)
theorem fold_over : ∀ (cs done rest : List Value), rest.length = cs.length → List.foldl (fun (z : Array Value) (x : Value × Nat) => z.setIfInBounds x.2 x.1) (done ++ rest).toArray (cs.zipIdx done.length) = (done ++ cs).toArray
  | [], done, rest, h => by rw [List.eq_nil_of_length_eq_zero h]; rfl
  | c :: cs, done, [], h => by simp at h
  | c :: cs, done, r :: rest, h => by
    rw [List.zipIdx_cons, List.foldl_cons]
    have e : (done ++ r :: rest).toArray.setIfInBounds done.length c = ((done ++ [c]) ++ rest).toArray := by
      rw [List.setIfInBounds_toArray]
      congr 1
      rw [List.set_append_right _ _ (Nat.le_refl _)]
      simp
    show List.foldl _ ((done ++ r :: rest).toArray.setIfInBounds done.length c) _ = _
    rw [e, show done.length + 1 = (done ++ [c]).length by simp, fold_over cs (done ++ [c]) rest (by simpa using h)]
    simp
/-- '[]T{x}'. -/
theorem run_buildOne (E : Elem P t e sz g Q) {x : α} (hx : Q x) (W : World) : (Instr.buildSlice t 1 #[(0, .agg (g x).toArray)]).run P W = .ok (.slice (some ⟨W.heap.size, 0, none⟩) 1 1) (W.alloc (.cells (g x).toArray e)) := by
  obtain ⟨i, z, hi, hz, hsize, hzs, hby⟩ := E.info
  have hl := E.len x hx
  have hp := E.pos
  have hm := E.most
  have hf : ∀ Z : Array Value, Z.size = sz → List.foldl (fun (z : Array Value) (x : Value × Nat) => z.setIfInBounds x.2 x.1) Z (g x).zipIdx = (g x).toArray := fun Z hZ => fold_over (g x) [] Z.toList (by rw [hl]; simpa using hZ)
  have h1 : ¬ (2 ^ 24 < sz) := by omega
  have h2 : ¬ (sz = 0) := by omega
  simp [Instr.buildSlice, run_underlying E.slice, sizeOf, typeInfo, zeroValue, hi, hz, hsize, h2, go_sem]
  rw [if_neg (by omega), hf _ (by simp), if_neg (by omega)]
  rfl
theorem wp_buildOne (E : Elem P t e sz g Q) {o : Oper} {a : Act} {w : World} {K : Act → World → Prop} {R : Exit → Act → World → Prop} (x : Operand) (ho : o.op = .buildSlice t 1 #[(0, x)]) {y : α} (hy : Q y) (hx : a.eval x = .agg (g y).toArray)
    (h : K (a.put o.dst (.slice (some ⟨w.heap.size, 0, none⟩) 1 1)) (w.alloc (.cells (g y).toArray e))) : Oper.wp P o a w K R := by
  unfold Oper.wp execOp
  simp only [ho, hx, List.map_toArray, List.map_cons, List.map_nil, Sem.run_bind, run_buildOne E hy, Result.andThen_ok, Sem.run_pure]
  exact h
theorem wpList_buildOne (E : Elem P t e sz g Q) {ops : Array Oper} {rest : List Oper} {o : Oper} {a : Act} {w : World} {R : Exit → Act → World → Prop} (hgd : o.guard = none) (x : Operand) (ho : o.op = .buildSlice t 1 #[(0, x)]) {y : α} (hy : Q y) (hx : a.eval x = .agg (g y).toArray)
    (h : wpList P ops R rest (a.put o.dst (.slice (some ⟨w.heap.size, 0, none⟩) 1 1)) (w.alloc (.cells (g y).toArray e))) : wpList P ops R (o :: rest) a w :=
  wpList_plain hgd fun _ hK => wp_buildOne E x ho hy hx (hK _ _ h)
/-- '[]T{}'. -/
theorem run_buildNil (E : Elem P t e sz g Q) (W : World) : (Instr.buildSlice t 0 #[]).run P W = .ok (.slice (some ⟨W.heap.size, 0, none⟩) 0 0) (W.alloc (.cells #[] e)) := by
  obtain ⟨i, z, hi, hz, hsize, hzs, hby⟩ := E.info
  simp [Instr.buildSlice, run_underlying E.slice, sizeOf, typeInfo, zeroValue, hi, hz, hsize, go_sem]
theorem wp_buildNil (E : Elem P t e sz g Q) {o : Oper} {a : Act} {w : World} {K : Act → World → Prop} {R : Exit → Act → World → Prop} (ho : o.op = .buildSlice t 0 #[])
    (h : K (a.put o.dst (.slice (some ⟨w.heap.size, 0, none⟩) 0 0)) (w.alloc (.cells #[] e))) : Oper.wp P o a w K R := by
  unfold Oper.wp execOp
  simp only [ho, List.map_toArray, List.map_nil, Sem.run_bind, run_buildNil E, Result.andThen_ok, Sem.run_pure]
  exact h
/-- 'append(v, b...)' at an operation whose guard says yes. -/
theorem wpList_append_gw (E : Elem P t e sz g Q) {ops : Array Oper} {rest : List Oper} {o : Oper} {a : Act} {w : World} {R : Exit → Act → World → Prop} (hgd : Region.wanted o (yielded ops a.tmps) = true) (s x : Operand) (ho : o.op = .call { callee := .builtin .append, args := #[s, x], argTypes := #[t, t] })
    (base : Nat) (A0 : Option Addr) (c0 k0 : Nat) (l0 : List α) (h0 : l0.length = k0) (hs : a.eval s = .slice A0 k0 c0) (hown : OwnG e sz g w base A0 c0 l0) (B : Nat) (A : Option Addr) (c k : Nat) (l : List α) (hx : a.eval x = .slice A k c) (hk : l.length = k)
    (hr : RdS w B sz A (l.map g)) (hq : ∀ x ∈ l, Q x) (hl : k0 + k ≤ 1000000) (hbase : base ≤ w.heap.size)
    (h : ∀ A' c' w', OwnG e sz g w' base A' c' (l0 ++ l) → w.grownBy w' (Value.slice A0 k0 c0).ownBlock → wpList P ops R rest (a.put o.dst (.slice A' (k0 + k) c')) w') : wpList P ops R (o :: rest) a w :=
  BigFrame.wpList_want hgd fun _ hK => wp_append_g E s x ho base A0 c0 k0 l0 h0 hs hown B A c k l hx hk hr hq hl hbase fun A' c' w' h1 h2 => hK _ _ (h A' c' w' h1 h2)
/-- A block of one element reads. -/
theorem rds_one (w : World) (y : α) (e : TypeId) (sz : Nat) (g : α → List Value) : RdS (w.alloc (.cells (g y).toArray e)) (w.alloc (.cells (g y).toArray e)).heap.size sz (some ⟨w.heap.size, 0, none⟩) ([y].map g) := fun _ => by
  refine ⟨w.heap.size, 0, rfl, by simp, fun j hj i v hv => ?_⟩
  obtain rfl : j = 0 := by simpa using hj
  rw [Nat.zero_mul, Nat.zero_add, (Blk.new w e (g y).toArray).cell, List.getElem?_toArray]
  simpa using hv
end
end Go.Proofs.Ytiomfkhblmmdoaa
