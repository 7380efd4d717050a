/- Slices of the call's own whose elements have several cells, whatever they are: they read, others are appended to them, one is made of one element. No statement of the seat is proved here; nothing of the program is named. -/
import Derived.Test.YtgemjipbifgbgaaZXAC
import Derived.Test.YtgemjipbifgbgaaZXAB
import Derived.Test.YtgemjipbifgbgaaZXAA
import Derived.BigFrame
import Derived.Deep.QuietTactic
import Derived.BigQuiet
import Derived.OrdersHeld
import Derived.Laws.Tables
import Derived.Deep.MidRow
namespace Go.Proofs.Ytgemjipbifgbgaa
open Go.RowKit
set_option linter.unusedVariables false
set_option linter.unusedSimpArgs false

/-- Elements: the slice's type t, theirs e, their cells (as many as sz), which of them are meant. -/
structure Elem {α : Type} (P : Program) (t e : TypeId) (sz : Nat) (g : α → List Value) (Q : α → Prop) : Prop where
  slice : P.underlying t = some (.slice e)
  info : ∃ i z, P.info? e = some i ∧ i.zero = some z ∧ i.size = sz ∧ z.cells.size = sz ∧ i.bytes ≤ 1000
  pos : 0 < sz
  most : sz ≤ 1000
  len : ∀ x, Q x → (g x).length = sz
  one : ∀ x, ∀ v ∈ g x, v.oneCell' = true
theorem elem_info {P : Program} {e : TypeId} {sz : Nat} (h : (P.info? e).map (fun i => (i.size, i.zero.map (·.cells.size), decide (i.bytes ≤ 1000))) = some (sz, some sz, true)) :
    ∃ i z, P.info? e = some i ∧ i.zero = some z ∧ i.size = sz ∧ z.cells.size = sz ∧ i.bytes ≤ 1000 := by
  cases hi : P.info? e with
  | none => rw [hi] at h; cases h
  | some i =>
    rw [hi] at h
    simp only [Option.map_some, Option.some.injEq, Prod.mk.injEq, decide_eq_true_eq] at h
    obtain ⟨h1, h2, h3⟩ := h
    cases hz : i.zero with
    | none => rw [hz] at h2; cases h2
    | some z =>
      rw [hz] at h2
      simp only [Option.map_some, Option.some.injEq] at h2
      exact ⟨i, z, rfl, hz, h1, h2, h3⟩
section
variable {α : Type} {P : Program} {t e : TypeId} {sz : Nat} {g : α → List Value} {Q : α → Prop} {w w' : World} {B c n : Nat} {A : Option Addr} {l : List α}
theorem Elem.flat (E : Elem P t e sz g Q) (h : ∀ x ∈ l, Q x) : (l.flatMap g).length = l.length * sz := by
  induction l with
  | nil => simp
  | cons k l ih =>
    rw [List.flatMap_cons, List.length_append, E.len k (h k (by simp)), ih fun x hx => h x (by simp [hx]), List.length_cons, Nat.succ_mul]; omega
theorem Elem.at_ (E : Elem P t e sz g Q) (h : ∀ x ∈ l, Q x) {j : Nat} (hj : j < l.length) (i : Nat) (hi : i < sz) : (l.flatMap g)[j * sz + i]? = (g l[j])[i]? := by
  induction l generalizing j with
  | nil => simp at hj
  | cons k l ih =>
    rw [List.flatMap_cons]
    cases j with
    | zero =>
      rw [Nat.zero_mul, Nat.zero_add, List.getElem?_append_left (by rw [E.len k (h k (by simp))]; exact hi)]
      rfl
    | succ j =>
      rw [List.getElem?_append_right (by rw [E.len k (h k (by simp)), Nat.succ_mul]; omega), E.len k (h k (by simp)), show (j + 1) * sz + i - sz = j * sz + i by rw [Nat.succ_mul]; omega]
      exact ih (fun x hx => h x (by simp [hx])) (by simpa using hj)
/-- A slice of such elements, of the call's own. -/
def OwnG (e : TypeId) (sz : Nat) (g : α → List Value) (w : World) (B : Nat) (A : Option Addr) (c : Nat) (l : List α) : Prop := w.ownsRow B e sz (.slice A l.length c) l.length (l.flatMap g)
theorem OwnG.on (h : OwnG e sz g w B A c l) (hb : Below w.heap.size w w') : OwnG e sz g w' B A c l := by
  have h1 : w.ownsRow B e sz (.slice A l.length c) l.length (l.flatMap g) := h
  refine ⟨h1.1, ?_⟩
  rcases h1.2 with h2 | ⟨k, cp, cur, a1, a2, a3, a4⟩
  · exact .inl h2
  · exact .inr ⟨k, cp, cur, a1, a2, (hb.block k (Array.getElem?_eq_some_iff.1 a3).1).trans a3, a4⟩
theorem OwnG.base {B' : Nat} (h : OwnG e sz g w B A c l) (hb : B' ≤ B) : OwnG e sz g w B' A c l := by
  have h1 : w.ownsRow B e sz (.slice A l.length c) l.length (l.flatMap g) := h
  refine ⟨h1.1, ?_⟩
  rcases h1.2 with h2 | ⟨k, cp, cur, a1, a2, a3⟩
  · exact .inl h2
  · exact .inr ⟨k, cp, cur, a1, by omega, a3⟩
theorem OwnG.nil (w : World) (B : Nat) : OwnG e sz g w B none 0 ([] : List α) := World.ownsRow_nil _ _ _ _
/-- '[]T{}'. -/
theorem OwnG.empty (w : World) : OwnG e sz g (w.alloc (.cells #[] e)) w.heap.size (some ⟨w.heap.size, 0, none⟩) 0 ([] : List α) :=
  ⟨by simp, .inr ⟨w.heap.size, 0, #[], rfl, Nat.le_refl _, heap_alloc_new w _, Nat.le_refl _, by simp [maxLen], by simp, by simp⟩⟩
theorem OwnG.cap (h : OwnG e sz g w B A c l) : l.length ≤ c ∧ c ≤ maxLen := by
  have h1 : w.ownsRow B e sz (.slice A l.length c) l.length (l.flatMap g) := h
  rcases h1.2 with ⟨hv, h0⟩ | ⟨_, _, _, hv, _, _, a1, a2, _⟩
  · injection hv with _ _ hv
    rw [hv, h0]
    exact ⟨Nat.le_refl _, Nat.zero_le _⟩
  · injection hv with _ _ hv
    rw [hv]
    exact ⟨a1, a2⟩
theorem OwnG.lt (h : OwnG e sz g w B A c l) {k : Nat} (hk : (Value.slice A l.length c).ownBlock = some k) : B ≤ k ∧ k < w.heap.size := World.ownsRow.lt h k hk
theorem OwnG.adr (h : OwnG e sz g w B A c l) : ∀ ad, A = some ad → B ≤ ad.block ∧ ad.block < w.heap.size := fun ad hA => by
  have h1 : w.ownsRow B e sz (.slice A l.length c) l.length (l.flatMap g) := h
  rcases h1.2 with ⟨hv, h0⟩ | ⟨k, _, _, hv, hb, hh, _⟩
  · injection hv with hv _ _
    rw [hv] at hA; cases hA
  · injection hv with hv _ _
    rw [hv] at hA
    injection hA with hA
    subst hA
    exact ⟨hb, (Array.getElem?_eq_some_iff.1 hh).1⟩
theorem OwnG.grown (h : OwnG e sz g w B A c l) {r : Option Nat} (hg : w.grownBy w' r) (hr : ∀ k, r = some k → (Value.slice A l.length c).ownBlock ≠ some k) : OwnG e sz g w' B A c l := ownsRow_grown h hg hr
theorem OwnG.rd (E : Elem P t e sz g Q) (h : OwnG e sz g w B A c l) (ho : ∀ x ∈ l, Q x) : RdS w w.heap.size sz A (l.map g) := fun hn => by
  have hn' : 0 < l.length := by simpa using hn
  have h1 : w.ownsRow B e sz (.slice A l.length c) l.length (l.flatMap g) := h
  rcases h1.2 with ⟨_, h0⟩ | ⟨k, cap, cur, hv, _, hh, hnc, _, hcs, ht⟩
  · omega
  · injection hv with hA _ _
    refine ⟨k, 0, hA, (Array.getElem?_eq_some_iff.1 hh).1, fun j hj i v hv => ?_⟩
    have hj' : j < l.length := by simpa using hj
    rw [List.getElem_map] at hv
    have hi : i < sz := by
      have := (List.getElem?_eq_some_iff.1 hv).1
      rw [E.len _ (ho _ (List.getElem_mem hj'))] at this; exact this
    have h2 := E.at_ ho hj' i hi
    rw [hv, ← ht, List.getElem?_take] at h2
    split at h2
    · rw [Nat.zero_add, cell_of_row w k (j * sz + i) cur _ (0, 0) hh]
      simpa using h2
    · cases h2
theorem Elem.flatRd (E : Elem P t e sz g Q) (h : RdS w B sz A (l.map g)) (ho : ∀ x ∈ l, Q x) (h0 : 0 < l.length) :
    ∃ b off, A = some ⟨b, off, none⟩ ∧ b < B ∧ ∀ j u, (l.flatMap g)[j]? = some u → w.cell? ((⟨b, off, none⟩ : Addr).add j) = some u := by
  obtain ⟨b, off, e1, hb, hc⟩ := h (by simpa using h0)
  refine ⟨b, off, e1, hb, fun j u hu => ?_⟩
  have hp := E.pos
  have hj : j < l.length * sz := by have := (List.getElem?_eq_some_iff.1 hu).1; rwa [E.flat ho] at this
  have hj2 : j / sz < l.length := (Nat.div_lt_iff_lt_mul hp).2 hj
  have h1 := E.at_ ho hj2 (j % sz) (Nat.mod_lt _ hp)
  have hd : j / sz * sz + j % sz = j := by rw [Nat.mul_comm]; exact Nat.div_add_mod j sz
  rw [hd, hu] at h1
  have h2 := hc (j / sz) (by simpa using hj2) (j % sz) u (by rw [List.getElem_map]; exact h1.symm)
  rw [Addr.add_lit]
  rw [Nat.add_assoc, hd] at h2
  exact h2
/-- 'append(v, b...)', v the call's own, b whatever slice that reads (nil, too). -/
theorem run_append_g (E : Elem P t e sz g Q) (w : World) (ty : TypeId) (base : Nat) (A0 : Option Addr) (c0 k0 : Nat) (l0 : List α) (h0 : l0.length = k0) (hown : OwnG e sz g w base A0 c0 l0) (B : Nat) (A : Option Addr) (c k : Nat) (l : List α) (hk : l.length = k)
    (hr : RdS w B sz A (l.map g)) (ho : ∀ x ∈ l, Q x) (hl : k0 + k ≤ 1000000) (hbase : base ≤ w.heap.size) :
    ∃ A' c' w', (Builtin.append_ #[t, t] ty #[.slice A0 k0 c0, .slice A k c]).run P w = .ok (.slice A' (k0 + k) c') w' ∧ OwnG e sz g w' base A' c' (l0 ++ l) ∧ w.grownBy w' (Value.slice A0 k0 c0).ownBlock := by
  subst hk h0
  obtain ⟨i, z, hi, hz, hsize, hzs, hby⟩ := E.info
  have hbb : (l0.length + l.length) * i.bytes ≤ 140737488355328 := Nat.le_trans (Nat.mul_le_mul hl hby) (by omega)
  have hrun : ∃ v' w', (Builtin.append_ #[t, t] ty #[.slice A0 l0.length c0, .slice A l.length c]).run P w = .ok v' w' ∧ w'.ownsRow base e sz v' (l0.length + l.length) (l0.flatMap g ++ l.flatMap g) ∧ w.grownBy w' (Value.slice A0 l0.length c0).ownBlock := by
    rcases Nat.eq_zero_or_pos l.length with hl0 | hl0
    · have hl0 := List.eq_nil_of_length_eq_zero hl0
      subst hl0
      rcases A with _ | ad
      · exact ⟨_, w, run_append_of_nil w base t ty e i sz E.slice hi _ _ _ hown c, by simpa [OwnG] using hown, World.grownBy.refl w _⟩
      · obtain ⟨v', w', h1, h2, h3, _⟩ := run_append_own (P := P) w base t ty e i z sz i.bytes E.slice hi hz hsize rfl hzs E.pos _ _ _ hown ad 0 c [] (by simp) (fun j u hu => by simp at hu) (fun u hu => by simp at hu) (by unfold maxLen; simp at hl ⊢; omega) (by simpa using hbb) hbase
        exact ⟨v', w', h1, by simpa using h2, h3⟩
    · obtain ⟨b, off, rfl, hb, hc⟩ := E.flatRd hr ho hl0
      obtain ⟨v', w', h1, h2, h3, _⟩ := run_append_own (P := P) w base t ty e i z sz i.bytes E.slice hi hz hsize rfl hzs E.pos _ _ _ hown ⟨b, off, none⟩ l.length c (l.flatMap g) (E.flat ho) hc (fun u hu => by
          obtain ⟨k, _, hk⟩ := List.mem_flatMap.1 hu
          exact E.one k u hk) (by unfold maxLen; omega) hbb hbase
      exact ⟨v', w', h1, h2, h3⟩
  obtain ⟨v', w', h1, h2, h3⟩ := hrun
  have hf : ∃ A' c', v' = .slice A' (l0.length + l.length) c' := by
    rcases h2.2 with ⟨hv, h0⟩ | ⟨_, cp, cur, hv, _⟩
    · exact ⟨none, 0, by rw [hv, h0]⟩
    · exact ⟨_, _, hv⟩
  obtain ⟨A', c', rfl⟩ := hf
  refine ⟨A', c', w', h1, ?_, h3⟩
  unfold OwnG
  rw [List.length_append, List.flatMap_append]
  exact h2
theorem wp_append_g (E : Elem P t e sz g Q) {o : Oper} {a : Act} {w : World} {K : Act → World → Prop} {R : Exit → Act → World → Prop} (s x : Operand) (ho : o.op = .call { callee := .builtin .append, args := #[s, x], argTypes := #[t, t] })
    (base : Nat) (A0 : Option Addr) (c0 k0 : Nat) (l0 : List α) (h0 : l0.length = k0) (hs : a.eval s = .slice A0 k0 c0) (hown : OwnG e sz g w base A0 c0 l0) (B : Nat) (A : Option Addr) (c k : Nat) (l : List α) (hx : a.eval x = .slice A k c) (hk : l.length = k)
    (hr : RdS w B sz A (l.map g)) (hq : ∀ x ∈ l, Q x) (hl : k0 + k ≤ 1000000) (hbase : base ≤ w.heap.size)
    (h : ∀ A' c' w', OwnG e sz g w' base A' c' (l0 ++ l) → w.grownBy w' (Value.slice A0 k0 c0).ownBlock → K (a.put o.dst (.slice A' (k0 + k) c')) w') : Oper.wp P o a w K R := by
  obtain ⟨A', c', w', h1, h2, h3⟩ := run_append_g E w o.type base A0 c0 k0 l0 h0 hown B A c k l hk hr hq hl hbase
  unfold Oper.wp execOp
  simp only [ho, resolve, invoke, builtin, Sem.run_bind, Sem.run_pure, Result.andThen_ok, List.map_toArray, List.map_cons, List.map_nil, hs, hx, h1]
  exact h A' c' w' h2 h3
theorem wpList_append_g (E : Elem P t e sz g Q) {ops : Array Oper} {rest : List Oper} {o : Oper} {a : Act} {w : World} {R : Exit → Act → World → Prop} (hgd : o.guard = none) (s x : Operand) (ho : o.op = .call { callee := .builtin .append, args := #[s, x], argTypes := #[t, t] })
    (base : Nat) (A0 : Option Addr) (c0 k0 : Nat) (l0 : List α) (h0 : l0.length = k0) (hs : a.eval s = .slice A0 k0 c0) (hown : OwnG e sz g w base A0 c0 l0) (B : Nat) (A : Option Addr) (c k : Nat) (l : List α) (hx : a.eval x = .slice A k c) (hk : l.length = k)
    (hr : RdS w B sz A (l.map g)) (hq : ∀ x ∈ l, Q x) (hl : k0 + k ≤ 1000000) (hbase : base ≤ w.heap.size)
    (h : ∀ A' c' w', OwnG e sz g w' base A' c' (l0 ++ l) → w.grownBy w' (Value.slice A0 k0 c0).ownBlock → wpList P ops R rest (a.put o.dst (.slice A' (k0 + k) c')) w') : wpList P ops R (o :: rest) a w :=
  wpList_plain hgd fun _ hK => wp_append_g E s x ho base A0 c0 k0 l0 h0 hs hown B A c k l hx hk hr hq hl hbase fun A' c' w' h1 h2 => hK _ _ (h A' c' w' h1 h2)
theorem fold_over : ∀ (cs done rest : List Value), rest.length = cs.length → List.foldl (fun (z : Array Value) (x : Value × Nat) => z.setIfInBounds x.2 x.1) (done ++ rest).toArray (cs.zipIdx done.length) = (done ++ cs).toArray
  | [], done, rest, h => by rw [List.eq_nil_of_length_eq_zero h]; rfl
  | c :: cs, done, [], h => by simp at h
  | c :: cs, done, r :: rest, h => by
    rw [List.zipIdx_cons, List.foldl_cons]
    have e : (done ++ r :: rest).toArray.setIfInBounds done.length c = ((done ++ [c]) ++ rest).toArray := by
      rw [List.setIfInBounds_toArray]
      congr 1
      rw [List.set_append_right _ _ (Nat.le_refl _)]
      simp
    show List.foldl _ ((done ++ r :: rest).toArray.setIfInBounds done.length c) _ = _
    rw [e, show done.length + 1 = (done ++ [c]).length by simp, fold_over cs (done ++ [c]) rest (by simpa using h)]
    simp
/-- '[]T{x}'. -/
theorem run_buildOne (E : Elem P t e sz g Q) {x : α} (hx : Q x) (W : World) : (Instr.buildSlice t 1 #[(0, .agg (g x).toArray)]).run P W = .ok (.slice (some ⟨W.heap.size, 0, none⟩) 1 1) (W.alloc (.cells (g x).toArray e)) := by
  obtain ⟨i, z, hi, hz, hsize, hzs, hby⟩ := E.info
  have hl := E.len x hx
  have hp := E.pos
  have hm := E.most
  have hf : ∀ Z : Array Value, Z.size = sz → List.foldl (fun (z : Array Value) (x : Value × Nat) => z.setIfInBounds x.2 x.1) Z (g x).zipIdx = (g x).toArray := fun Z hZ => fold_over (g x) [] Z.toList (by rw [hl]; simpa using hZ)
  have h1 : ¬ (2 ^ 24 < sz) := by omega
  have h2 : ¬ (sz = 0) := by omega
  simp [Instr.buildSlice, run_underlying E.slice, sizeOf, typeInfo, zeroValue, hi, hz, hsize, h2, go_sem]
  rw [if_neg (by omega), hf _ (by simp), if_neg (by omega)]
  rfl
theorem wp_buildOne (E : Elem P t e sz g Q) {o : Oper} {a : Act} {w : World} {K : Act → World → Prop} {R : Exit → Act → World → Prop} (x : Operand) (ho : o.op = .buildSlice t 1 #[(0, x)]) {y : α} (hy : Q y) (hx : a.eval x = .agg (g y).toArray)
    (h : K (a.put o.dst (.slice (some ⟨w.heap.size, 0, none⟩) 1 1)) (w.alloc (.cells (g y).toArray e))) : Oper.wp P o a w K R := by
  unfold Oper.wp execOp
  simp only [ho, hx, List.map_toArray, List.map_cons, List.map_nil, Sem.run_bind, run_buildOne E hy, Result.andThen_ok, Sem.run_pure]
  exact h
theorem wpList_buildOne (E : Elem P t e sz g Q) {ops : Array Oper} {rest : List Oper} {o : Oper} {a : Act} {w : World} {R : Exit → Act → World → Prop} (hgd : o.guard = none) (x : Operand) (ho : o.op = .buildSlice t 1 #[(0, x)]) {y : α} (hy : Q y) (hx : a.eval x = .agg (g y).toArray)
    (h : wpList P ops R rest (a.put o.dst (.slice (some ⟨w.heap.size, 0, none⟩) 1 1)) (w.alloc (.cells (g y).toArray e))) : wpList P ops R (o :: rest) a w :=
  wpList_plain hgd fun _ hK => wp_buildOne E x ho hy hx (hK _ _ h)
/-- '[]T{}'. -/
theorem run_buildNil (E : Elem P t e sz g Q) (W : World) : (Instr.buildSlice t 0 #[]).run P W = .ok (.slice (some ⟨W.heap.size, 0, none⟩) 0 0) (W.alloc (.cells #[] e)) := by
  obtain ⟨i, z, hi, hz, hsize, hzs, hby⟩ := E.info
  simp [Instr.buildSlice, run_underlying E.slice, sizeOf, typeInfo, zeroValue, hi, hz, hsize, go_sem]
theorem wp_buildNil (E : Elem P t e sz g Q) {o : Oper} {a : Act} {w : World} {K : Act → World → Prop} {R : Exit → Act → World → Prop} (ho : o.op = .buildSlice t 0 #[])
    (h : K (a.put o.dst (.slice (some ⟨w.heap.size, 0, none⟩) 0 0)) (w.alloc (.cells #[] e))) : Oper.wp P o a w K R := by
  unfold Oper.wp execOp
  simp only [ho, List.map_toArray, List.map_nil, Sem.run_bind, run_buildNil E, Result.andThen_ok, Sem.run_pure]
  exact h
/-- 'append(v, b...)' at an operation whose guard says yes. -/
theorem wpList_append_gw (E : Elem P t e sz g Q) {ops : Array Oper} {rest : List Oper} {o : Oper} {a : Act} {w : World} {R : Exit → Act → World → Prop} (hgd : Region.wanted o (yielded ops a.tmps) = true) (s x : Operand) (ho : o.op = .call { callee := .builtin .append, args := #[s, x], argTypes := #[t, t] })
    (base : Nat) (A0 : Option Addr) (c0 k0 : Nat) (l0 : List α) (h0 : l0.length = k0) (hs : a.eval s = .slice A0 k0 c0) (hown : OwnG e sz g w base A0 c0 l0) (B : Nat) (A : Option Addr) (c k : Nat) (l : List α) (hx : a.eval x = .slice A k c) (hk : l.length = k)
    (hr : RdS w B sz A (l.map g)) (hq : ∀ x ∈ l, Q x) (hl : k0 + k ≤ 1000000) (hbase : base ≤ w.heap.size)
    (h : ∀ A' c' w', OwnG e sz g w' base A' c' (l0 ++ l) → w.grownBy w' (Value.slice A0 k0 c0).ownBlock → wpList P ops R rest (a.put o.dst (.slice A' (k0 + k) c')) w') : wpList P ops R (o :: rest) a w :=
  BigFrame.wpList_want hgd fun _ hK => wp_append_g E s x ho base A0 c0 k0 l0 h0 hs hown B A c k l hx hk hr hq hl hbase fun A' c' w' h1 h2 => hK _ _ (h A' c' w' h1 h2)
/-- A block of one element reads. -/
theorem rds_one (w : World) (y : α) (e : TypeId) (sz : Nat) (g : α → List Value) : RdS (w.alloc (.cells (g y).toArray e)) (w.alloc (.cells (g y).toArray e)).heap.size sz (some ⟨w.heap.size, 0, none⟩) ([y].map g) := fun _ => by
  refine ⟨w.heap.size, 0, rfl, by simp, fun j hj i v hv => ?_⟩
  obtain rfl : j = 0 := by simpa using hj
  rw [Nat.zero_mul, Nat.zero_add, (Blk.new w e (g y).toArray).cell, List.getElem?_toArray]
  simpa using hv
end
end Go.Proofs.Ytgemjipbifgbgaa
/- The reference's extents (cellarageref16): Right, Total, Same. No statement of the seat is proved here. -/
namespace Go.Proofs.Ytgemjipbifgbgaa
open Go.RowKit Go.Maps Go.Sort
set_option linter.unusedVariables false
set_option linter.unusedSimpArgs false

theorem extE : Elem Try.prog 22 51 35 rcs RowT.Ok :=
  ⟨Try.underlying22, elem_info (by kernel_rfl), by decide, by decide, fun x h => rcs_length h, fun x v hv => by
    have := rcs_one (r := x)
    rw [Array.all_eq_true_iff_forall_mem] at this
    exact this v (by simpa using hv)⟩
theorem take_snocE {α : Type} {ps qs : List α} {j : Nat} (h1 : j < ps.length) (h2 : j < qs.length) (ht : ps.take j = qs.take j) (he : ps[j] = qs[j]) : ps.take (j + 1) = qs.take (j + 1) := by
  rw [List.take_succ_eq_append_getElem h1, List.take_succ_eq_append_getElem h2, ht, he]
theorem all_snoc {l : List RowT} {j : Nat} (hj : j < l.length) (h : ∀ r ∈ l.take j, okE r = true) (hx : okE l[j] = true) : ∀ r ∈ l.take (j + 1), okE r = true := fun r hr => by
  rw [List.take_succ_eq_append_getElem hj] at hr
  rcases List.mem_append.1 hr with h1 | h1
  · exact h r h1
  · rw [List.mem_singleton.1 h1]; exact hx
set_option maxRecDepth 100000 in
set_option maxHeartbeats 2000000 in
theorem rexright_any (A : Option Addr) (ls : List RowT) (k c : Nat) (hl : ls.length = k) (w : World) (hr : RdRw w w.heap.size A ls) :
    Calls Try.prog 13 #[.slice A k c] w fun e w' => e = .returned (.bool (rightE ls)) ∧ Below w.heap.size w w' := by
  obtain ⟨R, hR⟩ : ∃ R, rightE ls = R := ⟨_, rfl⟩
  rw [hR]
  by_cases hk : k ≤ 16384
  · have hk0 : ¬ (k : Int) > 16384 := by omega
    have HR := Lib.hid (show (∀ r ∈ ls, okE r = true) → R = true from fun h => by rw [← hR]; exact rightE_iff.2 ⟨by omega, h⟩)
    have HRN := Lib.hid (show ∀ r ∈ ls, okE r = false → R = false from fun r hr h => by
      rw [← hR, Bool.eq_false_iff]
      intro h2
      rw [(rightE_iff.1 h2).2 r hr] at h
      cases h)
    have HA := Lib.hid (show ∀ W, Below w.heap.size w W → RdRw W w.heap.size A ls from fun W hb => hr.below hb)
    have HPL := Lib.hid hl
    clear hR hr hl
    go_enter Try.func13, Try.ntmps13
    go_wp2_with fail
    go_loopw [3] (fun i wr => ∃ j : Nat, j ≤ k ∧ i = .int .i64 j ∧ Hid (∀ r ∈ ls.take j, okE r = true) ∧ Hid (Below w.heap.size w wr)) (fun i _ => k - (intOf i).toNat)
    case atStart => exact ⟨0, Nat.zero_le _, rfl, Lib.hid (by simp), Lib.hid (Below.refl _ _)⟩
    case round =>
      obtain ⟨j, hj, rfl, HST, HBEL⟩ := hrel
      by_cases hlt : j < k
      · have hjp : j < ls.length := by rw [HPL.out]; exact hlt
        obtain ⟨g, off, rfl, hg, hra, hokx⟩ := (HA.out _ HBEL.out).at_ hjp
        have HIN := Lib.hid (List.getElem_mem hjp)
        have HSN := Lib.hid (all_snoc hjp HST.out)
        obtain ⟨x, hx⟩ : ∃ x, ls[j] = x := ⟨_, rfl⟩
        rw [hx] at hra hokx HIN HSN
        have c33 := hra 33 _ (rcs_33 hokx)
        have c34 := hra 34 _ (rcs_34 hokx)
        have HOK := Lib.hid (okE_iff (r := x))
        have HNO := Lib.hid (HRN.out x HIN.out)
        have hs1 := hokx.shelf.1
        have hs2 := hokx.shelf.2
        have hn1 := hokx.slot.1
        have hn2 := hokx.slot.2
        obtain ⟨o, ho⟩ : ∃ o, x.2.1 = o := ⟨_, rfl⟩
        obtain ⟨n, hn⟩ : ∃ n, x.2.2 = n := ⟨_, rfl⟩
        rw [ho] at c33 HOK hs1 hs2
        rw [hn] at c34 HOK hn1 hn2
        have hgw : g < wr.heap.size := Nat.lt_of_lt_of_le hg HBEL.out.size
        have hi1 : (0 : Int) ≤ (j : Int) := by omega
        have hi2 : (j : Int) < (k : Int) := by omega
        clear hra hokx hx hjp hg ho hn
        by_cases d0 : o < 0
        · have e0 : decide (o < 0) = true := decide_eq_true d0
          obtain rfl : R = false := HNO.out (by
            rw [Bool.eq_false_iff]
            intro h
            have := HOK.out.1 h
            omega)
          go_wp2_with fail
          go_quiet (fail)
          have HBQ := Lib.hid (HBEL.out.trans ((below_drewN (Below.refl wr.heap.size wr) nq).mono HBEL.out.size))
          go_wp2_with fail
          go_ret
          exact ⟨rfl, HBQ.out⟩
        have e0 : decide (o < 0) = false := decide_eq_false d0
        by_cases d1 : n < 1
        · have e1 : decide (n < 1) = true := decide_eq_true d1
          obtain rfl : R = false := HNO.out (by
            rw [Bool.eq_false_iff]
            intro h
            have := HOK.out.1 h
            omega)
          go_wp2_with fail
          go_quiet (fail)
          have HBQ := Lib.hid (HBEL.out.trans ((below_drewN (Below.refl wr.heap.size wr) nq).mono HBEL.out.size))
          go_wp2_with fail
          go_ret
          exact ⟨rfl, HBQ.out⟩
        have e1 : decide (n < 1) = false := decide_eq_false d1
        by_cases d2 : n > 4096
        · have e2 : decide (n > 4096) = true := decide_eq_true d2
          obtain rfl : R = false := HNO.out (by
            rw [Bool.eq_false_iff]
            intro h
            have := HOK.out.1 h
            omega)
          go_wp2_with fail
          go_quiet (fail)
          have HBQ := Lib.hid (HBEL.out.trans ((below_drewN (Below.refl wr.heap.size wr) nq).mono HBEL.out.size))
          go_wp2_with fail
          go_ret
          exact ⟨rfl, HBQ.out⟩
        have e2 : decide (n > 4096) = false := decide_eq_false d2
        by_cases d3 : o > 4096 - n
        · have e3 : decide (o > 4096 - n) = true := decide_eq_true d3
          obtain rfl : R = false := HNO.out (by
            rw [Bool.eq_false_iff]
            intro h
            have := HOK.out.1 h
            omega)
          go_wp2_with fail
          go_quiet (fail)
          have HBQ := Lib.hid (HBEL.out.trans ((below_drewN (Below.refl wr.heap.size wr) nq).mono HBEL.out.size))
          go_wp2_with fail
          go_ret
          exact ⟨rfl, HBQ.out⟩
        have e3 : decide (o > 4096 - n) = false := decide_eq_false d3
        have HSX := Lib.hid (HSN.out (HOK.out.2 (by omega)))
        go_wp2_with fail
        go_quiet (fail)
        have HBQ := Lib.hid (HBEL.out.trans ((below_drewN (Below.refl wr.heap.size wr) nq).mono HBEL.out.size))
        go_wp2_with fail
        go_roundw
        case rel => exact ⟨j + 1, by omega, by go_num, HSX, HBQ⟩
        case measure => simp [intOf]; omega
      · obtain rfl : j = k := by omega
        obtain rfl : R = true := HR.out (by
          have := HST.out
          rwa [List.take_of_length_le (by rw [HPL.out]; exact Nat.le_refl _)] at this)
        go_wp2_with fail
        go_ret
        exact ⟨rfl, HBEL.out⟩
  · have hk0 : (k : Int) > 16384 := by omega
    obtain rfl : R = false := by
      rw [← hR, Bool.eq_false_iff]
      intro h
      have := (rightE_iff.1 h).1
      omega
    clear hR hl hr
    go_enter Try.func13, Try.ntmps13
    go_wp2_with fail
    go_ret
    exact ⟨rfl, Below.refl _ _⟩
theorem sum_snoc {l : List RowT} {j : Nat} (hj : j < l.length) : sumE (l.take (j + 1)) = sumE (l.take j) + l[j].2.2 := by
  rw [List.take_succ_eq_append_getElem hj, sumE_append]
  simp [sumE]
theorem right_take {l : List RowT} (h : rightE l = true) (j : Nat) : rightE (l.take j) = true := by
  obtain ⟨h1, h2⟩ := rightE_iff.1 h
  exact rightE_iff.2 ⟨by rw [List.length_take]; omega, fun r hr => h2 r (List.mem_of_mem_take hr)⟩
/-- How many bytes a list that is right has at most. -/
theorem right_sum {l : List RowT} (h : rightE l = true) : 0 ≤ sumE l ∧ sumE l ≤ 67108864 := by
  obtain ⟨h1, h2⟩ := rightE_iff.1 h
  have := sumE_le h2
  exact ⟨sumE_nonneg h2, by omega⟩
set_option maxRecDepth 100000 in
set_option maxHeartbeats 2000000 in
theorem rextotal_any (A : Option Addr) (ls : List RowT) (k c : Nat) (hl : ls.length = k) (w : World) (hr : RdRw w w.heap.size A ls) :
    Calls Try.prog 15 #[.slice A k c] w fun e w' => e = .returned (.int .i64 (totalE ls)) ∧ Below w.heap.size w w' := by
  have KR := Lib.hid (rexright_any A ls k c hl w hr)
  have HR := Lib.hid hr
  have HPL := Lib.hid hl
  obtain ⟨R, hR⟩ : ∃ R, rightE ls = R := ⟨_, rfl⟩
  rw [hR] at KR
  have HQ := Lib.hid hR
  clear hR hr hl
  go_enter Try.func15, Try.ntmps15
  go_wp2_with fail
  refine KR.out.mono ?_
  rintro e w1 ⟨rfl, hb1⟩
  have HB1 := Lib.hid hb1
  clear KR hb1
  cases R with
  | false =>
    have HT := Lib.hid (show totalE ls = 0 by unfold totalE; rw [HQ.out]; rfl)
    go_wp2_with fail
    go_ret
    exact ⟨by rw [HT.out]; rfl, HB1.out⟩
  | true =>
    go_wp2_with fail
    go_loopw [3, 4] (fun t i wr => ∃ j : Nat, j ≤ k ∧ i = .int .i64 j ∧ t = .int .i64 (sumE (ls.take j)) ∧ Hid (Below w.heap.size w wr)) (fun _ i _ => k - (intOf i).toNat)
    case atStart => exact ⟨0, Nat.zero_le _, rfl, by simp [sumE], HB1⟩
    case round =>
      obtain ⟨j, hj, rfl, rfl, HBEL⟩ := hrel
      have hk : k ≤ 16384 := by have := (rightE_iff.1 HQ.out).1; have := HPL.out; omega
      by_cases hlt : j < k
      · have hjp : j < ls.length := by rw [HPL.out]; exact hlt
        obtain ⟨g, off, rfl, hg, hra, hokx⟩ := (HR.out.below HBEL.out).at_ hjp
        have HSN := Lib.hid (sum_snoc hjp)
        have hs1 := (right_sum (right_take HQ.out j)).1
        have hs2 := (right_sum (right_take HQ.out j)).2
        have hok := okE_iff.1 ((rightE_iff.1 HQ.out).2 _ (List.getElem_mem hjp))
        obtain ⟨x, hx⟩ : ∃ x, ls[j] = x := ⟨_, rfl⟩
        rw [hx] at hra hokx HSN hok
        have c34 := hra 34 _ (rcs_34 hokx)
        obtain ⟨n, hn⟩ : ∃ n, x.2.2 = n := ⟨_, rfl⟩
        obtain ⟨S, hS⟩ : ∃ S, sumE (ls.take j) = S := ⟨_, rfl⟩
        rw [hn] at c34 HSN hok
        rw [hS] at HSN hs1 hs2 ⊢
        have hn1 := hok.2.1
        have hn2 : n ≤ 4096 := by omega
        have hi1 : (0 : Int) ≤ (j : Int) := by omega
        have hi2 : (j : Int) < (k : Int) := by omega
        clear hra hokx hx hjp hg hn hok hS
        go_wp2_with fail
        go_roundw
        case rel => exact ⟨j + 1, by omega, by go_num, by rw [HSN.out], HBEL⟩
        case measure => simp [intOf]; omega
      · obtain rfl : j = k := by omega
        have HT := Lib.hid (show totalE ls = sumE (ls.take j) by unfold totalE; rw [if_pos HQ.out, List.take_of_length_le (by rw [HPL.out]; exact Nat.le_refl _)])
        go_wp2_with fail
        go_ret
        exact ⟨by rw [HT.out]; rfl, HBEL.out⟩
set_option maxRecDepth 100000 in
set_option maxHeartbeats 2000000 in
theorem rexsame_any (A : Option Addr) (ls : List RowT) (k c : Nat) (B : Option Addr) (ms : List RowT) (m d : Nat) (hl : ls.length = k) (hm : ms.length = m) (hk : k ≤ 20000) (w : World) (hr : RdRw w w.heap.size A ls) (hr2 : RdRw w w.heap.size B ms) :
    Calls Try.prog 19 #[.slice A k c, .slice B m d] w fun e w' => e = .returned (.bool (decide (ls = ms))) ∧ Below w.heap.size w w' := by
  obtain ⟨R, hR⟩ : ∃ R, decide (ls = ms) = R := ⟨_, rfl⟩
  rw [hR]
  by_cases hkm : k = m
  · subst hkm
    have hne : ((k : Int) != (k : Int)) = false := by simp
    have HR := Lib.hid hR
    have HA := Lib.hid (show ∀ W, Below w.heap.size w W → RdRw W w.heap.size A ls from fun W hb => hr.below hb)
    have HB := Lib.hid (show ∀ W, Below w.heap.size w W → RdRw W w.heap.size B ms from fun W hb => hr2.below hb)
    have HPL := Lib.hid hl
    have HQL := Lib.hid hm
    obtain ⟨fs, hfs⟩ := ext_desc
    have HF := Lib.hid hfs
    have eqg := ext_guard
    clear hR hr hr2 hl hm hfs
    go_enter Try.func19, Try.ntmps19
    go_wp2_with fail
    go_loopw [5] (fun i wr => ∃ j : Nat, j ≤ k ∧ i = .int .i64 j ∧ Hid (ls.take j = ms.take j) ∧ Below w.heap.size w wr) (fun i _ => k - (intOf i).toNat)
    case atStart => exact ⟨0, Nat.zero_le _, rfl, Lib.hid rfl, Below.refl _ _⟩
    case round =>
      obtain ⟨j, hj, rfl, hst, hbel⟩ := hrel
      by_cases hlt : j < k
      · have hjp : j < ls.length := by rw [HPL.out]; exact hlt
        have hjq : j < ms.length := by rw [HQL.out]; exact hlt
        obtain ⟨g, off, hA, hg, hra, hokx⟩ := (HA.out _ hbel).at_ hjp
        obtain ⟨g', off', hB, hg', hra', hoky⟩ := (HB.out _ hbel).at_ hjq
        obtain ⟨x, hx⟩ : ∃ x, ls[j] = x := ⟨_, rfl⟩
        obtain ⟨y, hy⟩ : ∃ y, ms[j] = y := ⟨_, rfl⟩
        have HST := Lib.hid (show x = y → ls.take (j + 1) = ms.take (j + 1) from fun h => take_snocE hjp hjq hst.out (by rw [hx, hy, h]))
        have HNO := Lib.hid (show ¬ x = y → R = false from fun h => by
          rw [← HR.out]
          refine decide_eq_false fun e => h ?_
          subst e
          rw [← hx, ← hy])
        rw [hx] at hra hokx
        rw [hy] at hra' hoky
        have hgw : g < wr.heap.size := Nat.lt_of_lt_of_le hg hbel.size
        have hgw' : g' < wr.heap.size := Nat.lt_of_lt_of_le hg' hbel.size
        have HKS := Lib.hid (show (Try.prog.info? 51).map (·.size) = some (rcs x).length by rw [rcs_length hokx]; exact ext_size)
        have HKY := Lib.hid (show (Try.prog.info? 51).map (·.size) = some (rcs y).length by rw [rcs_length hoky]; exact ext_size)
        have R1 := Lib.hid (rng_base (w := wr) (b := g) (off := off + j * 35) (cs := rcs x) fun W hW => fun t v hv => by rw [hW.cell (p := ⟨g, off + j * 35 + t, none⟩) hgw]; exact hra t v hv)
        have R2 := Lib.hid (rng_base (w := wr) (b := g') (off := off' + j * 35) (cs := rcs y) fun W hW => fun t v hv => by rw [hW.cell (p := ⟨g', off' + j * 35 + t, none⟩) hgw']; exact hra' t v hv)
        obtain ⟨r, hre⟩ : ∃ r, decide (x = y) = r := ⟨_, rfl⟩
        have QE := Lib.hid (show ∀ W, (Op.equal 51 (.agg (rcs x).toArray) (.agg (rcs y).toArray)).run Try.prog W = .ok r W from fun W => by rw [ext_eq hokx hoky W, hre])
        have HRE := Lib.hid hre
        have HBEL := Lib.hid hbel
        subst hA
        subst hB
        have hi1 : (0 : Int) ≤ (j : Int) := by omega
        have hi2 : (j : Int) < (k : Int) := by omega
        clear hra hra' hokx hoky hre hbel hst hx hy hjp hjq
        go_wp2_with fail
        refine wp_region_quiet_below (by kernel_rfl) (by kernel_rfl) ?_
        repeat (first
          | (go_big_quiet_want; refine quiet_load_mid 51 (.tmp 19) rfl g (off + j * 35) rfl (rcs x) (.struct fs) R1.out HF.out rfl HKS.out (by simp only [Act.put, List.setIfInBounds_toArray, List.set_cons_succ, List.set_cons_zero]; rfl) ?_; go_big_quiet_on)
          | (go_big_quiet_want; refine quiet_load_mid 51 (.tmp 23) rfl g' (off' + j * 35) rfl (rcs y) (.struct fs) R2.out HF.out rfl HKY.out (by simp only [Act.put, List.setIfInBounds_toArray, List.set_cons_succ, List.set_cons_zero]; rfl) ?_; go_big_quiet_on)
          | (go_big_quiet_want; refine quiet_neq_row 51 51 (.tmp 20) (.tmp 24) rfl (rcs x).toArray (rcs y).toArray rfl rfl eqg r QE.out (by simp only [Act.put, List.setIfInBounds_toArray, List.set_cons_succ, List.set_cons_zero]; rfl) ?_; go_big_quiet_on)
          | go_big_quiet_step (fail))
        refine wpQuiet_nil ?_
        intro _ hw'
        obtain ⟨⟨dq, osq⟩, hw''⟩ := hw'
        subst hw''
        have HBQ := Lib.hid (HBEL.out.trans ((below_regrown wr dq osq).mono HBEL.out.size))
        clear R1 R2
        generalize Go.Sort.grow (redrawn wr dq) osq = wq at *
        cases r with
        | false =>
          obtain rfl : R = false := HNO.out (of_decide_eq_false HRE.out)
          go_wp2_with fail
          go_ret
          exact ⟨rfl, HBQ.out⟩
        | true =>
          have HNX := Lib.hid (HST.out (of_decide_eq_true HRE.out))
          go_wp2_with fail
          go_roundw
          case rel => exact ⟨j + 1, by omega, by go_num, HNX, HBQ.out⟩
          case measure => simp [intOf]; omega
      · obtain rfl : j = k := by omega
        obtain rfl : R = true := by
          rw [← HR.out]
          refine decide_eq_true ?_
          have := hst.out
          rwa [List.take_of_length_le (by rw [HPL.out]; exact Nat.le_refl _), List.take_of_length_le (by rw [HQL.out]; exact Nat.le_refl _)] at this
        go_wp2_with fail
        go_ret
        exact ⟨rfl, hbel⟩
  · have hne : ((k : Int) != (m : Int)) = true := by simp; omega
    obtain rfl : R = false := by
      rw [← hR]
      exact decide_eq_false fun e => hkm (by rw [← hl, ← hm, e])
    clear hl hm hR hr hr2
    go_enter Try.func19, Try.ntmps19
    go_wp2_with fail
    go_ret
    exact ⟨rfl, Below.refl _ _⟩
end Go.Proofs.Ytgemjipbifgbgaa
/- A struct built from two parts. No statement of the seat is proved here; nothing of the program is named. -/
namespace Go.Proofs.Ytgemjipbifgbgaa
open Go.RowKit
set_option linter.unusedVariables false
set_option linter.unusedSimpArgs false

theorem fold_head : ∀ (cs done rest tail : List Value), rest.length = cs.length → List.foldl (fun (z : Array Value) (x : Value × Nat) => z.setIfInBounds (0 + x.2) x.1) (done ++ (rest ++ tail)).toArray (cs.zipIdx done.length) = (done ++ (cs ++ tail)).toArray
  | [], done, rest, tail, h => by rw [List.eq_nil_of_length_eq_zero h]; rfl
  | c :: cs, done, [], tail, h => by simp at h
  | c :: cs, done, r :: rest, tail, h => by
    rw [List.zipIdx_cons, List.foldl_cons]
    have e : (done ++ (r :: rest ++ tail)).toArray.setIfInBounds (0 + done.length) c = ((done ++ [c]) ++ (rest ++ tail)).toArray := by
      rw [List.setIfInBounds_toArray, Nat.zero_add]
      congr 1
      rw [List.set_append_right _ _ (Nat.le_refl _)]
      simp
    show List.foldl _ ((done ++ (r :: rest ++ tail)).toArray.setIfInBounds (0 + done.length) c) _ = _
    rw [e, show done.length + 1 = (done ++ [c]).length by simp, fold_head cs (done ++ [c]) rest tail (by simpa using h)]
    simp
theorem yields_build {P : Program} {ops : Array Oper} {S : World → Prop} {op : Oper} {a : Act} (hw : Region.wanted op (yielded ops a.tmps) = true) (t : TypeId) (parts : Array (Nat × Operand)) (ho : op.op = .build t parts)
    (cells : Array Value) (hc : P.built t (parts.map fun (i, x) => (i, a.eval x)).toList = some cells) : YieldsIf P ops S op (.agg cells) a :=
  .inl ⟨hw, fun w hw' => by
    unfold execOp
    simp only [ho, Sem.run_bind, run_build w t _ cells hc, Result.andThen_ok, Sem.run_pure]⟩
theorem built_two {P : Program} {t : TypeId} {it : TypeInfo} {fields : Array Field} {z : Value} {places : List (Nat × Nat)} {v1 v2 : Value} {n1 o2 n2 : Nat} (r1 : Array Value) (hi : P.info? t = some it) (hu : P.underlying t = some (.struct fields)) (hz : it.zero = some z)
    (hp : fields.toList.mapM (fun f => (P.info? f.type).map fun i => (f.offset, i.size)) = some places) (h0 : places.toArray[0]? = some (0, n1)) (h1 : places.toArray[1]? = some (o2, n2)) (hv1 : v1.cells.size = n1) (hv2 : v2.cells.size = n2) (hn1 : n1 ≤ z.cells.size)
    (hr : v1.cells.zipIdx.foldl (fun cs (c, j) => cs.setIfInBounds (0 + j) c) z.cells = r1) (hn2 : o2 + n2 ≤ r1.size) :
    P.built t [(0, v1), (1, v2)] = some (v2.cells.zipIdx.foldl (fun cs (c, j) => cs.setIfInBounds (o2 + j) c) r1) := by
  unfold Program.built
  rw [hi, hu]
  simp only [hz, hp]
  unfold Instr.fill
  rw [h0]
  simp only [hv1]
  rw [if_neg (by simp; omega)]
  have hr' : v1.cells.zipIdx.foldl (fun cs (x : Value × Nat) => cs.setIfInBounds (0 + x.2) x.1) z.cells = r1 := hr
  unfold Instr.fill
  rw [h1]
  simp only [hv2]
  rw [hr', if_neg (by simp; omega)]
  rfl
end Go.Proofs.Ytgemjipbifgbgaa
/- Keys (api.Key) as elements of slices of the call's own. No statement of the seat is proved here. -/
namespace Go.Proofs.Ytgemjipbifgbgaa
open Go.RowKit
set_option linter.unusedVariables false
set_option linter.unusedSimpArgs false

theorem keyE : Elem Try.prog 28 49 33 kcs KeyT.Ok :=
  ⟨Try.underlying28, elem_info (by kernel_rfl), by decide, by decide, fun _ h => kcs_length h, fun r v hv => by
    have := kcs_one (k := r)
    rw [Array.all_eq_true_iff_forall_mem] at this
    exact this v (by simpa using hv)⟩
end Go.Proofs.Ytgemjipbifgbgaa
/- An extent built from its parts. No statement of the seat is proved here. -/
namespace Go.Proofs.Ytgemjipbifgbgaa
open Go.RowKit
set_option linter.unusedVariables false
set_option linter.unusedSimpArgs false

theorem built_three {P : Program} {t : TypeId} {it : TypeInfo} {fields : Array Field} {z : Value} {places : List (Nat × Nat)} {v1 v2 v3 : Value} {n1 o2 n2 o3 n3 : Nat} (r1 r2 : Array Value) (hi : P.info? t = some it) (hu : P.underlying t = some (.struct fields)) (hz : it.zero = some z)
    (hp : fields.toList.mapM (fun f => (P.info? f.type).map fun i => (f.offset, i.size)) = some places) (h0 : places.toArray[0]? = some (0, n1)) (h1 : places.toArray[1]? = some (o2, n2)) (h2 : places.toArray[2]? = some (o3, n3)) (hv1 : v1.cells.size = n1) (hv2 : v2.cells.size = n2) (hv3 : v3.cells.size = n3) (hn1 : n1 ≤ z.cells.size)
    (hr : v1.cells.zipIdx.foldl (fun cs (c, j) => cs.setIfInBounds (0 + j) c) z.cells = r1) (hn2 : o2 + n2 ≤ r1.size) (hr2 : v2.cells.zipIdx.foldl (fun cs (c, j) => cs.setIfInBounds (o2 + j) c) r1 = r2) (hn3 : o3 + n3 ≤ r2.size) :
    P.built t [(0, v1), (1, v2), (2, v3)] = some (v3.cells.zipIdx.foldl (fun cs (c, j) => cs.setIfInBounds (o3 + j) c) r2) := by
  unfold Program.built
  rw [hi, hu]
  simp only [hz, hp]
  unfold Instr.fill
  rw [h0]
  simp only [hv1]
  rw [if_neg (by simp; omega)]
  have hr' : v1.cells.zipIdx.foldl (fun cs (x : Value × Nat) => cs.setIfInBounds (0 + x.2) x.1) z.cells = r1 := hr
  have hr2' : v2.cells.zipIdx.foldl (fun cs (x : Value × Nat) => cs.setIfInBounds (o2 + x.2) x.1) r1 = r2 := hr2
  unfold Instr.fill
  rw [h1]
  simp only [hv2]
  rw [hr', if_neg (by simp; omega)]
  unfold Instr.fill
  rw [h2]
  simp only [hv3]
  rw [hr2', if_neg (by simp; omega)]
  rfl
theorem ext_places : ∃ fields, Try.prog.underlying 51 = some (.struct fields) ∧ fields.toList.mapM (fun f => (Try.prog.info? f.type).map fun i => (f.offset, i.size)) = some [(0, 33), (33, 1), (34, 1)] := ⟨_, Try.underlying51, by kernel_rfl⟩
theorem info_ext : (Try.prog.info? 51).map (fun i => i.zero) = some (some (.agg (kcs (List.replicate 32 0, 0) ++ [Value.int .i64 0, Value.int .i64 0]).toArray)) := by kernel_rfl
set_option maxRecDepth 100000 in
theorem built_ext {k : KeyT} (hk : KeyT.Ok k) (o n : Int) : Try.prog.built 51 [(0, .agg (kcs k).toArray), (1, .int .i64 o), (2, .int .i64 n)] = some (rcs (k, (o, n))).toArray := by
  obtain ⟨fields, hf, hm⟩ := ext_places
  have hz := info_ext
  cases hi : Try.prog.info? 51 with
  | none => rw [hi] at hz; cases hz
  | some it =>
    rw [hi] at hz
    simp only [Option.map_some, Option.some.injEq] at hz
    have hfold : ((kcs k).toArray.zipIdx.foldl (fun cs (c, j) => cs.setIfInBounds (0 + j) c) (Value.agg (kcs (List.replicate 32 0, 0) ++ [Value.int .i64 0, Value.int .i64 0]).toArray).cells) = (kcs k ++ [Value.int .i64 0, Value.int .i64 0]).toArray := by
      have := fold_head (kcs k) [] (kcs (List.replicate 32 0, 0)) [Value.int .i64 0, Value.int .i64 0] (by rw [kcs_length hk, kcs_length ⟨by simp, by decide⟩])
      rw [← Array.foldl_toList, Array.toList_zipIdx]
      exact this
    have h2 : (Value.int .i64 o).cells.zipIdx.foldl (fun cs (c, j) => cs.setIfInBounds (33 + j) c) (kcs k ++ [Value.int .i64 0, Value.int .i64 0]).toArray = (kcs k ++ [Value.int .i64 o, Value.int .i64 0]).toArray := by
      show (kcs k ++ [Value.int .i64 0, Value.int .i64 0]).toArray.setIfInBounds (33 + 0) (.int .i64 o) = _
      rw [List.setIfInBounds_toArray]
      congr 1
      rw [List.set_append_right _ _ (by rw [kcs_length hk]; omega), kcs_length hk]
      rfl
    rw [built_three (v1 := .agg (kcs k).toArray) (v2 := .int .i64 o) (v3 := .int .i64 n) (n1 := 33) (o2 := 33) (n2 := 1) (o3 := 34) (n3 := 1) (kcs k ++ [Value.int .i64 0, Value.int .i64 0]).toArray (kcs k ++ [Value.int .i64 o, Value.int .i64 0]).toArray hi hf hz hm rfl rfl rfl (by show (kcs k).toArray.size = 33; simp [kcs_length hk]) rfl rfl (by show 33 ≤ (kcs (List.replicate 32 0, 0) ++ [Value.int .i64 0, Value.int .i64 0]).toArray.size; rw [List.size_toArray, List.length_append, kcs_length ⟨by simp, by decide⟩]; exact Nat.le_add_right _ _) hfold (by simp [kcs_length hk]) h2 (by simp [kcs_length hk])]
    congr 1
    show (kcs k ++ [Value.int .i64 o, Value.int .i64 0]).toArray.setIfInBounds (34 + 0) (.int .i64 n) = _
    rw [List.setIfInBounds_toArray]
    congr 1
    rw [List.set_append_right _ _ (by rw [kcs_length hk]; omega), kcs_length hk]
    rfl
/-- A part of an extent is one. -/
theorem ok_part {x : RowT} (h : x.Ok) {o n : Int} (h2 : okE (x.1, (o, n)) = true) : RowT.Ok (x.1, (o, n)) := by
  have h3 := okE_iff.1 h2
  simp only at h3
  exact ⟨h.key, by constructor <;> simp only <;> omega, by constructor <;> simp only <;> omega⟩
end Go.Proofs.Ytgemjipbifgbgaa
/- A region that draws its order: the condition on the world may be made stronger on the way. No statement of the seat is proved here. -/
namespace Go.Proofs.Ytgemjipbifgbgaa
open Go.RowKit
set_option linter.unusedVariables false

theorem wpAnyH_strong {P : Program} {ops : Array Oper} {Q : Exit → Act → World → Prop} {md : Region.Mode} {S S' : World → Prop} (hS : ∀ w, S' w → S w) :
    ∀ {fuel : Nat} {listed : Array Bool} {a : Act} {w : World}, wpAnyH P md ops Q S' fuel listed a w → wpAnyH P md ops Q S fuel listed a w
  | 0, _, _, _, h => h
  | fuel + 1, _, _, _, h => ⟨h.1, fun i hi => wpOp_mono (fun a' w' h' => ⟨hS _ h'.1, wpAnyH_strong hS h'.2⟩) (h.2 i hi)⟩
end Go.Proofs.Ytgemjipbifgbgaa
/- A load of many cells taken first in a region that draws its order. No statement of the seat is proved here; nothing of the program is named. -/
namespace Go.Proofs.Ytgemjipbifgbgaa
open Go.RowKit

/-- A load of many cells in a region that draws its order. -/
theorem yields_mid {P : Program} {ops : Array Oper} {S : World → Prop} {o : Oper} {a : Act} (hgd : Region.wanted o (yielded ops a.tmps) = true) (ty : TypeId) (x : Operand) (ho : o.op = .load ty x)
    (b off : Nat) (hx : a.eval x = .pointer (some ⟨b, off, none⟩)) (cs : List Value) (d : TypeDesc) (hc : ∀ W, S W → W.rangeAt b off cs) (hu : P.underlying ty = some d) (hd : d.isRow = true)
    (hi : (P.info? ty).map (·.size) = some cs.length) : YieldsIf P ops S o (.agg cs.toArray) a := Or.inl ⟨hgd, fun w hw => by
  unfold execOp
  simp only [ho, hx, Instr.loadAt, Instr.sureAddr, Sem.run_bind, Sem.run_pure, Result.andThen_ok, run_loadVar_mid w b off ty cs d (hc w hw) hu hd hi]⟩
end Go.Proofs.Ytgemjipbifgbgaa
