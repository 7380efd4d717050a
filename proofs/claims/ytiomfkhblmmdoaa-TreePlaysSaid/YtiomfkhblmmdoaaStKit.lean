/- Numbers that came in, what turns and what stays, rows: for every stage that has states behind pointers. No statement of the seat is proved here. -/
import Derived.Test.YtiomfkhblmmdoaaArgB
import Derived.Test.YtiomfkhblmmdoaaOwnRow
import Derived.Deep.MidRow
namespace Go.Proofs.Ytiomfkhblmmdoaa
open Go.ChangeShapes Go.WideShapes Go.ChangeAt Go.RowKit
set_option linter.unusedVariables false
set_option linter.unusedSimpArgs false

theorem RdV.more {w : World} {B B' : Nat} {A : Option Addr} {vs : List Value} (h : RdV w B A vs) (hB : B ≤ B') : RdV w B' A vs := fun hn => by
  obtain ⟨g, off, e, hg, hc⟩ := h hn
  exact ⟨g, off, e, by omega, hc⟩
theorem RdV.below {w w' : World} {B : Nat} {A : Option Addr} {vs : List Value} (h : RdV w B A vs) (hb : Below B w w') : RdV w' B A vs := fun hn => by
  obtain ⟨g, off, e, hg, hc⟩ := h hn
  exact ⟨g, off, e, hg, fun j hj => (hb.cell (p := ⟨g, off + j, none⟩) hg).trans (hc j hj)⟩
theorem RdV.nil (w : World) (B : Nat) (A : Option Addr) : RdV w B A [] := fun h => absurd h (by simp)
/-- Numbers in cells. -/
def iv (l : List Int) : List Value := l.map (Value.int .i64)
theorem iv_length (l : List Int) : (iv l).length = l.length := by simp [iv]
theorem iv_get {l : List Int} {j : Nat} (h : j < l.length) : (iv l)[j]? = some (.int .i64 l[j]) := by simp [iv, h]
def In64 (x : Int) : Prop := -9223372036854775808 ≤ x ∧ x ≤ 9223372036854775807
theorem in64 {x : Int} (h : (Lit.int .i64 x).wf = true) : In64 x := by
  have := bounds_i64 h
  exact ⟨by omega, by omega⟩
/-- Of what was there only blocks of F have turned. -/
structure Only (F : Nat → Prop) (w w' : World) : Prop where
  os : w'.os = w.os
  tape : w'.tape = w.tape
  output : w'.output = w.output
  size : w.heap.size ≤ w'.heap.size
  block : ∀ g, g < w.heap.size → ¬ F g → w'.heap[g]? = w.heap[g]?
theorem Only.of_below {F : Nat → Prop} {w w' : World} (h : Below w.heap.size w w') : Only F w w' := ⟨h.os, h.tape, h.output, h.size, fun g hg _ => h.block g hg⟩
theorem Only.below {F : Nat → Prop} {B : Nat} {w w' : World} (h : Only F w w') (hF : ∀ g, F g → B ≤ g) (hB : B ≤ w.heap.size) : Below B w w' :=
  ⟨h.os, h.tape, h.output, h.size, fun g hg => h.block g (by omega) fun hf => by have := hF g hf; omega⟩
theorem Only.trans {F G : Nat → Prop} {w w' w'' : World} (h : Only F w w') (h' : Only G w' w'') (hG : ∀ g, G g → F g ∨ w.heap.size ≤ g) : Only F w w'' :=
  ⟨h'.os.trans h.os, h'.tape.trans h.tape, h'.output.trans h.output, Nat.le_trans h.size h'.size, fun g hg hn =>
    (h'.block g (Nat.lt_of_lt_of_le hg h.size) fun hf => (hG g hf).elim hn fun h => by omega).trans (h.block g hg hn)⟩
theorem ownsRow_form2 {w : World} {base : Nat} {e : TypeId} {n c : Nat} {A : Option Addr} {xs : List Value} (h : w.ownsRow base e 1 (.slice A n c) n xs) : n ≤ c ∧ c ≤ maxLen := by
  obtain ⟨A', c', e, h1, h2⟩ := ownsRow_form h
  injection e with _ _ e
  subst e
  exact ⟨h1, h2⟩
/-- A slice that is not of those blocks. -/
def Out (F : Nat → Prop) (A : Option Addr) (n : Nat) : Prop := ∀ ad, A = some ad → 0 < n → ¬ F ad.block
/-- The state has turned to S' and its blocks to some F'; of what was there only F has turned. -/
def Turned {σ : Type} (St : World → Addr → (Nat → Prop) → σ → Prop) (w : World) (s : Addr) (F : Nat → Prop) (w' : World) (S' : σ) : Prop :=
  ∃ F', St w' s F' S' ∧ (∀ g, F' g → F g ∨ w.heap.size ≤ g) ∧ Only F w w'
theorem row_blk {w : World} {B n c sz : Nat} {e : TypeId} {A : Option Addr} {xs : List Value} (h : w.ownsRow B e sz (.slice A n c) n xs) : ∀ g, (Value.slice A n c).ownBlock = some g → A = some ⟨g, 0, none⟩ ∧ ∃ cur, Blk w g e cur ∧ cur.size = c * sz ∧ n ≤ c ∧ cur.toList.take (n * sz) = xs := fun g hv => by
  rcases h.2 with ⟨hv2, _⟩ | ⟨g2, cap, cur, hv2, _, hh, hnc, _, hcs, ht⟩
  · rw [hv2] at hv; cases hv
  · have hv3 := hv2
    rw [hv2] at hv
    injection hv with hv
    have hv : g2 = g := hv
    subst hv
    injection hv3 with hA _ hc
    exact ⟨hA, cur, hh, by rw [hc]; exact hcs, by rw [hc]; exact hnc, ht⟩
theorem row_at {w : World} {B n c sz : Nat} {e : TypeId} {A : Option Addr} {xs : List Value} (h : w.ownsRow B e sz (.slice A n c) n xs) (h0 : 0 < n) : ∃ g, A = some ⟨g, 0, none⟩ ∧ (Value.slice A n c).ownBlock = some g ∧ g < w.heap.size ∧ ∀ j v, xs[j]? = some v → w.cell? ⟨g, j, none⟩ = some v ∧ w.frozen? ⟨g, j, none⟩ = false := by
  rcases h.2 with ⟨_, h1⟩ | ⟨g, cap, cur, hv, _, hh, hnc, _, hcs, ht⟩
  · omega
  · injection hv with hA _ hc
    refine ⟨g, hA, by rw [hA]; rfl, (Array.getElem?_eq_some_iff.1 hh).1, fun j v hv => ⟨?_, frozen_of_row w g j cur _ hh⟩⟩
    rw [cell_of_row w g j cur _ (0, 0) hh]
    rw [← ht, List.getElem?_take] at hv
    split at hv
    · simpa using hv
    · cases hv
theorem blk_other {w : World} {a b : Nat} {s t : TypeId} {cs ds : Array Value} (h : Blk w a s cs) (k : Blk w b t ds) (hne : s ≠ t) : a ≠ b := by
  rintro rfl
  have h1 : w.heap[a]? = some (.cells cs s (0, 0)) := h
  have h2 : w.heap[a]? = some (.cells ds t (0, 0)) := k
  rw [h1] at h2
  injection h2 with h2
  injection h2 with _ h2 _
  exact hne h2
theorem grown_cell (W : World) (b i : Nat) (v : Value) : W.grownBy (W.setCell ⟨b, i, none⟩ v) (some b) := setCell_grown (World.grownBy.refl W _)
theorem grown_trans {a b c : World} {row : Option Nat} (h : a.grownBy b row) (k : b.grownBy c row) : a.grownBy c row :=
  ⟨k.os.trans h.os, k.tape.trans h.tape, k.output.trans h.output, Nat.le_trans h.size k.size, fun i hi hn => (k.block i (Nat.lt_of_lt_of_le hi h.size) hn).trans (h.block i hi hn)⟩
theorem only_grown {F : Nat → Prop} {w w' : World} {g : Nat} (h : w.grownBy w' (some g)) (hF : F g) : Only F w w' := ⟨h.os, h.tape, h.output, h.size, fun k hk hn => h.block k hk fun e => hn (by injection e with e; rw [e]; exact hF)⟩
theorem only_refl (F : Nat → Prop) (w : World) : Only F w w := Only.of_below (Below.refl _ _)
theorem only_trans {F : Nat → Prop} {a b c : World} (h : Only F a b) (k : Only F b c) : Only F a c := h.trans k fun g hg => .inl hg
theorem row_set {w : World} {B n c g i : Nat} {e : TypeId} {A : Option Addr} {xs : List Value} (h : w.ownsRow B e 1 (.slice A n c) n xs) (hg : (Value.slice A n c).ownBlock = some g) (v : Value) : (w.setCell ⟨g, i, none⟩ v).ownsRow B e 1 (.slice A n c) n (xs.set i v) := by
  rcases h.2 with ⟨hv, _⟩ | ⟨g1, cap, cur, hv, hb, hh, hnc, hm, hcs, ht⟩
  · rw [hv] at hg; cases hg
  · have hv2 := hv
    rw [hv] at hg
    injection hg with hg
    have hg : g1 = g := hg
    subst hg
    have hB : Blk w g1 e cur := hh
    refine ⟨by rw [List.length_set]; exact h.1, .inr ⟨g1, cap, cur.setIfInBounds i v, hv2, hb, hB.set_ i _, hnc, hm, by simpa using hcs, ?_⟩⟩
    rw [← ht]
    simp [List.take_set]
theorem flat_len {α : Type} (g : α → List Value) (k : Nat) : ∀ l : List α, (∀ x ∈ l, (g x).length = k) → (l.flatMap g).length = l.length * k
  | [], _ => by simp
  | x :: l, h => by
    rw [List.flatMap_cons, List.length_append, h x (by simp), flat_len g k l fun y hy => h y (by simp [hy]), List.length_cons, Nat.add_mul]
    omega
theorem flat_at {α : Type} (g : α → List Value) (k : Nat) : ∀ (l : List α), (∀ x ∈ l, (g x).length = k) → ∀ i (hi : i < l.length) j, j < k → (l.flatMap g)[i * k + j]? = (g l[i])[j]?
  | [], _, i, hi, _, _ => by simp at hi
  | x :: l, h, 0, _, j, hj => by
    rw [List.flatMap_cons, Nat.zero_mul, Nat.zero_add, List.getElem?_append_left (by rw [h x (by simp)]; exact hj)]
    rfl
  | x :: l, h, i + 1, hi, j, hj => by
    have hx := h x (by simp)
    rw [List.flatMap_cons, List.getElem?_append_right (by rw [hx, Nat.add_mul]; omega), hx, show (i + 1) * k + j - k = i * k + j by rw [Nat.add_mul]; omega]
    exact flat_at g k l (fun y hy => h y (by simp [hy])) i (by simpa using hi) j hj
theorem splice_left {α : Type} (X Y : List α) (o : Nat) (vs : List α) (h : o + vs.length ≤ X.length) : splice (X ++ Y) o vs = splice X o vs ++ Y := by
  unfold splice
  rw [List.take_append_of_le_length (by omega), List.drop_append_of_le_length (by omega)]
  simp
theorem splice_right {α : Type} (X Y : List α) (vs : List α) : splice (X ++ Y) X.length vs = X ++ (vs ++ Y.drop vs.length) := by
  unfold splice
  rw [List.take_left', List.drop_append]
  · simp
  · rfl
theorem take_splice {α : Type} (L : List α) (o m : Nat) (vs : List α) (h : o + vs.length ≤ m) (hm : m ≤ L.length) : (splice L o vs).take m = splice (L.take m) o vs := by
  have e : L = L.take m ++ L.drop m := (List.take_append_drop m L).symm
  have hl : (L.take m).length = m := by rw [List.length_take]; omega
  rw [e, splice_left _ _ _ _ (by rw [hl]; exact h), List.take_append_of_le_length (by rw [length_splice _ _ _ (by rw [hl]; exact h), hl]; exact Nat.le_refl _), List.take_of_length_le (by rw [length_splice _ _ _ (by rw [hl]; exact h), hl]; exact Nat.le_refl _), ← e]
theorem bv_one (l : List UInt8) : ∀ v ∈ bv l, v.oneCell' = true := fun v hv => by
  simp only [bv, List.mem_map] at hv
  obtain ⟨x, _, rfl⟩ := hv
  rfl
theorem grown_cells (b : Nat) : ∀ (vs : List Value) (o : Nat) (w : World), w.grownBy (w.setCells b o vs) (some b)
  | [], o, w => World.grownBy.refl w _
  | v :: vs, o, w => grown_trans (grown_cell w b o v) (grown_cells b vs (o + 1) _)
theorem blk_cells {g : Nat} {t : TypeId} : ∀ (vs : List Value) (o : Nat) (w : World) (cs : Array Value), Blk w g t cs → o + vs.length ≤ cs.size → Blk (w.setCells g o vs) g t (splice cs.toList o vs).toArray
  | [], o, w, cs, h, _ => by
    have e : (splice cs.toList o []).toArray = cs := by simp [splice]
    rw [e]
    exact h
  | v :: vs, o, w, cs, h, hl => by
    have h1 := blk_cells vs (o + 1) (w.setCell ⟨g, o, none⟩ v) (cs.setIfInBounds o v) (h.set_ o v) (by simp at hl ⊢; omega)
    have e : splice (cs.setIfInBounds o v).toList (o + 1) vs = splice cs.toList o (v :: vs) := by
      have h2 := list_seg_step cs.toList o v vs (by simp at hl ⊢; omega)
      unfold splice
      rw [Array.toList_setIfInBounds, ← List.append_assoc, ← List.append_assoc, List.length_cons]
      exact h2
    rw [e] at h1
    exact h1
theorem row_splice {w : World} {B n c sz g o : Nat} {e : TypeId} {A : Option Addr} {xs : List Value} (h : w.ownsRow B e sz (.slice A n c) n xs) (hg : (Value.slice A n c).ownBlock = some g) (vs : List Value) (ho : o + vs.length ≤ n * sz) :
    (w.setCells g o vs).ownsRow B e sz (.slice A n c) n (splice xs o vs) := by
  rcases h.2 with ⟨hv, _⟩ | ⟨g1, cap, cur, hv, hb, hh, hnc, hm, hcs, ht⟩
  · rw [hv] at hg; cases hg
  · have hv2 := hv
    rw [hv] at hg
    injection hg with hg
    have hg : g1 = g := hg
    subst hg
    have hB : Blk w g1 e cur := hh
    have hle : n * sz ≤ cur.size := by rw [hcs]; exact Nat.mul_le_mul_right sz hnc
    refine ⟨by rw [length_splice _ _ _ (by rw [h.1]; exact ho), h.1], .inr ⟨g1, cap, _, hv2, hb, blk_cells vs o w cur hB (by omega), hnc, hm, ?_, ?_⟩⟩
    · rw [List.size_toArray, length_splice _ _ _ (by rw [Array.length_toList (xs := cur)]; omega), Array.length_toList, hcs]
    · rw [List.toList_toArray, take_splice _ _ _ _ ho (by rw [Array.length_toList (xs := cur)]; exact hle), ht]
section
variable {σ : Type} {St : World → Addr → (Nat → Prop) → σ → Prop} {w0 w w' : World} {s : Addr} {F N : Nat → Prop} {S S' : σ}
theorem rd_only {A : Option Addr} {b : List UInt8} (h : Only N w0 w) (hr : Rd w0 w0.heap.size A b) (ho : Out N A b.length) : Rd w w0.heap.size A b := fun h0 => by
  obtain ⟨g, off, e, hg, hc⟩ := hr h0
  exact ⟨g, off, e, hg, fun j hj => (World.cell?_of_block (h.block g hg (ho _ e h0))).trans (hc j hj)⟩
theorem rdv_only {A : Option Addr} {b : List Value} (h : Only N w0 w) (hr : RdV w0 w0.heap.size A b) (ho : Out N A b.length) : RdV w w0.heap.size A b := fun h0 => by
  obtain ⟨g, off, e, hg, hc⟩ := hr h0
  exact ⟨g, off, e, hg, fun j hj => (World.cell?_of_block (h.block g hg (ho _ e h0))).trans (hc j hj)⟩
theorem out_more {n : Nat} {A : Option Addr} {b : List UInt8} (hr : Rd w0 w0.heap.size A b) (hl : b.length = n) (ho : Out N A n) (hF : ∀ g, F g → N g ∨ w0.heap.size ≤ g) : Out F A n := fun ad e h0 hf => by
  obtain ⟨g, off, e2, hg, _⟩ := hr (by omega)
  rcases hF _ hf with h | h
  · exact ho ad e h0 h
  · rw [e] at e2
    injection e2 with e2
    rw [e2] at h
    exact absurd hg (by simpa using h)
theorem out_morev {n : Nat} {A : Option Addr} {b : List Value} (hr : RdV w0 w0.heap.size A b) (hl : b.length = n) (ho : Out N A n) (hF : ∀ g, F g → N g ∨ w0.heap.size ≤ g) : Out F A n := fun ad e h0 hf => by
  obtain ⟨g, off, e2, hg, _⟩ := hr (by omega)
  rcases hF _ hf with h | h
  · exact ho ad e h0 h
  · rw [e] at e2
    injection e2 with e2
    rw [e2] at h
    exact absurd hg (by simpa using h)
theorem out_none (A : Option Addr) (n : Nat) : Out (fun _ => False) A n := fun _ _ _ h => h
theorem Turned.refl (h : St w s F S) : Turned St w s F w S := ⟨F, h, fun g hg => .inl hg, Only.of_below (Below.refl _ _)⟩
/-- What turns further turns from w0 on. -/
theorem Turned.step (h2 : ∀ g, F g → N g ∨ w0.heap.size ≤ g) (h3 : Only N w0 w) (ht : Turned St w s F w' S') : Turned St w0 s N w' S' := by
  obtain ⟨F', a1, a2, a3⟩ := ht
  exact ⟨F', a1, fun g hg => (a2 g hg).elim (fun hf => h2 g hf) (fun hf => .inr (Nat.le_trans h3.size hf)), h3.trans a3 h2⟩
theorem Turned.only (h : Turned St w0 s N w S) : Only N w0 w := by
  obtain ⟨F, _, _, h3⟩ := h
  exact h3
theorem Turned.bel (h : Turned St w0 s (fun _ => False) w S) : Below w0.heap.size w0 w := h.only.below (fun g hg => hg.elim) (Nat.le_refl _)
theorem Turned.more {v0 : World} (h : Turned St w0 s (fun _ => False) w S) (hb : Below v0.heap.size v0 w0) : Turned St v0 s (fun _ => False) w S := by
  obtain ⟨F, h1, h2, h3⟩ := h
  exact ⟨F, h1, fun g hg => (h2 g hg).elim (fun h => h.elim) (fun h => .inr (Nat.le_trans hb.size h)), (Only.of_below (F := fun _ => False) hb).trans h3 fun g hg => hg.elim⟩
theorem Turned.on' (hl : ∀ {w s F S}, St w s F S → ∀ g, F g → g < w.heap.size) (hk : ∀ {w w' : World} {s F S}, St w s F S → (∀ g, F g → w'.heap[g]? = w.heap[g]?) → St w' s F S) (h : Turned St w0 s N w S) (hb : Below w.heap.size w w') : Turned St w0 s N w' S := by
  obtain ⟨F, h1, h2, h3⟩ := h
  exact ⟨F, hk h1 fun g hg => hb.block g (hl h1 g hg), h2, h3.trans (Only.of_below (F := F) hb) h2⟩
end
theorem in64_lit {x : Int} (h : -100 ≤ x) (h2 : x ≤ 100) : In64 x := ⟨by omega, by omega⟩
/-- A row of the call's own stays where only blocks ahead of its base have turned. -/
theorem own_turn {w w' : World} {base sz n : Nat} {e : TypeId} {v : Value} {xs : List Value} {F : Nat → Prop} (h : w.ownsRow base e sz v n xs) (hF : ∀ g, F g → g < base ∨ w.heap.size ≤ g) (ho : Only F w w') : w'.ownsRow base e sz v n xs :=
  ownsRow_same h fun g hv hl => ho.block g hl fun hf => by
    have := World.ownsRow.lt h g hv
    rcases hF g hf with h | h <;> omega
theorem form_any {w : World} {base : Nat} {e : TypeId} {sz n : Nat} {v : Value} {xs : List Value} (h : w.ownsRow base e sz v n xs) : ∃ A c, v = .slice A n c := by
  rcases h.2 with ⟨rfl, rfl⟩ | ⟨g, cap, cur, rfl, _⟩
  · exact ⟨_, _, rfl⟩
  · exact ⟨_, _, rfl⟩
/-- 'append(v, ys...)', v the call's own, ys a row of elements of many cells. -/
theorem wpList_append_src {P : Program} {w : World} {ops : Array Oper} {rest : List Oper} {o : Oper} {a : Act} {Q : Exit → Act → World → Prop} (hgd : o.guard = none) (s x : Operand) (t : TypeId)
    (ho : o.op = .call { callee := .builtin .append, args := #[s, x], argTypes := #[t, t] })
    (base : Nat) (e : TypeId) (i : TypeInfo) (z : Value) (size bytes : Nat) (ht : P.underlying t = some (.slice e)) (hi : P.info? e = some i) (hz : i.zero = some z) (hsize : i.size = size) (hby : i.bytes = bytes) (hzs : z.cells.size = size) (hsz : 0 < size)
    (v : Value) (n : Nat) (xs : List Value) (hs : a.eval s = v) (hown : w.ownsRow base e size v n xs)
    (ad : Addr) (m c : Nat) (news : List Value) (hx : a.eval x = .slice (some ad) m c) (hl : news.length = m * size) (hnews : ∀ j u, news[j]? = some u → w.cell? (ad.add j) = some u) (h1 : ∀ u ∈ news, u.oneCell' = true)
    (h63 : n + m ≤ maxLen) (hbytes : (n + m) * bytes ≤ 140737488355328) (hbase : base ≤ w.heap.size)
    (h : ∀ A' c' w', w'.ownsRow base e size (.slice A' (n + m) c') (n + m) (xs ++ news) → w.grownBy w' v.ownBlock → wpList P ops Q rest (a.put o.dst (.slice A' (n + m) c')) w') : wpList P ops Q (o :: rest) a w := by
  obtain ⟨v', w', hr, h2, h3, _⟩ := run_append_own (P := P) w base t o.type e i z size bytes ht hi hz hsize hby hzs hsz v n xs hown ad m c news hl hnews h1 h63 hbytes hbase
  obtain ⟨A', c', rfl⟩ := form_any h2
  refine wpList_plain hgd fun K hK => ?_
  unfold Oper.wp execOp
  simp only [ho, resolve, invoke, builtin, Sem.run_bind, Sem.run_pure, Result.andThen_ok, List.map_toArray, List.map_cons, List.map_nil, hs, hx, hr]
  exact hK _ _ (h A' c' w' h2 h3)
end Go.Proofs.Ytiomfkhblmmdoaa
