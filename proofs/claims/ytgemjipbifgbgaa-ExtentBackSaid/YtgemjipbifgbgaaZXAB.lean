/- Rows of bytes of the call's own: what stays, what is written over. No statement of the seat is proved here. -/
import Derived.Test.YtgemjipbifgbgaaZXAA
import Derived.Deep.MidRow
import Derived.Maps.OwnSet
import Derived.Maps.OwnOps
import Derived.DeepKeys4
import Derived.Laws.StructEq
namespace Go.Proofs.Ytgemjipbifgbgaa
open Go.RowKit

theorem ownsRow_same {w w' : World} {b : Nat} {e : TypeId} {s n : Nat} {v : Value} {xs : List Value} (h : w.ownsRow b e s v n xs) (hk : ∀ g, v.ownBlock = some g → g < w.heap.size → w'.heap[g]? = w.heap[g]?) : w'.ownsRow b e s v n xs := by
  refine ⟨h.1, ?_⟩
  rcases h.2 with hn | ⟨g, cap, cur, rfl, hbg, hgg, rest⟩
  · exact .inl hn
  · exact .inr ⟨g, cap, cur, rfl, hbg, (hk g rfl (Array.getElem?_eq_some_iff.1 hgg).1).trans hgg, rest⟩
theorem ownsRow_grown {w w' : World} {b : Nat} {e : TypeId} {s n : Nat} {v : Value} {xs : List Value} {r : Option Nat} (h : w.ownsRow b e s v n xs) (hg : w.grownBy w' r) (hr : ∀ g, r = some g → v.ownBlock ≠ some g) : w'.ownsRow b e s v n xs :=
  ownsRow_same h fun g hv hl => hg.block g hl fun e => hr g e.symm hv
theorem setCell_block {w : World} {g g' i : Nat} {v : Value} (h : g' ≠ g) : (w.setCell ⟨g, i, none⟩ v).heap[g']? = w.heap[g']? := by
  simp [World.setCell, Array.getElem?_modify]
  intro e; exact absurd e.symm h
theorem setCell_size {w : World} {g i : Nat} {v : Value} : (w.setCell ⟨g, i, none⟩ v).heap.size = w.heap.size := by simp [World.setCell]
theorem setCell_grown {w0 w : World} {g i : Nat} {v : Value} (h : w0.grownBy w (some g)) : w0.grownBy (w.setCell ⟨g, i, none⟩ v) (some g) :=
  ⟨h.os, h.tape, h.output, by rw [setCell_size]; exact h.size, fun k hk hn => (setCell_block (fun e => hn (by rw [e]))).trans (h.block k hk hn)⟩
/-- A byte of a row of the call's own. -/
theorem own_at {w : World} {b n c : Nat} {e : TypeId} {A : Option Addr} {l : List UInt8} (h : w.ownsRow b e 1 (.slice A n c) n (bv l)) {k : Nat} (hk : k < n) :
    ∃ g x, A = some ⟨g, 0, none⟩ ∧ (Value.slice A n c).ownBlock = some g ∧ w.cell? ⟨g, k, none⟩ = some (.int .u8 ((x : UInt8).toNat : Nat)) ∧ w.frozen? ⟨g, k, none⟩ = false := by
  have hl : l.length = n := by have := h.1; rw [bv_length] at this; omega
  rcases h.2 with ⟨_, h0⟩ | ⟨g, cap, cur, hv, _, hh, hnc, _, hcs, ht⟩
  · omega
  · injection hv with hA _ _
    refine ⟨g, l[k], hA, by rw [hA]; rfl, ?_, frozen_of_row w g k cur _ hh⟩
    rw [cell_of_row w g k cur _ (0, 0) hh]
    have hu : (bv l)[k]? = some (.int .u8 (l[k]).toNat) := bv_get (by omega)
    rw [← ht, List.getElem?_take] at hu
    split at hu
    · simpa using hu
    · cases hu
/-- The row stays one when a byte is written into its block, or into another one. -/
theorem own_set {w : World} {b n g j : Nat} {ty : TypeId} {v : Value} {l : List UInt8} (h : w.ownsRow b ty 1 v n (bv l)) (x : UInt8) : ∃ l', (w.setCell ⟨g, j, none⟩ (.int .u8 x.toNat)).ownsRow b ty 1 v n (bv l') := by
  by_cases hg : v.ownBlock = some g
  · rcases h.2 with ⟨rfl, _⟩ | ⟨g1, cap, cur, rfl, hb, hh, hnc, hm, hcs, ht⟩
    · simp [Value.ownBlock] at hg
    · simp [Value.ownBlock] at hg
      subst hg
      have hB : Blk w g1 ty cur := hh
      refine ⟨l.set j x, ⟨by rw [bv_length, List.length_set, ← bv_length]; exact h.1, .inr ⟨g1, cap, cur.setIfInBounds j (.int .u8 x.toNat), rfl, hb, hB.set_ j _, hnc, hm, by simpa using hcs, ?_⟩⟩⟩
      have e : bv (l.set j x) = (bv l).set j (.int .u8 x.toNat) := by simp [bv, List.map_set]
      rw [e, ← ht]
      simp [List.take_set]
  · exact ⟨l, ownsRow_same h fun g' hv _ => setCell_block fun e => hg (by rw [hv, e])⟩
/-- What a row of the call's own is written over: all stays but its own block. -/
theorem own_xor {w : World} {b n c k : Nat} {e : TypeId} {A : Option Addr} {l : List UInt8} (h : w.ownsRow b e 1 (.slice A n c) n (bv l)) (hk : k < n) :
    ∃ g x, A = some ⟨g, 0, none⟩ ∧ (Value.slice A n c).ownBlock = some g ∧ w.cell? ⟨g, k, none⟩ = some (.int .u8 ((x : UInt8).toNat : Nat)) ∧ w.frozen? ⟨g, k, none⟩ = false ∧ g < w.heap.size ∧ b ≤ g := by
  obtain ⟨g, x, h1, h2, h3, h4⟩ := own_at h hk
  exact ⟨g, x, h1, h2, h3, h4, World.block_lt_of_cell? w _ h3, (h.lt g h2).1⟩
end Go.Proofs.Ytgemjipbifgbgaa
/- Numbers that came in, what turns and what stays, rows: for every stage that has states behind pointers. No statement of the seat is proved here. -/
namespace Go.Proofs.Ytgemjipbifgbgaa
open Go.ChangeShapes Go.WideShapes Go.ChangeAt Go.RowKit
set_option linter.unusedVariables false
set_option linter.unusedSimpArgs false

theorem RdV.more {w : World} {B B' : Nat} {A : Option Addr} {vs : List Value} (h : RdV w B A vs) (hB : B ≤ B') : RdV w B' A vs := fun hn => by
  obtain ⟨g, off, e, hg, hc⟩ := h hn
  exact ⟨g, off, e, by omega, hc⟩
theorem RdV.below {w w' : World} {B : Nat} {A : Option Addr} {vs : List Value} (h : RdV w B A vs) (hb : Below B w w') : RdV w' B A vs := fun hn => by
  obtain ⟨g, off, e, hg, hc⟩ := h hn
  exact ⟨g, off, e, hg, fun j hj => (hb.cell (p := ⟨g, off + j, none⟩) hg).trans (hc j hj)⟩
theorem RdV.nil (w : World) (B : Nat) (A : Option Addr) : RdV w B A [] := fun h => absurd h (by simp)
/-- Numbers in cells. -/
def iv (l : List Int) : List Value := l.map (Value.int .i64)
theorem iv_length (l : List Int) : (iv l).length = l.length := by simp [iv]
theorem iv_get {l : List Int} {j : Nat} (h : j < l.length) : (iv l)[j]? = some (.int .i64 l[j]) := by simp [iv, h]
def In64 (x : Int) : Prop := -9223372036854775808 ≤ x ∧ x ≤ 9223372036854775807
theorem in64 {x : Int} (h : (Lit.int .i64 x).wf = true) : In64 x := by
  have := bounds_i64 h
  exact ⟨by omega, by omega⟩
/-- Of what was there only blocks of F have turned. -/
structure Only (F : Nat → Prop) (w w' : World) : Prop where
  os : w'.os = w.os
  tape : w'.tape = w.tape
  output : w'.output = w.output
  size : w.heap.size ≤ w'.heap.size
  block : ∀ g, g < w.heap.size → ¬ F g → w'.heap[g]? = w.heap[g]?
theorem Only.of_below {F : Nat → Prop} {w w' : World} (h : Below w.heap.size w w') : Only F w w' := ⟨h.os, h.tape, h.output, h.size, fun g hg _ => h.block g hg⟩
theorem Only.below {F : Nat → Prop} {B : Nat} {w w' : World} (h : Only F w w') (hF : ∀ g, F g → B ≤ g) (hB : B ≤ w.heap.size) : Below B w w' :=
  ⟨h.os, h.tape, h.output, h.size, fun g hg => h.block g (by omega) fun hf => by have := hF g hf; omega⟩
theorem Only.trans {F G : Nat → Prop} {w w' w'' : World} (h : Only F w w') (h' : Only G w' w'') (hG : ∀ g, G g → F g ∨ w.heap.size ≤ g) : Only F w w'' :=
  ⟨h'.os.trans h.os, h'.tape.trans h.tape, h'.output.trans h.output, Nat.le_trans h.size h'.size, fun g hg hn =>
    (h'.block g (Nat.lt_of_lt_of_le hg h.size) fun hf => (hG g hf).elim hn fun h => by omega).trans (h.block g hg hn)⟩
theorem ownsRow_form2 {w : World} {base : Nat} {e : TypeId} {n c : Nat} {A : Option Addr} {xs : List Value} (h : w.ownsRow base e 1 (.slice A n c) n xs) : n ≤ c ∧ c ≤ maxLen := by
  obtain ⟨A', c', e, h1, h2⟩ := ownsRow_form h
  injection e with _ _ e
  subst e
  exact ⟨h1, h2⟩
/-- A slice that is not of those blocks. -/
def Out (F : Nat → Prop) (A : Option Addr) (n : Nat) : Prop := ∀ ad, A = some ad → 0 < n → ¬ F ad.block
/-- The state has turned to S' and its blocks to some F'; of what was there only F has turned. -/
def Turned {σ : Type} (St : World → Addr → (Nat → Prop) → σ → Prop) (w : World) (s : Addr) (F : Nat → Prop) (w' : World) (S' : σ) : Prop :=
  ∃ F', St w' s F' S' ∧ (∀ g, F' g → F g ∨ w.heap.size ≤ g) ∧ Only F w w'
theorem row_blk {w : World} {B n c sz : Nat} {e : TypeId} {A : Option Addr} {xs : List Value} (h : w.ownsRow B e sz (.slice A n c) n xs) : ∀ g, (Value.slice A n c).ownBlock = some g → A = some ⟨g, 0, none⟩ ∧ ∃ cur, Blk w g e cur ∧ cur.size = c * sz ∧ n ≤ c ∧ cur.toList.take (n * sz) = xs := fun g hv => by
  rcases h.2 with ⟨hv2, _⟩ | ⟨g2, cap, cur, hv2, _, hh, hnc, _, hcs, ht⟩
  · rw [hv2] at hv; cases hv
  · have hv3 := hv2
    rw [hv2] at hv
    injection hv with hv
    have hv : g2 = g := hv
    subst hv
    injection hv3 with hA _ hc
    exact ⟨hA, cur, hh, by rw [hc]; exact hcs, by rw [hc]; exact hnc, ht⟩
theorem row_at {w : World} {B n c sz : Nat} {e : TypeId} {A : Option Addr} {xs : List Value} (h : w.ownsRow B e sz (.slice A n c) n xs) (h0 : 0 < n) : ∃ g, A = some ⟨g, 0, none⟩ ∧ (Value.slice A n c).ownBlock = some g ∧ g < w.heap.size ∧ ∀ j v, xs[j]? = some v → w.cell? ⟨g, j, none⟩ = some v ∧ w.frozen? ⟨g, j, none⟩ = false := by
  rcases h.2 with ⟨_, h1⟩ | ⟨g, cap, cur, hv, _, hh, hnc, _, hcs, ht⟩
  · omega
  · injection hv with hA _ hc
    refine ⟨g, hA, by rw [hA]; rfl, (Array.getElem?_eq_some_iff.1 hh).1, fun j v hv => ⟨?_, frozen_of_row w g j cur _ hh⟩⟩
    rw [cell_of_row w g j cur _ (0, 0) hh]
    rw [← ht, List.getElem?_take] at hv
    split at hv
    · simpa using hv
    · cases hv
theorem blk_other {w : World} {a b : Nat} {s t : TypeId} {cs ds : Array Value} (h : Blk w a s cs) (k : Blk w b t ds) (hne : s ≠ t) : a ≠ b := by
  rintro rfl
  have h1 : w.heap[a]? = some (.cells cs s (0, 0)) := h
  have h2 : w.heap[a]? = some (.cells ds t (0, 0)) := k
  rw [h1] at h2
  injection h2 with h2
  injection h2 with _ h2 _
  exact hne h2
theorem grown_cell (W : World) (b i : Nat) (v : Value) : W.grownBy (W.setCell ⟨b, i, none⟩ v) (some b) := setCell_grown (World.grownBy.refl W _)
theorem grown_trans {a b c : World} {row : Option Nat} (h : a.grownBy b row) (k : b.grownBy c row) : a.grownBy c row :=
  ⟨k.os.trans h.os, k.tape.trans h.tape, k.output.trans h.output, Nat.le_trans h.size k.size, fun i hi hn => (k.block i (Nat.lt_of_lt_of_le hi h.size) hn).trans (h.block i hi hn)⟩
theorem only_grown {F : Nat → Prop} {w w' : World} {g : Nat} (h : w.grownBy w' (some g)) (hF : F g) : Only F w w' := ⟨h.os, h.tape, h.output, h.size, fun k hk hn => h.block k hk fun e => hn (by injection e with e; rw [e]; exact hF)⟩
theorem only_refl (F : Nat → Prop) (w : World) : Only F w w := Only.of_below (Below.refl _ _)
theorem only_trans {F : Nat → Prop} {a b c : World} (h : Only F a b) (k : Only F b c) : Only F a c := h.trans k fun g hg => .inl hg
theorem row_set {w : World} {B n c g i : Nat} {e : TypeId} {A : Option Addr} {xs : List Value} (h : w.ownsRow B e 1 (.slice A n c) n xs) (hg : (Value.slice A n c).ownBlock = some g) (v : Value) : (w.setCell ⟨g, i, none⟩ v).ownsRow B e 1 (.slice A n c) n (xs.set i v) := by
  rcases h.2 with ⟨hv, _⟩ | ⟨g1, cap, cur, hv, hb, hh, hnc, hm, hcs, ht⟩
  · rw [hv] at hg; cases hg
  · have hv2 := hv
    rw [hv] at hg
    injection hg with hg
    have hg : g1 = g := hg
    subst hg
    have hB : Blk w g1 e cur := hh
    refine ⟨by rw [List.length_set]; exact h.1, .inr ⟨g1, cap, cur.setIfInBounds i v, hv2, hb, hB.set_ i _, hnc, hm, by simpa using hcs, ?_⟩⟩
    rw [← ht]
    simp [List.take_set]
theorem flat_len {α : Type} (g : α → List Value) (k : Nat) : ∀ l : List α, (∀ x ∈ l, (g x).length = k) → (l.flatMap g).length = l.length * k
  | [], _ => by simp
  | x :: l, h => by
    rw [List.flatMap_cons, List.length_append, h x (by simp), flat_len g k l fun y hy => h y (by simp [hy]), List.length_cons, Nat.add_mul]
    omega
theorem flat_at {α : Type} (g : α → List Value) (k : Nat) : ∀ (l : List α), (∀ x ∈ l, (g x).length = k) → ∀ i (hi : i < l.length) j, j < k → (l.flatMap g)[i * k + j]? = (g l[i])[j]?
  | [], _, i, hi, _, _ => by simp at hi
  | x :: l, h, 0, _, j, hj => by
    rw [List.flatMap_cons, Nat.zero_mul, Nat.zero_add, List.getElem?_append_left (by rw [h x (by simp)]; exact hj)]
    rfl
  | x :: l, h, i + 1, hi, j, hj => by
    have hx := h x (by simp)
    rw [List.flatMap_cons, List.getElem?_append_right (by rw [hx, Nat.add_mul]; omega), hx, show (i + 1) * k + j - k = i * k + j by rw [Nat.add_mul]; omega]
    exact flat_at g k l (fun y hy => h y (by simp [hy])) i (by simpa using hi) j hj
theorem splice_left {α : Type} (X Y : List α) (o : Nat) (vs : List α) (h : o + vs.length ≤ X.length) : splice (X ++ Y) o vs = splice X o vs ++ Y := by
  unfold splice
  rw [List.take_append_of_le_length (by omega), List.drop_append_of_le_length (by omega)]
  simp
theorem splice_right {α : Type} (X Y : List α) (vs : List α) : splice (X ++ Y) X.length vs = X ++ (vs ++ Y.drop vs.length) := by
  unfold splice
  rw [List.take_left', List.drop_append]
  · simp
  · rfl
theorem take_splice {α : Type} (L : List α) (o m : Nat) (vs : List α) (h : o + vs.length ≤ m) (hm : m ≤ L.length) : (splice L o vs).take m = splice (L.take m) o vs := by
  have e : L = L.take m ++ L.drop m := (List.take_append_drop m L).symm
  have hl : (L.take m).length = m := by rw [List.length_take]; omega
  rw [e, splice_left _ _ _ _ (by rw [hl]; exact h), List.take_append_of_le_length (by rw [length_splice _ _ _ (by rw [hl]; exact h), hl]; exact Nat.le_refl _), List.take_of_length_le (by rw [length_splice _ _ _ (by rw [hl]; exact h), hl]; exact Nat.le_refl _), ← e]
theorem bv_one (l : List UInt8) : ∀ v ∈ bv l, v.oneCell' = true := fun v hv => by
  simp only [bv, List.mem_map] at hv
  obtain ⟨x, _, rfl⟩ := hv
  rfl
theorem grown_cells (b : Nat) : ∀ (vs : List Value) (o : Nat) (w : World), w.grownBy (w.setCells b o vs) (some b)
  | [], o, w => World.grownBy.refl w _
  | v :: vs, o, w => grown_trans (grown_cell w b o v) (grown_cells b vs (o + 1) _)
theorem blk_cells {g : Nat} {t : TypeId} : ∀ (vs : List Value) (o : Nat) (w : World) (cs : Array Value), Blk w g t cs → o + vs.length ≤ cs.size → Blk (w.setCells g o vs) g t (splice cs.toList o vs).toArray
  | [], o, w, cs, h, _ => by
    have e : (splice cs.toList o []).toArray = cs := by simp [splice]
    rw [e]
    exact h
  | v :: vs, o, w, cs, h, hl => by
    have h1 := blk_cells vs (o + 1) (w.setCell ⟨g, o, none⟩ v) (cs.setIfInBounds o v) (h.set_ o v) (by simp at hl ⊢; omega)
    have e : splice (cs.setIfInBounds o v).toList (o + 1) vs = splice cs.toList o (v :: vs) := by
      have h2 := list_seg_step cs.toList o v vs (by simp at hl ⊢; omega)
      unfold splice
      rw [Array.toList_setIfInBounds, ← List.append_assoc, ← List.append_assoc, List.length_cons]
      exact h2
    rw [e] at h1
    exact h1
theorem row_splice {w : World} {B n c sz g o : Nat} {e : TypeId} {A : Option Addr} {xs : List Value} (h : w.ownsRow B e sz (.slice A n c) n xs) (hg : (Value.slice A n c).ownBlock = some g) (vs : List Value) (ho : o + vs.length ≤ n * sz) :
    (w.setCells g o vs).ownsRow B e sz (.slice A n c) n (splice xs o vs) := by
  rcases h.2 with ⟨hv, _⟩ | ⟨g1, cap, cur, hv, hb, hh, hnc, hm, hcs, ht⟩
  · rw [hv] at hg; cases hg
  · have hv2 := hv
    rw [hv] at hg
    injection hg with hg
    have hg : g1 = g := hg
    subst hg
    have hB : Blk w g1 e cur := hh
    have hle : n * sz ≤ cur.size := by rw [hcs]; exact Nat.mul_le_mul_right sz hnc
    refine ⟨by rw [length_splice _ _ _ (by rw [h.1]; exact ho), h.1], .inr ⟨g1, cap, _, hv2, hb, blk_cells vs o w cur hB (by omega), hnc, hm, ?_, ?_⟩⟩
    · rw [List.size_toArray, length_splice _ _ _ (by rw [Array.length_toList (xs := cur)]; omega), Array.length_toList, hcs]
    · rw [List.toList_toArray, take_splice _ _ _ _ ho (by rw [Array.length_toList (xs := cur)]; exact hle), ht]
section
variable {σ : Type} {St : World → Addr → (Nat → Prop) → σ → Prop} {w0 w w' : World} {s : Addr} {F N : Nat → Prop} {S S' : σ}
theorem rd_only {A : Option Addr} {b : List UInt8} (h : Only N w0 w) (hr : Rd w0 w0.heap.size A b) (ho : Out N A b.length) : Rd w w0.heap.size A b := fun h0 => by
  obtain ⟨g, off, e, hg, hc⟩ := hr h0
  exact ⟨g, off, e, hg, fun j hj => (World.cell?_of_block (h.block g hg (ho _ e h0))).trans (hc j hj)⟩
theorem rdv_only {A : Option Addr} {b : List Value} (h : Only N w0 w) (hr : RdV w0 w0.heap.size A b) (ho : Out N A b.length) : RdV w w0.heap.size A b := fun h0 => by
  obtain ⟨g, off, e, hg, hc⟩ := hr h0
  exact ⟨g, off, e, hg, fun j hj => (World.cell?_of_block (h.block g hg (ho _ e h0))).trans (hc j hj)⟩
theorem out_more {n : Nat} {A : Option Addr} {b : List UInt8} (hr : Rd w0 w0.heap.size A b) (hl : b.length = n) (ho : Out N A n) (hF : ∀ g, F g → N g ∨ w0.heap.size ≤ g) : Out F A n := fun ad e h0 hf => by
  obtain ⟨g, off, e2, hg, _⟩ := hr (by omega)
  rcases hF _ hf with h | h
  · exact ho ad e h0 h
  · rw [e] at e2
    injection e2 with e2
    rw [e2] at h
    exact absurd hg (by simpa using h)
theorem out_morev {n : Nat} {A : Option Addr} {b : List Value} (hr : RdV w0 w0.heap.size A b) (hl : b.length = n) (ho : Out N A n) (hF : ∀ g, F g → N g ∨ w0.heap.size ≤ g) : Out F A n := fun ad e h0 hf => by
  obtain ⟨g, off, e2, hg, _⟩ := hr (by omega)
  rcases hF _ hf with h | h
  · exact ho ad e h0 h
  · rw [e] at e2
    injection e2 with e2
    rw [e2] at h
    exact absurd hg (by simpa using h)
theorem out_none (A : Option Addr) (n : Nat) : Out (fun _ => False) A n := fun _ _ _ h => h
theorem Turned.refl (h : St w s F S) : Turned St w s F w S := ⟨F, h, fun g hg => .inl hg, Only.of_below (Below.refl _ _)⟩
/-- What turns further turns from w0 on. -/
theorem Turned.step (h2 : ∀ g, F g → N g ∨ w0.heap.size ≤ g) (h3 : Only N w0 w) (ht : Turned St w s F w' S') : Turned St w0 s N w' S' := by
  obtain ⟨F', a1, a2, a3⟩ := ht
  exact ⟨F', a1, fun g hg => (a2 g hg).elim (fun hf => h2 g hf) (fun hf => .inr (Nat.le_trans h3.size hf)), h3.trans a3 h2⟩
theorem Turned.only (h : Turned St w0 s N w S) : Only N w0 w := by
  obtain ⟨F, _, _, h3⟩ := h
  exact h3
theorem Turned.bel (h : Turned St w0 s (fun _ => False) w S) : Below w0.heap.size w0 w := h.only.below (fun g hg => hg.elim) (Nat.le_refl _)
theorem Turned.more {v0 : World} (h : Turned St w0 s (fun _ => False) w S) (hb : Below v0.heap.size v0 w0) : Turned St v0 s (fun _ => False) w S := by
  obtain ⟨F, h1, h2, h3⟩ := h
  exact ⟨F, h1, fun g hg => (h2 g hg).elim (fun h => h.elim) (fun h => .inr (Nat.le_trans hb.size h)), (Only.of_below (F := fun _ => False) hb).trans h3 fun g hg => hg.elim⟩
theorem Turned.on' (hl : ∀ {w s F S}, St w s F S → ∀ g, F g → g < w.heap.size) (hk : ∀ {w w' : World} {s F S}, St w s F S → (∀ g, F g → w'.heap[g]? = w.heap[g]?) → St w' s F S) (h : Turned St w0 s N w S) (hb : Below w.heap.size w w') : Turned St w0 s N w' S := by
  obtain ⟨F, h1, h2, h3⟩ := h
  exact ⟨F, hk h1 fun g hg => hb.block g (hl h1 g hg), h2, h3.trans (Only.of_below (F := F) hb) h2⟩
end
theorem conv_own {w : World} {B c n : Nat} {A : Option Addr} {l : List UInt8} (hl : l.length = n) (h : Rd w B A l) : (convert 37 9 (.slice A n c)).run Try.prog w = .ok (.string ⟨l.toArray⟩) w := by
  subst hl
  exact run_str _ _ _ Try.underlying37 Try.underlying5 Try.underlying9 h c
theorem in64_lit {x : Int} (h : -100 ≤ x) (h2 : x ≤ 100) : In64 x := ⟨by omega, by omega⟩
/-- A row of the call's own stays where only blocks ahead of its base have turned. -/
theorem own_turn {w w' : World} {base sz n : Nat} {e : TypeId} {v : Value} {xs : List Value} {F : Nat → Prop} (h : w.ownsRow base e sz v n xs) (hF : ∀ g, F g → g < base ∨ w.heap.size ≤ g) (ho : Only F w w') : w'.ownsRow base e sz v n xs :=
  ownsRow_same h fun g hv hl => ho.block g hl fun hf => by
    have := World.ownsRow.lt h g hv
    rcases hF g hf with h | h <;> omega
theorem form_any {w : World} {base : Nat} {e : TypeId} {sz n : Nat} {v : Value} {xs : List Value} (h : w.ownsRow base e sz v n xs) : ∃ A c, v = .slice A n c := by
  rcases h.2 with ⟨rfl, rfl⟩ | ⟨g, cap, cur, rfl, _⟩
  · exact ⟨_, _, rfl⟩
  · exact ⟨_, _, rfl⟩
/-- 'append(v, ys...)', v the call's own, ys a row of elements of many cells. -/
theorem wpList_append_src {P : Program} {w : World} {ops : Array Oper} {rest : List Oper} {o : Oper} {a : Act} {Q : Exit → Act → World → Prop} (hgd : o.guard = none) (s x : Operand) (t : TypeId)
    (ho : o.op = .call { callee := .builtin .append, args := #[s, x], argTypes := #[t, t] })
    (base : Nat) (e : TypeId) (i : TypeInfo) (z : Value) (size bytes : Nat) (ht : P.underlying t = some (.slice e)) (hi : P.info? e = some i) (hz : i.zero = some z) (hsize : i.size = size) (hby : i.bytes = bytes) (hzs : z.cells.size = size) (hsz : 0 < size)
    (v : Value) (n : Nat) (xs : List Value) (hs : a.eval s = v) (hown : w.ownsRow base e size v n xs)
    (ad : Addr) (m c : Nat) (news : List Value) (hx : a.eval x = .slice (some ad) m c) (hl : news.length = m * size) (hnews : ∀ j u, news[j]? = some u → w.cell? (ad.add j) = some u) (h1 : ∀ u ∈ news, u.oneCell' = true)
    (h63 : n + m ≤ maxLen) (hbytes : (n + m) * bytes ≤ 140737488355328) (hbase : base ≤ w.heap.size)
    (h : ∀ A' c' w', w'.ownsRow base e size (.slice A' (n + m) c') (n + m) (xs ++ news) → w.grownBy w' v.ownBlock → wpList P ops Q rest (a.put o.dst (.slice A' (n + m) c')) w') : wpList P ops Q (o :: rest) a w := by
  obtain ⟨v', w', hr, h2, h3, _⟩ := run_append_own (P := P) w base t o.type e i z size bytes ht hi hz hsize hby hzs hsz v n xs hown ad m c news hl hnews h1 h63 hbytes hbase
  obtain ⟨A', c', rfl⟩ := form_any h2
  refine wpList_plain hgd fun K hK => ?_
  unfold Oper.wp execOp
  simp only [ho, resolve, invoke, builtin, Sem.run_bind, Sem.run_pure, Result.andThen_ok, List.map_toArray, List.map_cons, List.map_nil, hs, hx, hr]
  exact hK _ _ (h A' c' w' h2 h3)
end Go.Proofs.Ytgemjipbifgbgaa
/- Rows of 35 cells: a key, two numbers (api.Row, api.Extent); no type of the program. No statement of the seat is proved here. -/
namespace Go.Proofs.Ytgemjipbifgbgaa
open Go.ChangeShapes Go.WideShapes Go.ChangeAt Go.RowKit Go.Deep Go.Joins
set_option linter.unusedVariables false

abbrev pvs (p : Int × Int) : List Value := [.int .i64 p.1, .int .i64 p.2]
def rcs (r : RowT) : List Value := kcs r.1 ++ pvs r.2
structure RowT.Ok (r : RowT) : Prop where
  key : KeyT.Ok r.1
  shelf : In64 r.2.1
  slot : In64 r.2.2
theorem rcs_length {r : RowT} (h : r.Ok) : (rcs r).length = 35 := by simp [rcs, kcs_length h.key]
theorem rcs_one {r : RowT} : (rcs r).toArray.all (·.oneCell') = true := by
  refine all_oneCell_toArray fun v hv => ?_
  rcases List.mem_append.1 hv with h | h
  · have := kcs_one (k := r.1)
    rw [Array.all_eq_true_iff_forall_mem] at this
    exact this v (by simpa using h)
  · simp [pvs] at h
    rcases h with rfl | rfl <;> rfl
theorem rcs_key {r : RowT} {j : Nat} {u : Value} (h : (kcs r.1)[j]? = some u) : (rcs r)[j]? = some u := by
  have hj := (List.getElem?_eq_some_iff.1 h).1
  unfold rcs
  rw [List.getElem?_append_left hj]
  exact h
theorem rcs_place {r : RowT} (h : r.Ok) {j : Nat} {u : Value} (hu : (pvs r.2)[j]? = some u) : (rcs r)[33 + j]? = some u := by
  unfold rcs
  rw [List.getElem?_append_right (by rw [kcs_length h.key]; omega), kcs_length h.key, Nat.add_sub_cancel_left]
  exact hu
theorem rcs_33 {r : RowT} (h : r.Ok) : (rcs r)[33]? = some (.int .i64 r.2.1) := rcs_place h (j := 0) rfl
theorem rcs_34 {r : RowT} (h : r.Ok) : (rcs r)[34]? = some (.int .i64 r.2.2) := rcs_place h (j := 1) rfl
theorem rcs_inj {a b : RowT} (ha : a.Ok) (hb : b.Ok) (h : rcs a = rcs b) : a = b := by
  unfold rcs at h
  obtain ⟨h1, h2⟩ := List.append_inj h (by rw [kcs_length ha.key, kcs_length hb.key])
  have e1 := kcs_inj ha.key hb.key h1
  simp only [pvs, List.cons.injEq, and_true] at h2
  obtain ⟨e2, e3⟩ := h2
  injection e2 with _ e2
  injection e3 with _ e3
  exact Prod.ext e1 (Prod.ext e2 e3)
/-- A row of zeros. -/
abbrev rz : Array Value := #[.int .u8 0, .int .u8 0, .int .u8 0, .int .u8 0, .int .u8 0, .int .u8 0, .int .u8 0, .int .u8 0, .int .u8 0, .int .u8 0, .int .u8 0, .int .u8 0, .int .u8 0, .int .u8 0, .int .u8 0, .int .u8 0, .int .u8 0, .int .u8 0, .int .u8 0, .int .u8 0, .int .u8 0, .int .u8 0, .int .u8 0, .int .u8 0, .int .u8 0, .int .u8 0, .int .u8 0, .int .u8 0, .int .u8 0, .int .u8 0, .int .u8 0, .int .u8 0, .int .u32 0, .int .i64 0, .int .i64 0]
theorem rz_size : rz.size = 35 := rfl
theorem kz_size : (kz 0).size = 33 := rfl
/-- A slice of rows that reads. -/
structure RdRw (w : World) (B : Nat) (A : Option Addr) (ls : List RowT) : Prop where
  rows : RdS w B 35 A (ls.map rcs)
  each : ∀ r ∈ ls, r.Ok
section
variable {w w' : World} {B B' : Nat} {A : Option Addr} {ls : List RowT}
theorem RdRw.below (h : RdRw w B A ls) (hb : Below B w w') : RdRw w' B A ls := ⟨h.rows.below hb, h.each⟩
theorem RdRw.more (h : RdRw w B A ls) (hB : B ≤ B') : RdRw w B' A ls := ⟨h.rows.more hB, h.each⟩
theorem RdRw.on (h : RdRw w w.heap.size A ls) (hb : Below w.heap.size w w') : RdRw w' w'.heap.size A ls := (h.below hb).more hb.size
theorem RdRw.nil (w : World) (B : Nat) (A : Option Addr) : RdRw w B A [] := ⟨fun h => absurd h (by simp), by simp⟩
theorem RdRw.at_ (h : RdRw w B A ls) {j : Nat} (hj : j < ls.length) : ∃ g off, A = some ⟨g, off, none⟩ ∧ g < B ∧ w.rangeAt g (off + j * 35) (rcs ls[j]) ∧ (ls[j]).Ok := by
  obtain ⟨g, off, e, hg, hc⟩ := h.rows (by simp; omega)
  refine ⟨g, off, e, hg, ?_, h.each _ (List.getElem_mem hj)⟩
  have := hc j (by simpa using hj)
  simpa using this
theorem RdK.on {ks : List KeyT} (h : RdK w w.heap.size A ks) (hb : Below w.heap.size w w') : RdK w' w'.heap.size A ks := (h.below hb).more hb.size
end
/-- The key's cells of a row's, the place's. -/
theorem range_key {w : World} {g o : Nat} {r : RowT} (h : w.rangeAt g o (rcs r)) : w.rangeAt g o (kcs r.1) := fun j u hu => h j u (rcs_key hu)
theorem range_place {w : World} {g o : Nat} {r : RowT} (hr : r.Ok) (h : w.rangeAt g o (rcs r)) : w.rangeAt g (o + 33) (pvs r.2) := fun j u hu => by
  have := h (33 + j) u (rcs_place hr hu)
  rwa [← Nat.add_assoc] at this
/-- A key, a place, as values. -/
abbrev kv (k : KeyT) : Value := .agg (kcs k).toArray
abbrev pv (p : Int × Int) : Value := .agg (pvs p).toArray
abbrev PlOk (p : Int × Int) : Prop := In64 p.1 ∧ In64 p.2
theorem RdS.drop {w : World} {B sz : Nat} {A : Option Addr} {rows : List (List Value)} (h : RdS w B sz A rows) {k c : Nat} (hc : rows.length ≤ c) : RdS w B sz (if c = k then A else A.map (·.add (k * sz))) (rows.drop k) := fun hn => by
  rw [List.length_drop] at hn
  obtain ⟨g, off, e, hg, hr⟩ := h (by omega)
  refine ⟨g, off + k * sz, by rw [if_neg (by omega), e]; simp [Addr.add_lit], hg, fun j hj => ?_⟩
  rw [List.length_drop] at hj
  rw [List.getElem_drop]
  have := hr (k + j) (by omega)
  rwa [show off + (k + j) * sz = off + k * sz + j * sz by rw [Nat.add_mul]; omega] at this
theorem RdRw.take {w : World} {B : Nat} {A : Option Addr} {ls : List RowT} (h : RdRw w B A ls) (k : Nat) : RdRw w B A (ls.take k) := ⟨by rw [List.map_take]; exact h.rows.take k, fun x hx => h.each x (List.mem_of_mem_take hx)⟩
theorem RdRw.drop {w : World} {B : Nat} {A : Option Addr} {ls : List RowT} (h : RdRw w B A ls) {k c : Nat} (hc : ls.length ≤ c) : RdRw w B (if c = k then A else A.map (·.add (k * 35))) (ls.drop k) := ⟨by rw [List.map_drop]; exact h.rows.drop (by simpa using hc), fun x hx => h.each x (List.mem_of_mem_drop hx)⟩
end Go.Proofs.Ytgemjipbifgbgaa
/- What a map reads a key as. No statement of the seat is proved here. -/
namespace Go.Proofs.Ytgemjipbifgbgaa
open Go.ChangeShapes Go.WideShapes Go.ChangeAt Go.RowKit Go.Deep Go.Joins Go.Maps

theorem laidKeys : laidOutB Try.prog = true := by kernel_rfl
theorem keyLaw : Keyed Try.prog 49 := Keyed.of_law (deep_law_laid laidKeys (m := 5) (by decide) (of_decide_eq_true (by kernel_rfl)) (by kernel_rfl) (by kernel_rfl))
theorem mapM_all {α β : Type} {f : α → Option β} {g : α → β} : ∀ {l : List α}, (∀ x ∈ l, f x = some (g x)) → l.mapM f = some (l.map g)
  | [], _ => rfl
  | x :: l, h => by
    rw [List.mapM_cons, h x (by simp), mapM_all (l := l) fun y hy => h y (by simp [hy])]
    rfl
theorem lits_byte (D : Nat) (b : UInt8) : Try.prog.keyLits (D + 1) 5 [.int .u8 b.toNat] = some [.int .u8 b.toNat] := by
  unfold Program.keyLits
  have := b.toNat_lt
  have hw : (Lit.int .u8 (b.toNat : Nat)).wf = true := WalkArith.wf_u8 (by omega)
  simp [Try.underlying5, hw]
theorem lits_num (D : Nat) (N : Nat) (h : N < 4294967296) : Try.prog.keyLits (D + 1) 47 [.int .u32 N] = some [.int .u32 N] := by
  unfold Program.keyLits
  have hw : (Lit.int .u32 (N : Nat)).wf = true := WalkArith.wf_u32 (by omega)
  simp [Try.underlying47, hw]
theorem flat_one {α β : Type} (f : α → β) : ∀ l : List α, (l.map fun x => [f x]).flatten = l.map f
  | [] => rfl
  | x :: l => by rw [List.map_cons, List.flatten_cons, flat_one f l]; rfl
theorem range_get (s : List UInt8) (f : UInt8 → Lit) {n : Nat} (h : s.length = n) : (List.range n).map (fun i => f (s.getD i 0)) = s.map f := by
  apply List.ext_getElem (by simp [h])
  intro j j1 j2
  simp only [List.length_map] at j2
  simp [List.getD, j2]
theorem lits_sum (D : Nat) (s : List UInt8) (h : s.length = 32) : Try.prog.keyLits (D + 2) 46 (bv s) = some (s.map fun b => .int .u8 b.toNat) := by
  obtain ⟨_, _, _, _, _, _, _, _, hS, _, h8⟩ := key_fields
  unfold Program.keyLits
  simp only [Try.underlying46]
  rw [if_pos (by rw [bv_length, h, hS]), h8]
  rw [mapM_all (g := fun i => [.int .u8 (s.getD i 0).toNat]) fun i hi => ?_]
  · rw [Option.map_some, flat_one (fun i => Lit.int .u8 (s.getD i 0).toNat), range_get s (fun b => Lit.int .u8 b.toNat) h]
  · have hi : i < 32 := List.mem_range.1 hi
    have e : ((bv s).drop (i * 1)).take 1 = [.int .u8 (s.getD i 0).toNat] := by
      rw [Nat.mul_one, List.drop_eq_getElem_cons (by rw [bv_length]; omega)]
      simp [bv, List.getD, show i < s.length by omega]
    rw [e]
    exact lits_byte D _
theorem lits_key (D : Nat) {k : KeyT} (h : k.Ok) : Try.prog.keyLits (D + 3) 49 (kcs k) = some ((k.1.map fun b => .int .u8 b.toNat) ++ [.int .u32 k.2]) := by
  have hL := lits_sum D k.1 h.1
  generalize (k.1.map fun b => Lit.int .u8 b.toNat) = L at *
  obtain ⟨f0, f1, hs, e0, e1, o0, o1, hC, hS, h4, _⟩ := key_fields
  have hnm : (match Try.prog.underlying 49 with | some (.struct fs) => fs.all (·.name != "_") | _ => false) = true := by kernel_rfl
  rw [hs] at hnm
  · unfold Program.keyLits
    simp only [hs]
    rw [if_pos ⟨by rw [hC, kcs_length h], hnm⟩]
    have t0 : ((kcs k).drop 0).take 32 = bv k.1 := by
      rw [List.drop_zero, kcs, List.take_append_of_le_length (by rw [bv_length, h.1]; exact Nat.le_refl _), List.take_of_length_le (by rw [bv_length, h.1]; exact Nat.le_refl _)]
    have t1 : ((kcs k).drop 32).take 1 = [.int .u32 k.2] := by
      rw [kcs, List.drop_append_of_le_length (by rw [bv_length, h.1]; exact Nat.le_refl _), List.drop_of_length_le (by rw [bv_length, h.1]; exact Nat.le_refl _)]
      rfl
    rw [mapM_all (g := fun f => if f.offset = 0 then L else [.int .u32 k.2]) fun f hf => ?_]
    · simp [o0, o1]
    · have hf2 : f = f0 ∨ f = f1 := by simpa using hf
      rcases hf2 with rfl | rfl
      · rw [e0, o0, hS, t0, hL]; rfl
      · rw [e1, o1, h4, t1, lits_num (D + 1) k.2 h.2]; rfl
/-- What a map reads a key as. -/
def kl (k : KeyT) : Lit := .string (keyBytes ((k.1.map fun b => .int .u8 b.toNat) ++ [.int .u32 k.2]))
theorem kl_is {k : KeyT} (h : k.Ok) : keyOf Try.prog 49 (.agg (kcs k).toArray) = some (kl k) := by
  obtain ⟨D, hD⟩ : ∃ D, Try.prog.types.size + 1 = D + 3 := ⟨Try.prog.types.size - 2, by have : 2 ≤ Try.prog.types.size := of_decide_eq_true (by kernel_rfl); omega⟩
  have hL := lits_key D h
  obtain ⟨f0, f1, hs, e0, e1, o0, o1, hC, _⟩ := key_fields
  have hk : Try.prog.keyType 49 = true := by kernel_rfl
  have hf : (Value.agg (kcs k).toArray).formed Try.prog 49 = true := by
    simp only [Value.formed, hs, hC, List.size_toArray, kcs_length h]; rfl
  unfold keyOf kl
  simp only [hs, hk, hf, Bool.and_self, if_true, hD]
  show Option.map _ (Try.prog.keyLits (D + 3) 49 (kcs k)) = _
  rw [hL]; rfl
theorem kl_key {k : KeyT} (h : k.Ok) : WideAt.IsKeyLit (kl k) := keyLaw.key (kl_is h)
theorem kl_inj {a b : KeyT} (ha : a.Ok) (hb : b.Ok) (h : kl a = kl b) : a = b := by
  have := keyLaw.inj (kl_is ha) (h ▸ kl_is hb)
  injection this with this
  have h2 : (kcs a).toArray.toList = (kcs b).toArray.toList := by rw [this]
  exact kcs_inj ha hb h2
theorem kl_same {a b : KeyT} (ha : a.Ok) (hb : b.Ok) : (kl a).sameKey (kl b) = decide (a = b) := by
  by_cases h : a = b
  · subst h; simp [WideAt.sameKey_self (kl_key ha)]
  · rw [sameKey_ne (fun e => h (kl_inj ha hb e))]; simp [h]
/-- The datum of a set of keys. -/
def kset (xs : List KeyT) : DataW Unit := setOf (.agg []) (xs.map kl)
theorem kset_snoc (xs : List KeyT) (k : KeyT) : kset (xs ++ [k]) = (kset xs).put (kl k) (.agg []) := by simp [kset, setOf_snoc]
theorem addKey_fold {xs : List KeyT} : ∀ (acc : List KeyT), (∀ x ∈ acc, x.Ok) → (∀ x ∈ xs, x.Ok) → ∃ r : List KeyT, (xs.map kl).foldl addKey (acc.map kl) = (acc ++ r).map kl ∧ r.length ≤ xs.length ∧ (∀ x ∈ r, x ∈ xs) ∧
    ((acc ++ xs).Nodup → r = xs) ∧ (acc.Nodup → r.length = xs.length → (acc ++ xs).Nodup) := by
  induction xs with
  | nil => intro acc _ _; exact ⟨[], by simp, by simp, by simp, fun _ => rfl, fun h _ => by simpa using h⟩
  | cons x xs ih =>
    intro acc ha hx
    have hxo : x.Ok := hx x (by simp)
    have hany : (acc.map kl).any (fun y => y.sameKey (kl x)) = decide (x ∈ acc) := by
      rw [List.any_map, Bool.eq_iff_iff, List.any_eq_true, decide_eq_true_eq]
      constructor
      · rintro ⟨y, hy, h⟩
        simp only [Function.comp, kl_same (ha y hy) hxo, decide_eq_true_eq] at h
        exact h ▸ hy
      · intro h
        exact ⟨x, h, by simp [kl_same hxo hxo]⟩
    rw [List.map_cons, List.foldl_cons, addKey, hany]
    by_cases h : x ∈ acc
    · simp only [h, decide_true, if_true]
      obtain ⟨r, h1, h2, h3, h4, h5⟩ := ih acc ha (fun y hy => hx y (by simp [hy]))
      refine ⟨r, h1, by simp; omega, fun y hy => by simp [h3 y hy], fun hn => ?_, fun _ hl => by simp at hl; omega⟩
      exact absurd rfl ((List.nodup_append.1 hn).2.2 x h x (by simp))
    · simp only [h, decide_false, Bool.false_eq_true, if_false]
      obtain ⟨r, h1, h2, h3, h4, h5⟩ := ih (acc ++ [x]) (fun y hy => by rcases List.mem_append.1 hy with hy | hy; exact ha y hy; rw [List.mem_singleton.1 hy]; exact hxo) (fun y hy => hx y (by simp [hy]))
      refine ⟨x :: r, by simpa using h1, by simp; omega, fun y hy => by rcases List.mem_cons.1 hy with rfl | hy; simp; simp [h3 y hy], fun hn => ?_, fun hn hl => ?_⟩
      · rw [h4 (by simpa using hn)]
      · have := h5 (by rw [List.nodup_append]; exact ⟨hn, by simp, fun a ha' b hb => by rw [List.mem_singleton.1 hb]; rintro rfl; exact h ha'⟩) (by simpa using hl)
        simpa using this
theorem size_kset (xs : List KeyT) (h : ∀ x ∈ xs, x.Ok) : (Maps.size (kset xs) < xs.length ↔ ¬ xs.Nodup) ∧ Maps.size (kset xs) ≤ xs.length := by
  obtain ⟨r, h1, h2, h3, h4, h5⟩ := addKey_fold (xs := xs) [] (by simp) h
  have e : Maps.size (kset xs) = r.length := by
    rw [kset, size_setOf _ _ fun l hl => by obtain ⟨x, hx, rfl⟩ := List.mem_map.1 hl; exact kl_key (h x hx)]
    have := congrArg List.length h1
    simpa using this
  rw [e]
  refine ⟨⟨fun hl hn => ?_, fun hn => ?_⟩, h2⟩
  · rw [h4 (by simpa using hn)] at hl; omega
  · rcases Nat.lt_or_ge r.length xs.length with hl | hl
    · exact hl
    · exact absurd (by simpa using h5 (by simp) (by omega)) hn
/-- The datum of a map from keys to numbers, filled one by one. -/
def kmap (al : List (KeyT × Nat)) : DataW Unit := al.foldl (fun m x => m.put (kl x.1) (.lit (.int .i64 (x.2 : Nat)))) (.map [])
theorem kmap_snoc (al : List (KeyT × Nat)) (k : KeyT) (n : Nat) : kmap (al ++ [(k, n)]) = (kmap al).put (kl k) (.lit (.int .i64 (n : Nat))) := by simp [kmap, List.foldl_append]
theorem rev_rec {α : Type} {P : List α → Prop} (h0 : P []) (hs : ∀ l x, P l → P (l ++ [x])) : ∀ l, P l := fun l => by
  have key : ∀ n (l : List α), l.length = n → P l := fun n => by
    induction n with
    | zero => intro l hl; rw [List.eq_nil_of_length_eq_zero hl]; exact h0
    | succ n ih =>
      intro l hl
      have hne : l ≠ [] := fun e => by rw [e] at hl; simp at hl
      rw [← List.dropLast_concat_getLast hne]
      exact hs _ _ (ih _ (by rw [List.length_dropLast]; omega))
  exact key _ l rfl
theorem kmap_tidy (al : List (KeyT × Nat)) (h : ∀ x ∈ al, x.1.Ok) : Tidy (kmap al) := by
  induction al using rev_rec with
  | h0 => exact tidy_empty
  | hs al x ih =>
    obtain ⟨k, n⟩ := x
    rw [kmap_snoc]
    exact (ih fun y hy => h y (by simp [hy])).put (kl_key (h (k, n) (by simp))) _
/-- What it has, where no key stands twice. -/
theorem kmap_has (al : List (KeyT × Nat)) (h : ∀ x ∈ al, x.1.Ok) {k : KeyT} (hk : k.Ok) : Maps.has (kmap al) (kl k) = decide (k ∈ al.map (·.1)) := by
  induction al using rev_rec with
  | h0 => simp [kmap, Maps.has]
  | hs al x ih =>
    obtain ⟨k', n⟩ := x
    have hk' : k'.Ok := h (k', n) (by simp)
    rw [kmap_snoc]
    by_cases e : k = k'
    · subst e
      rw [has_put_same (kmap_tidy al fun y hy => h y (by simp [hy])).isMap (kl_key hk)]
      simp
    · rw [has_put_other (fun h' => e (kl_inj hk hk' h')), ih fun y hy => h y (by simp [hy])]
      simp [e]
theorem kmap_at (al : List (KeyT × Nat)) (h : ∀ x ∈ al, x.1.Ok) (hn : (al.map (·.1)).Nodup) {k : KeyT} {n : Nat} (hk : (k, n) ∈ al) (z : DataW Unit) : (kmap al).atKey (kl k) z = .lit (.int .i64 (n : Nat)) := by
  induction al using rev_rec with
  | h0 => simp at hk
  | hs al x ih =>
    obtain ⟨k', n'⟩ := x
    have hk' : k'.Ok := h (k', n') (by simp)
    have hko : k.Ok := h (k, n) hk
    rw [List.map_append, List.nodup_append] at hn
    rw [kmap_snoc]
    rcases List.mem_append.1 hk with hk | hk
    · have hne : k ≠ k' := hn.2.2 k (List.mem_map.2 ⟨_, hk, rfl⟩) k' (by simp)
      rw [atKey_put_other (fun h' => hne (kl_inj hko hk' h'))]
      exact ih (fun y hy => h y (by simp [hy])) hn.1 hk
    · have := List.mem_singleton.1 hk
      injection this with e1 e2
      subst e1 e2
      exact atKey_put_same (kmap_tidy al fun y hy => h y (by simp [hy])).isMap (kl_key hko) _ _
theorem kmap_size (al : List (KeyT × Nat)) (h : ∀ x ∈ al, x.1.Ok) (hn : (al.map (·.1)).Nodup) : Maps.size (kmap al) = al.length := by
  induction al using rev_rec with
  | h0 => rfl
  | hs al x ih =>
    obtain ⟨k, n⟩ := x
    have h' : ∀ y ∈ al, y.1.Ok := fun y hy => h y (by simp [hy])
    rw [List.map_append, List.nodup_append] at hn
    rw [kmap_snoc, size_put (kmap_tidy al h'), kmap_has al h' (h (k, n) (by simp)), ih h' hn.1]
    have : ¬ k ∈ al.map (·.1) := fun hm => hn.2.2 k hm k (by simp) rfl
    simp [this]
end Go.Proofs.Ytgemjipbifgbgaa
/- Two keys compared. No statement of the seat is proved here. -/
namespace Go.Proofs.Ytgemjipbifgbgaa
open Go.ChangeShapes Go.WideShapes Go.ChangeAt Go.RowKit Go.Deep Go.Joins Go.Maps
set_option linter.unusedVariables false

set_option maxRecDepth 100000 in
theorem key_eq {a b : KeyT} (ha : a.Ok) (hb : b.Ok) (w : World) : (Op.equal 49 (.agg (kcs a).toArray) (.agg (kcs b).toArray)).run Try.prog w = .ok (decide (a = b)) w := by
  obtain ⟨r, hr, hi⟩ := run_equal_deep (P := Try.prog) w (m := 5) (by decide) (k := 49) (by kernel_rfl) (by kernel_rfl) (kl_is ha) (kl_is hb)
  rw [hr]
  congr 1
  cases r
  · symm; rw [decide_eq_false_iff_not]; intro h; subst h; exact absurd (hi.2 rfl) (by simp)
  · symm; rw [decide_eq_true_iff]; exact kl_inj ha hb (hi.1 rfl)
theorem key_eq_in {a b : KeyT} (ha : a.Ok) (hb : b.Ok) (w : World) : (Op.equalIn 10000 49 (.agg (kcs a).toArray) (.agg (kcs b).toArray)).run Try.prog w = .ok (decide (a = b)) w := key_eq ha hb w
theorem key_guard : Try.prog.eqGuardType Try.prog.depth 49 = false := by kernel_rfl
/-- Each key once. -/
def uq (l : List KeyT) : List KeyT := l.foldl (fun out k => if k ∈ out then out else out ++ [k]) []
theorem uq_snoc (l : List KeyT) (k : KeyT) : uq (l ++ [k]) = if k ∈ uq l then uq l else uq l ++ [k] := by unfold uq; rw [List.foldl_append]; rfl
theorem uq_nodup (l : List KeyT) : (uq l).Nodup := by
  refine rev_rec (P := fun l => (uq l).Nodup) (by simp [uq]) (fun l x ih => ?_) l
  rw [uq_snoc]
  split
  · exact ih
  · rename_i h
    exact List.nodup_append.2 ⟨ih, by simp, fun a ha b hb e => h (by rw [List.mem_singleton.1 hb] at e; rw [← e]; exact ha)⟩
theorem uq_mem (l : List KeyT) (x : KeyT) : x ∈ uq l ↔ x ∈ l := by
  refine rev_rec (P := fun l => x ∈ uq l ↔ x ∈ l) (by simp [uq]) (fun l y ih => ?_) l
  rw [uq_snoc]
  split
  · rename_i h
    simp only [List.mem_append, List.mem_singleton, ih]
    constructor
    · exact .inl
    · rintro (h1 | rfl)
      · exact h1
      · exact ih.1 h
  · simp only [List.mem_append, List.mem_singleton, ih]
theorem uq_length (l : List KeyT) : (uq l).length ≤ l.length := by
  refine rev_rec (P := fun l => (uq l).length ≤ l.length) (by simp [uq]) (fun l y ih => ?_) l
  rw [uq_snoc]
  split <;> simp <;> omega
end Go.Proofs.Ytgemjipbifgbgaa
