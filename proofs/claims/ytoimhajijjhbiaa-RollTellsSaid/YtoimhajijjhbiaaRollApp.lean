/- append of bytes that can be read, at a step of a region that draws its order. No statement of the seat is proved here. -/
import Derived.Test.YtoimhajijjhbiaaAppRd
import Derived.Test.YtoimhajijjhbiaaArgSz
import Derived.Test.YtoimhajijjhbiaaRollArr
import Derived.Test.YtoimhajijjhbiaaRowLaws
import Derived.Deep.AppendLies
import Derived.Deep.WholeRow
import Derived.Deep.CutBlock
import Derived.Deep.DeepCutAuto
import Derived.Laws.Tables
import Derived.Laws.CopyOwn
import Derived.Deep.RegionHeld3
namespace Go.Proofs.Ytoimhajijjhbiaa
open Go.RowKit

section
variable {P : Program} (w : World)
theorem step_append_more {ops : Array Oper} {o : Oper} {a : Act} {K : Act → World → Prop} {Q : Exit → Act → World → Prop} {E : Prop} (hgd : o.guard = none) (s x : Operand) (t : TypeId)
    (ho : o.op = .call { callee := .builtin .append, args := #[s, x], argTypes := #[t, t] })
    (base : Nat) (e : TypeId) (i : TypeInfo) (ht : P.underlying t = some (.slice e)) (hi : P.info? e = some i) (hz : i.zero = some (.int .u8 0)) (hsize : i.size = 1) (hby : i.bytes = 1)
    (v : Value) (n : Nat) (xs : List Value) (hs : a.eval s = v) (hown : w.ownsRow base e 1 v n xs)
    (B : Nat) (A : Option Addr) (c k : Nat) (l : List UInt8) (hx : a.eval x = .slice A k c) (hk : l.length = k) (hr : Rd w B A l) (hl : n + l.length ≤ 140737488355328) (hbase : base ≤ w.heap.size)
    (h : ∀ A' c' w', w'.ownsRow base e 1 (.slice A' (n + k) c') (n + k) (xs ++ bv l) → w.grownBy w' v.ownBlock → K (a.put o.dst (.slice A' (n + k) c')) w') :
    if Region.wanted o (yielded ops a.tmps) = true then Oper.wp P o a w K Q else E := by
  have hw : Region.wanted o (yielded ops a.tmps) = true := by simp [Region.wanted, hgd]
  rw [if_pos hw]
  obtain ⟨A', c', w', h1, h2, h3⟩ := run_append_more (P := P) w t o.type base e i ht hi hz hsize hby v n xs hown B A c k l hk hr hl hbase
  unfold Oper.wp execOp
  simp only [ho, resolve, invoke, builtin, Sem.run_bind, Sem.run_pure, Result.andThen_ok, List.map_toArray, List.map_cons, List.map_nil, hs, hx, h1]
  exact h A' c' w' h2 h3
/-- The first of them: onto an empty slice. -/
theorem step_append_first {ops : Array Oper} {o : Oper} {a : Act} {K : Act → World → Prop} {Q : Exit → Act → World → Prop} {E : Prop} (hgd : o.guard = none) (s x : Operand) (t : TypeId)
    (ho : o.op = .call { callee := .builtin .append, args := #[s, x], argTypes := #[t, t] })
    (base : Nat) (e : TypeId) (i : TypeInfo) (ht : P.underlying t = some (.slice e)) (hi : P.info? e = some i) (hz : i.zero = some (.int .u8 0)) (hsize : i.size = 1) (hby : i.bytes = 1)
    (v : Value) (hs : a.eval s = v) (hown : w.ownsRow base e 1 v 0 [])
    (B : Nat) (A : Option Addr) (c k : Nat) (l : List UInt8) (hx : a.eval x = .slice A k c) (hk : l.length = k) (hr : Rd w B A l) (hl : l.length ≤ 140737488355328) (hbase : base ≤ w.heap.size)
    (h : ∀ A' c' w', w'.ownsRow base e 1 (.slice A' k c') k (bv l) → w.grownBy w' v.ownBlock → K (a.put o.dst (.slice A' k c')) w') :
    if Region.wanted o (yielded ops a.tmps) = true then Oper.wp P o a w K Q else E := by
  refine step_append_more w hgd s x t ho base e i ht hi hz hsize hby v 0 [] hs hown B A c k l hx hk hr (by omega) hbase fun A' c' w' h2 h3 => ?_
  rw [Nat.zero_add] at h2 ⊢
  exact h A' c' w' h2 h3
end

theorem bv_one (l : List UInt8) : (bv l).toArray.all (·.oneCell') = true := by simp [bv]; intro a h; rfl
theorem Blk.new_at (w : World) (t : TypeId) (cs : Array Value) {g : Nat} (hg : g = w.heap.size) : Blk (w.alloc (.cells cs t)) g t cs := by subst hg; exact Blk.new w t cs
theorem zero_16 : (Try.prog.info? 33).map (fun i => (i.zero, i.size)) = some (some (.agg (bv (List.replicate 16 0)).toArray), 16) := by kernel_rfl
theorem ownsRow_le {w : World} {base : Nat} {e : TypeId} {n c : Nat} {A : Option Addr} {xs : List Value} (h : w.ownsRow base e 1 (.slice A n c) n xs) : n ≤ c := by
  obtain ⟨_, _, e, h1, h2⟩ := ownsRow_form h
  injection e with _ _ e
  subst e; exact h1
theorem ownsRow_le2 {w : World} {base : Nat} {e : TypeId} {n c : Nat} {A : Option Addr} {xs : List Value} (h : w.ownsRow base e 1 (.slice A n c) n xs) : c ≤ 9223372036854775807 := by
  obtain ⟨_, _, e, h1, h2⟩ := ownsRow_form h
  injection e with _ _ e
  subst e; exact h2
theorem eq_guard : Try.prog.eqGuardType Try.prog.depth 33 = false := by kernel_rfl
theorem eq_16 (a b : List UInt8) (ha : a.length = 16) (hb : b.length = 16) (w : World) : (Op.equal 33 (.agg (bv a).toArray) (.agg (bv b).toArray)).run Try.prog w = .ok (decide (a = b)) w :=
  run_equal_bytes (i := (Try.prog.info? 5).get (by kernel_rfl)) Try.underlying33 Try.underlying5 (by kernel_rfl) (by kernel_rfl) a b ha hb w
theorem blk_set {w : World} {g : Nat} {t : TypeId} {l : List UInt8} (h : Blk w g t (bv l).toArray) (k : Nat) (x : UInt8) : Blk (w.setCell ⟨g, k, none⟩ (.int .u8 x.toNat)) g t (bv (l.set k x)).toArray := by
  have := h.set_ k (.int .u8 x.toNat)
  have e : (bv (l.set k x)).toArray = (bv l).toArray.setIfInBounds k (.int .u8 x.toNat) := by simp [bv, List.map_set]
  rw [e]; exact this
/-- What P4.5 says of two arrays. -/
theorem ofB_set (l : List UInt8) (k : Nat) (x : UInt8) (hl : l.length = 16) (hk : k < 16) : ofB (l.set k x) = ofB l ↔ l.set k x = l := by
  unfold ofB
  rw [lastB_few (by rw [List.length_set]; omega), lastB_few (by omega)]
  exact fold_set l k x (by omega)
theorem ofB_behind (h l : List UInt8) (hl : l.length = 16) : ofB (h ++ l) = ofB l := by
  unfold ofB
  rw [lastB_append hl, lastB_few (by omega)]
end Go.Proofs.Ytoimhajijjhbiaa
