/- append of one element more to a slice of the call's own: where it lies then. No statement of the seat is proved here; nothing of the program is named. -/
import Derived.Test.YtiomfkhblmmdoaaOwnG
import Derived.Maps.AppendAt
namespace Go.Proofs.Ytiomfkhblmmdoaa
open Go.RowKit
set_option linter.unusedVariables false
set_option linter.unusedSimpArgs false

section
variable {α : Type} {P : Program} {t e : TypeId} {sz : Nat} {g : α → List Value} {Q : α → Prop} {w w' : World} {B c n : Nat} {A : Option Addr} {l : List α}
theorem run_append_gat (E : Elem P t e sz g Q) (w : World) (ty : TypeId) (base : Nat) (A0 : Option Addr) (c0 k0 : Nat) (l0 : List α) (h0 : l0.length = k0) (hown : OwnG e sz g w base A0 c0 l0) (B : Nat) (A : Option Addr) (c k : Nat) (l : List α) (hk : l.length = k) (hk0 : 0 < k)
    (hr : RdS w B sz A (l.map g)) (ho : ∀ x ∈ l, Q x) (hl : k0 + k ≤ 1000000) (hbase : base ≤ w.heap.size) :
    ∃ A' c' w', (Builtin.append_ #[t, t] ty #[.slice A0 k0 c0, .slice A k c]).run P w = .ok (.slice A' (k0 + k) c') w' ∧ OwnG e sz g w' base A' c' (l0 ++ l) ∧ w.grownBy w' (Value.slice A0 k0 c0).ownBlock ∧ ((Value.slice A' (k0 + k) c').ownBlock = (Value.slice A0 k0 c0).ownBlock ∨ (Value.slice A' (k0 + k) c').ownBlock = some w.heap.size) := by
  subst hk h0
  obtain ⟨i, z, hi, hz, hsize, hzs, hby⟩ := E.info
  have hbb : (l0.length + l.length) * i.bytes ≤ 140737488355328 := Nat.le_trans (Nat.mul_le_mul hl hby) (by omega)
  obtain ⟨b, off, rfl, hb, hc⟩ := E.flatRd hr ho hk0
  obtain ⟨v', w', h1, h2, h3, _, h5⟩ := run_append_own_at (P := P) w base t ty e i z sz i.bytes E.slice hi hz hsize rfl hzs E.pos _ _ _ hown ⟨b, off, none⟩ l.length c (l.flatMap g) (E.flat ho) hc (fun u hu => by
    obtain ⟨k, _, hk⟩ := List.mem_flatMap.1 hu
    exact E.one k u hk) (by unfold maxLen; omega) hbb hbase
  have hf : ∃ A' c', v' = .slice A' (l0.length + l.length) c' := by
    rcases h2.2 with ⟨hv, h0⟩ | ⟨_, cp, cur, hv, _⟩
    · exact ⟨none, 0, by rw [hv, h0]⟩
    · exact ⟨_, _, hv⟩
  obtain ⟨A', c', rfl⟩ := hf
  refine ⟨A', c', w', h1, ?_, h3, h5⟩
  unfold OwnG
  rw [List.length_append, List.flatMap_append]
  exact h2
theorem wp_append_gat (E : Elem P t e sz g Q) {o : Oper} {a : Act} {w : World} {K : Act → World → Prop} {R : Exit → Act → World → Prop} (s x : Operand) (ho : o.op = .call { callee := .builtin .append, args := #[s, x], argTypes := #[t, t] })
    (base : Nat) (A0 : Option Addr) (c0 k0 : Nat) (l0 : List α) (h0 : l0.length = k0) (hs : a.eval s = .slice A0 k0 c0) (hown : OwnG e sz g w base A0 c0 l0) (B : Nat) (A : Option Addr) (c k : Nat) (l : List α) (hx : a.eval x = .slice A k c) (hk : l.length = k) (hk0 : 0 < k)
    (hr : RdS w B sz A (l.map g)) (hq : ∀ x ∈ l, Q x) (hl : k0 + k ≤ 1000000) (hbase : base ≤ w.heap.size)
    (h : ∀ A' c' w', OwnG e sz g w' base A' c' (l0 ++ l) → w.grownBy w' (Value.slice A0 k0 c0).ownBlock → ((Value.slice A' (k0 + k) c').ownBlock = (Value.slice A0 k0 c0).ownBlock ∨ (Value.slice A' (k0 + k) c').ownBlock = some w.heap.size) → K (a.put o.dst (.slice A' (k0 + k) c')) w') : Oper.wp P o a w K R := by
  obtain ⟨A', c', w', h1, h2, h3, h4⟩ := run_append_gat E w o.type base A0 c0 k0 l0 h0 hown B A c k l hk hk0 hr hq hl hbase
  unfold Oper.wp execOp
  simp only [ho, resolve, invoke, builtin, Sem.run_bind, Sem.run_pure, Result.andThen_ok, List.map_toArray, List.map_cons, List.map_nil, hs, hx, h1]
  exact h A' c' w' h2 h3 h4
end
end Go.Proofs.Ytiomfkhblmmdoaa
