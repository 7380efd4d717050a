/- Slices of keys of the call's own: that they read; keys appended to them. No statement of the seat is proved here. -/
import Derived.Test.YtoiiiccichkgpaaKeys
import Derived.Test.YtoiiiccichkgpaaAppRd
namespace Go.Proofs.Ytoiiiccichkgpaa
open Go.RowKit
set_option linter.unusedVariables false

theorem info_key : (Try.prog.info? 40).map (fun i => (i.zero, i.size, i.bytes)) = some (some (.agg (kz 0)), 33, 36) := by kernel_rfl
theorem flat_kcs {l : List KeyT} (h : ∀ k ∈ l, k.Ok) : (l.flatMap kcs).length = l.length * 33 := by
  induction l with
  | nil => rfl
  | cons k l ih =>
    rw [List.flatMap_cons, List.length_append, kcs_length (h k (by simp)), ih fun x hx => h x (by simp [hx]), List.length_cons]; omega
theorem flatk_at {l : List KeyT} (h : ∀ k ∈ l, k.Ok) {j : Nat} (hj : j < l.length) (i : Nat) (hi : i < 33) : (l.flatMap kcs)[j * 33 + i]? = (kcs l[j])[i]? := by
  induction l generalizing j with
  | nil => simp at hj
  | cons k l ih =>
    rw [List.flatMap_cons]
    cases j with
    | zero =>
      rw [Nat.zero_mul, Nat.zero_add, List.getElem?_append_left (by rw [kcs_length (h k (by simp))]; exact hi)]
      rfl
    | succ j =>
      rw [List.getElem?_append_right (by rw [kcs_length (h k (by simp))]; omega), kcs_length (h k (by simp)), show (j + 1) * 33 + i - 33 = j * 33 + i by omega]
      exact ih (fun x hx => h x (by simp [hx])) (by simpa using hj)
theorem RdK.flat {w : World} {B : Nat} {A : Option Addr} {l : List KeyT} (h : RdK w B A l) (h0 : 0 < l.length) :
    ∃ b off, A = some ⟨b, off, none⟩ ∧ b < B ∧ ∀ j u, (l.flatMap kcs)[j]? = some u → w.cell? ((⟨b, off, none⟩ : Addr).add j) = some u := by
  obtain ⟨b, off, e, hb, hc⟩ := h.rows (by simpa using h0)
  refine ⟨b, off, e, hb, fun j u hu => ?_⟩
  have hj : j < l.length * 33 := by have := (List.getElem?_eq_some_iff.1 hu).1; rwa [flat_kcs h.each] at this
  have hj2 : j / 33 < l.length := by omega
  have h1 := flatk_at h.each hj2 (j % 33) (by omega)
  rw [show j / 33 * 33 + j % 33 = j by omega, hu] at h1
  have h2 := hc (j / 33) (by simpa using hj2) (j % 33) u (by rw [List.getElem_map]; exact h1.symm)
  rw [Addr.add_lit]
  rw [show off + j / 33 * 33 + j % 33 = off + j by omega] at h2
  exact h2
/-- A slice of keys of the call's own. -/
abbrev OwnK (w : World) (B : Nat) (A : Option Addr) (c : Nat) (l : List KeyT) : Prop := w.ownsRow B 40 33 (.slice A l.length c) l.length (l.flatMap kcs)
theorem OwnK.rd {w : World} {B c : Nat} {A : Option Addr} {l : List KeyT} (h : OwnK w B A c l) (ho : ∀ k ∈ l, k.Ok) : RdK w w.heap.size A l := by
  refine ⟨fun hn => ?_, ho⟩
  have hn' : 0 < l.length := by simpa using hn
  rcases h.2 with ⟨_, h0⟩ | ⟨g, cap, cur, hv, _, hh, hnc, _, hcs, ht⟩
  · omega
  · injection hv with hA _ _
    refine ⟨g, 0, hA, (Array.getElem?_eq_some_iff.1 hh).1, fun j hj i v hv => ?_⟩
    have hj' : j < l.length := by simpa using hj
    rw [List.getElem_map] at hv
    have hi : i < 33 := by
      have := (List.getElem?_eq_some_iff.1 hv).1
      rw [kcs_length (ho _ (List.getElem_mem hj'))] at this; exact this
    have h1 := flatk_at ho hj' i hi
    rw [hv, ← ht, List.getElem?_take] at h1
    split at h1
    · rw [Nat.zero_add, cell_of_row w g (j * 33 + i) cur _ (0, 0) hh]
      simpa using h1
    · cases h1
section
variable {P : Program} (w : World)
/-- 'append(v, b...)', v the call's own keys, b whatever slice of keys can be read. -/
theorem run_append_keys (ty : TypeId) (base : Nat) (i : TypeInfo) (hi : Try.prog.info? 40 = some i) (hz : i.zero = some (.agg (kz 0))) (hsize : i.size = 33) (hby : i.bytes = 36)
    (A0 : Option Addr) (c0 k0 : Nat) (l0 : List KeyT) (h0 : l0.length = k0) (hown : OwnK w base A0 c0 l0) (B : Nat) (A : Option Addr) (c k : Nat) (l : List KeyT) (hk : l.length = k) (hr : RdK w B A l) (hl : k0 + k ≤ 100000) (hbase : base ≤ w.heap.size) :
    ∃ A' c' w', (Builtin.append_ #[34, 34] ty #[.slice A0 k0 c0, .slice A k c]).run Try.prog w = .ok (.slice A' (k0 + k) c') w' ∧ OwnK w' base A' c' (l0 ++ l) ∧ w.grownBy w' (Value.slice A0 k0 c0).ownBlock := by
  subst hk h0
  have hrun : ∃ v' w', (Builtin.append_ #[34, 34] ty #[.slice A0 l0.length c0, .slice A l.length c]).run Try.prog w = .ok v' w' ∧ w'.ownsRow base 40 33 v' (l0.length + l.length) (l0.flatMap kcs ++ l.flatMap kcs) ∧ w.grownBy w' (Value.slice A0 l0.length c0).ownBlock := by
    rcases Nat.eq_zero_or_pos l.length with hl0 | hl0
    · have hl0 := List.eq_nil_of_length_eq_zero hl0
      subst hl0
      rcases A with _ | ad
      · exact ⟨_, w, run_append_of_nil w base _ ty _ i 33 Try.underlying34 hi _ _ _ hown c, by simpa using hown, World.grownBy.refl w _⟩
      · obtain ⟨v', w', h1, h2, h3, _⟩ := run_append_own (P := Try.prog) w base 34 ty 40 i (.agg (kz 0)) 33 36 Try.underlying34 hi hz hsize hby rfl (by decide) _ _ _ hown ad 0 c [] rfl (fun j u hu => by simp at hu) (fun u hu => by simp at hu) (by unfold maxLen; simp at hl ⊢; omega) (by simp at hl ⊢; omega) hbase
        exact ⟨v', w', h1, by simpa using h2, h3⟩
    · obtain ⟨b, off, rfl, hb, hc⟩ := RdK.flat hr hl0
      obtain ⟨v', w', h1, h2, h3, _⟩ := run_append_own (P := Try.prog) w base 34 ty 40 i (.agg (kz 0)) 33 36 Try.underlying34 hi hz hsize hby rfl (by decide) _ _ _ hown ⟨b, off, none⟩ l.length c (l.flatMap kcs) (flat_kcs hr.each) hc (fun u hu => by
          obtain ⟨k, _, hk⟩ := List.mem_flatMap.1 hu
          have := kcs_one (k := k)
          rw [Array.all_eq_true_iff_forall_mem] at this
          exact this u (by simpa using hk)) (by unfold maxLen; omega) (by omega) hbase
      exact ⟨v', w', h1, h2, h3⟩
  obtain ⟨v', w', h1, h2, h3⟩ := hrun
  have hf : ∃ A' c', v' = .slice A' (l0.length + l.length) c' := by
    rcases h2.2 with ⟨hv, h0⟩ | ⟨g, cp, cur, hv, _⟩
    · exact ⟨none, 0, by rw [hv, h0]⟩
    · exact ⟨_, _, hv⟩
  obtain ⟨A', c', rfl⟩ := hf
  refine ⟨A', c', w', h1, ?_, h3⟩
  unfold OwnK
  rw [List.length_append, List.flatMap_append]
  exact h2
theorem wpList_append_keys {ops : Array Oper} {rest : List Oper} {o : Oper} {a : Act} {Q : Exit → Act → World → Prop} (hgd : o.guard = none) (s x : Operand)
    (ho : o.op = .call { callee := .builtin .append, args := #[s, x], argTypes := #[34, 34] })
    (base : Nat) (i : TypeInfo) (hi : Try.prog.info? 40 = some i) (hz : i.zero = some (.agg (kz 0))) (hsize : i.size = 33) (hby : i.bytes = 36)
    (A0 : Option Addr) (c0 k0 : Nat) (l0 : List KeyT) (h0 : l0.length = k0) (hs : a.eval s = .slice A0 k0 c0) (hown : OwnK w base A0 c0 l0) (B : Nat) (A : Option Addr) (c k : Nat) (l : List KeyT) (hx : a.eval x = .slice A k c) (hk : l.length = k) (hr : RdK w B A l) (hl : k0 + k ≤ 100000) (hbase : base ≤ w.heap.size)
    (h : ∀ A' c' w', OwnK w' base A' c' (l0 ++ l) → w.grownBy w' (Value.slice A0 k0 c0).ownBlock → wpList Try.prog ops Q rest (a.put o.dst (.slice A' (k0 + k) c')) w') : wpList Try.prog ops Q (o :: rest) a w := by
  obtain ⟨A', c', w', h1, h2, h3⟩ := run_append_keys w o.type base i hi hz hsize hby A0 c0 k0 l0 h0 hown B A c k l hk hr hl hbase
  refine wpList_plain hgd fun K hK => ?_
  unfold Oper.wp execOp
  simp only [ho, resolve, invoke, builtin, Sem.run_bind, Sem.run_pure, Result.andThen_ok, List.map_toArray, List.map_cons, List.map_nil, hs, hx, h1]
  exact hK _ _ (h A' c' w' h2 h3)
end
end Go.Proofs.Ytoiiiccichkgpaa
