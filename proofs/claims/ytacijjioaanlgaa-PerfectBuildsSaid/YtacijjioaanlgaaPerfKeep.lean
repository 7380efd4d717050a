/- Keys of the call's own that are written over while a Map stands; two keys told apart in a region that draws. No statement of the seat is proved here. -/
import Derived.Test.YtacijjioaanlgaaPerfUn
import Derived.Test.YtacijjioaanlgaaPerfBuild
import Derived.Test.YtacijjioaanlgaaAppRd
namespace Go.Proofs.Ytacijjioaanlgaa
open Go.RowKit Go.Maps Go.Sort
set_option linter.unusedVariables false

section
variable {P : Program} (w : World)
/-- 'append(v, b...)', v the call's own keys, b whatever slice of keys can be read. -/
theorem run_append_keys (ty : TypeId) (base : Nat) (i : TypeInfo) (hi : Try.prog.info? 27 = some i) (hz : i.zero = some (.agg (kz 0))) (hsize : i.size = 33) (hby : i.bytes = 36)
    (A0 : Option Addr) (c0 k0 : Nat) (l0 : List KeyT) (h0 : l0.length = k0) (hown : OwnK w base A0 c0 l0) (B : Nat) (A : Option Addr) (c k : Nat) (l : List KeyT) (hk : l.length = k) (hr : RdK w B A l) (hl : k0 + k ≤ 100000) (hbase : base ≤ w.heap.size) :
    ∃ A' c' w', (Builtin.append_ #[31, 31] ty #[.slice A0 k0 c0, .slice A k c]).run Try.prog w = .ok (.slice A' (k0 + k) c') w' ∧ OwnK w' base A' c' (l0 ++ l) ∧ w.grownBy w' (Value.slice A0 k0 c0).ownBlock := by
  subst hk h0
  have hrun : ∃ v' w', (Builtin.append_ #[31, 31] ty #[.slice A0 l0.length c0, .slice A l.length c]).run Try.prog w = .ok v' w' ∧ w'.ownsRow base 27 33 v' (l0.length + l.length) (l0.flatMap kcs ++ l.flatMap kcs) ∧ w.grownBy w' (Value.slice A0 l0.length c0).ownBlock := by
    rcases Nat.eq_zero_or_pos l.length with hl0 | hl0
    · have hl0 := List.eq_nil_of_length_eq_zero hl0
      subst hl0
      rcases A with _ | ad
      · exact ⟨_, w, run_append_of_nil w base _ ty _ i 33 Try.underlying31 hi _ _ _ hown c, by simpa using hown, World.grownBy.refl w _⟩
      · obtain ⟨v', w', h1, h2, h3, _⟩ := run_append_own (P := Try.prog) w base 31 ty 27 i (.agg (kz 0)) 33 36 Try.underlying31 hi hz hsize hby rfl (by decide) _ _ _ hown ad 0 c [] rfl (fun j u hu => by simp at hu) (fun u hu => by simp at hu) (by unfold maxLen; simp at hl ⊢; omega) (by simp at hl ⊢; omega) hbase
        exact ⟨v', w', h1, by simpa using h2, h3⟩
    · obtain ⟨b, off, rfl, hb, hc⟩ := RdK.flat hr hl0
      obtain ⟨v', w', h1, h2, h3, _⟩ := run_append_own (P := Try.prog) w base 31 ty 27 i (.agg (kz 0)) 33 36 Try.underlying31 hi hz hsize hby rfl (by decide) _ _ _ hown ⟨b, off, none⟩ l.length c (l.flatMap kcs) (flat_kcs hr.each) hc (fun u hu => by
          obtain ⟨k, _, hk⟩ := List.mem_flatMap.1 hu
          have := kcs_one (k := k)
          rw [Array.all_eq_true_iff_forall_mem] at this
          exact this u (by simpa using hk)) (by unfold maxLen; omega) (by omega) hbase
      exact ⟨v', w', h1, h2, h3⟩
  obtain ⟨v', w', h1, h2, h3⟩ := hrun
  have hf : ∃ A' c', v' = .slice A' (l0.length + l.length) c' := by
    rcases h2.2 with ⟨hv, h0⟩ | ⟨g, cp, cur, hv, _⟩
    · exact ⟨none, 0, by rw [hv, h0]⟩
    · exact ⟨_, _, hv⟩
  obtain ⟨A', c', rfl⟩ := hf
  refine ⟨A', c', w', h1, ?_, h3⟩
  unfold OwnK
  rw [List.length_append, List.flatMap_append]
  exact h2
theorem wpList_append_keys {ops : Array Oper} {rest : List Oper} {o : Oper} {a : Act} {Q : Exit → Act → World → Prop} (hgd : o.guard = none) (s x : Operand)
    (ho : o.op = .call { callee := .builtin .append, args := #[s, x], argTypes := #[31, 31] })
    (base : Nat) (i : TypeInfo) (hi : Try.prog.info? 27 = some i) (hz : i.zero = some (.agg (kz 0))) (hsize : i.size = 33) (hby : i.bytes = 36)
    (A0 : Option Addr) (c0 k0 : Nat) (l0 : List KeyT) (h0 : l0.length = k0) (hs : a.eval s = .slice A0 k0 c0) (hown : OwnK w base A0 c0 l0) (B : Nat) (A : Option Addr) (c k : Nat) (l : List KeyT) (hx : a.eval x = .slice A k c) (hk : l.length = k) (hr : RdK w B A l) (hl : k0 + k ≤ 100000) (hbase : base ≤ w.heap.size)
    (h : ∀ A' c' w', OwnK w' base A' c' (l0 ++ l) → w.grownBy w' (Value.slice A0 k0 c0).ownBlock → wpList Try.prog ops Q rest (a.put o.dst (.slice A' (k0 + k) c')) w') : wpList Try.prog ops Q (o :: rest) a w := by
  obtain ⟨A', c', w', h1, h2, h3⟩ := run_append_keys w o.type base i hi hz hsize hby A0 c0 k0 l0 h0 hown B A c k l hk hr hl hbase
  refine wpList_plain hgd fun K hK => ?_
  unfold Oper.wp execOp
  simp only [ho, resolve, invoke, builtin, Sem.run_bind, Sem.run_pure, Result.andThen_ok, List.map_toArray, List.map_cons, List.map_nil, hs, hx, h1]
  exact hK _ _ (h A' c' w' h2 h3)
end
/-- Two rows told apart, in a region that draws its order. -/
theorem quiet_neq_row {P : Program} {C : World → Prop} {next : Act → Prop} {o : Oper} {a a' : Act} (ty u : TypeId) (x y : Operand) (ho : o.op = .binOp .neq ty x y u) (xs ys : Array Value) (hx : a.eval x = .agg xs) (hy : a.eval y = .agg ys)
    (hg : P.eqGuardType P.depth ty = false) (r : Bool) (h : ∀ w, (Op.equal ty (.agg xs) (.agg ys)).run P w = .ok r w) (ha : a.put o.dst (.bool !r) = a') (hn : next a') : o.quiet P a C next := by
  subst ha
  refine ⟨.bool !r, fun w hw => ?_, hn⟩
  unfold Oper.quietAt execOp
  simp only [ho, Sem.run_bind, hx, hy, run_eqGuard_agg w .neq ty x y xs ys hg, Result.andThen_ok, binOp, h w, Sem.run_pure]
  exact ⟨rfl, rfl⟩
theorem grown_setCells (b : Nat) : ∀ (vs : List Value) (o : Nat) (w : World), w.grownBy (w.setCells b o vs) (some b)
  | [], _, w => World.grownBy.refl w _
  | v :: vs, o, w => gby_trans (grownBy_cell w b o v) (grown_setCells b vs (o + 1) _)
theorem PM.grown {w w' : World} {mb sb pm n g : Nat} {sd : List Nat} {al : List (KeyT × Nat)} (h : PM w mb sb pm n sd al) (hg : w.grownBy w' (some g)) (h1 : g ≠ mb) (h2 : g ≠ sb) (h3 : g ≠ pm) : PM w' mb sb pm n sd al :=
  ⟨blk_grownOther h.mb hg h1.symm, blk_grownOther h.sb hg h2.symm, h.pm.kept hg (fun e => h3 (Option.some.inj e).symm)⟩
/-- The keys from the j-th on still lie in the call's own block, which is none of the Map's. -/
def Over (w : World) (A : Option Addr) (U : List KeyT) (j mb sb pm B : Nat) : Prop :=
  ∀ t, j ≤ t → ∀ ht : t < U.length, ∃ g, A = some ⟨g, 0, none⟩ ∧ g ≠ mb ∧ g ≠ sb ∧ g ≠ pm ∧ B ≤ g ∧ g < w.heap.size ∧ w.there g (t * 33) 33 ∧ w.rangeAt g (t * 33) (kcs U[t])
theorem Over.start {w w' : World} {A : Option Addr} {c mb sb pm n B : Nat} {U : List KeyT} {sd : List Nat} {al : List (KeyT × Nat)} (ho : ∀ k ∈ U, k.Ok) (h : OwnK w B A c U) (hb : Below w.heap.size w w') (hp : PM w' mb sb pm n sd al) : Over w' A U 0 mb sb pm B := fun t _ ht => by
  have h' : OwnK w' B A c U := ownsRow_below h hb
  obtain ⟨g0, off, hA, hg, hra, _⟩ := (OwnK.rd h' ho).at_ ht
  rcases h'.2 with ⟨_, h0⟩ | ⟨g, cap, cur, hv, hB, hh, hnc, _, hcs, htk⟩
  · omega
  · have hA2 : A = some ⟨g, 0, none⟩ := by injection hv
    rw [hA2] at hA
    injection hA with hA
    injection hA with e1 e2 _
    subst e1; subst e2
    have hbk : Blk w' g 27 cur := hh
    refine ⟨g, hA2, Blk.other hbk hp.mb (by decide), Blk.other hbk hp.sb (by decide), blk_not_map hbk hp.pm, hB, hg, fun j hj => ⟨?_, Blk.frozen hbk _⟩, by simpa using hra⟩
    rw [hbk.cell, Array.getElem?_eq_getElem (by have : t * 33 + 33 ≤ U.length * 33 := by omega
                                                have : U.length * 33 ≤ cap * 33 := Nat.mul_le_mul_right _ hnc
                                                omega)]
    rfl
theorem Over.more {w w' : World} {A : Option Addr} {U : List KeyT} {j mb sb pm B : Nat} (h : Over w A U j mb sb pm B) (hb : Below w.heap.size w w') : Over w' A U j mb sb pm B := fun t h1 h2 => by
  obtain ⟨g, a1, a2, a3, a4, a5, a6, a7, a8⟩ := h t h1 h2
  refine ⟨g, a1, a2, a3, a4, a5, Nat.lt_of_lt_of_le a6 hb.size, fun j hj => ?_, fun j u hu => ?_⟩
  · have := a7 j hj
    rw [hb.cell (p := ⟨g, t * 33 + j, none⟩) a6]
    refine ⟨this.1, ?_⟩
    rw [← this.2]
    simp only [World.frozen?, hb.block g a6]
  · rw [hb.cell (p := ⟨g, t * 33 + j, none⟩) a6]
    exact a8 j u hu
theorem Over.set {w : World} {A : Option Addr} {U : List KeyT} {j mb sb pm B g : Nat} (h : Over w A U j mb sb pm B) (hA : A = some ⟨g, 0, none⟩) (cs : List Value) (hl : cs.length = 33) (ho : ∀ k ∈ U, k.Ok) : Over (w.setCells g (j * 33) cs) A U (j + 1) mb sb pm B := fun t h1 h2 => by
  obtain ⟨g', a1, a2, a3, a4, a5, a6, a7, a8⟩ := h t (by omega) h2
  have e : g' = g := by rw [a1] at hA; injection hA with hA; injection hA
  subst e
  refine ⟨g', a1, a2, a3, a4, a5, Nat.lt_of_lt_of_le a6 (grown_setCells g' cs _ w).size, World.there_setCells a7 _ _ _, World.rangeAt_setCells_apart a8 _ _ _ (.inr (.inr ?_))⟩
  rw [hl]; omega
/-- The key that is written over the call's own. -/
def k99 : KeyT := (List.replicate 32 0, 99)
theorem k99_ok : k99.Ok := ⟨rfl, by decide⟩
theorem k99_cells : kz 99 = (kcs k99).toArray := rfl
theorem wpList_store_99 {ops : Array Oper} {rest : List Oper} {o : Oper} {a : Act} {w : World} {Q : Exit → Act → World → Prop} (hgd : o.guard = none) (x y : Operand) (ho : o.op = .store 27 x y) (b t : Nat) (hx : a.eval x = .pointer (some ⟨b, t, none⟩)) (hy : a.eval y = .agg (kz 99))
    (ht : w.there b t 33) (h : wpList Try.prog ops Q rest (a.put o.dst undef) (w.setCells b t (kcs k99))) : wpList Try.prog ops Q (o :: rest) a w := by
  rw [k99_cells] at hy
  have hs : (kcs k99).toArray.size = 33 := by rw [List.size_toArray, kcs_length k99_ok]
  exact wpList_store_mid hgd _ x y ho b t _ hx hy (by rw [hs]; exact ht) (by rw [hs]; exact key_size) kcs_one h
end Go.Proofs.Ytacijjioaanlgaa
