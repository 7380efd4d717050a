/- Plain mathematics for package perfect: the order of groups. No statement of the seat is proved here; nothing of the program is imported. -/
import Derived.Test.YtacijjioaanlgaaMath
namespace Go.Proofs.Ytacijjioaanlgaa
set_option linter.unusedVariables false

/-- Group i goes ahead of group j: it has more keys, or as many and the lesser index. -/
def ahead2 (cnt : Nat → Nat) (i j : Nat) : Prop := cnt j < cnt i ∨ (cnt j = cnt i ∧ i < j)
/-- The groups that have keys, in their order. -/
structure Ord (cnt : Nat → Nat) (G : Nat) (O : List Nat) : Prop where
  pair : O.Pairwise (ahead2 cnt)
  mem : ∀ i, i ∈ O ↔ i < G ∧ 0 < cnt i
theorem pair_unique {cnt : Nat → Nat} : ∀ {O P : List Nat}, O.Pairwise (ahead2 cnt) → P.Pairwise (ahead2 cnt) → (∀ i, i ∈ O ↔ i ∈ P) → O = P
  | [], [], _, _, _ => rfl
  | [], p :: P, _, _, h => absurd ((h p).2 (by simp)) (by simp)
  | o :: O, [], _, _, h => absurd ((h o).1 (by simp)) (by simp)
  | o :: O, p :: P, h1, h2, h => by
    obtain ⟨a1, a2⟩ := List.pairwise_cons.1 h1
    obtain ⟨b1, b2⟩ := List.pairwise_cons.1 h2
    have e : o = p := by
      rcases List.mem_cons.1 ((h o).1 (by simp)) with e | ho
      · exact e
      · rcases List.mem_cons.1 ((h p).2 (by simp)) with e | hp
        · exact e.symm
        · have x := b1 o ho
          have y := a1 p hp
          unfold ahead2 at x y
          omega
    subst e
    have irr : ∀ i, ahead2 cnt i i → False := fun i hi => by unfold ahead2 at hi; omega
    rw [pair_unique a2 b2 fun i => ⟨fun hi => ?_, fun hi => ?_⟩]
    · rcases List.mem_cons.1 ((h i).1 (by simp [hi])) with e | h3
      · exact absurd (a1 i hi) (fun h => irr _ (e ▸ h))
      · exact h3
    · rcases List.mem_cons.1 ((h i).2 (by simp [hi])) with e | h3
      · exact absurd (b1 i hi) (fun h => irr _ (e ▸ h))
      · exact h3
theorem Ord.unique {cnt : Nat → Nat} {G : Nat} {O P : List Nat} (h : Ord cnt G O) (k : Ord cnt G P) : O = P :=
  pair_unique h.pair k.pair fun i => (h.mem i).trans (k.mem i).symm
theorem Ord.nodup {cnt : Nat → Nat} {G : Nat} {O : List Nat} (h : Ord cnt G O) : O.Nodup :=
  h.pair.imp fun {a b} hab e => by subst e; unfold ahead2 at hab; omega
end Go.Proofs.Ytacijjioaanlgaa
