/- Two keys compared. No statement of the seat is proved here. -/
import Derived.Test.YtmnjaocdhelebaaKeyMap
import Derived.Laws.StructEq
namespace Go.Proofs.Ytmnjaocdhelebaa
open Go.ChangeShapes Go.WideShapes Go.ChangeAt Go.RowKit Go.Deep Go.Joins Go.Maps
set_option linter.unusedVariables false

set_option maxRecDepth 100000 in
theorem key_eq {a b : KeyT} (ha : a.Ok) (hb : b.Ok) (w : World) : (Op.equal 27 (.agg (kcs a).toArray) (.agg (kcs b).toArray)).run Try.prog w = .ok (decide (a = b)) w := by
  obtain ⟨r, hr, hi⟩ := run_equal_deep (P := Try.prog) w (m := 5) (by decide) (k := 27) (by kernel_rfl) (by kernel_rfl) (kl_is ha) (kl_is hb)
  rw [hr]
  congr 1
  cases r
  · symm; rw [decide_eq_false_iff_not]; intro h; subst h; exact absurd (hi.2 rfl) (by simp)
  · symm; rw [decide_eq_true_iff]; exact kl_inj ha hb (hi.1 rfl)
theorem key_eq_in {a b : KeyT} (ha : a.Ok) (hb : b.Ok) (w : World) : (Op.equalIn 10000 27 (.agg (kcs a).toArray) (.agg (kcs b).toArray)).run Try.prog w = .ok (decide (a = b)) w := key_eq ha hb w
theorem key_guard : Try.prog.eqGuardType Try.prog.depth 27 = false := by kernel_rfl
/-- Each key once. -/
def uq (l : List KeyT) : List KeyT := l.foldl (fun out k => if k ∈ out then out else out ++ [k]) []
theorem uq_snoc (l : List KeyT) (k : KeyT) : uq (l ++ [k]) = if k ∈ uq l then uq l else uq l ++ [k] := by unfold uq; rw [List.foldl_append]; rfl
theorem uq_nodup (l : List KeyT) : (uq l).Nodup := by
  refine rev_rec (P := fun l => (uq l).Nodup) (by simp [uq]) (fun l x ih => ?_) l
  rw [uq_snoc]
  split
  · exact ih
  · rename_i h
    exact List.nodup_append.2 ⟨ih, by simp, fun a ha b hb e => h (by rw [List.mem_singleton.1 hb] at e; rw [← e]; exact ha)⟩
theorem uq_mem (l : List KeyT) (x : KeyT) : x ∈ uq l ↔ x ∈ l := by
  refine rev_rec (P := fun l => x ∈ uq l ↔ x ∈ l) (by simp [uq]) (fun l y ih => ?_) l
  rw [uq_snoc]
  split
  · rename_i h
    simp only [List.mem_append, List.mem_singleton, ih]
    constructor
    · exact .inl
    · rintro (h1 | rfl)
      · exact h1
      · exact ih.1 h
  · simp only [List.mem_append, List.mem_singleton, ih]
theorem uq_length (l : List KeyT) : (uq l).length ≤ l.length := by
  refine rev_rec (P := fun l => (uq l).length ≤ l.length) (by simp [uq]) (fun l y ih => ?_) l
  rw [uq_snoc]
  split <;> simp <;> omega
end Go.Proofs.Ytmnjaocdhelebaa
