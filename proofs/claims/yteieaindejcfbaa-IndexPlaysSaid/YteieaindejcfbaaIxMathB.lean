/- Plain mathematics for package index: each row stands once in all, on its shelf and among its twins. No statement of the seat is proved here; nothing of the program is imported. -/
import Derived.Test.YteieaindejcfbaaIxMath
namespace Go.Proofs.Yteieaindejcfbaa
set_option linter.unusedVariables false

theorem rise_nodup {L : List RowT} (h : Rise L) : L.Nodup := List.Pairwise.imp (fun {a b} hab e => by rw [e] at hab; exact absurd hab (Nat.lt_irrefl _)) h
theorem rise_keys {L : List RowT} (h : Rise L) : (L.map (·.1)).Nodup := by
  unfold List.Nodup
  rw [List.pairwise_map]
  exact List.Pairwise.imp (fun {a b} hab e => by rw [e] at hab; exact absurd hab (Nat.lt_irrefl _)) h
theorem count_insS (l : List RowT) (r x : RowT) : (insS l r).count x = l.count x + if r = x then 1 else 0 := by
  unfold insS
  have h : l.count x = (l.takeWhile (fun y => decide (y.2.2 ≤ r.2.2))).count x + (l.dropWhile (fun y => decide (y.2.2 ≤ r.2.2))).count x := by
    rw [← List.count_append, List.takeWhile_append_dropWhile]
  rw [List.count_append, List.count_cons, h]
  simp only [beq_iff_eq]
  omega
theorem count_foldl_insS (x : RowT) : ∀ (M l : List RowT), (M.foldl insS l).count x = l.count x + M.count x
  | [], l => rfl
  | r :: M, l => by
    rw [List.foldl_cons, count_foldl_insS x M, count_insS, List.count_cons]
    simp only [beq_iff_eq]
    omega
theorem count_one {α : Type} [BEq α] [LawfulBEq α] {l : List α} (h : l.Nodup) {x : α} (hx : x ∈ l) : l.count x = 1 := by
  have h1 := List.nodup_iff_count.1 h x
  have h2 := List.count_pos_iff.2 hx
  omega
theorem count_shelf {L : List RowT} (h : Rise L) {r : RowT} (hr : r ∈ L) : (shelfX L r.2.1).count r = 1 := by
  unfold shelfX
  rw [count_foldl_insS, List.count_nil, Nat.zero_add]
  exact count_one (List.Pairwise.filter _ (rise_nodup h)) (List.mem_filter.2 ⟨hr, by simp⟩)
theorem count_twins {L : List RowT} (h : Rise L) {r : RowT} (hr : r ∈ L) : (twinsX L r.1.1).count r.1 = 1 := by
  unfold twinsX
  refine count_one ?_ (List.mem_map.2 ⟨r, List.mem_filter.2 ⟨hr, by simp⟩, rfl⟩)
  exact rise_keys (List.Pairwise.filter _ h)
theorem get_mem {L : List RowT} (h : Rise L) {r : RowT} (hr : r ∈ L) : getX L r.1 = r.2 := by
  unfold getX
  cases hf : L.find? (fun x => decide (x.1 = r.1)) with
  | none =>
    have := List.find?_eq_none.1 hf r hr
    simp at this
  | some y =>
    have h1 := List.find?_some hf
    have h1 : y.1 = r.1 := by simpa using h1
    have h2 := List.mem_of_find?_eq_some hf
    have h3 : y = r := by
      rcases List.mem_iff_getElem.1 h2 with ⟨i, hi, rfl⟩
      rcases List.mem_iff_getElem.1 hr with ⟨j, hj, rfl⟩
      have hp := List.pairwise_iff_getElem.1 h
      rcases Nat.lt_trichotomy i j with hij | hij | hij
      · have := hp i j hi hj hij; rw [h1] at this; omega
      · subst hij; rfl
      · have := hp j i hj hi hij; rw [h1] at this; omega
    show y.2 = r.2
    rw [h3]
theorem count_step {α : Type} [BEq α] [LawfulBEq α] [DecidableEq α] (l : List α) (x : α) {i : Nat} (hi : i < l.length) : (l.take (i + 1)).count x = (l.take i).count x + if l[i] = x then 1 else 0 := by
  rw [List.take_succ_eq_append_getElem hi, List.count_append, List.count_singleton]
  simp only [beq_iff_eq]
end Go.Proofs.Yteieaindejcfbaa
