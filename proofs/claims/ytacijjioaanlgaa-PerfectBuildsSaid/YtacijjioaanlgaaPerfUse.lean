/- Plain mathematics for package perfect: places that are used, the first try that fits. No statement of the seat is proved here; nothing of the program is imported. -/
import Derived.Test.YtacijjioaanlgaaMath
namespace Go.Proofs.Ytacijjioaanlgaa
open Go.RowKit

/-- The first n of U, as cells. -/
def ucs (n : Nat) (U : Nat → Bool) : List Value := (List.range n).map fun i => .bool (U i)
theorem ucs_length (n : Nat) (U : Nat → Bool) : (ucs n U).length = n := by simp [ucs]
theorem ucs_get {n : Nat} {U : Nat → Bool} {i : Nat} (h : i < n) : (ucs n U)[i]? = some (.bool (U i)) := by simp [ucs, h]
theorem ucs_congr {n : Nat} {U V : Nat → Bool} (h : ∀ i, i < n → U i = V i) : ucs n U = ucs n V := List.map_congr_left fun i hi => by rw [h i (List.mem_range.1 hi)]
def setU (U : Nat → Bool) (p : Nat) (b : Bool) : Nat → Bool := fun q => if q = p then b else U q
theorem ucs_set (n : Nat) (U : Nat → Bool) (p : Nat) (b : Bool) : (ucs n U).toArray.setIfInBounds p (.bool b) = (ucs n (setU U p b)).toArray := by
  rw [List.setIfInBounds_toArray]
  congr 1
  apply List.ext_getElem (by simp [ucs])
  intro j h1 h2
  have hj : j < n := by simpa [ucs] using h2
  rw [List.getElem_set]
  by_cases e : p = j
  · subst e; simp [ucs, setU]
  · rw [if_neg e]
    simp [ucs, setU, show ¬ j = p from fun h => e h.symm]
def markL (U : Nat → Bool) (l : List Nat) : Nat → Bool := fun q => U q || decide (q ∈ l)
def unmarkL (U : Nat → Bool) (l : List Nat) : Nat → Bool := fun q => U q && !decide (q ∈ l)
theorem markL_nil (U : Nat → Bool) : markL U [] = U := by funext q; simp [markL]
theorem markL_snoc (U : Nat → Bool) (l : List Nat) (p : Nat) : markL U (l ++ [p]) = setU (markL U l) p true := by
  funext q
  by_cases e : q = p
  · subst e; simp [markL, setU]
  · simp [markL, setU, e]
theorem unmarkL_nil (U : Nat → Bool) : unmarkL U [] = U := by funext q; simp [unmarkL]
theorem unmarkL_snoc (U : Nat → Bool) (l : List Nat) (p : Nat) : unmarkL U (l ++ [p]) = setU (unmarkL U l) p false := by
  funext q
  by_cases e : q = p
  · subst e; simp [unmarkL, setU]
  · simp [unmarkL, setU, e]
/-- Those places are unlike, and none of them is used. -/
def Fits (U : Nat → Bool) (l : List Nat) : Prop := l.Nodup ∧ ∀ p ∈ l, U p = false
instance (U : Nat → Bool) (l : List Nat) : Decidable (Fits U l) := inferInstanceAs (Decidable (_ ∧ _))
theorem fits_nil (U : Nat → Bool) : Fits U [] := ⟨List.nodup_nil, by simp⟩
theorem fits_snoc {U : Nat → Bool} {l : List Nat} {p : Nat} : Fits U (l ++ [p]) ↔ Fits U l ∧ markL U l p = false := by
  unfold Fits markL
  constructor
  · rintro ⟨h1, h2⟩
    rw [List.nodup_append] at h1
    refine ⟨⟨h1.1, fun q hq => h2 q (by simp [hq])⟩, ?_⟩
    rw [h2 p (by simp)]
    have : ¬ p ∈ l := fun hp => h1.2.2 p hp p (by simp) rfl
    simp [this]
  · rintro ⟨⟨h1, h2⟩, h3⟩
    simp only [Bool.or_eq_false_iff, decide_eq_false_iff_not] at h3
    refine ⟨List.nodup_append.2 ⟨h1, by simp, fun a ha b hb => by rw [List.mem_singleton.1 hb]; rintro rfl; exact h3.2 ha⟩, fun q hq => ?_⟩
    rcases List.mem_append.1 hq with hq | hq
    · exact h2 q hq
    · rw [List.mem_singleton.1 hq]; exact h3.1
theorem fits_take {U : Nat → Bool} {l : List Nat} (h : Fits U l) (k : Nat) : Fits U (l.take k) :=
  ⟨h.1.sublist (List.take_sublist k l), fun p hp => h.2 p (List.mem_of_mem_take hp)⟩
theorem unmark_mark {U : Nat → Bool} {l : List Nat} (h : ∀ p ∈ l, U p = false) : unmarkL (markL U l) l = U := by
  funext q
  simp only [unmarkL, markL]
  by_cases e : q ∈ l
  · simp [e, h q e]
  · simp [e]
/-- The first of the tries 1 .. n that fits; 0 if none does. -/
def firstD (q : Nat → Bool) : Nat → Nat
  | 0 => 0
  | n + 1 => if firstD q n = 0 then (if q (n + 1) then n + 1 else 0) else firstD q n
theorem firstD_none {q : Nat → Bool} {n : Nat} : firstD q n = 0 ↔ ∀ d, 1 ≤ d → d ≤ n → q d = false := by
  induction n with
  | zero => exact ⟨fun _ d h1 h2 => by omega, fun _ => rfl⟩
  | succ n ih =>
    rw [firstD]
    constructor
    · intro h d h1 h2
      by_cases h0 : firstD q n = 0
      · rw [if_pos h0] at h
        by_cases e : d = n + 1
        · subst e
          cases hq : q (n + 1)
          · rfl
          · rw [hq] at h; simp at h
        · exact ih.1 h0 d h1 (by omega)
      · rw [if_neg h0] at h; exact absurd h h0
    · intro h
      rw [if_pos (ih.2 fun d h1 h2 => h d h1 (by omega)), h (n + 1) (by omega) (Nat.le_refl _)]
      rfl
theorem firstD_first {q : Nat → Bool} {n d : Nat} (h1 : 1 ≤ d) (hd : d ≤ n) (hq : q d = true) (hf : ∀ e, 1 ≤ e → e < d → q e = false) : firstD q n = d := by
  induction n with
  | zero => omega
  | succ n ih =>
    rw [firstD]
    by_cases e : d = n + 1
    · subst e
      rw [if_pos (firstD_none.2 fun d h1 h2 => hf d h1 (by omega)), if_pos hq]
    · rw [ih (by omega), if_neg (by omega)]
theorem firstD_yes {q : Nat → Bool} {n : Nat} (h : firstD q n ≠ 0) : q (firstD q n) = true ∧ 1 ≤ firstD q n ∧ firstD q n ≤ n := by
  induction n with
  | zero => exact absurd rfl h
  | succ n ih =>
    rw [firstD] at h ⊢
    by_cases h0 : firstD q n = 0
    · rw [if_pos h0] at h ⊢
      cases hq : q (n + 1)
      · rw [hq] at h; simp at h
      · simp [hq]
    · rw [if_neg h0]
      have := ih h0
      exact ⟨this.1, this.2.1, by omega⟩
/-- The places below n that are not used. -/
def freeL (n : Nat) (U : Nat → Bool) : List Nat := (List.range n).filter fun p => !U p
theorem freeL_succ (n : Nat) (U : Nat → Bool) : freeL (n + 1) U = freeL n U ++ if U n = true then [] else [n] := by
  rw [freeL, List.range_succ, List.filter_append, freeL]
  cases h : U n <;> simp [h]
theorem freeL_mono {a n : Nat} (h : a ≤ n) (U : Nat → Bool) : (freeL a U).length ≤ (freeL n U).length := by
  induction n with
  | zero => rw [Nat.le_zero.1 h]; exact Nat.le_refl _
  | succ n ih =>
    by_cases e : a = n + 1
    · rw [e]; exact Nat.le_refl _
    · rw [freeL_succ, List.length_append]; have := ih (by omega); omega
theorem freeL_pre {a n : Nat} (h : a ≤ n) (U : Nat → Bool) : freeL a U <+: freeL n U := by
  induction n with
  | zero => rw [Nat.le_zero.1 h]; exact List.prefix_rfl
  | succ n ih =>
    by_cases e : a = n + 1
    · rw [e]; exact List.prefix_rfl
    · rw [freeL_succ]; exact (ih (by omega)).trans (List.prefix_append _ _)
theorem freeL_lt {a n j : Nat} {U : Nat → Bool} (h : (freeL a U).length = j) (hj : j < (freeL n U).length) : a < n := by
  rcases Nat.lt_or_ge a n with h1 | h1
  · exact h1
  · have := freeL_mono h1 U; omega
theorem freeL_get {a n j : Nat} {U : Nat → Bool} (h : (freeL a U).length = j) (hn : a < n) (hU : U a = false) : (freeL n U)[j]? = some a := by
  obtain ⟨t, ht⟩ := freeL_pre (show a + 1 ≤ n from hn) U
  rw [← ht, freeL_succ, hU, List.getElem?_append_left (by simp [h])]
  simp [← h]
theorem freeL_mem {n p : Nat} {U : Nat → Bool} : p ∈ freeL n U ↔ p < n ∧ U p = false := by simp [freeL]
theorem freeL_nodup (n : Nat) (U : Nat → Bool) : (freeL n U).Nodup := List.nodup_range.filter _
end Go.Proofs.Ytacijjioaanlgaa
