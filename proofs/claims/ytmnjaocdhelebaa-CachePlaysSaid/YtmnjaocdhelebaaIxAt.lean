/- Where a key stands among rows, or would. No statement of the seat is proved here. -/
import Derived.Test.YtmnjaocdhelebaaIxMath
namespace Go.Proofs.Ytmnjaocdhelebaa
set_option linter.unusedVariables false

theorem at_split {L : List RowT} (h : RowsOk L) {k : List UInt8 × Nat} (hk : KeyOk k) :
    ∃ M, L = under L k ++ M ∧ (∀ x ∈ M, ¬ ordK x.1 < ordK k) ∧ hasX L k = (M.head?.map (·.1) == some k) := by
  rcases rise_split h.rise hk h.key with ⟨h1, h2⟩ | ⟨p, h1, _, h2⟩
  · refine ⟨over L k, h2, fun x hx => by have := (mem_over.1 hx).2; omega, ?_⟩
    rw [h1]
    cases ho : over L k with
    | nil => rfl
    | cons r M =>
      have h3 : r ∈ over L k := by rw [ho]; exact List.mem_cons_self
      have h4 := (mem_over.1 h3).2
      have h5 : r.1 ≠ k := fun e => by rw [e] at h4; omega
      simp [h5]
  · refine ⟨(k, p) :: over L k, h2, fun x hx => ?_, ?_⟩
    · rcases List.mem_cons.1 hx with rfl | hx
      · exact Nat.lt_irrefl _
      · have := (mem_over.1 hx).2; omega
    · rw [h1]; simp
theorem at_less {L : List RowT} {k : List UInt8 × Nat} {M : List RowT} (hM : L = under L k ++ M) {j : Nat} (hj : j < (under L k).length) (hjL : j < L.length) : ordK (L[j]).1 < ordK k := by
  have : L[j] = (under L k)[j] := by
    have e : L[j]? = (under L k)[j]? := by
      have e2 : L[j]? = (under L k ++ M)[j]? := congrArg (·[j]?) hM
      rw [e2, List.getElem?_append_left hj]
    rw [List.getElem?_eq_getElem hjL, List.getElem?_eq_getElem hj] at e
    exact Option.some.inj e
  rw [this]
  exact (mem_under.1 (List.getElem_mem hj)).2
theorem at_stop {L : List RowT} {k : List UInt8 × Nat} {M : List RowT} (hM : L = under L k ++ M) (hn : ∀ x ∈ M, ¬ ordK x.1 < ordK k) (hh : hasX L k = (M.head?.map (·.1) == some k)) :
    ((under L k).length = L.length → hasX L k = false) ∧ (∀ hq : (under L k).length < L.length, ¬ ordK (L[(under L k).length]).1 < ordK k ∧ hasX L k = decide ((L[(under L k).length]).1 = k)) := by
  have hl : L.length = (under L k).length + M.length := by
    have := congrArg List.length hM
    rwa [List.length_append] at this
  constructor
  · intro e
    have : M = [] := List.length_eq_zero_iff.1 (by omega)
    rw [hh, this]; rfl
  · intro hq
    cases M with
    | nil => simp at hl; omega
    | cons r M =>
      have e : L[(under L k).length] = r := by
        have e2 : L[(under L k).length]? = (under L k ++ r :: M)[(under L k).length]? := congrArg (·[(under L k).length]?) hM
        rw [List.getElem?_append_right (Nat.le_refl _), Nat.sub_self, List.getElem?_eq_getElem hq] at e2
        exact Option.some.inj e2
      rw [e]
      refine ⟨hn r List.mem_cons_self, ?_⟩
      rw [hh]
      simp only [List.head?_cons, Option.map_some]
      by_cases h : r.1 = k
      · simp [h]
      · simp [h]
theorem under_length (L : List RowT) (k : List UInt8 × Nat) : (under L k).length ≤ L.length := List.length_filter_le _ _
end Go.Proofs.Ytmnjaocdhelebaa
