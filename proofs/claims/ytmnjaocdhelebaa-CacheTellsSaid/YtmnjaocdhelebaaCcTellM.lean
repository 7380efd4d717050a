/- Plain mathematics of what a cache tells, gone through shelf by shelf, row by row. No statement of the seat is proved here. -/
import Derived.Test.YtmnjaocdhelebaaCcMath
namespace Go.Proofs.Ytmnjaocdhelebaa
set_option linter.unusedVariables false

/-- Is there a row of that key among these; one of that key and place. -/
def anyR (k : List UInt8 × Nat) (l : List RowT) : Bool := l.any fun r => decide (r.1 = k)
def toldR (k : List UInt8 × Nat) (p : Int × Int) (l : List RowT) : Bool := l.any fun r => decide (r.1 = k) && decide (r.2 = p)
def anyS (k : List UInt8 × Nat) (t : List (Int × List RowT)) : Bool := t.any fun x => anyR k x.2
def toldS (k : List UInt8 × Nat) (p : Int × Int) (t : List (Int × List RowT)) : Bool := t.any fun x => toldR k p x.2
theorem any_take {α : Type} (f : α → Bool) (l : List α) {j : Nat} (hj : j < l.length) : (l.take (j + 1)).any f = ((l.take j).any f || f l[j]) := by
  rw [List.take_succ_eq_append_getElem hj, List.any_append]
  simp
theorem anyR_succ {k : List UInt8 × Nat} {l : List RowT} {j : Nat} (hj : j < l.length) : anyR k (l.take (j + 1)) = (anyR k (l.take j) || decide (l[j].1 = k)) := any_take _ l hj
theorem toldR_succ {k : List UInt8 × Nat} {p : Int × Int} {l : List RowT} {j : Nat} (hj : j < l.length) : toldR k p (l.take (j + 1)) = (toldR k p (l.take j) || (decide (l[j].1 = k) && decide (l[j].2 = p))) := any_take _ l hj
theorem anyS_succ {k : List UInt8 × Nat} {t : List (Int × List RowT)} {j : Nat} (hj : j < t.length) : anyS k (t.take (j + 1)) = (anyS k (t.take j) || anyR k t[j].2) := any_take _ t hj
theorem toldS_succ {k : List UInt8 × Nat} {p : Int × Int} {t : List (Int × List RowT)} {j : Nat} (hj : j < t.length) : toldS k p (t.take (j + 1)) = (toldS k p (t.take j) || toldR k p t[j].2) := any_take _ t hj
theorem any_find {α : Type} (f : α → Bool) (l : List α) : l.any f = (l.find? f).isSome := by
  induction l with
  | nil => rfl
  | cons x l ih => cases h : f x <;> simp [h, ih]
theorem anyS_knows (S : CS) (k : List UInt8 × Nat) : anyS k S.t = knowsC S k := by
  unfold anyS knowsC findC
  induction S.t with
  | nil => rfl
  | cons x t ih =>
    rw [List.any_cons, ih, List.findSome?_cons]
    unfold anyR
    rw [any_find]
    cases h : x.2.find? (fun r => decide (r.1 = k)) <;> simp
theorem find_told {S : CS} {k : List UInt8 × Nat} {r : RowT} (h : findC S k = some r) : toldS k r.2 S.t = true := by
  unfold findC at h
  obtain ⟨x, hx, hf⟩ := List.exists_of_findSome?_eq_some h
  unfold toldS toldR
  rw [List.any_eq_true]
  refine ⟨x, hx, ?_⟩
  rw [List.any_eq_true]
  refine ⟨r, List.mem_of_find?_eq_some hf, ?_⟩
  have := List.find?_some hf
  simp at this
  simp [this]
theorem toldS_knows {S : CS} {k : List UInt8 × Nat} (h : knowsC S k = true) : toldS k (getC S k) S.t = true := by
  unfold knowsC at h
  obtain ⟨r, hr⟩ := Option.isSome_iff_exists.1 h
  unfold getC
  rw [hr]
  exact find_told hr
/-- What the law keeps of each shelf: the rows of the act by which it was loaded last. Where a shelf is there, they are what the table has. -/
def Kept (S : CS) (L : Int → List RowT) : Prop := ∀ x ∈ S.t, L x.1 = x.2
theorem Kept.nil (n : Nat) (L : Int → List RowT) : Kept ⟨n, []⟩ L := by intro x hx; simp at hx
theorem Kept.drop {S : CS} {L : Int → List RowT} (h : Kept S L) (sh : Int) : Kept (dropC S sh) L := fun x hx => h x (List.mem_filter.1 hx).1
theorem Kept.load {S : CS} {L : Int → List RowT} (h : Kept S L) (sh : Int) (R : List RowT) (d : Nat) : Kept (loadC S sh R d) (if hasC S sh = true then L else fun y => if y = sh then R else L y) := by
  by_cases hh : hasC S sh = true
  · rw [if_pos hh, loadC_had hh]; exact h
  · rw [if_neg hh]
    unfold loadC
    split
    · rename_i hc
      rcases hc with hc | hc
      · intro x hx
        have hne : x.1 ≠ sh := fun e => hh (by rw [hasC_iff]; unfold shelvesC; exact List.mem_map.2 ⟨x, hx, e⟩)
        show (if x.1 = sh then R else L x.1) = x.2
        rw [if_neg hne]
        exact h x hx
      · exact absurd hc hh
    · intro x hx
      have hx' : x ∈ S.t ∨ x = (sh, R) := by
        rcases List.mem_append.1 hx with hx | hx
        · left
          split at hx
          · exact List.mem_of_mem_eraseIdx hx
          · exact hx
        · right; simpa using hx
      show (if x.1 = sh then R else L x.1) = x.2
      rcases hx' with hx' | rfl
      · have hne : x.1 ≠ sh := fun e => hh (by rw [hasC_iff]; unfold shelvesC; exact List.mem_map.2 ⟨x, hx', e⟩)
        rw [if_neg hne]
        exact h x hx'
      · rw [if_pos rfl]
end Go.Proofs.Ytmnjaocdhelebaa
