/- Plain mathematics for package chunk: how lists of bytes are cut. No statement of the seat is proved here; nothing of the program is imported. -/
import Derived.Test.YtmnbfmcgnddlaaaRollMath
namespace Go.Proofs.Ytmnbfmcgnddlaaa
open Go.RowKit

/-- A cutter: Min, Max, Main, Back. -/
structure Ctr where
  mn : Nat
  mx : Nat
  ma : BitVec 32
  ba : BitVec 32
structure Ctr.Ok (C : Ctr) : Prop where
  lo : 16 ≤ C.mn
  le : C.mn ≤ C.mx
  hi : C.mx ≤ 4096
  ma1 : 1 ≤ C.ma.toNat
  ba1 : 1 ≤ C.ba.toNat
/-- Does the sum s end a chunk, by the divisor d? -/
def hit (d s : BitVec 32) : Prop := s.toNat % d.toNat = d.toNat - 1
instance (d s : BitVec 32) : Decidable (hit d s) := inferInstanceAs (Decidable (_ = _))

/-- The lengths from n on, k of them. -/
def scan (C : Ctr) (l : List UInt8) : Nat → Nat → Nat → Nat
  | 0, _, kept => kept
  | k + 1, n, kept =>
    if l.length < n then 0
    else if hit C.ma (ofB (l.take n)) then n
    else scan C l k (n + 1) (if hit C.ba (ofB (l.take n)) then n else kept)
def cutB (C : Ctr) (l : List UInt8) : Nat := scan C l (C.mx + 1 - C.mn) C.mn C.mx

section
variable {C : Ctr} {l : List UInt8} {k n kept : Nat}
theorem scan_main (h1 : n ≤ l.length) (h2 : hit C.ma (ofB (l.take n))) : scan C l (k + 1) n kept = n := by
  unfold scan; rw [if_neg (by omega), if_pos h2]
theorem scan_back (h1 : n ≤ l.length) (h2 : ¬ hit C.ma (ofB (l.take n))) (h3 : hit C.ba (ofB (l.take n))) : scan C l (k + 1) n kept = scan C l k (n + 1) n := by
  rw [scan, if_neg (by omega), if_neg h2, if_pos h3]
theorem scan_none (h1 : n ≤ l.length) (h2 : ¬ hit C.ma (ofB (l.take n))) (h3 : ¬ hit C.ba (ofB (l.take n))) : scan C l (k + 1) n kept = scan C l k (n + 1) kept := by
  rw [scan, if_neg (by omega), if_neg h2, if_neg h3]
theorem scan_short (h1 : l.length < n) : scan C l (k + 1) n kept = 0 := by
  unfold scan; rw [if_pos h1]
theorem scan_end : scan C l 0 n kept = kept := rfl

/-- What comes out is 0, or a length that was considered, or the candidate; never more than there is. -/
theorem scan_cases (C : Ctr) (l : List UInt8) : ∀ (k n kept : Nat), scan C l k n kept = 0 ∨ (n ≤ scan C l k n kept ∧ scan C l k n kept < n + k ∧ scan C l k n kept ≤ l.length) ∨ (scan C l k n kept = kept ∧ n + k ≤ l.length + 1) ∨ (k = 0 ∧ scan C l k n kept = kept) := by
  intro k
  induction k with
  | zero => intro n kept; exact .inr (.inr (.inr ⟨rfl, rfl⟩))
  | succ k ih =>
    intro n kept
    by_cases h1 : l.length < n
    · exact .inl (scan_short h1)
    · by_cases h2 : hit C.ma (ofB (l.take n))
      · rw [scan_main (by omega) h2]; exact .inr (.inl ⟨by omega, by omega, by omega⟩)
      · by_cases h3 : hit C.ba (ofB (l.take n))
        · rw [scan_back (by omega) h2 h3]
          rcases ih (n + 1) n with h | ⟨a, b, c⟩ | ⟨a, b⟩ | ⟨a, b⟩
          · exact .inl h
          · exact .inr (.inl ⟨by omega, by omega, by omega⟩)
          · exact .inr (.inl ⟨by omega, by omega, by omega⟩)
          · exact .inr (.inl ⟨by omega, by omega, by omega⟩)
        · rw [scan_none (by omega) h2 h3]
          rcases ih (n + 1) kept with h | ⟨a, b, c⟩ | ⟨a, b⟩ | ⟨a, b⟩
          · exact .inl h
          · exact .inr (.inl ⟨by omega, by omega, by omega⟩)
          · exact .inr (.inr (.inl ⟨a, by omega⟩))
          · exact .inr (.inr (.inl ⟨b, by omega⟩))
/-- With all lengths there, the result is not 0. -/
theorem scan_full (C : Ctr) (l : List UInt8) : ∀ (k n kept : Nat), 0 < n → 0 < kept → n + k ≤ l.length + 1 → 0 < scan C l k n kept := by
  intro k
  induction k with
  | zero => intro n kept _ h _; exact h
  | succ k ih =>
    intro n kept h0 h1 h2
    by_cases h3 : hit C.ma (ofB (l.take n))
    · rw [scan_main (by omega) h3]; exact h0
    · by_cases h4 : hit C.ba (ofB (l.take n))
      · rw [scan_back (by omega) h3 h4]; exact ih _ _ (by omega) (by omega) (by omega)
      · rw [scan_none (by omega) h3 h4]; exact ih _ _ (by omega) (by omega) (by omega)
/-- A result other than 0 stays when bytes come behind. -/
theorem scan_behind (C : Ctr) (l m : List UInt8) : ∀ (k n kept : Nat), scan C l k n kept ≠ 0 → scan C (l ++ m) k n kept = scan C l k n kept := by
  intro k
  induction k with
  | zero => intro n kept _; rfl
  | succ k ih =>
    intro n kept h
    by_cases h1 : l.length < n
    · exact absurd (scan_short h1) h
    · have ht : (l ++ m).take n = l.take n := by rw [List.take_append_of_le_length (by omega)]
      have hl : n ≤ (l ++ m).length := by rw [List.length_append]; omega
      by_cases h2 : hit C.ma (ofB (l.take n))
      · rw [scan_main (by omega) h2, scan_main hl (by rw [ht]; exact h2)]
      · by_cases h3 : hit C.ba (ofB (l.take n))
        · rw [scan_back (by omega) h2 h3] at h ⊢
          rw [scan_back hl (by rw [ht]; exact h2) (by rw [ht]; exact h3)]
          exact ih _ _ h
        · rw [scan_none (by omega) h2 h3] at h ⊢
          rw [scan_none hl (by rw [ht]; exact h2) (by rw [ht]; exact h3)]
          exact ih _ _ h
end

section
variable {C : Ctr} (K : C.Ok) (l m : List UInt8)
include K
theorem cut_cases : cutB C l = 0 ∨ (C.mn ≤ cutB C l ∧ cutB C l ≤ C.mx ∧ cutB C l ≤ l.length) := by
  obtain ⟨h1, h2, h3, _, _⟩ := K
  unfold cutB
  rcases scan_cases C l (C.mx + 1 - C.mn) C.mn C.mx with h | ⟨a, b, c⟩ | ⟨a, b⟩ | ⟨a, b⟩
  · exact .inl h
  · exact .inr ⟨a, by omega, c⟩
  · exact .inr ⟨by omega, by omega, by omega⟩
  · omega
theorem cut_full (h : C.mx ≤ l.length) : 0 < cutB C l := by
  obtain ⟨h1, h2, h3, _, _⟩ := K
  exact scan_full C l _ _ _ (by omega) (by omega) (by omega)
omit K in
theorem cut_behind (h : cutB C l ≠ 0) : cutB C (l ++ m) = cutB C l := scan_behind C l m _ _ _ h
theorem cut_nil : cutB C [] = 0 := by
  obtain ⟨h1, h2, h3, _, _⟩ := K
  rcases cut_cases ⟨h1, h2, h3, by assumption, by assumption⟩ [] with h | ⟨a, b, c⟩
  · exact h
  · simp at c; omega
end

/-- The chunks that end within bytes, and what is left. -/
def endsF (C : Ctr) : Nat → List UInt8 → List (List UInt8) × List UInt8
  | 0, l => ([], l)
  | f + 1, l => if cutB C l = 0 then ([], l) else ((l.take (cutB C l)) :: (endsF C f (l.drop (cutB C l))).1, (endsF C f (l.drop (cutB C l))).2)
def chunksB (C : Ctr) (l : List UInt8) : List (List UInt8) := (endsF C l.length l).1
def leftB (C : Ctr) (l : List UInt8) : List UInt8 := (endsF C l.length l).2
def tailB (l : List UInt8) : List (List UInt8) := if l = [] then [] else [l]
def allC (C : Ctr) (l : List UInt8) : List (List UInt8) := chunksB C l ++ tailB (leftB C l)

section
variable {C : Ctr} (K : C.Ok)
include K
theorem endsF_fuel : ∀ (f g : Nat) (l : List UInt8), l.length ≤ f → l.length ≤ g → endsF C f l = endsF C g l := by
  intro f
  induction f with
  | zero =>
    intro g l h1 h2
    obtain rfl : l = [] := List.eq_nil_of_length_eq_zero (by omega)
    cases g with
    | zero => rfl
    | succ g => unfold endsF; rw [if_pos (cut_nil K)]
  | succ f ih =>
    intro g l h1 h2
    cases g with
    | zero =>
      obtain rfl : l = [] := List.eq_nil_of_length_eq_zero (by omega)
      unfold endsF; rw [if_pos (cut_nil K)]
    | succ g =>
      unfold endsF
      by_cases h : cutB C l = 0
      · rw [if_pos h, if_pos h]
      · rw [if_neg h, if_neg h]
        have hd : (l.drop (cutB C l)).length ≤ f ∧ (l.drop (cutB C l)).length ≤ g := by
          have hm := K.lo
          rcases cut_cases K l with h' | ⟨a, b, c⟩
          · exact absurd h' h
          · rw [List.length_drop]; omega
        rw [ih g _ hd.1 hd.2]
omit K in
theorem ends_stop {l : List UInt8} (h : cutB C l = 0) : chunksB C l = [] ∧ leftB C l = l := by
  unfold chunksB leftB
  cases hl : l.length with
  | zero => exact ⟨rfl, rfl⟩
  | succ n => unfold endsF; rw [if_pos h]; exact ⟨rfl, rfl⟩
theorem ends_more {l : List UInt8} (h : cutB C l ≠ 0) : chunksB C l = l.take (cutB C l) :: chunksB C (l.drop (cutB C l)) ∧ leftB C l = leftB C (l.drop (cutB C l)) := by
  have hm := K.lo
  rcases cut_cases K l with h' | ⟨a, b, c⟩
  · exact absurd h' h
  have hn : l.length = (l.length - 1) + 1 := by omega
  have hf := endsF_fuel K (l.length - 1) (l.drop (cutB C l)).length (l.drop (cutB C l)) (by rw [List.length_drop]; omega) (Nat.le_refl _)
  have e : endsF C l.length l = ((l.take (cutB C l)) :: (endsF C (l.length - 1) (l.drop (cutB C l))).1, (endsF C (l.length - 1) (l.drop (cutB C l))).2) := by
    generalize l.length - 1 = f at *
    rw [hn]; conv => lhs; unfold endsF
    rw [if_neg h]
  unfold chunksB leftB
  rw [e, hf]
  exact ⟨rfl, rfl⟩
/-- Going on by the length: a way to show what holds of all lists. -/
theorem ends_ind {P : List UInt8 → Prop} (stop : ∀ l, cutB C l = 0 → P l) (more : ∀ l, cutB C l ≠ 0 → P (l.drop (cutB C l)) → P l) (l : List UInt8) : P l := by
  have : ∀ n (l : List UInt8), l.length ≤ n → P l := by
    intro n
    induction n with
    | zero =>
      intro l h
      obtain rfl : l = [] := List.eq_nil_of_length_eq_zero (by omega)
      exact stop _ (cut_nil K)
    | succ n ih =>
      intro l h
      by_cases h0 : cutB C l = 0
      · exact stop _ h0
      · refine more l h0 (ih _ ?_)
        have hm := K.lo
        rcases cut_cases K l with h' | ⟨a, b, c⟩
        · exact absurd h' h0
        · rw [List.length_drop]; omega
  exact this l.length l (Nat.le_refl _)
theorem ends_flat (l : List UInt8) : (chunksB C l).flatten ++ leftB C l = l := by
  refine ends_ind K (P := fun l => (chunksB C l).flatten ++ leftB C l = l) ?_ ?_ l
  · intro l h; rw [(ends_stop h).1, (ends_stop h).2]; rfl
  · intro l h ih
    rw [(ends_more K h).1, (ends_more K h).2, List.flatten_cons, List.append_assoc, ih, List.take_append_drop]
theorem left_cut (l : List UInt8) : cutB C (leftB C l) = 0 := by
  refine ends_ind K (P := fun l => cutB C (leftB C l) = 0) ?_ ?_ l
  · intro l h; rw [(ends_stop h).2]; exact h
  · intro l h ih; rw [(ends_more K h).2]; exact ih
theorem left_short (l : List UInt8) : (leftB C l).length < C.mx := by
  rcases Nat.lt_or_ge (leftB C l).length C.mx with h | h
  · exact h
  · have := cut_full K _ h
    rw [left_cut K] at this
    omega
theorem chunks_sizes (l : List UInt8) : ∀ x ∈ chunksB C l, C.mn ≤ x.length ∧ x.length ≤ C.mx := by
  refine ends_ind K (P := fun l => ∀ x ∈ chunksB C l, C.mn ≤ x.length ∧ x.length ≤ C.mx) ?_ ?_ l
  · intro l h; rw [(ends_stop h).1]; intro x hx; cases hx
  · intro l h ih x hx
    rw [(ends_more K h).1] at hx
    rcases List.mem_cons.1 hx with rfl | hx
    · rcases cut_cases K l with h' | ⟨a, b, c⟩
      · exact absurd h' h
      · rw [List.length_take]; omega
    · exact ih x hx
/-- P5.4: more bytes behind. -/
theorem ends_behind (l m : List UInt8) : chunksB C (l ++ m) = chunksB C l ++ chunksB C (leftB C l ++ m) ∧ leftB C (l ++ m) = leftB C (leftB C l ++ m) := by
  refine ends_ind K (P := fun l => chunksB C (l ++ m) = chunksB C l ++ chunksB C (leftB C l ++ m) ∧ leftB C (l ++ m) = leftB C (leftB C l ++ m)) ?_ ?_ l
  · intro l h; rw [(ends_stop h).1, (ends_stop h).2]; exact ⟨rfl, rfl⟩
  · intro l h ih
    have hb := cut_behind (C := C) l m h
    have hle : cutB C l ≤ l.length := by
      rcases cut_cases K l with h' | ⟨a, b, c⟩
      · exact absurd h' h
      · exact c
    have h2 : cutB C (l ++ m) ≠ 0 := by rw [hb]; exact h
    rw [(ends_more K h2).1, (ends_more K h2).2, (ends_more K h).1, (ends_more K h).2, hb, List.take_append_of_le_length hle, List.drop_append_of_le_length hle, ih.1, ih.2]
    exact ⟨rfl, rfl⟩
theorem chunks_nil : chunksB C [] = [] := (ends_stop (cut_nil K)).1
theorem left_nil : leftB C [] = [] := (ends_stop (cut_nil K)).2
theorem left_left (l : List UInt8) : chunksB C (leftB C l) = [] ∧ leftB C (leftB C l) = leftB C l := ends_stop (left_cut K l)
theorem allC_flat (l : List UInt8) : (allC C l).flatten = l := by
  unfold allC tailB
  rw [List.flatten_append]
  conv => rhs; rw [← ends_flat K l]
  congr 1
  split
  · rename_i h; rw [h]; rfl
  · simp
omit K in
theorem allC_stop {l : List UInt8} (h : cutB C l = 0) : allC C l = tailB l := by
  unfold allC; rw [(ends_stop h).1, (ends_stop h).2]; rfl
theorem allC_more {l : List UInt8} (h : cutB C l ≠ 0) : allC C l = l.take (cutB C l) :: allC C (l.drop (cutB C l)) := by
  unfold allC; rw [(ends_more K h).1, (ends_more K h).2]; rfl
omit K in
theorem tailB_length (l : List UInt8) : (tailB l).length ≤ 1 := by
  unfold tailB; split <;> simp
/-- P5.7: where a chunk ends that is not the last one, all is as at the beginning. -/
theorem allC_again : ∀ (k : Nat) (l : List UInt8), k + 1 < (allC C l).length → allC C (l.drop ((allC C l).take (k + 1)).flatten.length) = (allC C l).drop (k + 1) := by
  intro k
  induction k with
  | zero =>
    intro l hk
    have h : cutB C l ≠ 0 := by
      intro h
      rw [allC_stop h] at hk
      have := tailB_length l
      omega
    rw [allC_more K h]
    have hle : cutB C l ≤ l.length := by
      rcases cut_cases K l with h' | ⟨a, b, c⟩
      · exact absurd h' h
      · exact c
    simp [Nat.min_eq_left hle]
  | succ k ih =>
    intro l hk
    have h : cutB C l ≠ 0 := by
      intro h
      rw [allC_stop h] at hk
      have := tailB_length l
      omega
    have hle : cutB C l ≤ l.length := by
      rcases cut_cases K l with h' | ⟨a, b, c⟩
      · exact absurd h' h
      · exact c
    rw [allC_more K h] at hk ⊢
    have := ih (l.drop (cutB C l)) (by simpa using hk)
    rw [List.take_succ_cons, List.flatten_cons, List.length_append, List.length_take, Nat.min_eq_left hle, ← List.drop_drop, this]
    rfl
theorem allC_sizes (l : List UInt8) : ∀ (i : Nat) (h : i < (allC C l).length), 1 ≤ (allC C l)[i].length ∧ (allC C l)[i].length ≤ C.mx ∧ (i + 1 < (allC C l).length → C.mn ≤ (allC C l)[i].length) := by
  intro i h
  have hc := chunks_sizes K l
  have hs := left_short K l
  have hlo := K.lo
  have hle := K.le
  have ht := tailB_length (leftB C l)
  unfold allC at h ⊢
  rw [List.length_append] at h
  rw [List.getElem_append]
  split
  · rename_i hi
    have := hc _ (List.getElem_mem hi)
    omega
  · rename_i hi
    have hlt : i - (chunksB C l).length < (tailB (leftB C l)).length := by omega
    have h0 : i - (chunksB C l).length = 0 := by omega
    have e : ∀ (j : Nat) (hj : j < (tailB (leftB C l)).length), (tailB (leftB C l))[j] = leftB C l ∧ 1 ≤ (leftB C l).length := by
      intro j hj
      unfold tailB at hj ⊢
      split at hj
      · cases hj
      · rename_i hne
        have hj0 : j = 0 := by simpa using hj
        subst hj0
        refine ⟨?_, by rcases Nat.eq_zero_or_pos (leftB C l).length with h' | h'; exact absurd (List.eq_nil_of_length_eq_zero h') hne; exact h'⟩
        simp [hne]
    obtain ⟨e1, e2⟩ := e _ hlt
    rw [e1, List.length_append]
    exact ⟨e2, by omega, fun h' => by omega⟩
theorem allC_nil : allC C [] = [] := by rw [allC_stop (cut_nil K)]; rfl
end
end Go.Proofs.Ytmnbfmcgnddlaaa
