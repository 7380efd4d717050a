/- Plain mathematics for package space: places that are used, and what the operations make of them. No statement of the seat is proved here; nothing of the program is imported. -/
import Derived.Test.YtlcbmpojigjjlaaBloomMath
namespace Go.Proofs.Ytlcbmpojigjjlaa
open Go.RowKit
set_option linter.unusedVariables false

structure PS where
  n : Nat
  S : Nat → Bool
structure PS.Ok (s : PS) : Prop where
  le : s.n ≤ 16384
  out : ∀ i, s.n ≤ i → s.S i = false
def newP (n : Nat) : PS := ⟨n, fun _ => false⟩
def del1 (S : Nat → Bool) (q : Nat) : Nat → Bool := fun x => x != q && S x
/-- The least of the first n places that is free; n, if none is. -/
def leastF (S : Nat → Bool) : Nat → Nat
  | 0 => 0
  | n + 1 => if leastF S n < n then leastF S n else if S n = true then n + 1 else n
theorem leastF_spec (S : Nat → Bool) (n : Nat) : leastF S n ≤ n ∧ (∀ i, i < leastF S n → S i = true) ∧ (leastF S n < n → S (leastF S n) = false) := by
  induction n with
  | zero => exact ⟨Nat.le_refl _, fun i hi => by simp [leastF] at hi, fun h => by simp [leastF] at h⟩
  | succ n ih =>
    obtain ⟨h1, h2, h3⟩ := ih
    unfold leastF
    split
    · rename_i h
      exact ⟨by omega, h2, fun _ => h3 h⟩
    · rename_i h
      have e : leastF S n = n := by omega
      rw [e] at h2
      split
      · rename_i hs
        exact ⟨Nat.le_refl _, fun i hi => by
          by_cases e : i = n
          · rw [e]; exact hs
          · exact h2 i (by omega), fun h => by omega⟩
      · rename_i hs
        exact ⟨by omega, h2, fun _ => by simpa using hs⟩
theorem leastF_eq {S : Nat → Bool} {n k : Nat} (hk : k ≤ n) (h1 : ∀ i, i < k → S i = true) (h2 : k < n → S k = false) : leastF S n = k := by
  obtain ⟨a1, a2, a3⟩ := leastF_spec S n
  rcases Nat.lt_trichotomy (leastF S n) k with h | h | h
  · have := a3 (by omega)
    rw [h1 _ h] at this
    cases this
  · exact h
  · have := a2 k h
    rw [h2 (by omega)] at this
    cases this
def takeP (s : PS) : PS := if leastF s.S s.n < s.n then ⟨s.n, put1 s.S (leastF s.S s.n)⟩ else s
def takeV (s : PS) : Nat := if leastF s.S s.n < s.n then leastF s.S s.n else 0
def takeE (s : PS) : Nat := if leastF s.S s.n < s.n then 0 else 5
def holdE (s : PS) (at_ : Int) : Nat := if at_ < 0 ∨ (s.n : Int) ≤ at_ then 1 else if s.S at_.toNat = true then 3 else 0
def holdP (s : PS) (at_ : Int) : PS := if holdE s at_ = 0 then ⟨s.n, put1 s.S at_.toNat⟩ else s
def freeE (s : PS) (at_ : Int) : Nat := if at_ < 0 ∨ (s.n : Int) ≤ at_ then 1 else if s.S at_.toNat = true then 0 else 2
def freeP (s : PS) (at_ : Int) : PS := if freeE s at_ = 0 then ⟨s.n, del1 s.S at_.toNat⟩ else s
def hasV (s : PS) (at_ : Int) : Bool := decide (0 ≤ at_) && (decide (at_ < (s.n : Int)) && s.S at_.toNat)
/-- The places that are used, rising. -/
def allF (S : Nat → Bool) (n : Nat) : List Nat := (List.range n).filter S
theorem allF_succ (S : Nat → Bool) (n : Nat) : allF S (n + 1) = allF S n ++ (if S n = true then [n] else []) := by
  unfold allF
  rw [List.range_succ, List.filter_append]
  cases h : S n <;> simp [h]
theorem allF_le (S : Nat → Bool) (n : Nat) : (allF S n).length ≤ n := by
  have := List.length_filter_le S (List.range n)
  rwa [List.length_range] at this
theorem mem_allF {S : Nat → Bool} {n i : Nat} : i ∈ allF S n ↔ i < n ∧ S i = true := by simp [allF]
theorem allF_congr {S T : Nat → Bool} {n : Nat} (h : ∀ i, i < n → S i = T i) : allF S n = allF T n := by
  unfold allF
  apply List.filter_congr
  intro i hi
  exact h i (List.mem_range.1 hi)
theorem allF_inj {S T : Nat → Bool} {n : Nat} (h : allF S n = allF T n) : ∀ i, i < n → S i = T i := fun i hi => by
  have h1 : i ∈ allF S n ↔ i ∈ allF T n := by rw [h]
  rw [mem_allF, mem_allF] at h1
  cases hS : S i <;> cases hT : T i <;> simp_all
/-- A bit of bytes. -/
def bitsB (b : List UInt8) (q : Nat) : Bool := (b.getD (q / 8) 0).toNat.testBit (q % 8)
def loadP (n : Nat) (b : List UInt8) : PS := ⟨n, fun q => decide (q < n) && bitsB b q⟩
/-- Those are the bytes of a space. -/
def LoadOk (n : Nat) (b : List UInt8) : Prop := b = pk n (bitsB b)
theorem pk_inj {n : Nat} {S T : Nat → Bool} (h : pk n S = pk n T) : ∀ i, i < n → S i = T i := fun i hi => by
  have hj : i / 8 < (pk n S).length := by rw [pk_length]; omega
  have hj2 : i / 8 < (pk n T).length := by rw [pk_length]; omega
  have h1 := pk_bit hj (i % 8) (by omega)
  have h2 := pk_bit hj2 (i % 8) (by omega)
  have e : (pk n S)[i / 8] = (pk n T)[i / 8] := by simp only [h]
  rw [e, h2, show 8 * (i / 8) + i % 8 = i by omega] at h1
  simpa [hi] using h1.symm
theorem pk_bits (n : Nat) (S : Nat → Bool) : ∀ i, i < n → bitsB (pk n S) i = S i := fun i hi => by
  have hj : i / 8 < (pk n S).length := by rw [pk_length]; omega
  unfold bitsB
  rw [List.getD_eq_getElem?_getD, List.getElem?_eq_getElem hj, Option.getD_some, pk_bit hj (i % 8) (by omega), show 8 * (i / 8) + i % 8 = i by omega]
  simp [hi]
theorem load_pk (n : Nat) (S : Nat → Bool) : LoadOk n (pk n S) := pk_congr fun i hi => (pk_bits n S i hi).symm
theorem newP_ok {n : Nat} (h : n ≤ 16384) : (newP n).Ok := ⟨h, fun _ _ => rfl⟩
section
variable {s : PS}
theorem put1_ok {q : Nat} (h : s.Ok) (hq : q < s.n) : (⟨s.n, put1 s.S q⟩ : PS).Ok := ⟨h.le, fun i hi => by
  show (i == q || s.S i) = false
  have h1 : (i == q) = false := by simp; have : s.n ≤ i := hi; omega
  rw [h1, h.out i hi]
  rfl⟩
theorem takeP_ok (h : s.Ok) : (takeP s).Ok := by
  unfold takeP
  split
  · rename_i hq; exact put1_ok h hq
  · exact h
theorem holdP_ok (h : s.Ok) (at_ : Int) : (holdP s at_).Ok := by
  unfold holdP
  split
  · rename_i e
    unfold holdE at e
    split at e
    · cases e
    · rename_i hb
      exact put1_ok h (by omega)
  · exact h
theorem freeP_ok (h : s.Ok) (at_ : Int) : (freeP s at_).Ok := by
  unfold freeP
  split
  · exact ⟨h.le, fun i hi => by show (i != at_.toNat && s.S i) = false; rw [h.out i hi]; simp⟩
  · exact h
theorem takeP_n : (takeP s).n = s.n := by unfold takeP; split <;> rfl
theorem holdP_n (at_ : Int) : (holdP s at_).n = s.n := by unfold holdP; split <;> rfl
theorem freeP_n (at_ : Int) : (freeP s at_).n = s.n := by unfold freeP; split <;> rfl
end
theorem loadP_ok {n : Nat} {b : List UInt8} (h : n ≤ 16384) : (loadP n b).Ok := ⟨h, fun i hi => by
  have : ¬ i < n := by have : n ≤ i := hi; omega
  simp [loadP, this]⟩
end Go.Proofs.Ytlcbmpojigjjlaa
