/- Plain mathematics for package crc: neighbouring bits that are turned, one after the other. Nothing of the program is imported; no statement is proved here. -/
import Derived.Test.YteemebecllhldaaCrcMathB
namespace Go.Proofs.Yteemebecllhldaa

theorem allBits_get : ∀ (l : List UInt8) (q : Nat) (h : q < 8 * l.length), (allBits l)[q]? = some ((l[q / 8]'(by omega)).toNat.testBit (7 - q % 8))
  | [], q, h => by simp at h
  | c :: l, q, h => by
    show (bitsOf c ++ allBits l)[q]? = _
    by_cases h8 : q < 8
    · rw [List.getElem?_append_left (by rw [bitsOf_length]; exact h8)]
      have e1 : q / 8 = 0 := by omega
      have e2 : q % 8 = q := by omega
      simp only [e1, e2, List.getElem_cons_zero, bitsOf]
      simp [h8]
    · rw [List.getElem?_append_right (by rw [bitsOf_length]; omega), bitsOf_length, allBits_get l (q - 8) (by simp at h; omega)]
      have e1 : q / 8 = (q - 8) / 8 + 1 := by omega
      have e2 : q % 8 = (q - 8) % 8 := by omega
      simp only [e1, e2, List.getElem_cons_succ]

theorem one_bit : ∀ i j : Fin 8, ((128 : Nat) >>> i.val).testBit (7 - j.val) = decide (i = j) := by decide

/-- The byte in which bit i (counted from the highest on) alone is 1. -/
def oneAt (i : Nat) : UInt8 := UInt8.ofNat (128 >>> i)
theorem oneAt_bit {i j : Nat} (hi : i < 8) (hj : j < 8) : (oneAt i).toNat.testBit (7 - j) = decide (i = j) := by
  have h := one_bit ⟨i, hi⟩ ⟨j, hj⟩
  have e : (oneAt i).toNat = 128 >>> i := by
    unfold oneAt
    rw [UInt8.toNat_ofNat']
    have h2 : (128 : Nat) >>> i ≤ 128 := by rw [Nat.shiftRight_eq_div_pow]; exact Nat.div_le_self _ _
    exact Nat.mod_eq_of_lt (Nat.lt_of_le_of_lt h2 (by decide))
  rw [e, h]
  simp

/-- Bit p of the bytes turned. -/
def turn (l : List UInt8) (p : Nat) : List UInt8 := l.modify (p / 8) (· ^^^ oneAt (p % 8))
theorem turn_length (l : List UInt8) (p : Nat) : (turn l p).length = l.length := by simp [turn]
theorem turn_bits (l : List UInt8) (p q : Nat) (hq : q < 8 * l.length) : (allBits (turn l p))[q]? = if p = q then ((allBits l)[q]?).map (!·) else (allBits l)[q]? := by
  rw [allBits_get _ q (by rw [turn_length]; exact hq), allBits_get _ q hq]
  have e : (turn l p)[q / 8]'(by rw [turn_length]; omega) = if p / 8 = q / 8 then (l[q / 8]'(by omega)) ^^^ oneAt (p % 8) else (l[q / 8]'(by omega)) := by
    unfold turn
    rw [List.getElem_modify]
  rw [e]
  by_cases h8 : p / 8 = q / 8
  · rw [if_pos h8, UInt8.toNat_xor, Nat.testBit_xor, oneAt_bit (by omega) (by omega)]
    by_cases hpq : p = q
    · subst hpq
      simp
    · have : ¬ p % 8 = q % 8 := by omega
      simp [hpq, this]
  · rw [if_neg h8, if_neg (by rintro rfl; exact h8 rfl)]

/-- The bits of a number turned, from place 'first' on, as far as there are bits. -/
def errs (N first bits : Nat) : Nat → List UInt8
  | 0 => List.replicate N 0
  | k + 1 => if bits.testBit k && decide (first + k < 8 * N) then turn (errs N first bits k) (first + k) else errs N first bits k
theorem errs_length (N first bits k : Nat) : (errs N first bits k).length = N := by
  induction k with
  | zero => simp [errs]
  | succ k ih => rw [errs]; split <;> simp [turn_length, ih]
theorem errs_bits (N first bits k q : Nat) (hq : q < 8 * N) : (allBits (errs N first bits k))[q]? = some (decide (first ≤ q ∧ q < first + k) && bits.testBit (q - first)) := by
  induction k with
  | zero =>
    rw [errs, allBits_get _ q (by simpa using hq)]
    simp
    intro h1 h2
    omega
  | succ k ih =>
    rw [errs]
    by_cases hc : bits.testBit k && decide (first + k < 8 * N)
    · rw [if_pos hc, turn_bits _ _ _ (by rw [errs_length]; exact hq), ih]
      have hk : bits.testBit k = true := by simp at hc; exact hc.1
      by_cases hpq : first + k = q
      · subst hpq
        have e : first + k - first = k := by omega
        simp [e, hk]
      · rw [if_neg hpq]
        congr 2
        rw [decide_eq_decide]
        omega
    · rw [if_neg hc, ih]
      by_cases hpq : first + k = q
      · subst hpq
        have e : first + k - first = k := by omega
        have hk : bits.testBit k = false := by simp at hc; exact (Bool.eq_false_iff).2 (fun h => by have := hc h; omega)
        simp [e, hk]
      · congr 2
        rw [decide_eq_decide]
        omega
theorem errs_burst (N first bits : Nat) (hf : first < 8 * N) :
    allBits (errs N first bits 32) = List.replicate first false ++ ((List.range (min 32 (8 * N - first))).map (fun k => bits.testBit k) ++ List.replicate (8 * N - first - min 32 (8 * N - first)) false) := by
  apply List.ext_getElem?
  intro q
  by_cases hq : q < 8 * N
  · rw [errs_bits N first bits 32 q hq]
    by_cases h1 : q < first
    · rw [List.getElem?_append_left (by simpa using h1)]
      simp [h1]
      omega
    · rw [List.getElem?_append_right (by simp; omega), List.length_replicate]
      by_cases h2 : q - first < min 32 (8 * N - first)
      · rw [List.getElem?_append_left (by simpa using h2)]
        have e : decide (first ≤ q ∧ q < first + 32) = true := by simp; omega
        rw [e, Bool.true_and]
        simp [List.getElem?_range h2]
      · rw [List.getElem?_append_right (by simp; omega)]
        have e : decide (first ≤ q ∧ q < first + 32) = false := by simp; omega
        rw [e, Bool.false_and, List.getElem?_replicate, List.length_map, List.length_range, if_pos (by omega)]
  · rw [List.getElem?_eq_none (by rw [allBits_length, errs_length]; omega), List.getElem?_eq_none (by simp; omega)]
end Go.Proofs.Yteemebecllhldaa
