/- Plain mathematics for package crc: the law's own turned bits. Nothing of the program is imported; no statement is proved here. -/
import Derived.Test.YtoiiiccichkgpaaCtMA
namespace Go.Proofs.Ytoiiiccichkgpaa

/-- S with the bits of a number turned, from place 'first' on, as far as there are bits: the first k of them. -/
def turned (S : List UInt8) (first bits : Nat) : Nat → List UInt8
  | 0 => S
  | k + 1 => if bits.testBit k && decide (first + k < 8 * S.length) then turn (turned S first bits k) (first + k) else turned S first bits k
def count (N first bits : Nat) : Nat → Nat
  | 0 => 0
  | k + 1 => if bits.testBit k && decide (first + k < 8 * N) then count N first bits k + 1 else count N first bits k
theorem turned_length (S : List UInt8) (first bits k : Nat) : (turned S first bits k).length = S.length := by
  induction k with
  | zero => rfl
  | succ k ih => rw [turned]; split <;> simp [turn_length, ih]
theorem turn_zip (S E : List UInt8) (p : Nat) : List.zipWith (· ^^^ ·) S (turn E p) = turn (List.zipWith (· ^^^ ·) S E) p := by
  apply List.ext_getElem?
  intro i
  unfold turn
  rw [List.getElem?_zipWith, List.getElem?_modify, List.getElem?_modify, List.getElem?_zipWith]
  cases hs : S[i]? with
  | none => simp
  | some s =>
    cases he : E[i]? with
    | none => simp
    | some e =>
      by_cases hp : p / 8 = i
      · simp [hp, UInt8.xor_assoc]
      · simp [hp]
theorem zip_zero : ∀ S : List UInt8, List.zipWith (· ^^^ ·) S (List.replicate S.length 0) = S
  | [] => rfl
  | s :: S => by
    rw [List.length_cons, List.replicate_succ, List.zipWith_cons_cons, zip_zero S]
    simp
theorem turned_eq (S : List UInt8) (first bits k : Nat) : turned S first bits k = List.zipWith (· ^^^ ·) S (errs S.length first bits k) := by
  induction k with
  | zero => rw [turned, errs, zip_zero]
  | succ k ih =>
    rw [turned, errs]
    split
    · rw [ih, turn_zip]
    · exact ih
theorem count_le (N first bits k : Nat) : count N first bits k ≤ k := by
  induction k with
  | zero => exact Nat.le_refl _
  | succ k ih => rw [count]; split <;> omega
theorem count_zero (S : List UInt8) (first bits k : Nat) (h : count S.length first bits k = 0) : turned S first bits k = S := by
  induction k with
  | zero => rfl
  | succ k ih =>
    rw [count] at h
    rw [turned]
    split
    · rename_i hc; rw [if_pos hc] at h; omega
    · rename_i hc; rw [if_neg hc] at h; exact ih h
theorem count_pos (N first bits k : Nat) (h : count N first bits k ≠ 0) : ∃ j, j < k ∧ bits.testBit j = true ∧ first + j < 8 * N := by
  induction k with
  | zero => exact absurd rfl h
  | succ k ih =>
    rw [count] at h
    split at h
    · rename_i hc
      simp at hc
      exact ⟨k, by omega, hc.1, hc.2⟩
    · obtain ⟨j, h1, h2, h3⟩ := ih h
      exact ⟨j, by omega, h2, h3⟩
theorem stop_at (S : List UInt8) (first bits k : Nat) (h : 8 * S.length ≤ first + k) (m : Nat) : turned S first bits (k + m) = turned S first bits k ∧ count S.length first bits (k + m) = count S.length first bits k := by
  induction m with
  | zero => exact ⟨rfl, rfl⟩
  | succ m ih =>
    have hn : ¬ (bits.testBit (k + m) && decide (first + (k + m) < 8 * S.length)) = true := by simp; intro _; omega
    rw [← Nat.add_assoc, turned, count, if_neg hn, if_neg hn]
    exact ih
/-- What has turned bits comes to another register. -/
theorem turned_other (S : List UInt8) (first bits : Nat) (hf : first < 8 * S.length) (h : count S.length first bits 32 ≠ 0) (r : BitVec 32) : bytesIn r (turned S first bits 32) ≠ bytesIn r S := by
  rw [turned_eq]
  obtain ⟨j, h1, h2, h3⟩ := count_pos _ _ _ _ h
  refine burst_other S _ (by rw [errs_length]) _ _ _ (errs_burst S.length first bits hf) (by simp; omega) ?_ r
  exact List.mem_map.2 ⟨j, by simp; omega, h2⟩
theorem sealed_reg (m : List UInt8) : bytesIn ones (m ++ be 4 (sumOf m).toNat) = stps 32 ones := (sealed_iff m (sumOf m)).1 rfl
/-- What is sealed, and has turned bits, is not sealed. -/
theorem turned_no (b : List UInt8) (first bits : Nat) (hf : first < 8 * (b ++ be 4 (sumOf b).toNat).length) (h : count (b ++ be 4 (sumOf b).toNat).length first bits 32 ≠ 0) (m : List UInt8) :
    turned (b ++ be 4 (sumOf b).toNat) first bits 32 ≠ m ++ be 4 (sumOf m).toNat := by
  intro e
  have h1 := turned_other _ first bits hf h ones
  rw [e, sealed_reg, sealed_reg] at h1
  exact h1 rfl
theorem turn_take (l : List UInt8) (p n : Nat) : (turn l p).take n = turn (l.take n) p := by
  apply List.ext_getElem?
  intro i
  unfold turn
  rw [List.getElem?_take, List.getElem?_modify, List.getElem?_modify, List.getElem?_take]
  by_cases hi : i < n
  · simp [hi]
  · simp [hi]
theorem turned_take (S : List UInt8) (first bits n : Nat) (hn : n ≤ S.length) : ∀ k, first + k ≤ 8 * n → (turned S first bits k).take n = turned (S.take n) first bits k := by
  intro k
  induction k with
  | zero => intro _; rfl
  | succ k ih =>
    intro h
    have hl : (S.take n).length = n := by rw [List.length_take]; omega
    rw [turned, turned]
    have e1 : decide (first + k < 8 * S.length) = true := by simp; omega
    have e2 : decide (first + k < 8 * (S.take n).length) = true := by rw [hl]; simp; omega
    rw [e1, e2]
    split
    · rw [turn_take, ih (by omega)]
    · exact ih (by omega)
theorem sum_reg {a b : List UInt8} (h : sumOf a = sumOf b) : bytesIn ones a = bytesIn ones b := by
  unfold sumOf moreOf at h
  rw [BitVec.zero_xor] at h
  have := congrArg (· ^^^ ones) h
  simpa [BitVec.xor_assoc] using this
/-- Where all bits that may be turned lie within the first n bytes, these come to another sum, if they are others. -/
theorem turned_sum (S : List UInt8) (first bits n : Nat) (hn : n ≤ S.length) (hf : first + 32 ≤ 8 * n) (h : (turned S first bits 32).take n ≠ S.take n) : sumOf ((turned S first bits 32).take n) ≠ sumOf (S.take n) := by
  rw [turned_take S first bits n hn 32 hf] at h ⊢
  have hl : (S.take n).length = n := by rw [List.length_take]; omega
  have hc : count (S.take n).length first bits 32 ≠ 0 := fun e => h (count_zero _ _ _ _ e)
  intro e
  exact turned_other _ first bits (by rw [hl]; omega) hc ones (sum_reg e)
end Go.Proofs.Ytoiiiccichkgpaa
