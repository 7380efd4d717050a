/- Plain mathematics for package space: places packed into words of 64. No statement of the seat is proved here; nothing of the program is imported. -/
import Derived.Test.YtlcbmpojigjjlaaSpcMath
import Derived.Test.YtlcbmpojigjjlaaSpcBits
import Derived.Laws.Bits64
namespace Go.Proofs.Ytlcbmpojigjjlaa
open Go.RowKit
set_option linter.unusedVariables false
set_option linter.unusedSimpArgs false

theorem two64 : 2 ^ 64 = 18446744073709551616 := by decide
theorem ext64 {a b : Nat} (ha : a < 2 ^ 64) (hb : b < 2 ^ 64) (h : ∀ i, i < 64 → a.testBit i = b.testBit i) : a = b := by
  apply Nat.eq_of_testBit_eq
  intro i
  by_cases hi : i < 64
  · exact h i hi
  · have h1 : a < 2 ^ i := Nat.lt_of_lt_of_le ha (Nat.pow_le_pow_right (by omega) (by omega))
    have h2 : b < 2 ^ i := Nat.lt_of_lt_of_le hb (Nat.pow_le_pow_right (by omega) (by omega))
    rw [Nat.testBit_lt_two_pow h1, Nat.testBit_lt_two_pow h2]
/-- The word of the places from 64 j on. -/
def w64 (S : Nat → Bool) (j : Nat) : Nat := ofBits (fun i => S (64 * j + i)) 64
theorem w64_lt2 (S : Nat → Bool) (j : Nat) : w64 S j < 2 ^ 64 := ofBits_lt _ 64
theorem w64_lt (S : Nat → Bool) (j : Nat) : w64 S j < 18446744073709551616 := by rw [← two64]; exact w64_lt2 S j
theorem w64_bit (S : Nat → Bool) (j : Nat) {i : Nat} (hi : i < 64) : (w64 S j).testBit i = S (64 * j + i) := by
  unfold w64
  rw [ofBits_testBit]
  simp [hi]
theorem w64_congr {S T : Nat → Bool} {j : Nat} (h : ∀ q, q / 64 = j → S q = T q) : w64 S j = w64 T j :=
  ext64 (w64_lt2 _ _) (w64_lt2 _ _) fun i hi => by rw [w64_bit S j hi, w64_bit T j hi]; exact h _ (by omega)
theorem w64_none (j : Nat) : w64 (fun _ => false) j = 0 := ext64 (w64_lt2 _ _) (by decide) fun i hi => by rw [w64_bit _ j hi]; simp
def wds (n : Nat) (S : Nat → Bool) : List Value := (List.range ((n + 63) / 64)).map fun j => .int .u64 (w64 S j : Nat)
theorem wds_length (n : Nat) (S : Nat → Bool) : (wds n S).length = (n + 63) / 64 := by simp [wds]
theorem wds_get {n j : Nat} (S : Nat → Bool) (h : j < (n + 63) / 64) : (wds n S)[j]? = some (.int .u64 (w64 S j : Nat)) := by simp [wds, h]
theorem wds_set {n j : Nat} {S T : Nat → Bool} (ho : ∀ q, q / 64 ≠ j → T q = S q) : (wds n S).set j (.int .u64 (w64 T j : Nat)) = wds n T := by
  apply List.ext_getElem?
  intro k
  rw [List.getElem?_set]
  by_cases hk : k < (n + 63) / 64
  · rw [wds_get T hk]
    by_cases e : j = k
    · subst e
      rw [if_pos rfl, if_pos (by rw [wds_length]; exact hk)]
    · rw [if_neg e, wds_get S hk, w64_congr (S := S) (T := T) fun q hq => (ho q (by omega)).symm]
  · have h1 : (wds n T)[k]? = none := List.getElem?_eq_none (by rw [wds_length]; omega)
    have h2 : (wds n S)[k]? = none := List.getElem?_eq_none (by rw [wds_length]; omega)
    rw [h1, h2]
    split
    · rename_i e; subst e; rw [if_neg (by rw [wds_length]; omega)]
    · rfl
theorem wds_made (n : Nat) : madeCells #[Value.int .u64 0] ((n + 63) / 64) = (wds n fun _ => false).toArray := by
  apply Array.ext_getElem?
  intro j
  rw [← Array.getElem?_toList, toList_madeCells_one, List.getElem?_replicate, List.getElem?_toArray]
  by_cases hj : j < (n + 63) / 64
  · rw [if_pos hj, wds_get _ hj, w64_none]
    rfl
  · rw [if_neg hj, List.getElem?_eq_none (by rw [wds_length]; omega)]
/-- A word's bit, shifted down. -/
theorem shr_bit (x i : Nat) : (x / 2 ^ i) % 2 = (x.testBit i).toNat := by
  rw [Nat.testBit_eq_decide_div_mod_eq]
  have : x / 2 ^ i % 2 < 2 := Nat.mod_lt _ (by omega)
  by_cases h : x / 2 ^ i % 2 = 1
  · simp [h]
  · have : x / 2 ^ i % 2 = 0 := by omega
    simp [this]
theorem and_one (x : Nat) : x &&& 1 = x % 2 := Nat.and_one_is_mod x
/-- A place turned. -/
def flip1 (S : Nat → Bool) (q : Nat) : Nat → Bool := fun x => S x ^^ (x == q)
theorem flip_off (S : Nat → Bool) (q : Nat) : ∀ x, x / 64 ≠ q / 64 → flip1 S q x = S x := fun x hx => by
  have : (x == q) = false := by simp; intro e; exact hx (by rw [e])
  simp [flip1, this]
theorem w64_flip (S : Nat → Bool) (q : Nat) : w64 (flip1 S q) (q / 64) = w64 S (q / 64) ^^^ 2 ^ (q % 64) :=
  ext64 (w64_lt2 _ _) (Nat.xor_lt_two_pow (w64_lt2 _ _) (Nat.pow_lt_pow_right (by omega) (Nat.mod_lt _ (by omega)))) fun i hi => by
    rw [Nat.testBit_xor, w64_bit _ _ hi, w64_bit _ _ hi, Nat.testBit_two_pow]
    unfold flip1
    by_cases e : q % 64 = i
    · have e2 : 64 * (q / 64) + i = q := by omega
      simp [e, e2]
    · have e2 : (64 * (q / 64) + i == q) = false := by simp; omega
      simp [e, e2]
theorem flip_put {S : Nat → Bool} {q : Nat} (h : S q = false) : flip1 S q = put1 S q := by
  funext x
  unfold flip1 put1
  by_cases e : x = q
  · subst e; simp [h]
  · have : (x == q) = false := by simpa using e
    simp [this]
theorem flip_del {S : Nat → Bool} {q : Nat} (h : S q = true) : flip1 S q = del1 S q := by
  funext x
  unfold flip1 del1
  by_cases e : x = q
  · subst e; simp [h]
  · have : (x == q) = false := by simpa using e
    simp [this, bne]
/-- The byte of the places from 8 i on lies in a word. -/
theorem w64_byte {n : Nat} {S : Nat → Bool} (hS : ∀ q, n ≤ q → S q = false) {i : Nat} (hi : i < (pk n S).length) : w64 S (i * 8 / 64) / 2 ^ (i * 8 % 64) % 256 = (pk n S)[i].toNat := by
  apply Nat.eq_of_testBit_eq
  intro k
  by_cases hk : k < 8
  · rw [pk_bit hi k hk, show (256 : Nat) = 2 ^ 8 by decide, Nat.testBit_mod_two_pow, Nat.testBit_div_two_pow, w64_bit S _ (by omega), show 64 * (i * 8 / 64) + (k + i * 8 % 64) = 8 * i + k by omega]
    by_cases hq : 8 * i + k < n
    · simp [hk, hq]
    · simp [hk, hq, hS _ (Nat.le_of_not_lt hq)]
  · rw [show (256 : Nat) = 2 ^ 8 by decide, Nat.testBit_mod_two_pow]
    have h2 : (pk n S)[i].toNat < 2 ^ k := Nat.lt_of_lt_of_le (pk n S)[i].toNat_lt (Nat.pow_le_pow_right (by omega) (by omega))
    rw [Nat.testBit_lt_two_pow h2]
    simp [hk]
/-- The first bytes' bits. -/
def frontB (b : List UInt8) (k : Nat) : Nat → Bool := fun q => decide (q < 8 * k) && bitsB b q
theorem frontB_off (b : List UInt8) (k : Nat) : ∀ q, q / 64 ≠ k * 8 / 64 → frontB b (k + 1) q = frontB b k q := fun q hq => by
  unfold frontB
  by_cases h : q < 8 * k
  · have h2 : q < 8 * (k + 1) := by omega
    simp [h, h2]
  · have h2 : ¬ q < 8 * (k + 1) := by omega
    simp [h, h2]
theorem frontB_word {b : List UInt8} {k : Nat} (hk : k < b.length) : w64 (frontB b (k + 1)) (k * 8 / 64) = w64 (frontB b k) (k * 8 / 64) ||| (b[k].toNat * 2 ^ (k * 8 % 64)) := by
  have hb := b[k].toNat_lt
  have hs : k * 8 % 64 ≤ 56 := by omega
  have hlt : b[k].toNat * 2 ^ (k * 8 % 64) < 2 ^ 64 := by
    have h1 : b[k].toNat * 2 ^ (k * 8 % 64) < 2 ^ 8 * 2 ^ (k * 8 % 64) := Nat.mul_lt_mul_of_pos_right (by simpa using hb) (Nat.two_pow_pos _)
    rw [← Nat.pow_add] at h1
    exact Nat.lt_of_lt_of_le h1 (Nat.pow_le_pow_right (by omega) (by omega))
  refine ext64 (w64_lt2 _ _) (Nat.or_lt_two_pow (w64_lt2 _ _) hlt) fun i hi => ?_
  rw [Nat.testBit_or, w64_bit _ _ hi, w64_bit _ _ hi, Nat.testBit_mul_two_pow]
  unfold frontB
  by_cases h1 : 64 * (k * 8 / 64) + i < 8 * k
  · have h2 : 64 * (k * 8 / 64) + i < 8 * (k + 1) := by omega
    have h3 : ¬ k * 8 % 64 ≤ i := by omega
    simp [h1, h2, h3]
  · by_cases h2 : 64 * (k * 8 / 64) + i < 8 * (k + 1)
    · have h3 : k * 8 % 64 ≤ i := by omega
      have h4 : (64 * (k * 8 / 64) + i) / 8 = k := by omega
      have h5 : (64 * (k * 8 / 64) + i) % 8 = i - k * 8 % 64 := by omega
      simp [h1, h2, h3, bitsB, h4, h5, List.getElem?_eq_getElem hk]
    · have h3 : k * 8 % 64 ≤ i := by omega
      have h4 : b[k].toNat.testBit (i - k * 8 % 64) = false := Nat.testBit_lt_two_pow (Nat.lt_of_lt_of_le hb (show 2 ^ 8 ≤ 2 ^ (i - k * 8 % 64) from Nat.pow_le_pow_right (by omega) (by omega)))
      simp [h1, h2, h3, h4]
theorem frontB_zero (b : List UInt8) : frontB b 0 = fun _ => false := by funext q; simp [frontB]
/-- What bytes are those of a space. -/
theorem loadOk_iff {n : Nat} {b : List UInt8} : LoadOk n b ↔ b.length = (n + 7) / 8 ∧ (n % 8 = 0 ∨ (b.getD (b.length - 1) 0).toNat / 2 ^ (n % 8) = 0) := by
  constructor
  · intro h
    have hl : b.length = (n + 7) / 8 := by
      have := congrArg List.length h
      rw [pk_length] at this
      exact this
    refine ⟨hl, ?_⟩
    by_cases h0 : n % 8 = 0
    · exact .inl h0
    · right
      have hlt : b.length - 1 < b.length := by omega
      have hlt2 : b.length - 1 < (pk n (bitsB b)).length := by rw [pk_length]; omega
      rw [List.getD_eq_getElem?_getD, List.getElem?_eq_getElem hlt, Option.getD_some]
      have e : b[b.length - 1] = (pk n (bitsB b))[b.length - 1] := by
        unfold LoadOk at h
        exact List.getElem_of_eq h hlt
      rw [e]
      apply Nat.eq_of_testBit_eq
      intro i
      rw [Nat.testBit_div_two_pow, Nat.zero_testBit, Nat.add_comm]
      by_cases hi : n % 8 + i < 8
      · rw [pk_bit hlt2 _ hi]
        have : ¬ 8 * (b.length - 1) + (n % 8 + i) < n := by omega
        simp [this]
      · exact Nat.testBit_lt_two_pow (Nat.lt_of_lt_of_le (pk n (bitsB b))[b.length - 1].toNat_lt (show 2 ^ 8 ≤ 2 ^ (n % 8 + i) from Nat.pow_le_pow_right (by omega) (by omega)))
  · rintro ⟨hl, h⟩
    refine pk_ext hl fun j hj i hi => ?_
    have e1 : (8 * j + i) / 8 = j := by omega
    have e2 : (8 * j + i) % 8 = i := by omega
    unfold bitsB
    rw [e1, e2, List.getD_eq_getElem?_getD, List.getElem?_eq_getElem hj, Option.getD_some]
    by_cases hq : 8 * j + i < n
    · simp [hq]
    · rcases h with h | h
      · omega
      · have e3 : j = b.length - 1 := by omega
        subst e3
        rw [List.getD_eq_getElem?_getD, List.getElem?_eq_getElem hj, Option.getD_some] at h
        have h3 : (b[b.length - 1].toNat / 2 ^ (n % 8)).testBit (i - n % 8) = false := by rw [h]; simp
        rw [Nat.testBit_div_two_pow, show i - n % 8 + n % 8 = i by omega] at h3
        simp [hq, h3]
theorem frontB_end {n : Nat} {b : List UInt8} (h : LoadOk n b) : frontB b b.length = (loadP n b).S := by
  have hl := (loadOk_iff.1 h).1
  funext q
  show (decide (q < 8 * b.length) && bitsB b q) = (decide (q < n) && bitsB b q)
  by_cases h1 : q < n
  · have h2 : q < 8 * b.length := by omega
    simp [h1, h2]
  · by_cases h2 : q < 8 * b.length
    · have hj : q / 8 < b.length := by omega
      have hj2 : q / 8 < (pk n (bitsB b)).length := by rw [pk_length]; omega
      have h3 := pk_bit hj2 (q % 8) (by omega)
      have e : (pk n (bitsB b))[q / 8] = b[q / 8] := (List.getElem_of_eq h hj).symm
      rw [e, show 8 * (q / 8) + q % 8 = q by omega] at h3
      unfold bitsB
      rw [List.getD_eq_getElem?_getD, List.getElem?_eq_getElem hj, Option.getD_some, h3]
      simp [h1]
    · simp [h1, h2]
end Go.Proofs.Ytlcbmpojigjjlaa
