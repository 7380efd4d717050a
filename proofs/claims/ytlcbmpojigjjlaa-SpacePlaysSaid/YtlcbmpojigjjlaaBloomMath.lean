/- Plain mathematics for package bloom: bits packed into bytes, the bits of a key. No statement of the seat is proved here; nothing of the program is imported. -/
import Derived.Test.YtlcbmpojigjjlaaMath
namespace Go.Proofs.Ytlcbmpojigjjlaa
open Go.RowKit

/-- The number whose k lowest bits those are. -/
def ofBits (f : Nat → Bool) : Nat → Nat
  | 0 => 0
  | k + 1 => 2 ^ k * (f k).toNat + ofBits f k
theorem ofBits_lt (f : Nat → Bool) (k : Nat) : ofBits f k < 2 ^ k := by
  induction k with
  | zero => simp [ofBits]
  | succ k ih =>
    have h1 : 2 ^ k * (f k).toNat ≤ 2 ^ k * 1 := Nat.mul_le_mul_left _ (Bool.toNat_le _)
    rw [ofBits, Nat.pow_succ]; omega
theorem ofBits_testBit (f : Nat → Bool) (k i : Nat) : (ofBits f k).testBit i = (decide (i < k) && f i) := by
  induction k with
  | zero => simp [ofBits]
  | succ k ih =>
    rw [ofBits, Nat.testBit_two_pow_mul_add _ (ofBits_lt f k)]
    by_cases h : i < k
    · rw [if_pos h, ih]; simp [h, Nat.lt_succ_of_lt h]
    · rw [if_neg h]
      by_cases e : i = k
      · subst e; cases f i <;> simp
      · have h2 : ¬ i < k + 1 := by omega
        have h3 : i - k ≠ 0 := by omega
        simp only [h2, decide_false, Bool.false_and]
        cases f k
        · simp
        · obtain ⟨j, hj⟩ : ∃ j, i - k = j + 1 := ⟨i - k - 1, by omega⟩
          rw [hj]; simp [Nat.testBit_succ]
/-- The byte whose bits those are. -/
def byteOf (f : Nat → Bool) : UInt8 := UInt8.ofNat (ofBits f 8)
theorem byteOf_toNat (f : Nat → Bool) : (byteOf f).toNat = ofBits f 8 := by
  have := ofBits_lt f 8
  simp only [byteOf, UInt8.toNat_ofNat']
  omega
theorem byteOf_testBit (f : Nat → Bool) (i : Nat) : (byteOf f).toNat.testBit i = (decide (i < 8) && f i) := by rw [byteOf_toNat, ofBits_testBit]
theorem u8_ext {a b : UInt8} (h : ∀ i, i < 8 → a.toNat.testBit i = b.toNat.testBit i) : a = b := by
  apply UInt8.toNat_inj.1
  apply Nat.eq_of_testBit_eq
  intro i
  by_cases hi : i < 8
  · exact h i hi
  · have h1 : a.toNat < 2 ^ i := Nat.lt_of_lt_of_le a.toNat_lt (Nat.pow_le_pow_right (by omega) (by omega))
    have h2 : b.toNat < 2 ^ i := Nat.lt_of_lt_of_le b.toNat_lt (Nat.pow_le_pow_right (by omega) (by omega))
    rw [Nat.testBit_lt_two_pow h1, Nat.testBit_lt_two_pow h2]

/-- The bits below n, as bytes. -/
def pk (n : Nat) (S : Nat → Bool) : List UInt8 := (List.range ((n + 7) / 8)).map fun j => byteOf fun i => decide (8 * j + i < n) && S (8 * j + i)
theorem pk_length (n : Nat) (S : Nat → Bool) : (pk n S).length = (n + 7) / 8 := by simp [pk]
theorem pk_get {n : Nat} {S : Nat → Bool} {j : Nat} (h : j < (pk n S).length) : (pk n S)[j] = byteOf fun i => decide (8 * j + i < n) && S (8 * j + i) := by simp [pk]
theorem pk_bit {n : Nat} {S : Nat → Bool} {j : Nat} (h : j < (pk n S).length) (i : Nat) (hi : i < 8) : (pk n S)[j].toNat.testBit i = (decide (8 * j + i < n) && S (8 * j + i)) := by
  rw [pk_get h, byteOf_testBit]; simp [hi]
theorem pk_ext {n : Nat} {S : Nat → Bool} {l : List UInt8} (hl : l.length = (n + 7) / 8) (h : ∀ j (hj : j < l.length) i, i < 8 → l[j].toNat.testBit i = (decide (8 * j + i < n) && S (8 * j + i))) : l = pk n S := by
  apply List.ext_getElem (by rw [hl, pk_length])
  intro j h1 h2
  exact u8_ext fun i hi => by rw [h j h1 i hi, pk_bit h2 i hi]
theorem pk_congr {n : Nat} {S T : Nat → Bool} (h : ∀ q, q < n → S q = T q) : pk n S = pk n T :=
  pk_ext (pk_length n S) fun j hj i hi => by
    rw [pk_bit hj i hi]
    by_cases hq : 8 * j + i < n
    · simp [hq, h _ hq]
    · simp [hq]
/-- One bit more. -/
def put1 (S : Nat → Bool) (q : Nat) : Nat → Bool := fun x => x == q || S x
def putL (S : Nat → Bool) (l : List Nat) : Nat → Bool := l.foldl put1 S
theorem putL_snoc (S : Nat → Bool) (l : List Nat) (q : Nat) : putL S (l ++ [q]) = put1 (putL S l) q := by simp [putL, List.foldl_append]
theorem putL_at (S : Nat → Bool) (l : List Nat) (x : Nat) : putL S l x = (l.contains x || S x) := by
  induction l generalizing S with
  | nil => simp [putL]
  | cons q l ih =>
    show putL (put1 S q) l x = _
    rw [ih, List.contains_cons]
    simp only [put1]
    cases (x == q) <;> cases l.contains x <;> simp
theorem or_pow_bit (a k i : Nat) : (a ||| 2 ^ k).testBit i = (a.testBit i || decide (k = i)) := by
  rw [Nat.testBit_or, Nat.testBit_two_pow]
theorem pk_put {n q : Nat} (S : Nat → Bool) (hq : q < n) (h : q / 8 < (pk n S).length) (b : UInt8) (hb : b.toNat = (pk n S)[q / 8].toNat ||| 2 ^ (q % 8)) : (pk n S).set (q / 8) b = pk n (put1 S q) :=
  pk_ext (by rw [List.length_set, pk_length]) fun j hj i hi => by
    rw [List.length_set] at hj
    rw [List.getElem_set]
    by_cases e : q / 8 = j
    · subst e
      rw [if_pos rfl, hb, or_pow_bit, pk_bit h i hi]
      by_cases e2 : q % 8 = i
      · have e3 : 8 * (q / 8) + i = q := by omega
        rw [e3, e2]
        simp [put1, hq]
      · have e3 : ¬ 8 * (q / 8) + i = q := by omega
        have e4 : (8 * (q / 8) + i == q) = false := by simpa using e3
        simp [put1, e2, e4]
    · rw [if_neg e, pk_bit hj i hi]
      have e3 : ¬ 8 * j + i = q := by omega
      have e4 : (8 * j + i == q) = false := by simpa using e3
      simp [put1, e4]
theorem pk_has {n q : Nat} (S : Nat → Bool) (hq : q < n) (h : q / 8 < (pk n S).length) : ((pk n S)[q / 8].toNat &&& 2 ^ (q % 8)) = if S q then 2 ^ (q % 8) else 0 := by
  have hb := pk_bit h (q % 8) (Nat.mod_lt _ (by omega))
  rw [show 8 * (q / 8) + q % 8 = q by omega] at hb
  simp [hq] at hb
  apply Nat.eq_of_testBit_eq
  intro i
  rw [Nat.testBit_and, Nat.testBit_two_pow]
  by_cases e : q % 8 = i
  · subst e
    rw [hb]
    cases S q <;> simp
  · cases S q <;> simp [e]
theorem pk_none (n : Nat) : pk n (fun _ => false) = List.replicate ((n + 7) / 8) 0 :=
  (pk_ext (by simp) fun j hj i hi => by simp).symm
/-- The bits of bytes. -/
def bitOf (b : List UInt8) (q : Nat) : Bool := (b.getD (q / 8) 0).toNat.testBit (q % 8)
def orS (S : Nat → Bool) (b : List UInt8) : Nat → Bool := fun q => S q || bitOf b q
/-- The first k bytes joined with those of b. -/
def orTo (l b : List UInt8) (k : Nat) : List UInt8 := (List.range l.length).map fun j => if j < k then l.getD j 0 ||| b.getD j 0 else l.getD j 0
theorem orTo_length (l b : List UInt8) (k : Nat) : (orTo l b k).length = l.length := by simp [orTo]
theorem orTo_get {l b : List UInt8} {k j : Nat} (h : j < (orTo l b k).length) : (orTo l b k)[j] = if j < k then l.getD j 0 ||| b.getD j 0 else l.getD j 0 := by simp [orTo]
theorem orTo_zero (l b : List UInt8) : orTo l b 0 = l := by
  apply List.ext_getElem (orTo_length _ _ _)
  intro j h1 h2
  rw [orTo_get h1]; simp [List.getD, List.getElem?_eq_getElem h2]
theorem orTo_next {l b : List UInt8} {k : Nat} (hk : k < (orTo l b k).length) (x : UInt8) (hx : x.toNat = (orTo l b k)[k].toNat ||| (b.getD k 0).toNat) : (orTo l b k).set k x = orTo l b (k + 1) := by
  apply List.ext_getElem (by simp [orTo_length])
  intro j h1 h2
  rw [List.getElem_set, orTo_get h2]
  by_cases e : k = j
  · subst e
    rw [if_pos rfl, if_pos (Nat.lt_succ_self k)]
    apply UInt8.toNat_inj.1
    rw [hx, orTo_get hk, if_neg (Nat.lt_irrefl k), UInt8.toNat_or]
  · rw [if_neg e, orTo_get]
    by_cases h : j < k
    · rw [if_pos h, if_pos (by omega)]
    · rw [if_neg h, if_neg (by omega)]
theorem orTo_bit {n : Nat} {S : Nat → Bool} {b : List UInt8} {k j : Nat} (hk : k = min b.length ((n + 7) / 8)) (h : j < (orTo (pk n S) b k).length) (i : Nat) (hi : i < 8) : (orTo (pk n S) b k)[j].toNat.testBit i = ((decide (8 * j + i < n) && S (8 * j + i)) || bitOf b (8 * j + i)) := by
  have hl : j < (pk n S).length := by rw [orTo_length] at h; exact h
  have e1 : (8 * j + i) / 8 = j := by omega
  have e2 : (8 * j + i) % 8 = i := by omega
  rw [orTo_get h, bitOf, e1, e2, ← pk_bit hl i hi]
  have e3 : (pk n S).getD j 0 = (pk n S)[j] := by simp [List.getD, List.getElem?_eq_getElem hl]
  rw [e3]
  split
  · rw [UInt8.toNat_or, Nat.testBit_or]
  · have : b.length ≤ j := by rw [pk_length] at hl; omega
    simp [List.getD, List.getElem?_eq_none this]
theorem pk_or0 {n : Nat} {S : Nat → Bool} {b : List UInt8} {k : Nat} (hk : k = min b.length ((n + 7) / 8)) (h0 : n % 8 = 0) : orTo (pk n S) b k = pk n (orS S b) :=
  pk_ext (by rw [orTo_length, pk_length]) fun j hj i hi => by
    have hj2 := hj
    rw [orTo_length, pk_length] at hj2
    have hlt : 8 * j + i < n := by omega
    rw [orTo_bit hk hj i hi]
    simp [hlt, orS]
theorem pk_or1 {n : Nat} {S : Nat → Bool} {b : List UInt8} {k m : Nat} (hk : k = min b.length ((n + 7) / 8)) (h0 : 0 < n % 8) (hm : m + 1 = (n + 7) / 8) (h : m < (orTo (pk n S) b k).length) (x : UInt8) (hx : x.toNat = (orTo (pk n S) b k)[m].toNat &&& (2 ^ (n % 8) - 1)) :
    (orTo (pk n S) b k).set m x = pk n (orS S b) :=
  pk_ext (by rw [List.length_set, orTo_length, pk_length]) fun j hj i hi => by
    have hj1 : j < (orTo (pk n S) b k).length := by simpa using hj
    have hj2 := hj1
    rw [orTo_length, pk_length] at hj2
    rw [List.getElem_set]
    split
    · rename_i e
      subst e
      rw [hx, Nat.testBit_and, Nat.testBit_two_pow_sub_one, orTo_bit hk h i hi]
      by_cases h3 : i < n % 8
      · have : 8 * m + i < n := by omega
        simp [h3, this, orS]
      · have : ¬ 8 * m + i < n := by omega
        simp [h3, this]
    · have hlt : 8 * j + i < n := by omega
      rw [orTo_bit hk hj1 i hi]
      simp [hlt, orS]
/-- Of a key: its bytes, and its number. -/
def keyA (s : List UInt8) (N : Nat) : Nat := (val (s.take 4) + N) % 4294967296
def keyB (s : List UInt8) : Nat := val ((s.drop 4).take 4) ||| 1
def sumAt (a b i : Nat) : Nat := (a + i * b) % 4294967296
/-- The bits of a key. -/
def spots (n p a b : Nat) : List (Fin n) := if h : 0 < n then (List.range p).map fun i => ⟨sumAt a b i % n, Nat.mod_lt _ h⟩ else []
def spotsN (n p a b : Nat) : List Nat := (spots n p a b).map (·.val)
theorem spots_nil {p a b : Nat} : spots 0 p a b = [] := rfl
theorem spots_length {n : Nat} (h : 0 < n) (p a b : Nat) : (spots n p a b).length = p := by simp [spots, h]
theorem sumAt_succ (a b i : Nat) : (sumAt a b i + b) % 4294967296 = sumAt a b (i + 1) := by
  simp only [sumAt, Nat.mod_add_mod, Nat.add_mul, Nat.one_mul]
  rw [Nat.add_assoc]
theorem sumAt_lt (a b i : Nat) : sumAt a b i < 4294967296 := Nat.mod_lt _ (by omega)
theorem sumAt_zero {a : Nat} (b : Nat) (h : a < 4294967296) : sumAt a b 0 = a := by simp [sumAt, Nat.mod_eq_of_lt h]
theorem spots_take {n : Nat} (h : 0 < n) (p a b k : Nat) (hk : k ≤ p) : (spots n p a b).take k = spots n k a b := by
  simp only [spots, h, dif_pos, ← List.map_take, List.take_range, Nat.min_eq_left hk]
theorem spots_snoc {n : Nat} (h : 0 < n) (k a b : Nat) : spots n (k + 1) a b = spots n k a b ++ [⟨sumAt a b k % n, Nat.mod_lt _ h⟩] := by
  simp [spots, h, List.range_succ]
theorem spots_pre {n : Nat} (h : 0 < n) (p a b k : Nat) (hk : k ≤ p) : spots n k a b <+: spots n p a b := by
  rw [← spots_take h p a b k hk]; exact List.take_prefix _ _
end Go.Proofs.Ytlcbmpojigjjlaa
