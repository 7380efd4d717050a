/- Plain mathematics for package crc: bytes, sums, what is sealed, what is told. Nothing of the program is imported; no statement is proved here. -/
import Derived.Test.YteemebecllhldaaCrcMath
import Derived.Test.YteemebecllhldaaMath
namespace Go.Proofs.Yteemebecllhldaa

def wide (c : UInt8) : BitVec 32 := BitVec.ofNat 32 (c.toNat * 16777216)
def byteIn (r : BitVec 32) (c : UInt8) : BitVec 32 := stps 8 (r ^^^ wide c)
def bytesIn (r : BitVec 32) (l : List UInt8) : BitVec 32 := l.foldl byteIn r
theorem bytesIn_append (r : BitVec 32) (l m : List UInt8) : bytesIn r (l ++ m) = bytesIn (bytesIn r l) m := List.foldl_append
theorem bytesIn_snoc (r : BitVec 32) (l : List UInt8) (c : UInt8) : bytesIn r (l ++ [c]) = byteIn (bytesIn r l) c := by rw [bytesIn_append]; rfl

/-- A byte's bits, the highest one first. -/
def bitsOf (c : UInt8) : List Bool := (List.range 8).map fun k => c.toNat.testBit (7 - k)
theorem bitsOf_length (c : UInt8) : (bitsOf c).length = 8 := by simp [bitsOf]
theorem pack_bits_all : ∀ n : Fin 256, pack ((List.range 8).map fun k => n.val.testBit (7 - k)) = BitVec.ofNat 32 (n.val * 16777216) := by decide +kernel
theorem pack_bits (c : UInt8) : pack (bitsOf c) = wide c := pack_bits_all ⟨c.toNat, c.toNat_lt⟩
theorem byteIn_bits (r : BitVec 32) (c : UInt8) : byteIn r c = bitsIn r (bitsOf c) := by
  rw [bitsIn_pack r _ (by rw [bitsOf_length]; omega), bitsOf_length, pack_bits]; rfl
def allBits (l : List UInt8) : List Bool := l.flatMap bitsOf
theorem allBits_length (l : List UInt8) : (allBits l).length = 8 * l.length := by
  induction l with
  | nil => rfl
  | cons c l ih => simp [allBits, bitsOf_length] at ih ⊢; omega
theorem bytesIn_bits (r : BitVec 32) (l : List UInt8) : bytesIn r l = bitsIn r (allBits l) := by
  induction l generalizing r with
  | nil => rfl
  | cons c l ih =>
    show bytesIn (byteIn r c) l = bitsIn r (bitsOf c ++ allBits l)
    rw [ih, byteIn_bits, bitsIn_append]

theorem wide_xor (a b : UInt8) : wide (a ^^^ b) = wide a ^^^ wide b := by
  unfold wide
  apply BitVec.eq_of_getLsbD_eq
  intro i hi
  rw [BitVec.getLsbD_xor, BitVec.getLsbD_ofNat, BitVec.getLsbD_ofNat, BitVec.getLsbD_ofNat]
  have e : ∀ n : Nat, n * 16777216 = n <<< 24 := fun n => by rw [Nat.shiftLeft_eq]
  rw [e, e, e, UInt8.toNat_xor, Nat.shiftLeft_xor_distrib, Nat.testBit_xor]
  simp [hi]
theorem byteIn_xor (r s : BitVec 32) (a b : UInt8) : byteIn (r ^^^ s) (a ^^^ b) = byteIn r a ^^^ byteIn s b := by
  unfold byteIn
  rw [wide_xor, ← stps_xor]
  congr 1
  apply BitVec.eq_of_getLsbD_eq
  intro i _
  simp only [BitVec.getLsbD_xor]
  cases r.getLsbD i <;> cases s.getLsbD i <;> cases (wide a).getLsbD i <;> cases (wide b).getLsbD i <;> rfl
theorem bytesIn_xor (r s : BitVec 32) : ∀ (a b : List UInt8), a.length = b.length → bytesIn (r ^^^ s) (List.zipWith (· ^^^ ·) a b) = bytesIn r a ^^^ bytesIn s b := by
  intro a
  induction a generalizing r s with
  | nil => intro b h; cases b with
    | nil => rfl
    | cons _ _ => cases h
  | cons x a ih => intro b h; cases b with
    | nil => cases h
    | cons y b =>
      show bytesIn (byteIn (r ^^^ s) (x ^^^ y)) (List.zipWith (· ^^^ ·) a b) = bytesIn (byteIn r x) a ^^^ bytesIn (byteIn s y) b
      rw [byteIn_xor, ih _ _ b (by simpa using h)]

/-- The document's sums. -/
def ones : BitVec 32 := 0xFFFFFFFF#32
def moreOf (s : BitVec 32) (l : List UInt8) : BitVec 32 := bytesIn (s ^^^ ones) l ^^^ ones
def sumOf (l : List UInt8) : BitVec 32 := moreOf 0#32 l
theorem ones_ones (x : BitVec 32) : x ^^^ ones ^^^ ones = x := by rw [BitVec.xor_assoc, BitVec.xor_self, BitVec.xor_zero]
theorem more_append (s : BitVec 32) (a b : List UInt8) : moreOf (moreOf s a) b = moreOf s (a ++ b) := by
  unfold moreOf
  rw [ones_ones, bytesIn_append]
theorem sum_append (a b : List UInt8) : moreOf (sumOf a) b = sumOf (a ++ b) := more_append _ a b

/-- The four bytes of a sum. -/
theorem be4_bits (x : BitVec 32) : pack (allBits (be 4 x.toNat)) = x := by
  have hlen : (allBits (be 4 x.toNat)).length = 32 := by rw [allBits_length, be_length]
  have hx := x.isLt
  have key : allBits (be 4 x.toNat) = (List.range 32).map fun k => x.toNat.testBit (31 - k) := by
    have hb : ∀ n : Nat, bitsOf (UInt8.ofNat n) = (List.range 8).map fun k => n.testBit (7 - k) := by
      intro n
      unfold bitsOf
      refine List.map_congr_left fun k hk => ?_
      rw [UInt8.toNat_ofNat', Nat.testBit_mod_two_pow n 8]
      simp; omega
    have h1 : ∀ j k : Nat, (x.toNat / 256 ^ j).testBit k = x.toNat.testBit (8 * j + k) := by
      intro j k
      rw [show (256 : Nat) = 2 ^ 8 from rfl, ← Nat.pow_mul, Nat.testBit_div_two_pow, Nat.add_comm]
    simp only [allBits, be, List.flatMap_cons, List.flatMap_nil, hb, h1, List.append_nil]
    rfl
  have pk : ∀ (n m : Nat) (l : List Bool), m ≤ 32 → l = (List.range m).map (fun k => n.testBit (m - 1 - k)) → ∀ i, i < 32 → (pack l).getLsbD i = (decide (32 ≤ i + m) && n.testBit (i + m - 32)) := by
    intro n m
    induction m with
    | zero => intro l _ hl i hi; subst hl; simp [pack]; omega
    | succ m ih =>
      intro l hm hl i hi
      have hl2 : l = n.testBit m :: (List.range m).map (fun k => n.testBit (m - 1 - k)) := by
        rw [hl, List.range_succ_eq_map, List.map_cons, List.map_map]
        congr 1
        refine List.map_congr_left fun k _ => ?_
        simp only [Function.comp]
        congr 1
        omega
      rw [hl2, pack, BitVec.getLsbD_xor, BitVec.getLsbD_ushiftRight]
      by_cases h31 : i = 31
      · subst h31
        rw [BitVec.getLsbD_of_ge _ (1 + 31) (by omega), Bool.xor_false]
        have : (top (n.testBit m)).getLsbD 31 = n.testBit m := by cases n.testBit m <;> rfl
        rw [this]
        have e1 : 31 + (m + 1) - 32 = m := by omega
        have e2 : decide (32 ≤ 31 + (m + 1)) = true := by simp; omega
        rw [e1, e2, Bool.true_and]
      · have key : ∀ j : Fin 31, ∀ b : Bool, (top b).getLsbD j.val = false := by decide
        rw [key ⟨i, by omega⟩, Bool.false_xor, ih _ (by omega) rfl (1 + i) (by omega)]
        have e1 : 1 + i + m = i + (m + 1) := by omega
        rw [e1]
  apply BitVec.eq_of_getLsbD_eq
  intro i hi
  rw [pk x.toNat 32 _ (by omega) key i hi]
  have e : i + 32 - 32 = i := by omega
  have e2 : decide (32 ≤ i + 32) = true := by simp
  rw [e, e2, Bool.true_and]
  rfl
theorem bytesIn_be4 (r x : BitVec 32) : bytesIn r (be 4 x.toNat) = stps 32 (r ^^^ x) := by
  have hl : (allBits (be 4 x.toNat)).length = 32 := by rw [allBits_length, be_length]
  rw [bytesIn_bits, bitsIn_pack _ _ (by omega), hl, be4_bits]

/-- Bytes behind which their sum stands come to one and the same register, and no others do. -/
theorem sealed_iff (l : List UInt8) (t : BitVec 32) : sumOf l = t ↔ bytesIn ones (l ++ be 4 t.toNat) = stps 32 ones := by
  rw [bytesIn_append, bytesIn_be4]
  constructor
  · intro h
    subst h
    unfold sumOf moreOf
    rw [BitVec.zero_xor, ← BitVec.xor_assoc, BitVec.xor_self, BitVec.zero_xor]
  · intro h
    have h1 := stps_inj 32 h
    unfold sumOf moreOf
    have h2 : bytesIn ones l ^^^ ones = bytesIn ones l ^^^ (bytesIn ones l ^^^ t) := by rw [h1]
    rw [BitVec.zero_xor, h2, ← BitVec.xor_assoc, BitVec.xor_self, BitVec.zero_xor]
theorem sealed_sum (l : List UInt8) : sumOf (l ++ be 4 (sumOf l).toNat) = 0x38FB2284#32 := by
  have h := (sealed_iff l (sumOf l)).1 rfl
  show moreOf 0#32 _ = _
  unfold moreOf
  rw [BitVec.zero_xor, h]
  decide +kernel

/-- The sums of three lists of one length, and of the list that has their bytes xored, go together. -/
theorem sum_linear (a b c : List UInt8) (h1 : a.length = b.length) (h2 : b.length = c.length) :
    sumOf a ^^^ sumOf b ^^^ sumOf c ^^^ sumOf (List.zipWith (· ^^^ ·) (List.zipWith (· ^^^ ·) a b) c) = 0#32 := by
  have e : bytesIn ones (List.zipWith (· ^^^ ·) (List.zipWith (· ^^^ ·) a b) c) = bytesIn ones a ^^^ bytesIn ones b ^^^ bytesIn ones c := by
    have k1 := bytesIn_xor ones ones a b h1
    have k2 := bytesIn_xor (ones ^^^ ones) ones (List.zipWith (· ^^^ ·) a b) c (by rw [List.length_zipWith]; omega)
    rw [k1, BitVec.xor_self, BitVec.zero_xor] at k2
    exact k2
  have es : ∀ x, sumOf x = bytesIn ones x ^^^ ones := fun x => by unfold sumOf moreOf; rw [BitVec.zero_xor]
  rw [es, es, es, es, e]
  apply BitVec.eq_of_getLsbD_eq
  intro i _
  simp only [BitVec.getLsbD_xor, BitVec.getLsbD_zero]
  cases (bytesIn ones a).getLsbD i <;> cases (bytesIn ones b).getLsbD i <;> cases (bytesIn ones c).getLsbD i <;> cases ones.getLsbD i <;> rfl

/-- What differs in up to 32 neighbouring bits, and does differ, comes to another register. -/
theorem burst_other (x e : List UInt8) (h : x.length = e.length) (n m : Nat) (l : List Bool) (he : allBits e = List.replicate n false ++ (l ++ List.replicate m false)) (hl : l.length ≤ 32) (hne : true ∈ l) (r : BitVec 32) :
    bytesIn r (List.zipWith (· ^^^ ·) x e) ≠ bytesIn r x := by
  intro hh
  have k := bytesIn_xor r 0#32 x e h
  rw [BitVec.xor_zero, hh] at k
  have k2 : bytesIn 0#32 e = 0#32 := by
    have := congrArg (fun y => bytesIn r x ^^^ y) k
    simp only [← BitVec.xor_assoc, BitVec.xor_self, BitVec.zero_xor] at this
    exact this.symm
  rw [bytesIn_bits, he] at k2
  exact burst_ne n m l hl hne k2
end Go.Proofs.Yteemebecllhldaa
