/- Plain mathematics for package codec: lists of bytes, big-endian numbers, their value and their order. No statement of the seat is proved here; nothing of the program is imported. -/
import Derived.WalkKit
import Derived.Lib.AppendStr
namespace Go.Proofs.Ytoiiiccichkgpaa
open Go.RowKit

/-- A list of bytes as cells. -/
def bv (l : List UInt8) : List Value := l.map fun b => Value.int .u8 b.toNat
theorem bv_length (l : List UInt8) : (bv l).length = l.length := by simp [bv]
theorem bv_append (l m : List UInt8) : bv (l ++ m) = bv l ++ bv m := by simp [bv]
theorem bv_oneCell (l : List UInt8) : ∀ u ∈ bv l, u.oneCell' = true := by
  intro u hu
  simp only [bv, List.mem_map] at hu
  obtain ⟨b, _, rfl⟩ := hu
  rfl
theorem bv_get {l : List UInt8} {j : Nat} (h : j < l.length) : (bv l)[j]? = some (.int .u8 l[j].toNat) := by simp [bv, h]
theorem bv_strCells (s : ByteArray) : Lib.strCells s = bv s.data.toList := rfl
theorem bv_take (l : List UInt8) (k : Nat) : bv (l.take k) = (bv l).take k := by simp [bv]
theorem bv_drop (l : List UInt8) (k : Nat) : bv (l.drop k) = (bv l).drop k := by simp [bv]

/-- The k lowest bytes of n, the most significant one first. -/
def be : Nat → Nat → List UInt8
  | 0, _ => []
  | k + 1, n => UInt8.ofNat (n / 256 ^ k) :: be k n
theorem be_length (k n : Nat) : (be k n).length = k := by
  induction k with
  | zero => rfl
  | succ k ih => simp [be, ih]

/-- The number whose bytes those are, the most significant one first. -/
def val (l : List UInt8) : Nat := l.foldl (fun a c => a * 256 + c.toNat) 0
theorem val_nil : val [] = 0 := rfl
theorem val_snoc (l : List UInt8) (c : UInt8) : val (l ++ [c]) = val l * 256 + c.toNat := by simp [val, List.foldl_append]
theorem foldl_val (l : List UInt8) (a : Nat) : l.foldl (fun a c => a * 256 + c.toNat) a = a * 256 ^ l.length + val l := by
  induction l generalizing a with
  | nil => simp [val]
  | cons c l ih =>
    simp only [List.foldl_cons, val, List.length_cons, Nat.zero_mul, Nat.zero_add]
    rw [ih, ih c.toNat, Nat.pow_succ, Nat.add_mul, Nat.mul_assoc, Nat.mul_comm (256 ^ l.length) 256]
    simp only [val, Nat.add_assoc]
theorem val_cons (c : UInt8) (l : List UInt8) : val (c :: l) = c.toNat * 256 ^ l.length + val l := by
  have := foldl_val l c.toNat
  simpa [val] using this
theorem val_lt (l : List UInt8) : val l < 256 ^ l.length := by
  induction l with
  | nil => simp [val]
  | cons c l ih =>
    rw [val_cons, List.length_cons, Nat.pow_succ]
    have := c.toNat_lt
    have h2 : c.toNat * 256 ^ l.length ≤ 255 * 256 ^ l.length := Nat.mul_le_mul_right _ (by omega)
    omega
theorem val_append (l m : List UInt8) : val (l ++ m) = val l * 256 ^ m.length + val m := by
  unfold val
  rw [List.foldl_append]
  exact foldl_val m _
theorem val_be (k n : Nat) : val (be k n) = n % 256 ^ k := by
  induction k with
  | zero => simp [be, val, Nat.mod_one]
  | succ k ih =>
    rw [be, val_cons, be_length, ih, Nat.pow_succ, Nat.mod_mul]
    simp [UInt8.toNat_ofNat']
    rw [Nat.mul_comm]
    omega
theorem val_be_of_lt {k n : Nat} (h : n < 256 ^ k) : val (be k n) = n := by rw [val_be, Nat.mod_eq_of_lt h]
theorem be_val (l : List UInt8) : be l.length (val l) = l := by
  induction l with
  | nil => rfl
  | cons c l ih =>
    rw [List.length_cons, be, val_cons]
    have hl := val_lt l
    have hp : 0 < 256 ^ l.length := Nat.pow_pos (by omega)
    congr 1
    · rw [Nat.add_comm, Nat.mul_comm, Nat.add_mul_div_left _ _ hp, Nat.div_eq_of_lt hl]; simp
    · have key : ∀ (k a b : Nat), be k (a * 256 ^ k + b) = be k b := by
        intro k
        induction k with
        | zero => intros; rfl
        | succ k ihk =>
          intro a b
          have hpk : 0 < 256 ^ k := Nat.pow_pos (by omega)
          simp only [be]
          have e : a * 256 ^ (k + 1) = (a * 256) * 256 ^ k := by rw [Nat.pow_succ]; rw [Nat.mul_assoc, Nat.mul_comm 256]
          rw [e, ihk]
          congr 1
          rw [Nat.add_comm, Nat.mul_comm (a * 256), Nat.add_mul_div_left _ _ hpk]
          apply UInt8.toNat_inj.1
          simp [UInt8.toNat_ofNat']
      rw [key]; exact ih

/-- The Go text's step: the shifted number, joined with a byte. -/
theorem shl_or (a c : Nat) (hc : c < 256) : (a <<< 8) ||| c = a * 256 + c := by
  rw [← Nat.shiftLeft_add_eq_or_of_lt (by simpa using hc) a, Nat.shiftLeft_eq]
end Go.Proofs.Ytoiiiccichkgpaa
/- Plain mathematics for package crc: the register as 32 bits, one step, whole bytes, what is linear, what cannot be lost. Nothing of the program is imported; no statement is proved here. -/
namespace Go.Proofs.Ytoiiiccichkgpaa

/-- The register's step: shifted by one, and, if the bit that fell out was 1, xored with the polynomial. -/
def poly : BitVec 32 := 0x04C11DB7#32
def stp (r : BitVec 32) : BitVec 32 := (r <<< 1) ^^^ (if r.msb then poly else 0#32)
theorem stp_zero : stp 0#32 = 0#32 := by decide
theorem stp_xor (a b : BitVec 32) : stp (a ^^^ b) = stp a ^^^ stp b := by
  unfold stp
  rw [BitVec.shiftLeft_xor_distrib, BitVec.msb_xor]
  generalize a <<< 1 = x
  generalize b <<< 1 = y
  generalize poly = p
  apply BitVec.eq_of_getLsbD_eq
  intro i _
  cases a.msb <;> cases b.msb <;> simp only [Bool.false_xor, Bool.xor_false, Bool.xor_self, Bool.false_eq_true, if_true, if_false, BitVec.xor_zero, BitVec.getLsbD_xor] <;> cases x.getLsbD i <;> cases y.getLsbD i <;> cases p.getLsbD i <;> rfl
theorem stp_low (r : BitVec 32) : (stp r).getLsbD 0 = r.msb := by
  unfold stp
  cases h : r.msb <;> simp [poly]
theorem stp_eq_zero {r : BitVec 32} (h : stp r = 0#32) : r = 0#32 := by
  have h0 := stp_low r
  rw [h] at h0
  have hm : r.msb = false := by simpa using h0.symm
  unfold stp at h
  rw [hm] at h
  simp at h
  apply BitVec.eq_of_getLsbD_eq
  intro i hi
  by_cases h31 : i = 31
  · subst h31
    have : r.getLsbD 31 = r.msb := by simp [BitVec.msb_eq_getLsbD_last]
    rw [this, hm]; simp
  · have := congrArg (fun x : BitVec 32 => x.getLsbD (i + 1)) h
    simp [BitVec.getLsbD_shiftLeft] at this
    simpa using this (by omega)

/-- n steps. -/
def stps : Nat → BitVec 32 → BitVec 32
  | 0, r => r
  | n + 1, r => stps n (stp r)
theorem stps_zero (n : Nat) : stps n 0#32 = 0#32 := by
  induction n with
  | zero => rfl
  | succ n ih => rw [stps, stp_zero, ih]
theorem stps_xor (n : Nat) (a b : BitVec 32) : stps n (a ^^^ b) = stps n a ^^^ stps n b := by
  induction n generalizing a b with
  | zero => rfl
  | succ n ih => rw [stps, stp_xor, ih]; rfl
theorem stps_add (n m : Nat) (r : BitVec 32) : stps (n + m) r = stps m (stps n r) := by
  induction n generalizing r with
  | zero => rw [Nat.zero_add]; rfl
  | succ n ih => rw [Nat.succ_add, stps, ih]; rfl
theorem stps_eq_zero (n : Nat) {r : BitVec 32} (h : stps n r = 0#32) : r = 0#32 := by
  induction n generalizing r with
  | zero => exact h
  | succ n ih => exact stp_eq_zero (ih h)
theorem stps_inj (n : Nat) {a b : BitVec 32} (h : stps n a = stps n b) : a = b := by
  have : stps n (a ^^^ b) = 0#32 := by rw [stps_xor, h, BitVec.xor_self]
  have := stps_eq_zero n this
  have h2 := congrArg (· ^^^ b) this
  simpa [BitVec.xor_assoc] using h2

/-- One bit into the register: it is xored into the highest one, and a step is made. -/
def top : Bool → BitVec 32
  | true => 0x80000000#32
  | false => 0#32
def bitIn (r : BitVec 32) (b : Bool) : BitVec 32 := stp (r ^^^ top b)
def bitsIn (r : BitVec 32) (l : List Bool) : BitVec 32 := l.foldl bitIn r
theorem bitsIn_append (r : BitVec 32) (l m : List Bool) : bitsIn r (l ++ m) = bitsIn (bitsIn r l) m := List.foldl_append
theorem bitsIn_false (r : BitVec 32) (n : Nat) : bitsIn r (List.replicate n false) = stps n r := by
  induction n generalizing r with
  | zero => rfl
  | succ n ih =>
    rw [List.replicate_succ]
    show bitsIn (bitIn r false) (List.replicate n false) = _
    rw [ih, stps]
    simp [bitIn, top]

/-- Bits as the register's highest ones. -/
def pack : List Bool → BitVec 32
  | [] => 0#32
  | b :: l => top b ^^^ (pack l >>> 1)
theorem pack_low (l : List Bool) (i : Nat) (h : i + l.length < 32) : (pack l).getLsbD i = false := by
  induction l generalizing i with
  | nil => simp [pack]
  | cons b l ih =>
    rw [pack, BitVec.getLsbD_xor, BitVec.getLsbD_ushiftRight, Nat.add_comm 1 i, ih (i + 1) (by simp at h; omega)]
    have : i < 31 := by simp at h; omega
    have key : ∀ j : Fin 31, ∀ b : Bool, (top b).getLsbD j.val = false := by decide
    rw [key ⟨i, this⟩ b]; rfl
theorem shift_back (x : BitVec 32) (h : x.getLsbD 0 = false) : stp (x >>> 1) = x := by
  unfold stp
  have hm : (x >>> 1).msb = false := by simp [BitVec.msb_eq_getLsbD_last]
  rw [hm]
  simp only [Bool.false_eq_true, if_false, BitVec.xor_zero]
  apply BitVec.eq_of_getLsbD_eq
  intro i hi
  simp only [BitVec.getLsbD_shiftLeft, BitVec.getLsbD_ushiftRight]
  by_cases h0 : i = 0
  · subst h0
    simpa using h.symm
  · have e : 1 + (i - 1) = i := by omega
    have h1 : ¬ i < 1 := by omega
    simp [hi, e, h1]
theorem bitsIn_pack (r : BitVec 32) (l : List Bool) (h : l.length ≤ 32) : bitsIn r l = stps l.length (r ^^^ pack l) := by
  induction l generalizing r with
  | nil => simp [bitsIn, pack, stps]
  | cons b l ih =>
    show bitsIn (bitIn r b) l = stps l.length (stp (r ^^^ (top b ^^^ (pack l >>> 1))))
    rw [ih _ (by simp at h; omega), ← BitVec.xor_assoc, stp_xor, shift_back _ (pack_low l 0 (by simp at h; omega))]
    rfl
theorem pack_eq_zero (l : List Bool) (h : l.length ≤ 32) (hz : pack l = 0#32) : ∀ b ∈ l, b = false := by
  induction l with
  | nil => simp
  | cons b l ih =>
    rw [pack] at hz
    have h31 : (top b ^^^ (pack l >>> 1)).getLsbD 31 = false := by rw [hz]; rfl
    rw [BitVec.getLsbD_xor, BitVec.getLsbD_ushiftRight, BitVec.getLsbD_of_ge (pack l) (1 + 31) (by omega), Bool.xor_false] at h31
    have hb : b = false := by
      cases b
      · rfl
      · exact absurd h31 (by decide)
    subst hb
    have hz2 : pack l >>> 1 = 0#32 := by simpa [top] using hz
    have hp : pack l = 0#32 := by
      rw [← shift_back _ (pack_low l 0 (by simp at h; omega)), hz2, stp_zero]
    intro c hc
    rcases List.mem_cons.1 hc with rfl | hc
    · rfl
    · exact ih (by simp at h; omega) hp c hc
/-- WHAT CANNOT BE LOST: up to 32 neighbouring bits, not all 0, between 0s. -/
theorem burst_ne (n m : Nat) (l : List Bool) (h : l.length ≤ 32) (hne : true ∈ l) : bitsIn 0#32 (List.replicate n false ++ (l ++ List.replicate m false)) ≠ 0#32 := by
  rw [bitsIn_append, bitsIn_append, bitsIn_false, bitsIn_false, stps_zero, bitsIn_pack _ _ h]
  intro h0
  have h1 := stps_eq_zero _ h0
  have h2 := stps_eq_zero _ h1
  rw [BitVec.zero_xor] at h2
  have := pack_eq_zero l h h2 true hne
  cases this
end Go.Proofs.Ytoiiiccichkgpaa
/- Plain mathematics for package crc: bytes, sums, what is sealed, what is told. Nothing of the program is imported; no statement is proved here. -/
namespace Go.Proofs.Ytoiiiccichkgpaa

def wide (c : UInt8) : BitVec 32 := BitVec.ofNat 32 (c.toNat * 16777216)
def byteIn (r : BitVec 32) (c : UInt8) : BitVec 32 := stps 8 (r ^^^ wide c)
def bytesIn (r : BitVec 32) (l : List UInt8) : BitVec 32 := l.foldl byteIn r
theorem bytesIn_append (r : BitVec 32) (l m : List UInt8) : bytesIn r (l ++ m) = bytesIn (bytesIn r l) m := List.foldl_append
theorem bytesIn_snoc (r : BitVec 32) (l : List UInt8) (c : UInt8) : bytesIn r (l ++ [c]) = byteIn (bytesIn r l) c := by rw [bytesIn_append]; rfl

/-- A byte's bits, the highest one first. -/
def bitsOf (c : UInt8) : List Bool := (List.range 8).map fun k => c.toNat.testBit (7 - k)
theorem bitsOf_length (c : UInt8) : (bitsOf c).length = 8 := by simp [bitsOf]
theorem pack_bits_all : ∀ n : Fin 256, pack ((List.range 8).map fun k => n.val.testBit (7 - k)) = BitVec.ofNat 32 (n.val * 16777216) := by decide +kernel
theorem pack_bits (c : UInt8) : pack (bitsOf c) = wide c := pack_bits_all ⟨c.toNat, c.toNat_lt⟩
theorem byteIn_bits (r : BitVec 32) (c : UInt8) : byteIn r c = bitsIn r (bitsOf c) := by
  rw [bitsIn_pack r _ (by rw [bitsOf_length]; omega), bitsOf_length, pack_bits]; rfl
def allBits (l : List UInt8) : List Bool := l.flatMap bitsOf
theorem allBits_length (l : List UInt8) : (allBits l).length = 8 * l.length := by
  induction l with
  | nil => rfl
  | cons c l ih => simp [allBits, bitsOf_length] at ih ⊢; omega
theorem bytesIn_bits (r : BitVec 32) (l : List UInt8) : bytesIn r l = bitsIn r (allBits l) := by
  induction l generalizing r with
  | nil => rfl
  | cons c l ih =>
    show bytesIn (byteIn r c) l = bitsIn r (bitsOf c ++ allBits l)
    rw [ih, byteIn_bits, bitsIn_append]

theorem wide_xor (a b : UInt8) : wide (a ^^^ b) = wide a ^^^ wide b := by
  unfold wide
  apply BitVec.eq_of_getLsbD_eq
  intro i hi
  rw [BitVec.getLsbD_xor, BitVec.getLsbD_ofNat, BitVec.getLsbD_ofNat, BitVec.getLsbD_ofNat]
  have e : ∀ n : Nat, n * 16777216 = n <<< 24 := fun n => by rw [Nat.shiftLeft_eq]
  rw [e, e, e, UInt8.toNat_xor, Nat.shiftLeft_xor_distrib, Nat.testBit_xor]
  simp [hi]
theorem byteIn_xor (r s : BitVec 32) (a b : UInt8) : byteIn (r ^^^ s) (a ^^^ b) = byteIn r a ^^^ byteIn s b := by
  unfold byteIn
  rw [wide_xor, ← stps_xor]
  congr 1
  apply BitVec.eq_of_getLsbD_eq
  intro i _
  simp only [BitVec.getLsbD_xor]
  cases r.getLsbD i <;> cases s.getLsbD i <;> cases (wide a).getLsbD i <;> cases (wide b).getLsbD i <;> rfl
theorem bytesIn_xor (r s : BitVec 32) : ∀ (a b : List UInt8), a.length = b.length → bytesIn (r ^^^ s) (List.zipWith (· ^^^ ·) a b) = bytesIn r a ^^^ bytesIn s b := by
  intro a
  induction a generalizing r s with
  | nil => intro b h; cases b with
    | nil => rfl
    | cons _ _ => cases h
  | cons x a ih => intro b h; cases b with
    | nil => cases h
    | cons y b =>
      show bytesIn (byteIn (r ^^^ s) (x ^^^ y)) (List.zipWith (· ^^^ ·) a b) = bytesIn (byteIn r x) a ^^^ bytesIn (byteIn s y) b
      rw [byteIn_xor, ih _ _ b (by simpa using h)]

/-- The document's sums. -/
def ones : BitVec 32 := 0xFFFFFFFF#32
def moreOf (s : BitVec 32) (l : List UInt8) : BitVec 32 := bytesIn (s ^^^ ones) l ^^^ ones
def sumOf (l : List UInt8) : BitVec 32 := moreOf 0#32 l
theorem ones_ones (x : BitVec 32) : x ^^^ ones ^^^ ones = x := by rw [BitVec.xor_assoc, BitVec.xor_self, BitVec.xor_zero]
theorem more_append (s : BitVec 32) (a b : List UInt8) : moreOf (moreOf s a) b = moreOf s (a ++ b) := by
  unfold moreOf
  rw [ones_ones, bytesIn_append]
theorem sum_append (a b : List UInt8) : moreOf (sumOf a) b = sumOf (a ++ b) := more_append _ a b

/-- The four bytes of a sum. -/
theorem be4_bits (x : BitVec 32) : pack (allBits (be 4 x.toNat)) = x := by
  have hlen : (allBits (be 4 x.toNat)).length = 32 := by rw [allBits_length, be_length]
  have hx := x.isLt
  have key : allBits (be 4 x.toNat) = (List.range 32).map fun k => x.toNat.testBit (31 - k) := by
    have hb : ∀ n : Nat, bitsOf (UInt8.ofNat n) = (List.range 8).map fun k => n.testBit (7 - k) := by
      intro n
      unfold bitsOf
      refine List.map_congr_left fun k hk => ?_
      rw [UInt8.toNat_ofNat', Nat.testBit_mod_two_pow n 8]
      simp; omega
    have h1 : ∀ j k : Nat, (x.toNat / 256 ^ j).testBit k = x.toNat.testBit (8 * j + k) := by
      intro j k
      rw [show (256 : Nat) = 2 ^ 8 from rfl, ← Nat.pow_mul, Nat.testBit_div_two_pow, Nat.add_comm]
    simp only [allBits, be, List.flatMap_cons, List.flatMap_nil, hb, h1, List.append_nil]
    rfl
  have pk : ∀ (n m : Nat) (l : List Bool), m ≤ 32 → l = (List.range m).map (fun k => n.testBit (m - 1 - k)) → ∀ i, i < 32 → (pack l).getLsbD i = (decide (32 ≤ i + m) && n.testBit (i + m - 32)) := by
    intro n m
    induction m with
    | zero => intro l _ hl i hi; subst hl; simp [pack]; omega
    | succ m ih =>
      intro l hm hl i hi
      have hl2 : l = n.testBit m :: (List.range m).map (fun k => n.testBit (m - 1 - k)) := by
        rw [hl, List.range_succ_eq_map, List.map_cons, List.map_map]
        congr 1
        refine List.map_congr_left fun k _ => ?_
        simp only [Function.comp]
        congr 1
        omega
      rw [hl2, pack, BitVec.getLsbD_xor, BitVec.getLsbD_ushiftRight]
      by_cases h31 : i = 31
      · subst h31
        rw [BitVec.getLsbD_of_ge _ (1 + 31) (by omega), Bool.xor_false]
        have : (top (n.testBit m)).getLsbD 31 = n.testBit m := by cases n.testBit m <;> rfl
        rw [this]
        have e1 : 31 + (m + 1) - 32 = m := by omega
        have e2 : decide (32 ≤ 31 + (m + 1)) = true := by simp; omega
        rw [e1, e2, Bool.true_and]
      · have key : ∀ j : Fin 31, ∀ b : Bool, (top b).getLsbD j.val = false := by decide
        rw [key ⟨i, by omega⟩, Bool.false_xor, ih _ (by omega) rfl (1 + i) (by omega)]
        have e1 : 1 + i + m = i + (m + 1) := by omega
        rw [e1]
  apply BitVec.eq_of_getLsbD_eq
  intro i hi
  rw [pk x.toNat 32 _ (by omega) key i hi]
  have e : i + 32 - 32 = i := by omega
  have e2 : decide (32 ≤ i + 32) = true := by simp
  rw [e, e2, Bool.true_and]
  rfl
theorem bytesIn_be4 (r x : BitVec 32) : bytesIn r (be 4 x.toNat) = stps 32 (r ^^^ x) := by
  have hl : (allBits (be 4 x.toNat)).length = 32 := by rw [allBits_length, be_length]
  rw [bytesIn_bits, bitsIn_pack _ _ (by omega), hl, be4_bits]

/-- Bytes behind which their sum stands come to one and the same register, and no others do. -/
theorem sealed_iff (l : List UInt8) (t : BitVec 32) : sumOf l = t ↔ bytesIn ones (l ++ be 4 t.toNat) = stps 32 ones := by
  rw [bytesIn_append, bytesIn_be4]
  constructor
  · intro h
    subst h
    unfold sumOf moreOf
    rw [BitVec.zero_xor, ← BitVec.xor_assoc, BitVec.xor_self, BitVec.zero_xor]
  · intro h
    have h1 := stps_inj 32 h
    unfold sumOf moreOf
    have h2 : bytesIn ones l ^^^ ones = bytesIn ones l ^^^ (bytesIn ones l ^^^ t) := by rw [h1]
    rw [BitVec.zero_xor, h2, ← BitVec.xor_assoc, BitVec.xor_self, BitVec.zero_xor]
theorem sealed_sum (l : List UInt8) : sumOf (l ++ be 4 (sumOf l).toNat) = 0x38FB2284#32 := by
  have h := (sealed_iff l (sumOf l)).1 rfl
  show moreOf 0#32 _ = _
  unfold moreOf
  rw [BitVec.zero_xor, h]
  decide +kernel

/-- The sums of three lists of one length, and of the list that has their bytes xored, go together. -/
theorem sum_linear (a b c : List UInt8) (h1 : a.length = b.length) (h2 : b.length = c.length) :
    sumOf a ^^^ sumOf b ^^^ sumOf c ^^^ sumOf (List.zipWith (· ^^^ ·) (List.zipWith (· ^^^ ·) a b) c) = 0#32 := by
  have e : bytesIn ones (List.zipWith (· ^^^ ·) (List.zipWith (· ^^^ ·) a b) c) = bytesIn ones a ^^^ bytesIn ones b ^^^ bytesIn ones c := by
    have k1 := bytesIn_xor ones ones a b h1
    have k2 := bytesIn_xor (ones ^^^ ones) ones (List.zipWith (· ^^^ ·) a b) c (by rw [List.length_zipWith]; omega)
    rw [k1, BitVec.xor_self, BitVec.zero_xor] at k2
    exact k2
  have es : ∀ x, sumOf x = bytesIn ones x ^^^ ones := fun x => by unfold sumOf moreOf; rw [BitVec.zero_xor]
  rw [es, es, es, es, e]
  apply BitVec.eq_of_getLsbD_eq
  intro i _
  simp only [BitVec.getLsbD_xor, BitVec.getLsbD_zero]
  cases (bytesIn ones a).getLsbD i <;> cases (bytesIn ones b).getLsbD i <;> cases (bytesIn ones c).getLsbD i <;> cases ones.getLsbD i <;> rfl

/-- What differs in up to 32 neighbouring bits, and does differ, comes to another register. -/
theorem burst_other (x e : List UInt8) (h : x.length = e.length) (n m : Nat) (l : List Bool) (he : allBits e = List.replicate n false ++ (l ++ List.replicate m false)) (hl : l.length ≤ 32) (hne : true ∈ l) (r : BitVec 32) :
    bytesIn r (List.zipWith (· ^^^ ·) x e) ≠ bytesIn r x := by
  intro hh
  have k := bytesIn_xor r 0#32 x e h
  rw [BitVec.xor_zero, hh] at k
  have k2 : bytesIn 0#32 e = 0#32 := by
    have := congrArg (fun y => bytesIn r x ^^^ y) k
    simp only [← BitVec.xor_assoc, BitVec.xor_self, BitVec.zero_xor] at this
    exact this.symm
  rw [bytesIn_bits, he] at k2
  exact burst_ne n m l hl hne k2
end Go.Proofs.Ytoiiiccichkgpaa
/- Plain mathematics for package cont: pieces, the bytes of a container, what is refused, the container of bytes. No statement of the seat is proved here; nothing of the program is imported. -/
namespace Go.Proofs.Ytoiiiccichkgpaa
open Go.RowKit
set_option linter.unusedVariables false

/-- A piece: which chunk (the Sum's bytes, N), and its bytes. -/
structure PcD where
  s : List UInt8
  n : Nat
  data : List UInt8
deriving DecidableEq
structure PcD.Ok (p : PcD) : Prop where
  s : p.s.length = 32
  n : p.n < 4294967296
def PcD.key (p : PcD) : List UInt8 × Nat := (p.s, p.n)
def sizeC (l : List PcD) : Nat := 10 + (l.map fun p => 38 + p.data.length).sum
theorem sizeC_nil : sizeC [] = 10 := rfl
theorem sizeC_snoc (l : List PcD) (p : PcD) : sizeC (l ++ [p]) = sizeC l + (38 + p.data.length) := by simp [sizeC]; omega
theorem sizeC_take {l : List PcD} {i : Nat} (h : i < l.length) : sizeC (l.take (i + 1)) = sizeC (l.take i) + (38 + l[i].data.length) := by
  rw [List.take_succ_eq_append_getElem h, sizeC_snoc]
theorem sizeC_take_le (l : List PcD) (i : Nat) : sizeC (l.take i) ≤ sizeC l := by
  have h : sizeC l = sizeC (l.take i) + ((l.drop i).map fun p => 38 + p.data.length).sum := by
    unfold sizeC
    conv => lhs; rw [← List.take_append_drop i l]
    rw [List.map_append, List.sum_append]
    omega
  omega
/-- Have two pieces one key? -/
def twiceC (l : List PcD) : Prop := ¬ (l.map PcD.key).Nodup
instance (l : List PcD) : Decidable (twiceC l) := inferInstanceAs (Decidable (¬ _))
def refC (l : List PcD) : Nat :=
  if l.any (fun p => p.data.isEmpty) then 1
  else if l.any (fun p => decide (4096 < p.data.length)) then 4
  else if 1000 < l.length ∨ 65536 < sizeC l then 4
  else if twiceC l then 3 else 0
theorem refC_cases (l : List PcD) : refC l = 0 ∨ refC l = 1 ∨ refC l = 3 ∨ refC l = 4 := by
  unfold refC
  split
  · simp
  · split
    · simp
    · split
      · simp
      · split <;> simp
theorem refC_zero {l : List PcD} (h : refC l = 0) : (∀ p ∈ l, p.data ≠ [] ∧ p.data.length ≤ 4096) ∧ l.length ≤ 1000 ∧ sizeC l ≤ 65536 ∧ (l.map PcD.key).Nodup := by
  unfold refC at h
  split at h
  · cases h
  · rename_i h1
    split at h
    · cases h
    · rename_i h2
      split at h
      · cases h
      · rename_i h3
        split at h
        · cases h
        · rename_i h4
          simp only [List.any_eq_true, not_exists, not_and, Bool.not_eq_true, List.isEmpty_eq_false_iff, decide_eq_true_eq, Nat.not_lt] at h1 h2
          refine ⟨fun p hp => ⟨h1 p hp, by simpa using h2 p hp⟩, by omega, by omega, Decidable.not_not.1 h4⟩
def rowC (p : PcD) : List UInt8 := p.s ++ be 4 p.n ++ be 2 p.data.length
theorem rowC_length {p : PcD} (h : p.Ok) : (rowC p).length = 38 := by simp [rowC, be_length, h.s]
def rowsC (l : List PcD) : List UInt8 := l.flatMap rowC
def datasC (l : List PcD) : List UInt8 := l.flatMap PcD.data
def bodyC (id : Nat) (l : List PcD) : List UInt8 := be 4 id ++ be 2 l.length ++ rowsC l ++ datasC l
theorem rowsC_length {l : List PcD} (h : ∀ p ∈ l, p.Ok) : (rowsC l).length = 38 * l.length := by
  induction l with
  | nil => rfl
  | cons p l ih =>
    show (rowC p ++ rowsC l).length = _
    rw [List.length_append, rowC_length (h p (by simp)), ih fun q hq => h q (by simp [hq]), List.length_cons]
    omega
theorem datasC_length (l : List PcD) : (datasC l).length = (l.map fun p => p.data.length).sum := by
  induction l with
  | nil => rfl
  | cons p l ih =>
    show (p.data ++ datasC l).length = _
    rw [List.length_append, ih, List.map_cons, List.sum_cons]
theorem bodyC_length {id : Nat} {l : List PcD} (h : ∀ p ∈ l, p.Ok) : (bodyC id l).length + 4 = sizeC l := by
  unfold bodyC sizeC
  rw [List.length_append, List.length_append, List.length_append, be_length, be_length, rowsC_length h, datasC_length]
  have : (l.map fun p => 38 + p.data.length).sum = 38 * l.length + (l.map fun p => p.data.length).sum := by
    clear h
    induction l with
    | nil => rfl
    | cons p l ih => rw [List.map_cons, List.sum_cons, List.map_cons, List.sum_cons, ih, List.length_cons]; omega
  omega
def layC (id : Nat) (l : List PcD) : List UInt8 := bodyC id l ++ be 4 (sumOf (bodyC id l)).toNat
theorem layC_length {id : Nat} {l : List PcD} (h : ∀ p ∈ l, p.Ok) : (layC id l).length = sizeC l := by
  unfold layC
  rw [List.length_append, be_length, bodyC_length h]
/-! ### Back -/
/-- n rows of a table at the head of bytes: key and length. -/
def rowsOf : Nat → List UInt8 → List ((List UInt8 × Nat) × Nat)
  | 0, _ => []
  | n + 1, x => ((x.take 32, val ((x.drop 32).take 4)), val ((x.drop 36).take 2)) :: rowsOf n (x.drop 38)
/-- The pieces of rows, their bytes one behind the other. -/
def piecesOf : List ((List UInt8 × Nat) × Nat) → List UInt8 → List PcD
  | [], _ => []
  | (k, m) :: r, x => ⟨k.1, k.2, x.take m⟩ :: piecesOf r (x.drop m)
def idC (x : List UInt8) : Nat := val (x.take 4)
def manyC (x : List UInt8) : Nat := val ((x.drop 4).take 2)
def listC (x : List UInt8) : List PcD := piecesOf (rowsOf (manyC x) (x.drop 6)) (x.drop (6 + 38 * manyC x))
/-- The container of bytes: id, pieces, error. -/
def takeC (b : List UInt8) : Nat × List PcD × Nat :=
  if refC (listC (b.take (b.length - 4))) = 0 ∧ layC (idC (b.take (b.length - 4))) (listC (b.take (b.length - 4))) = b then (idC (b.take (b.length - 4)), listC (b.take (b.length - 4)), 0) else (0, [], 110)
theorem rowsOf_rows {l : List PcD} (h : ∀ p ∈ l, p.Ok) (h2 : ∀ p ∈ l, p.data.length < 65536) (y : List UInt8) : rowsOf l.length (rowsC l ++ y) = l.map fun p => (p.key, p.data.length) := by
  induction l with
  | nil => rfl
  | cons p l ih =>
    have hp := h p (by simp)
    have e : rowsC (p :: l) ++ y = p.s ++ (be 4 p.n ++ (be 2 p.data.length ++ (rowsC l ++ y))) := by
      show (rowC p ++ rowsC l) ++ y = _
      simp [rowC]
    have d32 : ∀ X : List UInt8, (p.s ++ X).drop 32 = X := fun X => List.drop_left' hp.s
    have t32 : ∀ X : List UInt8, (p.s ++ X).take 32 = p.s := fun X => List.take_left' hp.s
    rw [List.length_cons, rowsOf, e, t32, d32, show 36 = 32 + 4 by omega, ← List.drop_drop, d32, show 38 = 36 + 2 by omega, ← List.drop_drop, show 36 = 32 + 4 by omega, ← List.drop_drop, d32, List.take_left' (be_length 4 _), List.drop_left' (be_length 4 _), List.take_left' (be_length 2 _), List.drop_left' (be_length 2 _),
      ih (fun q hq => h q (by simp [hq])) (fun q hq => h2 q (by simp [hq])), val_be_of_lt hp.n, val_be_of_lt (h2 p (by simp)), List.map_cons]
    rfl
theorem piecesOf_datas (l : List PcD) (y : List UInt8) : piecesOf (l.map fun p => (p.key, p.data.length)) (datasC l ++ y) = l := by
  induction l with
  | nil => rfl
  | cons p l ih =>
    have e : datasC (p :: l) ++ y = p.data ++ (datasC l ++ y) := by
      show (p.data ++ datasC l) ++ y = _
      simp
    rw [List.map_cons, e, piecesOf, List.take_left' rfl, List.drop_left' rfl, ih]
    rfl
theorem listC_body {id : Nat} {l : List PcD} (hid : id < 4294967296) (h : ∀ p ∈ l, p.Ok) (h2 : ∀ p ∈ l, p.data.length < 65536) (h3 : l.length < 65536) : idC (bodyC id l) = id ∧ manyC (bodyC id l) = l.length ∧ listC (bodyC id l) = l := by
  have e : bodyC id l = be 4 id ++ (be 2 l.length ++ (rowsC l ++ datasC l)) := by simp [bodyC]
  have e1 : idC (bodyC id l) = id := by
    unfold idC
    rw [e, List.take_left' (be_length 4 _), val_be_of_lt hid]
  have e2 : manyC (bodyC id l) = l.length := by
    unfold manyC
    rw [e, List.drop_left' (be_length 4 _), List.take_left' (be_length 2 _), val_be_of_lt h3]
  have d6 : (bodyC id l).drop 6 = rowsC l ++ datasC l := by
    rw [e, show 6 = 4 + 2 by omega, ← List.drop_drop, List.drop_left' (be_length 4 _), List.drop_left' (be_length 2 _)]
  refine ⟨e1, e2, ?_⟩
  unfold listC
  rw [e2, d6, ← List.drop_drop, d6, List.drop_left' (rowsC_length h), rowsOf_rows h h2]
  have := piecesOf_datas l []
  rwa [List.append_nil] at this
theorem take_lay {id : Nat} {l : List PcD} (hid : id < 4294967296) (h : ∀ p ∈ l, p.Ok) (hr : refC l = 0) : takeC (layC id l) = (id, l, 0) := by
  obtain ⟨r1, r2, _, _⟩ := refC_zero hr
  have hb : (layC id l).take ((layC id l).length - 4) = bodyC id l := by
    unfold layC
    rw [List.length_append, be_length, Nat.add_sub_cancel]
    exact List.take_left' rfl
  obtain ⟨e1, _, e3⟩ := listC_body hid h (fun p hp => by have := (r1 p hp).2; omega) (by omega)
  unfold takeC
  rw [hb, e1, e3, if_pos ⟨hr, rfl⟩]
theorem takeC_cases (b : List UInt8) : (∃ id l, takeC b = (id, l, 0) ∧ refC l = 0 ∧ layC id l = b) ∨ takeC b = (0, [], 110) := by
  by_cases h : refC (listC (b.take (b.length - 4))) = 0 ∧ layC (idC (b.take (b.length - 4))) (listC (b.take (b.length - 4))) = b
  · exact .inl ⟨_, _, by unfold takeC; rw [if_pos h], h.1, h.2⟩
  · exact .inr (by unfold takeC; rw [if_neg h])
theorem idC_lt (x : List UInt8) : idC x < 4294967296 := Nat.lt_of_lt_of_le (val_lt _) (show 256 ^ (x.take 4).length ≤ 256 ^ 4 from Nat.pow_le_pow_right (by omega) (by rw [List.length_take]; omega))
theorem mem_pieces : ∀ (rs : List ((List UInt8 × Nat) × Nat)) (y : List UInt8) (p : PcD), p ∈ piecesOf rs y → ∃ m, (p.key, m) ∈ rs ∧ p.data.length ≤ m
  | [], _, _, h => by cases h
  | (k, m) :: r, y, p, h => by
    rw [piecesOf, List.mem_cons] at h
    rcases h with rfl | h
    · exact ⟨m, List.mem_cons_self, by simp only [List.length_take]; omega⟩
    · obtain ⟨m', h1, h2⟩ := mem_pieces r _ p h
      exact ⟨m', List.mem_cons_of_mem _ h1, h2⟩
theorem mem_rows : ∀ (n : Nat) (x : List UInt8) (k : List UInt8 × Nat) (m : Nat), (k, m) ∈ rowsOf n x → m ≠ 0 → k.1.length = 32 ∧ k.2 < 4294967296
  | 0, _, _, _, h, _ => by cases h
  | n + 1, x, k, m, h, hm => by
    rw [rowsOf, List.mem_cons] at h
    rcases h with h | h
    · injection h with h1 h2
      subst h1 h2
      have hl : 36 < x.length := by
        refine Nat.lt_of_not_le fun hle => hm ?_
        rw [List.drop_of_length_le hle]
        rfl
      exact ⟨by simp only [List.length_take]; omega, Nat.lt_of_lt_of_le (val_lt _) (show 256 ^ ((x.drop 32).take 4).length ≤ 256 ^ 4 from Nat.pow_le_pow_right (by omega) (by rw [List.length_take]; omega))⟩
    · exact mem_rows n _ k m h hm
theorem listC_ok {x : List UInt8} (h : refC (listC x) = 0) : ∀ p ∈ listC x, p.Ok := fun p hp => by
  obtain ⟨m, h1, h2⟩ := mem_pieces _ _ p hp
  have h3 := ((refC_zero h).1 p hp).1
  have h4 : 0 < p.data.length := List.length_pos_iff.2 h3
  obtain ⟨h5, h6⟩ := mem_rows _ _ _ _ h1 (by omega)
  exact ⟨h5, h6⟩
theorem takeC_ok {b : List UInt8} {id : Nat} {l : List PcD} (h : takeC b = (id, l, 0)) : id < 4294967296 ∧ (∀ p ∈ l, p.Ok) ∧ refC l = 0 ∧ layC id l = b := by
  unfold takeC at h
  split at h
  · rename_i hc
    injection h with h1 h2
    injection h2 with h2 _
    subst h1 h2
    exact ⟨idC_lt _, listC_ok hc.1, hc.1, hc.2⟩
  · injection h with _ h2
    injection h2 with _ h2
    cases h2
end Go.Proofs.Ytoiiiccichkgpaa
/- What a reader's Get returns, leaves, and its fault behind it (the package's and the reference's alike). No statement of the seat is proved here; nothing of the program is imported. -/
namespace Go.Proofs.Ytoiiiccichkgpaa
open Go.RowKit

/-- What Get returns, leaves, and its fault behind it. -/
def getV (l : List UInt8) (f many : Int) : Nat := if f = 0 ∧ 0 ≤ many ∧ many ≤ 8 ∧ many ≤ l.length then val (l.take many.toNat) else 0
def getL (l : List UInt8) (f many : Int) : List UInt8 := if f = 0 ∧ 0 ≤ many ∧ many ≤ 8 ∧ many ≤ l.length then l.drop many.toNat else l
def getF (l : List UInt8) (f many : Int) : Int := if f = 0 then (if many < 0 ∨ 8 < many then 1 else if (l.length : Int) < many then 10 else 0) else f
theorem getV_lt (l : List UInt8) (f : Int) (k : Nat) : getV l f k < 256 ^ k := by
  unfold getV
  split
  · rename_i h
    refine Nat.lt_of_lt_of_le (val_lt _) (Nat.pow_le_pow_right (by omega) ?_)
    rw [List.length_take]
    omega
  · exact Nat.pow_pos (by omega)
end Go.Proofs.Ytoiiiccichkgpaa
/- Plain mathematics for package cont: the rows of a table one by one, when bytes are just a container's. No statement of the seat is proved here; nothing of the program is imported. -/
namespace Go.Proofs.Ytoiiiccichkgpaa
open Go.RowKit
set_option linter.unusedVariables false

def rowAt (y : List UInt8) : (List UInt8 × Nat) × Nat := ((y.take 32, val ((y.drop 32).take 4)), val ((y.drop 36).take 2))
theorem rowsOf_succ (n : Nat) (x : List UInt8) : rowsOf (n + 1) x = rowsOf n x ++ [rowAt (x.drop (38 * n))] := by
  induction n generalizing x with
  | zero => rfl
  | succ n ih =>
    rw [rowsOf, ih (x.drop 38), rowsOf, List.drop_drop, show 38 + 38 * n = 38 * (n + 1) by omega]
    rfl
theorem rowsOf_length (n : Nat) (x : List UInt8) : (rowsOf n x).length = n := by
  induction n generalizing x with
  | zero => rfl
  | succ n ih => rw [rowsOf, List.length_cons, ih]
/-- How many bytes the first i rows speak of. -/
def sumT (rs : List ((List UInt8 × Nat) × Nat)) (i : Nat) : Nat := ((rs.take i).map (·.2)).sum
theorem sumT_zero (rs : List ((List UInt8 × Nat) × Nat)) : sumT rs 0 = 0 := rfl
theorem sumT_succ {rs : List ((List UInt8 × Nat) × Nat)} {i : Nat} (h : i < rs.length) : sumT rs (i + 1) = sumT rs i + rs[i].2 := by
  unfold sumT
  rw [List.take_succ_eq_append_getElem h, List.map_append, List.sum_append]
  simp
theorem sumT_le (rs : List ((List UInt8 × Nat) × Nat)) {i j : Nat} (h : i ≤ j) : sumT rs i ≤ sumT rs j := by
  induction j with
  | zero => obtain rfl : i = 0 := by omega
            exact Nat.le_refl _
  | succ j ih =>
    by_cases e : i = j + 1
    · rw [e]; exact Nat.le_refl _
    · refine Nat.le_trans (ih (by omega)) ?_
      by_cases hj : j < rs.length
      · rw [sumT_succ hj]; omega
      · unfold sumT
        rw [List.take_of_length_le (by omega), List.take_of_length_le (by omega)]
        exact Nat.le_refl _
theorem piecesOf_length (rs : List ((List UInt8 × Nat) × Nat)) (y : List UInt8) : (piecesOf rs y).length = rs.length := by
  induction rs generalizing y with
  | nil => rfl
  | cons r rs ih =>
    obtain ⟨k, m⟩ := r
    rw [piecesOf, List.length_cons, ih, List.length_cons]
theorem piecesOf_get (rs : List ((List UInt8 × Nat) × Nat)) (y : List UInt8) (i : Nat) (h : i < rs.length) : (piecesOf rs y)[i]'(by rw [piecesOf_length]; exact h) = ⟨rs[i].1.1, rs[i].1.2, (y.drop (sumT rs i)).take rs[i].2⟩ := by
  induction rs generalizing y i with
  | nil => cases h
  | cons r rs ih =>
    obtain ⟨k, m⟩ := r
    cases i with
    | zero => rfl
    | succ i =>
      have h2 : i < rs.length := by simpa using h
      have e : sumT ((k, m) :: rs) (i + 1) = m + sumT rs i := by simp [sumT]
      have e2 := ih (y.drop m) i h2
      rw [List.drop_drop] at e2
      simp only [piecesOf, List.getElem_cons_succ, e]
      exact e2
/-- The rows of a container's bytes. -/
def tableC (x : List UInt8) : List ((List UInt8 × Nat) × Nat) := rowsOf (manyC x) (x.drop 6)
def Fit (x : List UInt8) : Prop := 6 + 38 * manyC x + sumT (tableC x) (manyC x) = x.length
theorem tableC_length (x : List UInt8) : (tableC x).length = manyC x := rowsOf_length _ _
theorem listC_eq (x : List UInt8) : listC x = piecesOf (tableC x) (x.drop (6 + 38 * manyC x)) := rfl
theorem fit_of {b : List UInt8} (h : refC (listC (b.take (b.length - 4))) = 0) (h2 : layC (idC (b.take (b.length - 4))) (listC (b.take (b.length - 4))) = b) : Fit (b.take (b.length - 4)) := by
  obtain ⟨x, hx⟩ : ∃ x, b.take (b.length - 4) = x := ⟨_, rfl⟩
  rw [hx] at h h2 ⊢
  have hok := listC_ok h
  have hz := refC_zero h
  have hxb : x = bodyC (idC x) (listC x) := by
    have h3 : (layC (idC x) (listC x)).take ((layC (idC x) (listC x)).length - 4) = bodyC (idC x) (listC x) := by
      unfold layC
      rw [List.length_append, be_length, Nat.add_sub_cancel, List.take_left' rfl]
    rw [h2, hx] at h3
    exact h3
  have hlen : (listC x).length = manyC x := by rw [listC_eq, piecesOf_length, tableC_length]
  have ht : tableC x = (listC x).map fun p => (p.key, p.data.length) := by
    unfold tableC
    have d6 : x.drop 6 = rowsC (listC x) ++ datasC (listC x) := by
      conv => lhs; rw [hxb]
      unfold bodyC
      rw [List.append_assoc, List.append_assoc, show 6 = 4 + 2 by omega, ← List.drop_drop, List.drop_left' (be_length 4 _), List.drop_left' (be_length 2 _)]
    rw [d6, ← hlen]
    exact rowsOf_rows hok (fun p hp => by have := (hz.1 p hp).2; omega) _
  have hl2 := bodyC_length (id := idC x) hok
  rw [← hxb] at hl2
  unfold Fit sumT
  rw [List.take_of_length_le (by rw [tableC_length]; exact Nat.le_refl _), ht, List.map_map]
  unfold sizeC at hl2
  have h5 : ((listC x).map fun p => 38 + p.data.length).sum = 38 * (listC x).length + ((listC x).map fun p => p.data.length).sum := by
    generalize listC x = l
    induction l with
    | nil => rfl
    | cons p l ih => rw [List.map_cons, List.sum_cons, List.map_cons, List.sum_cons, ih, List.length_cons]; omega
  rw [hlen] at h5
  have h6 : ((listC x).map ((·.2) ∘ fun p : PcD => (p.key, p.data.length))) = (listC x).map fun p => p.data.length := rfl
  rw [h6]
  omega
theorem take_unfit {b : List UInt8} (h : ¬ Fit (b.take (b.length - 4))) : takeC b = (0, [], 110) := by
  unfold takeC
  rw [if_neg fun hc => h (fit_of hc.1 hc.2)]
theorem manyC_lt (x : List UInt8) : manyC x < 65536 := Nat.lt_of_lt_of_le (val_lt _) (show 256 ^ ((x.drop 4).take 2).length ≤ 256 ^ 2 from Nat.pow_le_pow_right (by omega) (by rw [List.length_take]; omega))
end Go.Proofs.Ytoiiiccichkgpaa
/- Plain mathematics for package crc: neighbouring bits that are turned, one after the other. Nothing of the program is imported; no statement is proved here. -/
namespace Go.Proofs.Ytoiiiccichkgpaa

theorem allBits_get : ∀ (l : List UInt8) (q : Nat) (h : q < 8 * l.length), (allBits l)[q]? = some ((l[q / 8]'(by omega)).toNat.testBit (7 - q % 8))
  | [], q, h => by simp at h
  | c :: l, q, h => by
    show (bitsOf c ++ allBits l)[q]? = _
    by_cases h8 : q < 8
    · rw [List.getElem?_append_left (by rw [bitsOf_length]; exact h8)]
      have e1 : q / 8 = 0 := by omega
      have e2 : q % 8 = q := by omega
      simp only [e1, e2, List.getElem_cons_zero, bitsOf]
      simp [h8]
    · rw [List.getElem?_append_right (by rw [bitsOf_length]; omega), bitsOf_length, allBits_get l (q - 8) (by simp at h; omega)]
      have e1 : q / 8 = (q - 8) / 8 + 1 := by omega
      have e2 : q % 8 = (q - 8) % 8 := by omega
      simp only [e1, e2, List.getElem_cons_succ]

theorem one_bit : ∀ i j : Fin 8, ((128 : Nat) >>> i.val).testBit (7 - j.val) = decide (i = j) := by decide

/-- The byte in which bit i (counted from the highest on) alone is 1. -/
def oneAt (i : Nat) : UInt8 := UInt8.ofNat (128 >>> i)
theorem oneAt_bit {i j : Nat} (hi : i < 8) (hj : j < 8) : (oneAt i).toNat.testBit (7 - j) = decide (i = j) := by
  have h := one_bit ⟨i, hi⟩ ⟨j, hj⟩
  have e : (oneAt i).toNat = 128 >>> i := by
    unfold oneAt
    rw [UInt8.toNat_ofNat']
    have h2 : (128 : Nat) >>> i ≤ 128 := by rw [Nat.shiftRight_eq_div_pow]; exact Nat.div_le_self _ _
    exact Nat.mod_eq_of_lt (Nat.lt_of_le_of_lt h2 (by decide))
  rw [e, h]
  simp

/-- Bit p of the bytes turned. -/
def turn (l : List UInt8) (p : Nat) : List UInt8 := l.modify (p / 8) (· ^^^ oneAt (p % 8))
theorem turn_length (l : List UInt8) (p : Nat) : (turn l p).length = l.length := by simp [turn]
theorem turn_bits (l : List UInt8) (p q : Nat) (hq : q < 8 * l.length) : (allBits (turn l p))[q]? = if p = q then ((allBits l)[q]?).map (!·) else (allBits l)[q]? := by
  rw [allBits_get _ q (by rw [turn_length]; exact hq), allBits_get _ q hq]
  have e : (turn l p)[q / 8]'(by rw [turn_length]; omega) = if p / 8 = q / 8 then (l[q / 8]'(by omega)) ^^^ oneAt (p % 8) else (l[q / 8]'(by omega)) := by
    unfold turn
    rw [List.getElem_modify]
  rw [e]
  by_cases h8 : p / 8 = q / 8
  · rw [if_pos h8, UInt8.toNat_xor, Nat.testBit_xor, oneAt_bit (by omega) (by omega)]
    by_cases hpq : p = q
    · subst hpq
      simp
    · have : ¬ p % 8 = q % 8 := by omega
      simp [hpq, this]
  · rw [if_neg h8, if_neg (by rintro rfl; exact h8 rfl)]

/-- The bits of a number turned, from place 'first' on, as far as there are bits. -/
def errs (N first bits : Nat) : Nat → List UInt8
  | 0 => List.replicate N 0
  | k + 1 => if bits.testBit k && decide (first + k < 8 * N) then turn (errs N first bits k) (first + k) else errs N first bits k
theorem errs_length (N first bits k : Nat) : (errs N first bits k).length = N := by
  induction k with
  | zero => simp [errs]
  | succ k ih => rw [errs]; split <;> simp [turn_length, ih]
theorem errs_bits (N first bits k q : Nat) (hq : q < 8 * N) : (allBits (errs N first bits k))[q]? = some (decide (first ≤ q ∧ q < first + k) && bits.testBit (q - first)) := by
  induction k with
  | zero =>
    rw [errs, allBits_get _ q (by simpa using hq)]
    simp
    intro h1 h2
    omega
  | succ k ih =>
    rw [errs]
    by_cases hc : bits.testBit k && decide (first + k < 8 * N)
    · rw [if_pos hc, turn_bits _ _ _ (by rw [errs_length]; exact hq), ih]
      have hk : bits.testBit k = true := by simp at hc; exact hc.1
      by_cases hpq : first + k = q
      · subst hpq
        have e : first + k - first = k := by omega
        simp [e, hk]
      · rw [if_neg hpq]
        congr 2
        rw [decide_eq_decide]
        omega
    · rw [if_neg hc, ih]
      by_cases hpq : first + k = q
      · subst hpq
        have e : first + k - first = k := by omega
        have hk : bits.testBit k = false := by simp at hc; exact (Bool.eq_false_iff).2 (fun h => by have := hc h; omega)
        simp [e, hk]
      · congr 2
        rw [decide_eq_decide]
        omega
theorem errs_burst (N first bits : Nat) (hf : first < 8 * N) :
    allBits (errs N first bits 32) = List.replicate first false ++ ((List.range (min 32 (8 * N - first))).map (fun k => bits.testBit k) ++ List.replicate (8 * N - first - min 32 (8 * N - first)) false) := by
  apply List.ext_getElem?
  intro q
  by_cases hq : q < 8 * N
  · rw [errs_bits N first bits 32 q hq]
    by_cases h1 : q < first
    · rw [List.getElem?_append_left (by simpa using h1)]
      simp [h1]
      omega
    · rw [List.getElem?_append_right (by simp; omega), List.length_replicate]
      by_cases h2 : q - first < min 32 (8 * N - first)
      · rw [List.getElem?_append_left (by simpa using h2)]
        have e : decide (first ≤ q ∧ q < first + 32) = true := by simp; omega
        rw [e, Bool.true_and]
        simp [List.getElem?_range h2]
      · rw [List.getElem?_append_right (by simp; omega)]
        have e : decide (first ≤ q ∧ q < first + 32) = false := by simp; omega
        rw [e, Bool.false_and, List.getElem?_replicate, List.length_map, List.length_range, if_pos (by omega)]
  · rw [List.getElem?_eq_none (by rw [allBits_length, errs_length]; omega), List.getElem?_eq_none (by simp; omega)]
end Go.Proofs.Ytoiiiccichkgpaa
/- The register in the walk's own spelling: naturals below 2^32. Nothing of the program is imported; no statement is proved here. -/
namespace Go.Proofs.Ytoiiiccichkgpaa

theorem bits_xor_u32_nat (a b : Nat) (ha : a < 4294967296) (hb : b < 4294967296) : bits .xor .u32 (a : Int) (b : Int) = ((a ^^^ b : Nat) : Int) := by
  have hx : a ^^^ b < 2 ^ 32 := Nat.xor_lt_two_pow (by omega) (by omega)
  have h1 : (BitVec.ofInt 32 (a : Int)).toNat = a := by
    rw [BitVec.ofInt_natCast, BitVec.toNat_ofNat]; exact Nat.mod_eq_of_lt (by omega)
  have h2 : (BitVec.ofInt 32 (b : Int)).toNat = b := by
    rw [BitVec.ofInt_natCast, BitVec.toNat_ofNat]; exact Nat.mod_eq_of_lt (by omega)
  show IntKind.u32.wrap ((BitVec.ofInt 32 (a : Int) ^^^ BitVec.ofInt 32 (b : Int)).toNat : Int) = _
  rw [BitVec.toNat_xor, h1, h2, IntKind.wrap_u32]
  omega
theorem bits_xor_u8_nat (a b : Nat) (ha : a < 256) (hb : b < 256) : bits .xor .u8 (a : Int) (b : Int) = ((a ^^^ b : Nat) : Int) := by
  have hx : a ^^^ b < 2 ^ 8 := Nat.xor_lt_two_pow (by omega) (by omega)
  have h1 : (BitVec.ofInt 8 (a : Int)).toNat = a := by
    rw [BitVec.ofInt_natCast, BitVec.toNat_ofNat]; exact Nat.mod_eq_of_lt (by omega)
  have h2 : (BitVec.ofInt 8 (b : Int)).toNat = b := by
    rw [BitVec.ofInt_natCast, BitVec.toNat_ofNat]; exact Nat.mod_eq_of_lt (by omega)
  show IntKind.u8.wrap ((BitVec.ofInt 8 (a : Int) ^^^ BitVec.ofInt 8 (b : Int)).toNat : Int) = _
  rw [BitVec.toNat_xor, h1, h2, IntKind.wrap_u8]
  omega

theorem not_toNat (r : BitVec 32) : (r ^^^ ones).toNat = 4294967295 - r.toNat := by
  have h : r ^^^ ones = ~~~ r := by
    apply BitVec.eq_of_getLsbD_eq
    intro i hi
    rw [BitVec.getLsbD_xor, BitVec.getLsbD_not]
    have key : ∀ j : Fin 32, ones.getLsbD j.val = true := by decide
    rw [key ⟨i, hi⟩]
    simp [hi]
  rw [h, BitVec.toNat_not]
theorem wide_toNat (c : UInt8) : (wide c).toNat = c.toNat * 16777216 := by
  have := c.toNat_lt
  unfold wide
  rw [BitVec.toNat_ofNat]
  exact Nat.mod_eq_of_lt (by omega)
theorem msb_iff (r : BitVec 32) : r.msb = decide (2147483648 ≤ r.toNat) := by
  rw [BitVec.msb_eq_decide]
theorem stp_lo (r : BitVec 32) (h : r.toNat < 2147483648) : (stp r).toNat = r.toNat * 2 := by
  unfold stp
  have hm : r.msb = false := by rw [msb_iff]; simp; omega
  rw [hm]
  simp only [Bool.false_eq_true, if_false, BitVec.xor_zero, BitVec.toNat_shiftLeft, Nat.shiftLeft_eq]
  omega
theorem stp_hi (r : BitVec 32) (h : 2147483648 ≤ r.toNat) : (stp r).toNat = (r.toNat * 2 - 4294967296) ^^^ 79764919 := by
  have hr := r.isLt
  unfold stp
  have hm : r.msb = true := by rw [msb_iff]; simpa using h
  rw [hm]
  simp only [if_true, BitVec.toNat_xor, BitVec.toNat_shiftLeft, Nat.shiftLeft_eq]
  have e : r.toNat * 2 ^ 1 % 2 ^ 32 = r.toNat * 2 - 4294967296 := by omega
  rw [e]
  rfl
theorem xor_toNat (a b : BitVec 32) : (a ^^^ b).toNat = a.toNat ^^^ b.toNat := BitVec.toNat_xor a b
end Go.Proofs.Ytoiiiccichkgpaa
