/- The register in the walk's own spelling: naturals below 2^32. Nothing of the program is imported; no statement is proved here. -/
import Derived.Test.YteemebecllhldaaCrcBurst
namespace Go.Proofs.Yteemebecllhldaa

theorem bits_xor_u32_nat (a b : Nat) (ha : a < 4294967296) (hb : b < 4294967296) : bits .xor .u32 (a : Int) (b : Int) = ((a ^^^ b : Nat) : Int) := by
  have hx : a ^^^ b < 2 ^ 32 := Nat.xor_lt_two_pow (by omega) (by omega)
  have h1 : (BitVec.ofInt 32 (a : Int)).toNat = a := by
    rw [BitVec.ofInt_natCast, BitVec.toNat_ofNat]; exact Nat.mod_eq_of_lt (by omega)
  have h2 : (BitVec.ofInt 32 (b : Int)).toNat = b := by
    rw [BitVec.ofInt_natCast, BitVec.toNat_ofNat]; exact Nat.mod_eq_of_lt (by omega)
  show IntKind.u32.wrap ((BitVec.ofInt 32 (a : Int) ^^^ BitVec.ofInt 32 (b : Int)).toNat : Int) = _
  rw [BitVec.toNat_xor, h1, h2, IntKind.wrap_u32]
  omega
theorem bits_xor_u8_nat (a b : Nat) (ha : a < 256) (hb : b < 256) : bits .xor .u8 (a : Int) (b : Int) = ((a ^^^ b : Nat) : Int) := by
  have hx : a ^^^ b < 2 ^ 8 := Nat.xor_lt_two_pow (by omega) (by omega)
  have h1 : (BitVec.ofInt 8 (a : Int)).toNat = a := by
    rw [BitVec.ofInt_natCast, BitVec.toNat_ofNat]; exact Nat.mod_eq_of_lt (by omega)
  have h2 : (BitVec.ofInt 8 (b : Int)).toNat = b := by
    rw [BitVec.ofInt_natCast, BitVec.toNat_ofNat]; exact Nat.mod_eq_of_lt (by omega)
  show IntKind.u8.wrap ((BitVec.ofInt 8 (a : Int) ^^^ BitVec.ofInt 8 (b : Int)).toNat : Int) = _
  rw [BitVec.toNat_xor, h1, h2, IntKind.wrap_u8]
  omega

theorem not_toNat (r : BitVec 32) : (r ^^^ ones).toNat = 4294967295 - r.toNat := by
  have h : r ^^^ ones = ~~~ r := by
    apply BitVec.eq_of_getLsbD_eq
    intro i hi
    rw [BitVec.getLsbD_xor, BitVec.getLsbD_not]
    have key : ∀ j : Fin 32, ones.getLsbD j.val = true := by decide
    rw [key ⟨i, hi⟩]
    simp [hi]
  rw [h, BitVec.toNat_not]
theorem wide_toNat (c : UInt8) : (wide c).toNat = c.toNat * 16777216 := by
  have := c.toNat_lt
  unfold wide
  rw [BitVec.toNat_ofNat]
  exact Nat.mod_eq_of_lt (by omega)
theorem msb_iff (r : BitVec 32) : r.msb = decide (2147483648 ≤ r.toNat) := by
  rw [BitVec.msb_eq_decide]
theorem stp_lo (r : BitVec 32) (h : r.toNat < 2147483648) : (stp r).toNat = r.toNat * 2 := by
  unfold stp
  have hm : r.msb = false := by rw [msb_iff]; simp; omega
  rw [hm]
  simp only [Bool.false_eq_true, if_false, BitVec.xor_zero, BitVec.toNat_shiftLeft, Nat.shiftLeft_eq]
  omega
theorem stp_hi (r : BitVec 32) (h : 2147483648 ≤ r.toNat) : (stp r).toNat = (r.toNat * 2 - 4294967296) ^^^ 79764919 := by
  have hr := r.isLt
  unfold stp
  have hm : r.msb = true := by rw [msb_iff]; simpa using h
  rw [hm]
  simp only [if_true, BitVec.toNat_xor, BitVec.toNat_shiftLeft, Nat.shiftLeft_eq]
  have e : r.toNat * 2 ^ 1 % 2 ^ 32 = r.toNat * 2 - 4294967296 := by omega
  rw [e]
  rfl
theorem xor_toNat (a b : BitVec 32) : (a ^^^ b).toNat = a.toNat ^^^ b.toNat := BitVec.toNat_xor a b
end Go.Proofs.Yteemebecllhldaa
