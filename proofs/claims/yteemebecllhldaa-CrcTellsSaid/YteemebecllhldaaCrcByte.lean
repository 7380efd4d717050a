/- Plain mathematics for package crc: one byte by the table. Nothing of the program is imported; no statement is proved here. -/
import Derived.Test.YteemebecllhldaaCrcNat
namespace Go.Proofs.Yteemebecllhldaa

theorem split_reg (x : BitVec 32) : x = wide (UInt8.ofNat (x.toNat / 16777216)) ^^^ BitVec.ofNat 32 (x.toNat % 16777216) := by
  have hx := x.isLt
  apply BitVec.eq_of_getLsbD_eq
  intro i hi
  unfold wide
  have e : ∀ n : Nat, n * 16777216 = n <<< 24 := fun n => by rw [Nat.shiftLeft_eq]
  rw [BitVec.getLsbD_xor, BitVec.getLsbD_ofNat, BitVec.getLsbD_ofNat, UInt8.toNat_ofNat', e, Nat.testBit_shiftLeft]
  have h1 : x.toNat / 16777216 % 2 ^ 8 = x.toNat / 2 ^ 24 := by omega
  rw [h1, Nat.testBit_div_two_pow, show (16777216 : Nat) = 2 ^ 24 from rfl, Nat.testBit_mod_two_pow]
  have hb : x.getLsbD i = x.toNat.testBit i := rfl
  rw [hb]
  by_cases h : 24 ≤ i
  · have e1 : i - 24 + 24 = i := by omega
    have e2 : ¬ i < 24 := by omega
    simp [hi, h, e1, e2]
  · have e2 : i < 24 := by omega
    simp [hi, h, e2]
theorem stps_low (n : Nat) : ∀ r : BitVec 32, r.toNat * 2 ^ n < 4294967296 → (stps n r).toNat = r.toNat * 2 ^ n := by
  induction n with
  | zero => intro r _; simp [stps]
  | succ n ih =>
    intro r h
    rw [Nat.pow_succ] at h
    have hp : 0 < 2 ^ n := Nat.pow_pos (by omega)
    have h2 : r.toNat * 2 ≤ r.toNat * (2 ^ n * 2) := Nat.mul_le_mul_left _ (by omega)
    have h1 : r.toNat < 2147483648 := by omega
    have e := stp_lo r h1
    have e3 : r.toNat * 2 * 2 ^ n = r.toNat * (2 ^ n * 2) := by rw [Nat.mul_assoc, Nat.mul_comm 2]
    rw [stps, ih _ (by rw [e, e3]; exact h), e, e3, Nat.pow_succ]
/-- One byte by the table: the register's top byte, xored with the byte, chooses what the rest is xored with. -/
theorem byteIn_tab (x : BitVec 32) (c : UInt8) :
    (byteIn x c).toNat = (x.toNat * 256 % 4294967296) ^^^ (stps 8 (wide (UInt8.ofNat (x.toNat / 16777216) ^^^ c))).toNat := by
  have hx := x.isLt
  have hs := split_reg x
  have e : byteIn x c = stps 8 (BitVec.ofNat 32 (x.toNat % 16777216)) ^^^ stps 8 (wide (UInt8.ofNat (x.toNat / 16777216) ^^^ c)) := by
    rw [← stps_xor, wide_xor]
    unfold byteIn
    congr 1
    conv => lhs; rw [hs]
    rw [BitVec.xor_comm (wide _) (BitVec.ofNat 32 _), BitVec.xor_assoc]
  rw [e, xor_toNat]
  congr 1
  have e2 : (BitVec.ofNat 32 (x.toNat % 16777216)).toNat = x.toNat % 16777216 := by
    rw [BitVec.toNat_ofNat]; omega
  rw [stps_low 8 _ (by rw [e2]; omega), e2]
  omega
end Go.Proofs.Yteemebecllhldaa
