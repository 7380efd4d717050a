/- Plain mathematics for package crc: the register as 32 bits, one step, whole bytes, what is linear, what cannot be lost. Nothing of the program is imported; no statement is proved here. -/
import Derived.WalkKit
namespace Go.Proofs.Yteemebecllhldaa

/-- The register's step: shifted by one, and, if the bit that fell out was 1, xored with the polynomial. -/
def poly : BitVec 32 := 0x04C11DB7#32
def stp (r : BitVec 32) : BitVec 32 := (r <<< 1) ^^^ (if r.msb then poly else 0#32)
theorem stp_zero : stp 0#32 = 0#32 := by decide
theorem stp_xor (a b : BitVec 32) : stp (a ^^^ b) = stp a ^^^ stp b := by
  unfold stp
  rw [BitVec.shiftLeft_xor_distrib, BitVec.msb_xor]
  generalize a <<< 1 = x
  generalize b <<< 1 = y
  generalize poly = p
  apply BitVec.eq_of_getLsbD_eq
  intro i _
  cases a.msb <;> cases b.msb <;> simp only [Bool.false_xor, Bool.xor_false, Bool.xor_self, Bool.false_eq_true, if_true, if_false, BitVec.xor_zero, BitVec.getLsbD_xor] <;> cases x.getLsbD i <;> cases y.getLsbD i <;> cases p.getLsbD i <;> rfl
theorem stp_low (r : BitVec 32) : (stp r).getLsbD 0 = r.msb := by
  unfold stp
  cases h : r.msb <;> simp [poly]
theorem stp_eq_zero {r : BitVec 32} (h : stp r = 0#32) : r = 0#32 := by
  have h0 := stp_low r
  rw [h] at h0
  have hm : r.msb = false := by simpa using h0.symm
  unfold stp at h
  rw [hm] at h
  simp at h
  apply BitVec.eq_of_getLsbD_eq
  intro i hi
  by_cases h31 : i = 31
  · subst h31
    have : r.getLsbD 31 = r.msb := by simp [BitVec.msb_eq_getLsbD_last]
    rw [this, hm]; simp
  · have := congrArg (fun x : BitVec 32 => x.getLsbD (i + 1)) h
    simp [BitVec.getLsbD_shiftLeft] at this
    simpa using this (by omega)

/-- n steps. -/
def stps : Nat → BitVec 32 → BitVec 32
  | 0, r => r
  | n + 1, r => stps n (stp r)
theorem stps_zero (n : Nat) : stps n 0#32 = 0#32 := by
  induction n with
  | zero => rfl
  | succ n ih => rw [stps, stp_zero, ih]
theorem stps_xor (n : Nat) (a b : BitVec 32) : stps n (a ^^^ b) = stps n a ^^^ stps n b := by
  induction n generalizing a b with
  | zero => rfl
  | succ n ih => rw [stps, stp_xor, ih]; rfl
theorem stps_add (n m : Nat) (r : BitVec 32) : stps (n + m) r = stps m (stps n r) := by
  induction n generalizing r with
  | zero => rw [Nat.zero_add]; rfl
  | succ n ih => rw [Nat.succ_add, stps, ih]; rfl
theorem stps_eq_zero (n : Nat) {r : BitVec 32} (h : stps n r = 0#32) : r = 0#32 := by
  induction n generalizing r with
  | zero => exact h
  | succ n ih => exact stp_eq_zero (ih h)
theorem stps_inj (n : Nat) {a b : BitVec 32} (h : stps n a = stps n b) : a = b := by
  have : stps n (a ^^^ b) = 0#32 := by rw [stps_xor, h, BitVec.xor_self]
  have := stps_eq_zero n this
  have h2 := congrArg (· ^^^ b) this
  simpa [BitVec.xor_assoc] using h2

/-- One bit into the register: it is xored into the highest one, and a step is made. -/
def top : Bool → BitVec 32
  | true => 0x80000000#32
  | false => 0#32
def bitIn (r : BitVec 32) (b : Bool) : BitVec 32 := stp (r ^^^ top b)
def bitsIn (r : BitVec 32) (l : List Bool) : BitVec 32 := l.foldl bitIn r
theorem bitsIn_append (r : BitVec 32) (l m : List Bool) : bitsIn r (l ++ m) = bitsIn (bitsIn r l) m := List.foldl_append
theorem bitsIn_false (r : BitVec 32) (n : Nat) : bitsIn r (List.replicate n false) = stps n r := by
  induction n generalizing r with
  | zero => rfl
  | succ n ih =>
    rw [List.replicate_succ]
    show bitsIn (bitIn r false) (List.replicate n false) = _
    rw [ih, stps]
    simp [bitIn, top]

/-- Bits as the register's highest ones. -/
def pack : List Bool → BitVec 32
  | [] => 0#32
  | b :: l => top b ^^^ (pack l >>> 1)
theorem pack_low (l : List Bool) (i : Nat) (h : i + l.length < 32) : (pack l).getLsbD i = false := by
  induction l generalizing i with
  | nil => simp [pack]
  | cons b l ih =>
    rw [pack, BitVec.getLsbD_xor, BitVec.getLsbD_ushiftRight, Nat.add_comm 1 i, ih (i + 1) (by simp at h; omega)]
    have : i < 31 := by simp at h; omega
    have key : ∀ j : Fin 31, ∀ b : Bool, (top b).getLsbD j.val = false := by decide
    rw [key ⟨i, this⟩ b]; rfl
theorem shift_back (x : BitVec 32) (h : x.getLsbD 0 = false) : stp (x >>> 1) = x := by
  unfold stp
  have hm : (x >>> 1).msb = false := by simp [BitVec.msb_eq_getLsbD_last]
  rw [hm]
  simp only [Bool.false_eq_true, if_false, BitVec.xor_zero]
  apply BitVec.eq_of_getLsbD_eq
  intro i hi
  simp only [BitVec.getLsbD_shiftLeft, BitVec.getLsbD_ushiftRight]
  by_cases h0 : i = 0
  · subst h0
    simpa using h.symm
  · have e : 1 + (i - 1) = i := by omega
    have h1 : ¬ i < 1 := by omega
    simp [hi, e, h1]
theorem bitsIn_pack (r : BitVec 32) (l : List Bool) (h : l.length ≤ 32) : bitsIn r l = stps l.length (r ^^^ pack l) := by
  induction l generalizing r with
  | nil => simp [bitsIn, pack, stps]
  | cons b l ih =>
    show bitsIn (bitIn r b) l = stps l.length (stp (r ^^^ (top b ^^^ (pack l >>> 1))))
    rw [ih _ (by simp at h; omega), ← BitVec.xor_assoc, stp_xor, shift_back _ (pack_low l 0 (by simp at h; omega))]
    rfl
theorem pack_eq_zero (l : List Bool) (h : l.length ≤ 32) (hz : pack l = 0#32) : ∀ b ∈ l, b = false := by
  induction l with
  | nil => simp
  | cons b l ih =>
    rw [pack] at hz
    have h31 : (top b ^^^ (pack l >>> 1)).getLsbD 31 = false := by rw [hz]; rfl
    rw [BitVec.getLsbD_xor, BitVec.getLsbD_ushiftRight, BitVec.getLsbD_of_ge (pack l) (1 + 31) (by omega), Bool.xor_false] at h31
    have hb : b = false := by
      cases b
      · rfl
      · exact absurd h31 (by decide)
    subst hb
    have hz2 : pack l >>> 1 = 0#32 := by simpa [top] using hz
    have hp : pack l = 0#32 := by
      rw [← shift_back _ (pack_low l 0 (by simp at h; omega)), hz2, stp_zero]
    intro c hc
    rcases List.mem_cons.1 hc with rfl | hc
    · rfl
    · exact ih (by simp at h; omega) hp c hc
/-- WHAT CANNOT BE LOST: up to 32 neighbouring bits, not all 0, between 0s. -/
theorem burst_ne (n m : Nat) (l : List Bool) (h : l.length ≤ 32) (hne : true ∈ l) : bitsIn 0#32 (List.replicate n false ++ (l ++ List.replicate m false)) ≠ 0#32 := by
  rw [bitsIn_append, bitsIn_append, bitsIn_false, bitsIn_false, stps_zero, bitsIn_pack _ _ h]
  intro h0
  have h1 := stps_eq_zero _ h0
  have h2 := stps_eq_zero _ h1
  rw [BitVec.zero_xor] at h2
  have := pack_eq_zero l h h2 true hne
  cases this
end Go.Proofs.Yteemebecllhldaa
