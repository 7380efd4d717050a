/- Plain mathematics for package roll: the rolling hash on lists of bytes, over the words of 32 bits. No statement of the seat is proved here; nothing of the program is imported. -/
import Derived.Test.YtmnbfmcgnddlaaaMath
namespace Go.Proofs.Ytmnbfmcgnddlaaa
open Go.RowKit

/-- The value of a byte. -/
def hv (c : UInt8) : BitVec 32 := BitVec.ofNat 32 (c.toNat + 1)
theorem hv_toNat (c : UInt8) : (hv c).toNat = c.toNat + 1 := by
  have := c.toNat_lt
  unfold hv; rw [BitVec.toNat_ofNat]; omega
theorem hv_inj {a b : UInt8} (h : hv a = hv b) : a = b := by
  have := congrArg BitVec.toNat h
  rw [hv_toNat, hv_toNat] at this
  exact UInt8.toNat_inj.1 (by omega)
def fba : BitVec 32 := 16777619#32
def stp (s : BitVec 32) (c : UInt8) : BitVec 32 := s * fba + hv c
def fold (s : BitVec 32) (l : List UInt8) : BitVec 32 := l.foldl stp s
theorem fold_nil (s : BitVec 32) : fold s [] = s := rfl
theorem fold_cons (s : BitVec 32) (c : UInt8) (l : List UInt8) : fold s (c :: l) = fold (stp s c) l := rfl
theorem fold_append (s : BitVec 32) (l m : List UInt8) : fold s (l ++ m) = fold (fold s l) m := by simp [fold, List.foldl_append]
theorem fold_snoc (s : BitVec 32) (l : List UInt8) (c : UInt8) : fold s (l ++ [c]) = stp (fold s l) c := by rw [fold_append]; rfl
/-- The last ones of a list, at most 16. -/
def lastB (l : List UInt8) : List UInt8 := l.drop (l.length - 16)
def ofB (l : List UInt8) : BitVec 32 := fold 0#32 (lastB l)
theorem lastB_few {l : List UInt8} (h : l.length ≤ 16) : lastB l = l := by
  unfold lastB; rw [show l.length - 16 = 0 by omega]; rfl
theorem lastB_append {l m : List UInt8} (h : m.length = 16) : lastB (l ++ m) = m := by
  unfold lastB; rw [List.length_append, h, Nat.add_sub_cancel, List.drop_left]
def nextB (s : BitVec 32) (o i : UInt8) : BitVec 32 := (s - hv o * 3600621915#32) * fba + hv i

theorem fold_lin (l : List UInt8) : ∀ s : BitVec 32, fold s l = s * fba ^ l.length + fold 0#32 l := by
  induction l with
  | nil => intro s; rw [fold_nil, fold_nil, List.length_nil]; simp
  | cons c l ih =>
    intro s
    rw [fold_cons, fold_cons, ih, ih (stp 0#32 c), List.length_cons]
    unfold stp
    generalize fold 0#32 l = f
    generalize hv c = v
    rw [BitVec.pow_succ]
    generalize fba ^ l.length = p
    grind
theorem fba15 : fba ^ 15 = 3600621915#32 := by decide +kernel
/-- P4.4: the hash rolls. -/
theorem roll_next (a c : UInt8) (t : List UInt8) (ht : t.length = 15) : nextB (fold 0#32 (a :: t)) a c = fold 0#32 (t ++ [c]) := by
  rw [fold_cons, fold_snoc, fold_lin t, ht, fba15]
  unfold nextB stp
  generalize fold 0#32 t = f
  generalize hv a = v
  generalize hv c = u
  grind
theorem take_last (l : List UInt8) (k : Nat) (h : k + 16 ≤ l.length) : lastB (l.take (k + 16)) = (l.drop k).take 16 := by
  unfold lastB
  rw [List.length_take, Nat.min_eq_left h, Nat.add_sub_cancel, List.drop_take]
  rw [show k + 16 - k = 16 by omega]
theorem of_next (l : List UInt8) (k : Nat) (h : k + 16 < l.length) : ofB (l.take (k + 1 + 16)) = nextB (ofB (l.take (k + 16))) l[k] l[k + 16] := by
  unfold ofB
  rw [take_last l k (by omega), take_last l (k + 1) (by omega)]
  have e1 : (l.drop k).take 16 = l[k] :: (l.drop (k + 1)).take 15 := by
    rw [List.drop_eq_getElem_cons (show k < l.length by omega)]; rfl
  have e2 : (l.drop (k + 1)).take 16 = (l.drop (k + 1)).take 15 ++ [l[k + 16]] := by
    rw [List.take_succ_eq_append_getElem (show 15 < (l.drop (k + 1)).length by rw [List.length_drop]; omega)]
    congr 2
    rw [List.getElem_drop]
  rw [e1, e2]
  exact (roll_next _ _ _ (by rw [List.length_take, List.length_drop]; omega)).symm
/-- All hashes of prefixes. -/
def allB (l : List UInt8) : List (BitVec 32) := (List.range (l.length - 15)).map fun k => ofB (l.take (k + 16))
theorem allB_length (l : List UInt8) : (allB l).length = l.length - 15 := by simp [allB]

/-- P4.5: other bytes at one place, another hash. -/
theorem fba_inv : fba * 899433627#32 = 1#32 := by decide +kernel
theorem stp_inj {s t : BitVec 32} {c : UInt8} (h : stp s c = stp t c) : s = t := by
  unfold stp at h
  have h1 : s * fba = t * fba := by
    generalize s * fba = x at *
    generalize t * fba = y at *
    generalize hv c = v at *
    grind
  have h2 : s * fba * 899433627#32 = t * fba * 899433627#32 := by rw [h1]
  rw [BitVec.mul_assoc, BitVec.mul_assoc, fba_inv, BitVec.mul_one, BitVec.mul_one] at h2
  exact h2
theorem fold_inj (l : List UInt8) : ∀ {s t : BitVec 32}, fold s l = fold t l → s = t := by
  induction l with
  | nil => intro s t h; exact h
  | cons c l ih => intro s t h; exact stp_inj (ih h)
theorem fold_other (l m : List UInt8) (a b : UInt8) : fold 0#32 (l ++ a :: m) = fold 0#32 (l ++ b :: m) ↔ a = b := by
  constructor
  · intro h
    rw [fold_append, fold_append, fold_cons, fold_cons] at h
    have h := fold_inj m h
    unfold stp at h
    apply hv_inj
    generalize fold 0#32 l * fba = x at *
    generalize hv a = v at *
    generalize hv b = u at *
    grind
  · intro h; rw [h]
theorem set_split (l : List UInt8) (k : Nat) (c : UInt8) (h : k < l.length) : l.set k c = l.take k ++ c :: l.drop (k + 1) := by
  rw [List.set_eq_take_append_cons_drop, if_pos h]
theorem fold_set (l : List UInt8) (k : Nat) (c : UInt8) (h : k < l.length) : fold 0#32 (l.set k c) = fold 0#32 l ↔ l.set k c = l := by
  have e : l = l.take k ++ l[k] :: l.drop (k + 1) := by
    rw [← set_split l k l[k] h, List.set_getElem_self]
  constructor
  · intro hf
    have h2 : fold 0#32 (l.take k ++ c :: l.drop (k + 1)) = fold 0#32 (l.take k ++ l[k] :: l.drop (k + 1)) := by
      rw [← set_split l k c h, ← e]; exact hf
    have h3 := (fold_other _ _ _ _).1 h2
    rw [h3, List.set_getElem_self]
  · intro hl; rw [hl]

/- In the walk's own spelling. -/
theorem two32 : (2 : Nat) ^ 32 = 4294967296 := by decide
theorem nextB_toNat (s : BitVec 32) (o i : UInt8) : (nextB s o i).toNat = (((4294967296 - (o.toNat + 1) * 3600621915 % 4294967296 + s.toNat) % 4294967296) * 16777619 % 4294967296 + (i.toNat + 1)) % 4294967296 := by
  unfold nextB fba
  rw [BitVec.toNat_add, BitVec.toNat_mul, BitVec.toNat_sub, BitVec.toNat_mul, hv_toNat, hv_toNat]
  simp only [BitVec.toNat_ofNat, two32]
theorem stp_toNat (s : BitVec 32) (c : UInt8) : (stp s c).toNat = (s.toNat * 16777619 % 4294967296 + (c.toNat + 1)) % 4294967296 := by
  unfold stp fba
  rw [BitVec.toNat_add, BitVec.toNat_mul, hv_toNat]
  simp only [BitVec.toNat_ofNat, two32]
theorem next_walk (s : BitVec 32) (o i : UInt8) : (((s.toNat : Int) - ((o.toNat : Int) + 1) * 3600621915) % 4294967296 * 16777619 % 4294967296 + ((i.toNat : Int) + 1)) % 4294967296 = ((nextB s o i).toNat : Int) := by
  have ho := o.toNat_lt
  have hi := i.toNat_lt
  have hs := s.isLt
  rw [nextB_toNat]
  generalize o.toNat = a at *
  generalize i.toNat = b at *
  generalize s.toNat = c at *
  omega
theorem stp_walk (s : BitVec 32) (c : UInt8) : ((s.toNat : Int) * 16777619 % 4294967296 + ((c.toNat : Int) + 1)) % 4294967296 = ((stp s c).toNat : Int) := by
  rw [stp_toNat]; omega
theorem stp_walk2 (s : BitVec 32) (c : UInt8) : (((s.toNat : Int) * 16777619 + (c.toNat : Int)) % 4294967296 + 1) % 4294967296 = ((stp s c).toNat : Int) := by
  rw [stp_toNat]; omega
/-- The reference's power: 15 times the base. -/
def powB (v : BitVec 32) (k : Nat) : BitVec 32 := v * fba ^ k
theorem powB_snoc (v : BitVec 32) (k : Nat) : powB v (k + 1) = powB v k * fba := by unfold powB; rw [BitVec.pow_succ, BitVec.mul_assoc]
theorem mul_walk (s : BitVec 32) : ((s.toNat : Int) * 16777619 % 4294967296) = ((s * fba).toNat : Int) := by
  have e : (s * fba).toNat = s.toNat * 16777619 % 4294967296 := by
    unfold fba
    rw [BitVec.toNat_mul]
    simp only [BitVec.toNat_ofNat, two32]
  rw [e]
  omega
theorem refnext_walk (s : BitVec 32) (o i : UInt8) : (((s.toNat : Int) - ((powB (hv o) 15).toNat : Int)) % 4294967296 * 16777619 + (i.toNat : Int) + 1) % 4294967296 = ((nextB s o i).toNat : Int) := by
  have e : (powB (hv o) 15).toNat = (o.toNat + 1) * 3600621915 % 4294967296 := by
    unfold powB
    rw [fba15, BitVec.toNat_mul, hv_toNat]
    simp only [BitVec.toNat_ofNat, two32]
  have hs := s.isLt
  rw [nextB_toNat, e]
  clear e
  generalize o.toNat = a at *
  generalize i.toNat = b at *
  generalize s.toNat = c at *
  rw [Int.natCast_emod, Int.natCast_emod]
  omega
end Go.Proofs.Ytmnbfmcgnddlaaa
