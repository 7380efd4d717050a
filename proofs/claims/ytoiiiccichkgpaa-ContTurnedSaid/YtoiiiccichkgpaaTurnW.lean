/- Turned bits, as a walk meets them. No statement of the seat is proved here. -/
import Derived.Test.YtoiiiccichkgpaaCrcTurn
import Derived.Test.YtoiiiccichkgpaaCtMA
import Derived.Test.YtoiiiccichkgpaaMem
import Derived.WalkSpells
namespace Go.Proofs.Ytoiiiccichkgpaa
open Go.RowKit
set_option linter.unusedVariables false

theorem bit_walk (bits k : Nat) : ((((bits : Int) / 2 ^ k).tmod 2) == 1) = bits.testBit k := by
  have e : ((bits : Int) / 2 ^ k).tmod 2 = ((bits / 2 ^ k % 2 : Nat) : Int) := by
    have e1 : (bits : Int) / 2 ^ k = ((bits / 2 ^ k : Nat) : Int) := by norm_cast
    rw [e1]; rfl
  rw [e, Nat.testBit_eq_decide_div_mod_eq]
  by_cases h : bits / 2 ^ k % 2 = 1
  · simp [h]
  · have : bits / 2 ^ k % 2 = 0 := by omega
    simp [this]
theorem turned_hit (S : List UInt8) (first bits k : Nat) (h : bits.testBit k = true) (hin : first + k < 8 * S.length) : ∃ x : UInt8, (turned S first bits k)[(first + k) / 8]? = some x ∧
    turned S first bits (k + 1) = (turned S first bits k).set ((first + k) / 8) (x ^^^ oneAt ((first + k) % 8)) ∧ count S.length first bits (k + 1) = count S.length first bits k + 1 := by
  have hl := turned_length S first bits k
  have hlt : (first + k) / 8 < (turned S first bits k).length := by omega
  refine ⟨_, List.getElem?_eq_getElem hlt, ?_, ?_⟩
  · rw [turned, if_pos (by simp [h, hin])]
    unfold turn
    apply List.ext_getElem?
    intro i
    rw [List.getElem?_modify, List.getElem?_set]
    by_cases hi : (first + k) / 8 = i
    · subst hi
      simp [hlt]
    · simp [hi]
  · rw [count, if_pos (by simp [h, hin])]
theorem flip_walk (x : UInt8) (r : Nat) (hr : r < 8) : bits .xor .u8 ((x.toNat : Nat) : Int) (128 / 2 ^ r) = (((x ^^^ oneAt r).toNat : Nat) : Int) := by
  have hx := x.toNat_lt
  have e : ∀ r : Fin 8, (128 : Int) / 2 ^ r.val = (((oneAt r.val).toNat : Nat) : Int) := by decide
  have e1 := e ⟨r, hr⟩
  simp only at e1
  rw [e1, bits_xor_u8_nat _ _ (by omega) (oneAt r).toNat_lt, ← UInt8.toNat_xor]
theorem turned_miss (S : List UInt8) (first bits k : Nat) (h : bits.testBit k = false) : turned S first bits (k + 1) = turned S first bits k ∧ count S.length first bits (k + 1) = count S.length first bits k := by
  rw [turned, count, if_neg (by simp [h]), if_neg (by simp [h])]
  exact ⟨rfl, rfl⟩
end Go.Proofs.Ytoiiiccichkgpaa
