/- Pieces whose bytes are turned, and three bytes more. No statement of the seat is proved here. -/
import Derived.Test.YtoiiiccichkgpaaCtOwnB
import Derived.Test.YtoiiiccichkgpaaCtMA
namespace Go.Proofs.Ytoiiiccichkgpaa
open Go.RowKit
set_option linter.unusedVariables false
set_option linter.unusedSimpArgs false

def tx (l : List UInt8) : List UInt8 := l.map (· ^^^ 85)
theorem tx_length (l : List UInt8) : (tx l).length = l.length := by simp [tx]
structure Done (D : Nat → List UInt8) (i : Nat) (zs : List PieceT) : Prop where
  at_ : ∀ q (hq : q < zs.length), zs[q].p.data = if q < i then tx (D q) ++ [1, 2, 3] else D q
structure PartD (D : Nat → List UInt8) (i k : Nat) (zs : List PieceT) : Prop where
  at_ : ∀ q (hq : q < zs.length), zs[q].p.data = if q < i then tx (D q) ++ [1, 2, 3] else if q = i then tx ((D q).take k) ++ (D q).drop k else D q
theorem PartD.zero {D : Nat → List UInt8} {i : Nat} {zs : List PieceT} (h : Done D i zs) : PartD D i 0 zs := ⟨fun q hq => by
  rw [h.at_ q hq]
  by_cases e : q < i
  · rw [if_pos e, if_pos e]
  · rw [if_neg e, if_neg e]
    split
    · simp [tx]
    · rfl⟩
theorem PartD.mid {D : Nat → List UInt8} {i k : Nat} {zs : List PieceT} (h : PartD D i k zs) (hi : i < zs.length) : zs[i].p.data = tx ((D i).take k) ++ (D i).drop k := by
  rw [h.at_ i hi, if_neg (Nat.lt_irrefl _), if_pos rfl]
theorem PartD.len {D : Nat → List UInt8} {i k : Nat} {zs : List PieceT} (h : PartD D i k zs) (hi : i < zs.length) : zs[i].p.data.length = (D i).length := by
  rw [h.mid hi, List.length_append, tx_length, List.length_take, List.length_drop]
  omega
theorem PartD.byte {D : Nat → List UInt8} {i k : Nat} {zs : List PieceT} (h : PartD D i k zs) (hi : i < zs.length) (hk : k < (D i).length) (hk2 : k < zs[i].p.data.length) : zs[i].p.data[k] = (D i)[k] := by
  have e := h.mid hi
  have h1 : zs[i].p.data[k]? = (D i)[k]? := by
    rw [e, List.getElem?_append_right (by rw [tx_length, List.length_take]; omega), tx_length, List.length_take, Nat.min_eq_left (Nat.le_of_lt hk), Nat.sub_self, List.getElem?_drop, Nat.add_zero]
  rw [List.getElem?_eq_getElem hk2, List.getElem?_eq_getElem hk] at h1
  injection h1
theorem PartD.next {D : Nat → List UInt8} {i k : Nat} {zs : List PieceT} (h : PartD D i k zs) (hi : i < zs.length) (hk : k < (D i).length) (a : Option Addr) (c : Nat) : PartD D i (k + 1) (zs.set i (zs[i].with_ a c (zs[i].p.data.set k ((D i)[k] ^^^ 85)))) := ⟨fun q hq => by
  rw [List.length_set] at hq
  rw [List.getElem_set]
  by_cases e : i = q
  · subst e
    rw [if_pos rfl, if_neg (Nat.lt_irrefl _), if_pos rfl]
    show zs[i].p.data.set k ((D i)[k] ^^^ 85) = _
    rw [h.mid hi]
    apply List.ext_getElem?
    intro j
    have l1 : (tx ((D i).take k)).length = k := by rw [tx_length, List.length_take]; omega
    have l2 : (tx ((D i).take (k + 1))).length = k + 1 := by rw [tx_length, List.length_take]; omega
    rw [List.getElem?_set]
    by_cases ej : k = j
    · subst ej
      rw [if_pos rfl, if_pos (by rw [List.length_append, l1, List.length_drop]; omega), List.getElem?_append_left (by rw [l2]; omega)]
      unfold tx
      rw [List.getElem?_map, List.getElem?_take, if_pos (by omega), List.getElem?_eq_getElem hk]
      rfl
    · rw [if_neg ej]
      by_cases hlt : j < k
      · rw [List.getElem?_append_left (by rw [l1]; exact hlt), List.getElem?_append_left (by rw [l2]; omega)]
        unfold tx
        rw [List.getElem?_map, List.getElem?_map, List.getElem?_take, List.getElem?_take, if_pos hlt, if_pos (by omega)]
      · rw [List.getElem?_append_right (by rw [l1]; omega), List.getElem?_append_right (by rw [l2]; omega), l1, l2, List.getElem?_drop, List.getElem?_drop, show k + (j - k) = k + 1 + (j - (k + 1)) by omega]
  · rw [if_neg e, h.at_ q hq]
    by_cases e2 : q < i
    · rw [if_pos e2, if_pos e2]
    · rw [if_neg e2, if_neg e2, if_neg fun e3 => e e3.symm, if_neg fun e3 => e e3.symm]⟩
theorem PartD.app {D : Nat → List UInt8} {i : Nat} {zs : List PieceT} (h : PartD D i (D i).length zs) (hi : i < zs.length) (a : Option Addr) (c : Nat) : Done D (i + 1) (zs.set i (zs[i].with_ a c (zs[i].p.data ++ [1, 2, 3]))) := ⟨fun q hq => by
  rw [List.length_set] at hq
  rw [List.getElem_set]
  by_cases e : i = q
  · subst e
    rw [if_pos rfl, if_pos (Nat.lt_succ_self _)]
    show zs[i].p.data ++ [1, 2, 3] = _
    rw [h.mid hi, List.take_length, List.drop_length, List.append_nil]
  · rw [if_neg e, h.at_ q hq]
    by_cases e2 : q < i
    · rw [if_pos e2, if_pos (by omega)]
    · rw [if_neg e2, if_neg (show ¬ q = i from fun e3 => e e3.symm), if_neg (show ¬ q < i + 1 by omega)]⟩
theorem xor_walk (x y : UInt8) (k : Int) (hk : k = (y.toNat : Nat)) : bits .xor .u8 ((x.toNat : Nat) : Int) k = (((x ^^^ y).toNat : Nat) : Int) := by
  rw [hk, bits_xor_u8_nat _ _ x.toNat_lt y.toNat_lt, ← UInt8.toNat_xor]
theorem xor_back (x : UInt8) : (x ^^^ 85) ^^^ 85 = x := by rw [UInt8.xor_assoc, UInt8.xor_self, UInt8.xor_zero]
end Go.Proofs.Ytoiiiccichkgpaa
