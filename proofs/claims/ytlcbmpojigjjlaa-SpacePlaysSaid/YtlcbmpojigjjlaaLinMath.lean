/- Plain mathematics: a row of bytes that is filled from its head on. No statement of the seat is proved here. -/
import Derived.Test.YtlcbmpojigjjlaaMath
import Derived.Laws.OwnMore
namespace Go.Proofs.Ytlcbmpojigjjlaa

def rowTo (n : Nat) (D : List UInt8) (k : Nat) : Array Value := (bv (D.take k) ++ List.replicate (n - k) (Value.int .u8 0)).toArray
theorem rowTo_zero (n : Nat) (D : List UInt8) : madeCells #[Value.int .u8 0] n = rowTo n D 0 := by
  apply Array.toList_inj.1
  rw [toList_madeCells_one]
  simp [rowTo, bv]
theorem rowTo_full (n : Nat) (D : List UInt8) (h : D.length = n) : rowTo n D n = (bv D).toArray := by
  unfold rowTo
  rw [List.take_of_length_le (by omega)]
  simp
theorem rowTo_at (n : Nat) (D : List UInt8) (k : Nat) (h : D.length = n) (hk : k < n) : (rowTo n D k)[k]? = some (.int .u8 0) := by
  unfold rowTo
  rw [List.getElem?_toArray, List.getElem?_append_right (by rw [bv_length, List.length_take]; omega), bv_length, List.length_take]
  rw [show k - min k D.length = 0 by omega, List.getElem?_replicate, if_pos (by omega)]
theorem rowTo_next (n : Nat) (D : List UInt8) (k : Nat) (h : D.length = n) (hk : k < n) : (rowTo n D k).setIfInBounds k (.int .u8 ((D[k]'(by omega)).toNat : Int)) = rowTo n D (k + 1) := by
  unfold rowTo
  apply Array.toList_inj.1
  have hl : (bv (D.take k)).length = k := by rw [bv_length, List.length_take]; omega
  rw [List.take_succ_eq_append_getElem (show k < D.length by omega), bv_append]
  obtain ⟨m, hm⟩ : ∃ m, n - k = m + 1 := ⟨n - k - 1, by omega⟩
  rw [hm, show n - (k + 1) = m by omega, List.replicate_succ]
  simp only [List.setIfInBounds_toArray, List.append_assoc]
  rw [List.set_append_right _ _ (by omega), hl, Nat.sub_self]
  rfl

def dOf (n : Nat) (a b c : List UInt8) : List UInt8 := List.zipWith (· ^^^ ·) (List.zipWith (· ^^^ ·) (a.take n) (b.take n)) (c.take n)
theorem dOf_length (n : Nat) (a b c : List UInt8) (ha : n ≤ a.length) (hb : n ≤ b.length) (hc : n ≤ c.length) : (dOf n a b c).length = n := by
  simp [dOf]; omega
theorem dOf_get (n : Nat) (a b c : List UInt8) (k : Nat) (hk : k < n) (ha : n ≤ a.length) (hb : n ≤ b.length) (hc : n ≤ c.length) :
    (dOf n a b c)[k]'(by rw [dOf_length n a b c ha hb hc]; exact hk) = (a[k]'(by omega)) ^^^ (b[k]'(by omega)) ^^^ (c[k]'(by omega)) := by
  simp [dOf]
end Go.Proofs.Ytlcbmpojigjjlaa
