/- What is laid is taken again: the lists. No statement of the seat is proved here. -/
import Derived.Test.YtcjhcapbmdiloaaCodecG
namespace Go.Proofs.Ytcjhcapbmdiloaa
open Go.RowKit

def numsB (xs : List Nat) : List UInt8 := xs.flatMap (be 8)
def textB (s : ByteArray) : List UInt8 := be 4 s.size ++ s.data.toList
def textsB (ss : List ByteArray) : List UInt8 := ss.flatMap textB
theorem numsB_length (xs : List Nat) : (numsB xs).length = 8 * xs.length := by
  induction xs with
  | nil => rfl
  | cons x xs ih => simp [numsB, be_length] at ih ⊢; omega
theorem numsB_succ (xs : List Nat) (k : Nat) (h : k < xs.length) : numsB (xs.take (k + 1)) = numsB (xs.take k) ++ be 8 xs[k] := by
  unfold numsB; rw [List.take_succ_eq_append_getElem h, List.flatMap_append]; simp only [List.flatMap_cons, List.flatMap_nil, List.append_nil]
theorem numsB_drop (xs : List Nat) (k : Nat) (h : k < xs.length) : numsB (xs.drop k) = be 8 xs[k] ++ numsB (xs.drop (k + 1)) := by
  unfold numsB; rw [List.drop_eq_getElem_cons h]; simp only [List.flatMap_cons]
theorem textB_length (s : ByteArray) : (textB s).length = 4 + s.size := by
  rw [textB, List.length_append, be_length, Array.length_toList]; rfl
theorem textsB_succ (ss : List ByteArray) (k : Nat) (h : k < ss.length) : textsB (ss.take (k + 1)) = textsB (ss.take k) ++ textB ss[k] := by
  unfold textsB; rw [List.take_succ_eq_append_getElem h, List.flatMap_append]; simp only [List.flatMap_cons, List.flatMap_nil, List.append_nil]
theorem textsB_drop (ss : List ByteArray) (k : Nat) (h : k < ss.length) : textsB (ss.drop k) = textB ss[k] ++ textsB (ss.drop (k + 1)) := by
  unfold textsB; rw [List.drop_eq_getElem_cons h]; simp only [List.flatMap_cons]

theorem get_back (k n : Nat) (r : List UInt8) (hk : k ≤ 8) : getV (be k n ++ r) 0 k = n % 256 ^ k ∧ getL (be k n ++ r) 0 k = r ∧ getF (be k n ++ r) 0 k = 0 := by
  have hl : (be k n ++ r).length = k + r.length := by rw [List.length_append, be_length]
  have hok : (0 : Int) = 0 ∧ (0 : Int) ≤ (k : Int) ∧ (k : Int) ≤ 8 ∧ (k : Int) ≤ ((be k n ++ r).length : Int) := by omega
  refine ⟨?_, ?_, ?_⟩
  · rw [getV, if_pos hok, Int.toNat_natCast, List.take_left' (be_length k n), val_be]
  · rw [getL, if_pos hok, Int.toNat_natCast, List.drop_left' (be_length k n)]
  · rw [getF, if_pos rfl, if_neg (by omega), if_neg (by omega)]
theorem bytes_back (s : ByteArray) : (⟨s.data.toList.toArray⟩ : ByteArray) = s := by
  cases s; simp
theorem text_back (s : ByteArray) (r : List UInt8) (hs : s.size ≤ 100000) : (⟨(textS (textB s ++ r) 0 s.size).toArray⟩ : ByteArray) = s ∧ textL (textB s ++ r) 0 s.size = r ∧ textF (textB s ++ r) 0 s.size = 0 := by
  have hd : s.data.toList.length = s.size := by rw [Array.length_toList]; rfl
  have hv : val ((textB s ++ r).take 4) = s.size := by
    rw [textB, List.append_assoc, List.take_left' (be_length 4 _)]; exact val_be_of_lt (by omega)
  have hl : (textB s ++ r).length = 4 + s.size + r.length := by rw [List.length_append, textB_length]
  have hok : TextOk (textB s ++ r) 0 s.size := by unfold TextOk; rw [hv]; omega
  refine ⟨?_, ?_, ?_⟩
  · rw [textS, if_pos hok, hv]
    have e : ((textB s ++ r).drop 4).take s.size = s.data.toList := by
      rw [textB, List.append_assoc, List.drop_left' (be_length 4 _), List.take_left' hd]
    rw [e, bytes_back]
  · rw [textL, if_pos hok, hv]
    exact List.drop_left' (by rw [textB_length])
  · rw [textF, if_pos rfl, if_neg (by omega), if_neg (by rw [hv]; omega), if_neg (by rw [hv]; omega)]
theorem last_back (k : Nat) (hk : k ≤ 8) : ((9223372036854775813 % 256 ^ k : Nat) = 0 ↔ k = 0) := by
  have : ∀ j : Fin 9, ((9223372036854775813 % 256 ^ j.val : Nat) = 0 ↔ j.val = 0) := by decide
  exact this ⟨k, by omega⟩
end Go.Proofs.Ytcjhcapbmdiloaa
