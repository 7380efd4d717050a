/- The mathematics of package path where the code asks utf8.ValidString first. No statement of the seat is proved here. -/
import Derived.Lib.ValidLaws
import Derived.Test.YtcpoejejmngiaaaDoorPaMath
set_option linter.unusedVariables false
namespace Go.Proofs.YtcpoejejmngiaaaDoor
open Go.Proofs
theorem st_data (s : List UInt8) : (st s).data.toList = s := by simp
theorem st_drop (s : List UInt8) (i : Nat) : Lib.decodeL (s.drop i) = Utf8.decode (st s) i := by
  rw [← Lib.decodeL_drop, st_data]
/-- U+FFFD that is not an error is written out. -/
theorem bom_iff {s : List UInt8} {i : Nat} (h : i < s.length) (hr : (Utf8.decode (st s) i).1 = 65533) : bomAt s i = true ↔ (Utf8.decode (st s) i).2 ≠ 1 := by
  have hne : s.drop i ≠ [] := by
    intro e
    have := congrArg List.length e
    simp at this
    omega
  rw [← st_drop] at hr ⊢
  unfold bomAt
  rw [decide_eq_true_eq]
  constructor
  · intro hb e
    have hs : s.drop i = 239 :: 191 :: 189 :: (s.drop i).drop 3 := by
      conv => lhs; rw [← List.take_append_drop 3 (s.drop i), hb]
      rfl
    have hk := Lib.decodeL_N (s.drop i)
    rw [hs] at hk
    have hl : (239 :: 191 :: 189 :: (s.drop i).drop 3).length = ((s.drop i).drop 3).length + 3 := rfl
    rw [hs] at e
    rw [hk, hl] at e
    revert e
    show (Lib.decodeN _ 239 191 189 _).2 = 1 → False
    intro e
    simp [Lib.decodeN] at e
  · intro hw
    have hv : ¬ ((Lib.decodeL (s.drop i)).1 = 65533 ∧ (Lib.decodeL (s.drop i)).2 = 1) := fun hh => hw hh.2
    have he := Lib.encode_decode _ hne hv
    have hle := Lib.decodeL_le _ hne
    rw [hr] at he
    have h3 : Lib.encodeRune ((65533 : Nat) : Int) = [239, 191, 189] := by decide
    rw [h3] at he
    have hlen : (Lib.decodeL (s.drop i)).2 = 3 := by
      have := congrArg List.length he
      rw [List.length_take] at this
      simp at this hle
      omega
    rw [hlen] at he
    exact he.symm
/-- A rune that may stand in a name but for what utf8.ValidString tells. -/
def plainR (s : List UInt8) (i : Nat) : Bool := !(decide ((Utf8.decode (st s) i).1 < 32) || decide ((Utf8.decode (st s) i).1 = 127) || decide ((Utf8.decode (st s) i).1 = 47))
def scanPR (s : List UInt8) : Nat → Nat → Bool
  | 0, i => decide (s.length ≤ i)
  | n + 1, i => if s.length ≤ i then true else plainR s i && scanPR s n (i + (Utf8.decode (st s) i).2)
theorem scanP_fuel (s : List UInt8) : ∀ (n m i : Nat), s.length - i ≤ n → s.length - i ≤ m → scanPR s n i = scanPR s m i
  | 0, 0, _, _, _ => rfl
  | 0, m + 1, i, h, _ => by rw [scanPR, scanPR, if_pos (by omega), decide_eq_true (by omega)]
  | n + 1, 0, i, _, h => by rw [scanPR, scanPR, if_pos (by omega), decide_eq_true (by omega)]
  | n + 1, m + 1, i, h1, h2 => by
    rw [scanPR, scanPR]
    split
    · rfl
    · have := decode_pos (st s) i
      rw [scanP_fuel s n m _ (by omega) (by omega)]
def scanP (s : List UInt8) (i : Nat) : Bool := scanPR s (s.length - i) i
theorem scanP_end {s : List UInt8} {i : Nat} (h : s.length ≤ i) : scanP s i = true := by
  unfold scanP
  rw [show s.length - i = 0 by omega, scanPR, decide_eq_true h]
theorem scanP_step {s : List UInt8} {i : Nat} (h : i < s.length) : scanP s i = (plainR s i && scanP s (i + (Utf8.decode (st s) i).2)) := by
  unfold scanP
  have := decode_pos (st s) i
  rw [show s.length - i = (s.length - i - 1) + 1 by omega, scanPR, if_neg (by omega), scanP_fuel s (s.length - i - 1) (s.length - (i + (Utf8.decode (st s) i).2)) _ (by omega) (by omega)]
theorem scan_valid : ∀ (n : Nat) (s : List UInt8) (i : Nat), s.length - i ≤ n → scan s i = (Lib.validD (s.drop i) && scanP s i)
  | 0, s, i, hn => by
    rw [scan_end (by omega), scanP_end (by omega), List.drop_eq_nil_of_le (by omega)]
    rfl
  | n + 1, s, i, hn => by
    by_cases hlt : i < s.length
    · have hne : s.drop i ≠ [] := by
        intro e
        have := congrArg List.length e
        simp at this
        omega
      have hp := decode_pos (st s) i
      rw [scan_step hlt, scanP_step hlt, Lib.validD_step _ hne, st_drop, List.drop_drop, scan_valid n s _ (by omega)]
      unfold goodR plainR
      by_cases hr : (Utf8.decode (st s) i).1 = 65533
      · have hb := bom_iff hlt hr
        by_cases hw : (Utf8.decode (st s) i).2 = 1
        · have hb' : bomAt s i = false := by
            cases hbb : bomAt s i with
            | false => rfl
            | true => exact absurd hw (hb.1 hbb)
          rw [if_pos ⟨hr, hw⟩, hb', hr]
          simp
        · rw [if_neg (fun h => hw h.2), hb.2 hw, hr]
          simp
      · rw [if_neg (fun h => hr h.1), decide_eq_false hr]
        simp only [Bool.false_and, Bool.or_false]
        generalize Lib.validD _ = A
        generalize scanP s _ = B
        generalize (!(decide ((Utf8.decode (st s) i).1 < 32) || decide ((Utf8.decode (st s) i).1 = 127) || decide ((Utf8.decode (st s) i).1 = 47))) = C
        cases A <;> cases B <;> cases C <;> rfl
    · rw [scan_end (by omega), scanP_end (by omega), List.drop_eq_nil_of_le (by omega)]
      rfl
/-- A name, as the code asks it: its length, valid, and no rune that is barred. -/
theorem name_valid (s : List UInt8) : nameL s = (decide (1 ≤ s.length ∧ s.length ≤ 100 ∧ s ≠ [46] ∧ s ≠ [46, 46]) && (Lib.validD s && scanP s 0)) := by
  unfold nameL
  rw [scan_valid s.length s 0 (by omega), List.drop_zero]
end Go.Proofs.YtcpoejejmngiaaaDoor
