/- The reference's map (cellarageref18): where a key stands. No statement of the seat is proved here. -/
import Derived.Test.YtiomfkhblmmdoaaTrKit
import Derived.Test.YtiomfkhblmmdoaaQuiet
import Derived.Deep.QuietTactic
import Derived.BigQuiet
namespace Go.Proofs.Ytiomfkhblmmdoaa
open Go.RowKit
set_option linter.unusedVariables false
set_option linter.unusedSimpArgs false
set_option maxRecDepth 100000

theorem less_iff (a b : List UInt8) : Op.bytesLess a b = decide (a < b) := bytesLess_eq a b
set_option maxHeartbeats 4000000 in
theorem rat_any (A : Option Addr) (ls : List PT) (k c : Nat) (key : List UInt8) (hl : ls.length = k) (hk : k ≤ 1000000) (w : World) (hr : RdP w w.heap.size A ls) :
    Calls Try.prog 30 #[.agg #[.slice A k c], .string (st key)] w fun e w' => e = .returned (.tuple #[.int .i64 (posL ls key), .bool (isL ls key)]) ∧ Below w.heap.size w w' := by
  obtain ⟨R, hR⟩ : ∃ R, isL ls key = R := ⟨_, rfl⟩
  obtain ⟨p, hp⟩ : ∃ p, posL ls key = p := ⟨_, rfl⟩
  rw [hR, hp]
  have hpk : p ≤ k := by rw [← hp, ← hl]; exact pos_le ls key
  have HPL := Lib.hid hl
  have HA := Lib.hid (show ∀ W, Below w.heap.size w W → RdP W w.heap.size A ls from fun W hb => hr.below hb)
  have HLT := Lib.hid (show ∀ j (hj : j < ls.length), j < p → Op.bytesLess ls[j].1 key = true from fun j hj h => by
    rw [less_iff]
    exact decide_eq_true (pos_below ls key j hj (by rw [hp]; exact h)))
  have HAT := Lib.hid (show ∀ j (hj : j < ls.length), j = p → Op.bytesLess ls[j].1 key = false ∧ (ls[j].1 == key) = R from fun j hj h => by
    subst h
    have h1 := pos_at ls key (by rw [hp]; exact hj)
    simp only [hp] at h1
    refine ⟨by rw [less_iff]; exact decide_eq_false h1, ?_⟩
    rw [← hR]
    by_cases e : ls[j].1 = key
    · rw [(is_pos ls key).2 ⟨by rw [hp]; exact hj, by simp only [hp]; exact e⟩]
      simpa using e
    · have : isL ls key = false := by
        cases hi : isL ls key with
        | false => rfl
        | true =>
          obtain ⟨_, h2⟩ := (is_pos ls key).1 hi
          simp only [hp] at h2
          exact absurd h2 e
      rw [this]
      simpa using e)
  have HEND := Lib.hid (show p = k → R = false from fun h => by
    rw [← hR]
    cases hi : isL ls key with
    | false => rfl
    | true =>
      obtain ⟨h2, _⟩ := (is_pos ls key).1 hi
      omega)
  clear hR hp hl hr
  go_enter Try.func30, Try.ntmps30
  go_wp2_with fail
  go_loopw [6] (fun i wr => ∃ j : Nat, j ≤ p ∧ i = .int .i64 (j : Nat) ∧ wr.cell? ⟨w.heap.size, 0, none⟩ = some (.slice A k c) ∧ Hid (Below w.heap.size w wr)) (fun i _ => k - (intOf i).toNat)
  case atStart => exact ⟨0, Nat.zero_le _, rfl, by simp, Lib.hid (Below.alloc (Below.refl _ _) (Nat.le_refl _) _)⟩
  case round =>
    obtain ⟨j, hj, rfl, hbox, HB⟩ := hrel
    by_cases hlt : j < p
    · have hjp : j < ls.length := by rw [HPL.out]; omega
      obtain ⟨g, off, rfl, hg, hc1, -⟩ := (HA.out _ HB.out).at_ hjp
      have h1 := HLT.out j hjp hlt
      obtain ⟨x, hx⟩ : ∃ x, ls[j].1 = x := ⟨_, rfl⟩
      rw [hx] at hc1 h1
      have hi1 : (0 : Int) ≤ (j : Int) := by omega
      have hi2 : (j : Int) < (k : Int) := by omega
      clear hx hjp
      go_wp2_with fail
      go_roundw
      case rel => exact ⟨j + 1, by omega, by go_num, hbox, HB⟩
      case measure => simp [intOf]; omega
    · obtain rfl : j = p := by omega
      by_cases hjk : j < k
      · have hjp : j < ls.length := by rw [HPL.out]; exact hjk
        obtain ⟨g, off, rfl, hg, hc1, -⟩ := (HA.out _ HB.out).at_ hjp
        obtain ⟨h1, h2⟩ := HAT.out j hjp rfl
        obtain ⟨x, hx⟩ : ∃ x, ls[j].1 = x := ⟨_, rfl⟩
        rw [hx] at hc1 h1 h2
        have hi1 : (0 : Int) ≤ (j : Int) := by omega
        have hi2 : (j : Int) < (k : Int) := by omega
        clear hx hjp
        go_wp2_with fail
        go_quiet (fail)
        have HBQ := Lib.hid (HB.out.trans ((below_drewN (Below.refl wr.heap.size wr) nq).mono HB.out.size))
        go_wp2_with fail
        go_ret2
        exact ⟨rfl, HBQ.out⟩
      · obtain rfl : j = k := by omega
        obtain rfl : R = false := HEND.out rfl
        have hi2 : ¬ (j : Int) < (j : Int) := by omega
        go_wp2_with fail
        go_quiet (fail)
        have HBQ := Lib.hid (HB.out.trans ((below_drewN (Below.refl wr.heap.size wr) nq).mono HB.out.size))
        go_wp2_with fail
        go_ret2
        exact ⟨rfl, HBQ.out⟩
end Go.Proofs.Ytiomfkhblmmdoaa
