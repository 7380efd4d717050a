/- How many acts upon a cache are gone through. No statement of the seat is proved here. -/
import Derived.Test.YtmnjaocdhelebaaCcAct
namespace Go.Proofs.Ytmnjaocdhelebaa
open Go.RowKit
set_option linter.unusedVariables false

set_option maxHeartbeats 1000000 in
theorem few_any (A : Option Addr) (n c : Nat) (ls : List CAct) (hl : ls.length = n) (hc : n ≤ c) (hm : c ≤ maxLen) (w : World) (hr : RdC w w.heap.size A ls) :
    Calls Try.prog 10 #[.slice A n c] w fun e w' => ∃ k, k ≤ n ∧ k ≤ 100 ∧ (∀ a ∈ ls.take k, a.rows.length ≤ 50) ∧ e = .returned (.slice A k c) ∧ w = w' := by
  unfold maxLen at hm
  have HL := Lib.hid hl
  have HR := Lib.hid hr
  clear hl hr
  go_enter Try.func10, Try.ntmps10
  go_wp2
  go_loop [6] (fun i => ∃ k : Nat, k ≤ n ∧ k ≤ 100 ∧ i = .int .i64 k ∧ Hid (∀ a ∈ ls.take k, a.rows.length ≤ 50)) (fun i => n - (intOf i).toNat)
  case atStart => exact ⟨0, Nat.zero_le _, by omega, rfl, Lib.hid (by simp)⟩
  case round =>
    obtain ⟨k, hk, hk3, rfl, hall⟩ := hrel
    by_cases hlt : k < n
    · have hkl : k < ls.length := by rw [HL.out]; exact hlt
      obtain ⟨g, off, hA, hg, hra, hok⟩ := HR.out.at_ (j := k) hkl
      have hcb := hra 2 _ (show (ccs ls[k])[2]? = some (.slice ls[k].adr ls[k].rows.length ls[k].cap) from rfl)
      have hmx := hok.max
      have hle := hok.le
      unfold maxLen at hmx
      have HTK := Lib.hid (show ls.take (k + 1) = ls.take k ++ [ls[k]] from List.take_succ_eq_append_getElem hkl)
      have HALL := hall
      obtain ⟨a, hae⟩ : ∃ a, ls[k] = a := ⟨_, rfl⟩
      rw [hae] at HTK hcb hmx hle
      obtain ⟨nb, hb⟩ : ∃ nb, a.rows.length = nb := ⟨_, rfl⟩
      have HNB := Lib.hid hb
      rw [hb] at hcb hle
      have hi1 : (0 : Int) ≤ (k : Int) := by omega
      have hi2 : (k : Int) < (n : Int) := by omega
      have hkc : k ≤ c := by omega
      have hkci : (k : Int) ≤ (c : Int) := by omega
      have hc63 : c ≤ 9223372036854775807 := by omega
      clear hra hok hb hae hall
      generalize a.adr = ab at *
      generalize a.cap = cb at *
      subst hA
      by_cases h3 : 100 ≤ k
      · have h3i : (100 : Int) ≤ (k : Int) := by omega
        go_wp2
        go_ret
        exact ⟨k, by omega, hk3, HALL.out, rfl, rfl⟩
      · have h3i : ¬ (100 : Int) ≤ (k : Int) := by omega
        by_cases hb2 : 50 < nb
        · have hb2i : (50 : Int) < (nb : Int) := by omega
          go_wp2
          go_ret
          exact ⟨k, by omega, hk3, HALL.out, rfl, rfl⟩
        · have hb2i : ¬ (50 : Int) < (nb : Int) := by omega
          go_wp2
          go_round
          case rel => exact ⟨k + 1, by omega, by omega, by go_num, Lib.hid (fun x hx => by
            rw [HTK.out] at hx
            rcases List.mem_append.1 hx with hx | hx
            · exact HALL.out x hx
            · rw [List.mem_singleton.1 hx, HNB.out]; omega)⟩
          case measure => simp [intOf]; omega
    · obtain rfl : k = n := by omega
      go_wp2
      go_ret
      exact ⟨k, Nat.le_refl _, hk3, hall.out, rfl, rfl⟩
end Go.Proofs.Ytmnjaocdhelebaa
