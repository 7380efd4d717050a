/- How many acts VaultPlays goes through. No statement of the seat is proved here. -/
import Derived.Test.YthbgcffnnholeaaDskAct
namespace Go.Proofs.Ythbgcffnnholeaa
open Go.RowKit
set_option linter.unusedVariables false

set_option maxHeartbeats 1000000 in
/-- How many acts are gone through. -/
theorem few_any (A : Option Addr) (n c : Nat) (ls : List DActT) (hl : ls.length = n) (hc : n ≤ c) (hm : c ≤ maxLen) (w : World) (hr : RdD w w.heap.size A ls) :
    Calls Try.prog 15 #[.slice A n c] w fun e w' => ∃ k, k ≤ n ∧ k ≤ 60 ∧ (∀ a ∈ ls.take k, a.b.length ≤ 20000) ∧ e = .returned (.slice A k c) ∧ w = w' := by
  unfold maxLen at hm
  have HL := Lib.hid hl
  have HR := Lib.hid hr
  clear hl hr
  go_enter Try.func15, Try.ntmps15
  go_wp2
  go_loop [3, 7] (fun l i => ∃ k L : Nat, k ≤ n ∧ k ≤ 60 ∧ i = .int .i64 k ∧ l = .int .i64 L ∧ L ≤ 20000 ∧ Hid (∀ a ∈ ls.take k, a.b.length ≤ 20000)) (fun _ i => n - (intOf i).toNat)
  case atStart => exact ⟨0, 20000, Nat.zero_le _, by omega, rfl, rfl, Nat.le_refl _, Lib.hid (by simp)⟩
  case round =>
    obtain ⟨k, L, hk, hk3, rfl, rfl, hL, hall⟩ := hrel
    by_cases hlt : k < n
    · have hkl : k < ls.length := by rw [HL.out]; exact hlt
      obtain ⟨g, off, hA, hg, hra, hok⟩ := HR.out.at_ (j := k) hkl
      have hcb := hra 3 _ (show (dcs ls[k])[3]? = some (.slice ls[k].adr ls[k].b.length ls[k].cap) from rfl)
      have hmx := hok.max
      have hle := hok.le
      unfold maxLen at hmx
      have HTK := Lib.hid (show ls.take (k + 1) = ls.take k ++ [ls[k]] from List.take_succ_eq_append_getElem hkl)
      have HALL := hall
      obtain ⟨a, hae⟩ : ∃ a, ls[k] = a := ⟨_, rfl⟩
      rw [hae] at HTK hcb hmx hle
      obtain ⟨nb, hb⟩ : ∃ nb, a.b.length = nb := ⟨_, rfl⟩
      have HNB := Lib.hid hb
      rw [hb] at hcb hle
      have hi1 : (0 : Int) ≤ (k : Int) := by omega
      have hi2 : (k : Int) < (n : Int) := by omega
      have hkc : k ≤ c := by omega
      have hc63 : c ≤ 9223372036854775807 := by omega
      clear hra hok hb hae hall
      generalize a.adr = ab at *
      generalize a.cap = cb at *
      subst hA
      by_cases h3 : 60 ≤ k
      · have h3i : (60 : Int) ≤ (k : Int) := by omega
        go_wp2
        go_ret
        exact ⟨k, by omega, hk3, HALL.out, rfl, rfl⟩
      · have h3i : ¬ (60 : Int) ≤ (k : Int) := by omega
        by_cases hb2 : L < nb
        · go_wp2
          go_ret
          exact ⟨k, by omega, hk3, HALL.out, rfl, rfl⟩
        · have hsub : ((L : Int) - (nb : Int)) = ((L - nb : Nat) : Int) := by omega
          go_wp2
          go_round
          case rel => exact ⟨k + 1, L - nb, by omega, by omega, by go_num, rfl, by omega, Lib.hid (fun x hx => by
            rw [HTK.out] at hx
            rcases List.mem_append.1 hx with hx | hx
            · exact HALL.out x hx
            · rw [List.mem_singleton.1 hx, HNB.out]; omega)⟩
          case measure => simp [intOf]; omega
    · obtain rfl : k = n := by omega
      go_wp2
      go_ret
      exact ⟨k, Nat.le_refl _, hk3, hall.out, rfl, rfl⟩
end Go.Proofs.Ythbgcffnnholeaa
