/- The contracts of Right, ends, and of the reference's Right. No statement of the seat is proved here. -/
import Derived.Test.YtmnbfmcgnddlaaaRollOf
import Derived.Test.YtmnbfmcgnddlaaaChunkMath
import Derived.Test.YtmnbfmcgnddlaaaAppRd
import Derived.Test.YtmnbfmcgnddlaaaQuiet
namespace Go.Proofs.Ytmnbfmcgnddlaaa
open Go.RowKit

/-- A cutter's value. -/
abbrev ctr (mn mx ma ba : Int) : Value := .agg #[.int .i64 mn, .int .i64 mx, .int .u32 ma, .int .u32 ba]
def okI (mn mx ma ba : Int) : Prop := 16 ≤ mn ∧ mn ≤ mx ∧ mx ≤ 4096 ∧ 1 ≤ ma ∧ 1 ≤ ba
instance (mn mx ma ba : Int) : Decidable (okI mn mx ma ba) := inferInstanceAs (Decidable (_ ∧ _))

set_option maxHeartbeats 1000000 in
theorem right_any (mn mx ma ba : Int) (w : World) : Calls Try.prog 11 #[ctr mn mx ma ba] w fun e w' => e = .returned (.bool (decide (okI mn mx ma ba))) ∧ Below w.heap.size w w' := by
  obtain ⟨r, hr⟩ : ∃ r, r = decide (okI mn mx ma ba) := ⟨_, rfl⟩
  rw [← hr]
  have hb := (Below.refl w.heap.size w).alloc (Nat.le_refl _) (.cells #[.int .i64 mn, .int .i64 mx, .int .u32 ma, .int .u32 ba] 24)
  by_cases h1 : 16 ≤ mn
  · by_cases h2 : mn ≤ mx
    · by_cases h3 : mx ≤ 4096
      · by_cases h4 : 1 ≤ ma
        · by_cases h5 : 1 ≤ ba
          · have HR := Lib.hid (show r = true by rw [hr]; exact decide_eq_true ⟨h1, h2, h3, h4, h5⟩)
            clear hr
            go_enter Try.func11, Try.ntmps11
            go_wp2
            go_ret
            rw [HR.out]
            exact ⟨rfl, hb⟩
          · have HR := Lib.hid (show r = false by rw [hr]; exact decide_eq_false fun h => h5 h.2.2.2.2)
            clear hr
            go_enter Try.func11, Try.ntmps11
            go_wp2
            go_ret
            rw [HR.out]
            exact ⟨rfl, hb⟩
        · have HR := Lib.hid (show r = false by rw [hr]; exact decide_eq_false fun h => h4 h.2.2.2.1)
          clear hr
          go_enter Try.func11, Try.ntmps11
          go_wp2
          go_ret
          rw [HR.out]
          exact ⟨rfl, hb⟩
      · have HR := Lib.hid (show r = false by rw [hr]; exact decide_eq_false fun h => h3 h.2.2.1)
        clear hr
        go_enter Try.func11, Try.ntmps11
        go_wp2
        go_ret
        rw [HR.out]
        exact ⟨rfl, hb⟩
    · have HR := Lib.hid (show r = false by rw [hr]; exact decide_eq_false fun h => h2 h.2.1)
      clear hr
      go_enter Try.func11, Try.ntmps11
      go_wp2
      go_ret
      rw [HR.out]
      exact ⟨rfl, hb⟩
  · have HR := Lib.hid (show r = false by rw [hr]; exact decide_eq_false fun h => h1 h.1)
    clear hr
    go_enter Try.func11, Try.ntmps11
    go_wp2
    go_ret
    rw [HR.out]
    exact ⟨rfl, hb⟩
set_option maxHeartbeats 1000000 in
theorem refright_any (mn mx ma ba : Int) (w : World) : Calls Try.prog 12 #[ctr mn mx ma ba] w fun e w' => e = .returned (.bool (decide (okI mn mx ma ba))) ∧ Below w.heap.size w w' := by
  obtain ⟨r, hr⟩ : ∃ r, r = decide (okI mn mx ma ba) := ⟨_, rfl⟩
  rw [← hr]
  have hb := (Below.refl w.heap.size w).alloc (Nat.le_refl _) (.cells #[.int .i64 mn, .int .i64 mx, .int .u32 ma, .int .u32 ba] 24)
  by_cases h1 : 16 ≤ mn
  · by_cases h2 : mn ≤ mx
    · by_cases h3 : mx ≤ 4096
      · by_cases h4 : 1 ≤ ma
        · by_cases h5 : 1 ≤ ba
          · have HR := Lib.hid (show r = true by rw [hr]; exact decide_eq_true ⟨h1, h2, h3, h4, h5⟩)
            clear hr
            go_enter Try.func12, Try.ntmps12
            go_wp2
            go_ret
            rw [HR.out]
            exact ⟨rfl, hb⟩
          · have HR := Lib.hid (show r = false by rw [hr]; exact decide_eq_false fun h => h5 h.2.2.2.2)
            clear hr
            go_enter Try.func12, Try.ntmps12
            go_wp2
            go_ret
            rw [HR.out]
            exact ⟨rfl, hb⟩
        · have HR := Lib.hid (show r = false by rw [hr]; exact decide_eq_false fun h => h4 h.2.2.2.1)
          clear hr
          go_enter Try.func12, Try.ntmps12
          go_wp2
          go_ret
          rw [HR.out]
          exact ⟨rfl, hb⟩
      · have HR := Lib.hid (show r = false by rw [hr]; exact decide_eq_false fun h => h3 h.2.2.1)
        clear hr
        go_enter Try.func12, Try.ntmps12
        go_wp2
        go_ret
        rw [HR.out]
        exact ⟨rfl, hb⟩
    · have HR := Lib.hid (show r = false by rw [hr]; exact decide_eq_false fun h => h2 h.2.1)
      clear hr
      go_enter Try.func12, Try.ntmps12
      go_wp2
      go_ret
      rw [HR.out]
      exact ⟨rfl, hb⟩
  · have HR := Lib.hid (show r = false by rw [hr]; exact decide_eq_false fun h => h1 h.1)
    clear hr
    go_enter Try.func12, Try.ntmps12
    go_wp2
    go_ret
    rw [HR.out]
    exact ⟨rfl, hb⟩

theorem ends_any (d s : BitVec 32) (hd : 1 ≤ d.toNat) (w : World) : Calls Try.prog 25 #[.int .u32 s.toNat, .int .u32 d.toNat] w fun e w' => e = .returned (.bool (decide (hit d s))) ∧ w = w' := by
  have h1 := d.isLt
  have h2 := s.isLt
  have H := Lib.hid (show decide (hit d s) = decide (s.toNat % d.toNat = d.toNat - 1) from rfl)
  generalize decide (hit d s) = r at *
  generalize d.toNat = x at *
  generalize s.toNat = y at *
  clear d s
  have hx : ¬ x = 0 := by omega
  have h3 : ((y : Int) % (x : Int)) = ((y % x : Nat) : Int) := by omega
  have h4 : ((x : Int) - 1) = ((x - 1 : Nat) : Int) := by omega
  have h5 : (y % x) < x := Nat.mod_lt _ (by omega)
  generalize y % x = m at *
  have h6 : x - 1 < 4294967296 := by omega
  generalize x - 1 = p at *
  go_enter Try.func25, Try.ntmps25
  go_wp2
  go_ret
  exact ⟨by rw [H.out]; simp [BEq.beq]; omega, rfl⟩
end Go.Proofs.Ytmnbfmcgnddlaaa
