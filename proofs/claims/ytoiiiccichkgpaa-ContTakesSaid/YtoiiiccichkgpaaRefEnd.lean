/- The reference's reader: End, without package codec. No statement of the seat is proved here. -/
import Derived.Test.YtoiiiccichkgpaaRefGet
import Derived.Test.YtoiiiccichkgpaaQuiet
namespace Go.Proofs.Ytoiiiccichkgpaa
open Go.RowKit
set_option linter.unusedVariables false

set_option maxHeartbeats 1000000 in
theorem rend_two (g c i : Nat) (A : Option Addr) (l : List UInt8) (f : Int) (w : World) (h : Ref w g A c l i f) :
    Calls Try.prog 34 #[.pointer (some ⟨g, 0, none⟩)] w fun e w' => e = .returned (.int .i64 (if f = 0 ∧ i < l.length then 11 else f)) ∧ Below w.heap.size w w' := by
  have hc0 := h.1.cell 0
  have hc1 := h.1.cell 1
  have hc2 := h.1.cell 2
  clear h
  by_cases hf : f = 0
  · subst hf
    by_cases hi : i < l.length
    · rw [if_pos ⟨rfl, hi⟩]
      have hi' : (i : Int) < (l.length : Int) := by omega
      clear hi
      go_enter Try.func34, Try.ntmps34
      go_wp2_with fail
      go_quiet (fail)
      go_wp2_with fail
      go_ret
      exact ⟨rfl, below_drewN (Below.refl _ _) _⟩
    · rw [if_neg (by omega)]
      have hi' : ¬ (i : Int) < (l.length : Int) := by omega
      clear hi
      go_enter Try.func34, Try.ntmps34
      go_wp2_with fail
      go_quiet (fail)
      go_wp2_with fail
      go_ret
      exact ⟨rfl, below_drewN (Below.refl _ _) _⟩
  · rw [if_neg (by omega)]
    have hf' : (f == 0) = false := by simpa using hf
    clear hf
    go_enter Try.func34, Try.ntmps34
    go_wp2_with fail
    go_quiet (fail)
    go_wp2_with fail
    go_ret
    exact ⟨rfl, below_drewN (Below.refl _ _) _⟩
end Go.Proofs.Ytoiiiccichkgpaa
