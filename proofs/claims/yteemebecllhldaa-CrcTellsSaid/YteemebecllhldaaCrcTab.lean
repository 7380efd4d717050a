/- The contract of effects: a table of 256 numbers, returned by value. No statement of the seat is proved here. -/
import Derived.Test.YteemebecllhldaaCrcA
import Derived.Deep.WholeRow
namespace Go.Proofs.Yteemebecllhldaa
open Go.RowKit

/-- What eight steps make of a register that has byte v in its highest bits. -/
def tab (v : Nat) : Nat := (stps 8 (BitVec.ofNat 32 (v * 16777216))).toNat
theorem tab_wide (c : UInt8) : tab c.toNat = (stps 8 (wide c)).toNat := rfl
theorem tab_zero : tab 0 = 0 := by decide +kernel
theorem tab_lt (v : Nat) : tab v < 4294967296 := (stps 8 (BitVec.ofNat 32 (v * 16777216))).isLt
theorem tab_even : ∀ h : Fin 128, tab (2 * h.val) = (stp (stps 8 (BitVec.ofNat 32 (h.val * 16777216)))).toNat := by decide +kernel
theorem tab_odd : ∀ h : Fin 128, tab (2 * h.val + 1) = tab (2 * h.val) ^^^ 79764919 := by decide +kernel

/-- The table when k pairs of it are laid. -/
def tabTo (k : Nat) : Array Value := (Array.range 256).map fun v => Value.int .u32 (if v < 2 * k then tab v else 0)
theorem tabTo_size (k : Nat) : (tabTo k).size = 256 := by simp [tabTo]
theorem tabTo_get (k v : Nat) (h : v < 256) : (tabTo k)[v]? = some (.int .u32 (if v < 2 * k then tab v else 0)) := by simp [tabTo, h]
theorem tabTo_read (k : Nat) (h : k < 128) : (tabTo k)[k]? = some (.int .u32 (tab k)) := by
  rw [tabTo_get k k (by omega)]
  by_cases h0 : k = 0
  · subst h0; rw [tab_zero]; rfl
  · rw [if_pos (by omega)]
theorem tabTo_next (k : Nat) (h : k < 128) : ((tabTo k).setIfInBounds (2 * k) (.int .u32 (tab (2 * k)))).setIfInBounds (2 * k + 1) (.int .u32 (tab (2 * k + 1))) = tabTo (k + 1) := by
  apply Array.ext_getElem?
  intro i
  rw [Array.getElem?_setIfInBounds, Array.getElem?_setIfInBounds]
  simp only [Array.size_setIfInBounds, tabTo_size]
  by_cases hi : i < 256
  · rw [tabTo_get _ i hi, tabTo_get _ i hi]
    by_cases h1 : 2 * k + 1 = i
    · subst h1; rw [if_pos rfl, if_pos (by omega), if_pos (by omega)]
    · rw [if_neg h1]
      by_cases h2 : 2 * k = i
      · subst h2; rw [if_pos rfl, if_pos (by omega), if_pos (by omega)]
      · rw [if_neg h2]
        by_cases h3 : i < 2 * k
        · rw [if_pos h3, if_pos (by omega)]
        · rw [if_neg h3, if_neg (by omega)]
  · rw [if_neg (by omega), if_neg (by omega), Array.getElem?_eq_none (by rw [tabTo_size]; omega), Array.getElem?_eq_none (by rw [tabTo_size]; omega)]

theorem info_tab : (Try.prog.info? 37).map (fun i => (i.zero, i.size)) = some (some (.agg (tabTo 0)), 256) := by kernel_rfl
end Go.Proofs.Yteemebecllhldaa
