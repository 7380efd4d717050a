/- The landed finder: held, All, Len, Shelf (written by gen/gen_fdlandh.py). No statement of the seat is proved here. -/
import Derived.Test.YtoofhaoaogoomaaGreatFdLandA
namespace Go.Proofs.YtoofhaoaogoomaaGreat
open Go.RowKit
set_option linter.unusedVariables false
set_option linter.unusedSimpArgs false
set_option maxRecDepth 100000

theorem lheld_lt {w0 w : World} {F0 : Nat → Prop} {d : Nat} {a b c : Addr} {f : FS} (h : LfT w0 F0 d a b c w f) : Calls Tryz.prog 51 #[.pointer (some ⟨d, 0, none⟩)] w fun e w' => e = .returned (.pointer (some c)) ∧ w' = w := by
  have dc : w.cell? ⟨d, 0, none⟩ = some (.pointer (some c)) := h.blk.cell 0
  clear h
  go_enter Tryz.func51, Tryz.ntmps51
  go_wp2_with fail
  go_ret
  exact ⟨rfl, rfl⟩
theorem lheld_nil (w : World) : Calls Tryz.prog 51 #[.pointer none] w fun e w' => e = .returned (.pointer none) ∧ w' = w := by
  go_enter Tryz.func51, Tryz.ntmps51
  go_wp2_with fail
  go_ret
  exact ⟨rfl, rfl⟩
section
variable {w0 w : World} {F0 : Nat → Prop} {d : Nat} {a b c : Addr} {f : FS}
set_option maxHeartbeats 4000000 in
theorem lall_lt (h : LfT w0 F0 d a b c w f) (hl : f.L.length ≤ 900) : Calls Tryz.prog 20 #[.pointer (some ⟨d, 0, none⟩)] w fun e w' => ∃ A' c', e = .returned (.slice A' f.L.length c') ∧ RdRw w' w'.heap.size A' f.L ∧ f.L.length ≤ c' ∧ c' ≤ maxLen ∧ (∀ ad, A' = some ad → w.heap.size ≤ ad.block) ∧ Below w.heap.size w w' := by
  have KH := Lib.hid (lheld_lt h)
  have KA := Lib.hid (lt_xall h (by omega))
  clear h
  go_enter Tryz.func20, Tryz.ntmps20
  go_wp2_with fail
  refine KH.out.mono ?_
  rintro e wy ⟨rfl, hwy⟩
  obtain rfl : w = wy := hwy.symm
  clear KH
  go_wp2_with fail
  refine KA.out.mono ?_
  rintro e w1 ⟨A', c', rfl, hq⟩
  have HQ := Lib.hid hq
  clear hq
  go_wp2_with fail
  go_ret
  exact ⟨A', c', rfl, HQ.out⟩
set_option maxHeartbeats 4000000 in
theorem llen_lt (h : LfT w0 F0 d a b c w f) (hl : f.L.length ≤ 900) : Calls Tryz.prog 21 #[.pointer (some ⟨d, 0, none⟩)] w fun e w' => e = .returned (.int .i64 (f.L.length : Nat)) ∧ Below w.heap.size w w' := by
  have KH := Lib.hid (lheld_lt h)
  have KA := Lib.hid (lt_xlen h (by omega))
  clear h
  go_enter Tryz.func21, Tryz.ntmps21
  go_wp2_with fail
  refine KH.out.mono ?_
  rintro e wy ⟨rfl, hwy⟩
  obtain rfl : w = wy := hwy.symm
  clear KH
  go_wp2_with fail
  refine KA.out.mono ?_
  rintro e w1 ⟨rfl, hq⟩
  have HQ := Lib.hid hq
  clear hq
  go_wp2_with fail
  go_ret
  exact ⟨rfl, HQ.out⟩
set_option maxHeartbeats 4000000 in
theorem lshelf_lt (h : LfT w0 F0 d a b c w f) (hl : f.L.length ≤ 900) (at_ : Int) (ha : In64 at_) : Calls Tryz.prog 25 #[.pointer (some ⟨d, 0, none⟩), .int .i64 at_] w fun e w' => ∃ A' c', e = .returned (.slice A' (shelfX f.L at_).length c') ∧ RdRw w' w'.heap.size A' (shelfX f.L at_) ∧ (shelfX f.L at_).length ≤ c' ∧ c' ≤ maxLen ∧ (∀ ad, A' = some ad → w.heap.size ≤ ad.block) ∧ Below w.heap.size w w' := by
  have KH := Lib.hid (lheld_lt h)
  have KA := Lib.hid (lt_xshelf h (by omega) at_ ha)
  clear h
  go_enter Tryz.func25, Tryz.ntmps25
  go_wp2_with fail
  refine KH.out.mono ?_
  rintro e wy ⟨rfl, hwy⟩
  obtain rfl : w = wy := hwy.symm
  clear KH
  go_wp2_with fail
  refine KA.out.mono ?_
  rintro e w1 ⟨A', c', rfl, hq⟩
  have HQ := Lib.hid hq
  clear hq
  go_wp2_with fail
  go_ret
  exact ⟨A', c', rfl, HQ.out⟩
end
end Go.Proofs.YtoofhaoaogoomaaGreat
