/- SameInts (cellarageref09) of the statements. No statement of the seat is proved here. -/
import Derived.Test.YtmnjaocdhelebaaStKit
import Derived.Test.YtmnjaocdhelebaaQuiet
import Derived.Deep.QuietTactic
import Derived.Laws.StructEq
namespace Go.Proofs.Ytmnjaocdhelebaa
open Go.RowKit
set_option linter.unusedVariables false

theorem rdv_of_own {w : World} {b n c : Nat} {e : TypeId} {A : Option Addr} {l : List Int} (h : w.ownsRow b e 1 (.slice A n c) n (iv l)) : RdV w w.heap.size A (iv l) := fun h0 => by
  have hl : (iv l).length = n := by have := h.1; omega
  obtain ⟨g, hA, _, hlt, hr⟩ := row_at h (by omega)
  refine ⟨g, 0, hA, hlt, fun j hj => ?_⟩
  rw [Nat.zero_add]
  exact (hr j _ (List.getElem?_eq_getElem hj)).1
set_option maxHeartbeats 1000000 in
theorem same_any (A : Option Addr) (n c : Nat) (l : List Int) (A2 : Option Addr) (n2 c2 : Nat) (l2 : List Int) (hl : l.length = n) (hl2 : l2.length = n2) (hn : n ≤ 100000) (hn2 : n2 ≤ 100000) (w : World) (hr : RdV w w.heap.size A (iv l)) (hr2 : RdV w w.heap.size A2 (iv l2)) :
    Calls Try.prog 17 #[.slice A n c, .slice A2 n2 c2] w fun e w' => e = .returned (.bool (decide (l = l2))) ∧ Below w.heap.size w w' := by
  by_cases hnn : n = n2
  · subst hnn
    have HR := Lib.hid (And.intro hr hr2)
    have HL := Lib.hid (And.intro hl hl2)
    clear hr hr2 hl hl2
    obtain ⟨B, hB⟩ : ∃ B, decide (l = l2) = B := ⟨_, rfl⟩
    have HB := Lib.hid hB
    rw [hB]
    clear hB
    go_enter Try.func17, Try.ntmps17
    go_wp2_with fail
    go_loopw [5] (fun i wr => ∃ j : Nat, j ≤ n ∧ i = .int .i64 j ∧ Hid (l.take j = l2.take j ∧ Below w.heap.size w wr)) (fun i _ => n - (intOf i).toNat)
    case atStart => exact ⟨0, Nat.zero_le _, rfl, Lib.hid ⟨by simp, Below.refl _ _⟩⟩
    case round =>
      obtain ⟨j, hj, rfl, hst⟩ := hrel
      by_cases hlt : j < n
      · have hj1 : j < l.length := by rw [HL.out.1]; exact hlt
        have hj2 : j < l2.length := by rw [HL.out.2]; exact hlt
        obtain ⟨g, off, hA, hg, hc⟩ := HR.out.1 (by rw [iv_length]; omega)
        obtain ⟨g2, off2, hA2, hg2, hc2⟩ := HR.out.2 (by rw [iv_length]; omega)
        obtain ⟨x, hx⟩ : ∃ x, l[j] = x := ⟨_, rfl⟩
        obtain ⟨y, hy⟩ : ∃ y, l2[j] = y := ⟨_, rfl⟩
        have hcx : wr.cell? ⟨g, off + j, none⟩ = some (.int .i64 x) := by
          have h1 := hc j (by rw [iv_length]; exact hj1)
          have h2 : (iv l)[j]'(by rw [iv_length]; exact hj1) = .int .i64 x := by simp [iv, hx]
          rw [h2] at h1
          exact (hst.out.2.cell (p := ⟨g, off + j, none⟩) hg).trans h1
        have hcy : wr.cell? ⟨g2, off2 + j, none⟩ = some (.int .i64 y) := by
          have h1 := hc2 j (by rw [iv_length]; exact hj2)
          have h2 : (iv l2)[j]'(by rw [iv_length]; exact hj2) = .int .i64 y := by simp [iv, hy]
          rw [h2] at h1
          exact (hst.out.2.cell (p := ⟨g2, off2 + j, none⟩) hg2).trans h1
        have HT := Lib.hid (show l.take (j + 1) = l.take j ++ [x] ∧ l2.take (j + 1) = l2.take j ++ [y] from ⟨by rw [List.take_succ_eq_append_getElem hj1, hx], by rw [List.take_succ_eq_append_getElem hj2, hy]⟩)
        have hi1 : (0 : Int) ≤ (j : Int) := by omega
        have hi2 : (j : Int) < (n : Int) := by omega
        have HXY := Lib.hid (And.intro hx hy)
        subst hA hA2
        by_cases hxy : x = y
        · subst hxy
          have HBW := Lib.hid hst.out
          clear hst hc hc2 hx hy hg hg2
          go_wp2_with fail
          go_quiet (fail)
          go_wp2_with fail
          go_roundw
          case rel => exact ⟨j + 1, by omega, by go_num, Lib.hid ⟨by rw [HT.out.1, HT.out.2, HBW.out.1], below_drewN HBW.out.2 _⟩⟩
          case measure => simp [intOf]; omega
        · have HBW := Lib.hid hst.out.2
          have hxy1 : decide (x = y) = false := by simpa using hxy
          obtain rfl : B = false := by
            rw [← HB.out]
            have : ¬ l = l2 := fun e => hxy (by rw [← HXY.out.1, ← HXY.out.2]; simp only [e])
            simpa using this
          clear hst hc hc2 hx hy hg hg2
          go_wp2_with fail
          go_quiet (fail)
          go_wp2_with fail
          go_ret
          exact ⟨rfl, below_drewN HBW.out _⟩
      · obtain rfl : n = j := by omega
        have h1 := hst.out.1
        rw [List.take_of_length_le (by rw [HL.out.1]; exact Nat.le_refl _), List.take_of_length_le (by rw [HL.out.2]; exact Nat.le_refl _)] at h1
        obtain rfl : B = true := by rw [← HB.out]; simpa using h1
        have HBW := Lib.hid hst.out.2
        clear hst h1
        go_wp2_with fail
        go_ret
        exact ⟨rfl, HBW.out⟩
  · have hne : decide (l = l2) = false := by
      have : ¬ l = l2 := fun e => hnn (by rw [← hl, ← hl2, e])
      simpa using this
    rw [hne]
    have hni : ¬ (n : Int) = (n2 : Int) := by omega
    clear hr hr2 hl hl2 hne
    go_enter Try.func17, Try.ntmps17
    go_wp2_with fail
    go_ret
    exact ⟨rfl, Below.refl _ _⟩
end Go.Proofs.Ytmnjaocdhelebaa
