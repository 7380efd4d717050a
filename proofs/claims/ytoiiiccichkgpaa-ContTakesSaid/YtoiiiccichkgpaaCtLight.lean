/- light, of the statements of stage 11. No statement of the seat is proved here. -/
import Derived.Test.YtoiiiccichkgpaaCtMF
namespace Go.Proofs.Ytoiiiccichkgpaa
open Go.RowKit
set_option linter.unusedVariables false
set_option linter.unusedSimpArgs false

/-- Few pieces, of few bytes. -/
def lightC (ls : List PieceT) : Bool := decide (ls.length ≤ 1100 ∧ (ls.map fun x => x.p.data.length).sum ≤ 100000)
theorem sum_take {ls : List PieceT} {j : Nat} (hj : j < ls.length) : ((ls.take (j + 1)).map fun x => x.p.data.length).sum = ((ls.take j).map fun x => x.p.data.length).sum + ls[j].p.data.length := by
  rw [List.take_succ_eq_append_getElem hj, List.map_append, List.sum_append]
  simp
theorem sum_take_le (ls : List PieceT) (j : Nat) : ((ls.take j).map fun x => x.p.data.length).sum ≤ (ls.map fun x => x.p.data.length).sum := by
  conv => rhs; rw [← List.take_append_drop j ls, List.map_append, List.sum_append]
  omega
theorem light_small {ls : List PieceT} (h : lightC ls = true) : SmallC ls := by
  simp only [lightC, decide_eq_true_eq] at h
  refine ⟨by omega, ?_⟩
  have e : sizeC (pds ls) = 10 + (38 * ls.length + (ls.map fun x => x.p.data.length).sum) := by
    unfold sizeC pds
    congr 1
    clear h
    induction ls with
    | nil => rfl
    | cons x ls ih =>
      simp only [List.map_cons, List.sum_cons, List.length_cons]
      rw [ih]
      omega
  omega
set_option maxRecDepth 100000 in
set_option maxHeartbeats 2000000 in
theorem light_any (A : Option Addr) (ls : List PieceT) (k c : Nat) (hl : ls.length = k) (w : World) (hr : RdPc w w.heap.size A ls) :
    Calls Try.prog 10 #[.slice A k c] w fun e w' => e = .returned (.bool (lightC ls)) ∧ w = w' := by
  obtain ⟨R, hR⟩ : ∃ R, lightC ls = R := ⟨_, rfl⟩
  rw [hR]
  have HK := Lib.hid (And.intro hr (And.intro hl hR))
  clear hr hl hR
  go_enter Try.func10, Try.ntmps10
  go_wp2_with fail
  go_loopw [3, 4, 7] (fun t v i wr => ∃ j s : Nat, j ≤ k ∧ j ≤ 1100 ∧ i = .int .i64 j ∧ t = .int .i64 s ∧ s ≤ 100000 ∧ Hid (((ls.take j).map fun x => x.p.data.length).sum + s = 100000) ∧ w = wr) (fun _ _ i _ => k - (intOf i).toNat)
  case atStart => exact ⟨0, 100000, Nat.zero_le _, by omega, rfl, rfl, by omega, Lib.hid rfl, rfl⟩
  case round =>
    obtain ⟨j, s, hj, hj2, rfl, rfl, hs, hst, rfl⟩ := hrel
    by_cases hlt : j < k
    · by_cases h11 : 1100 ≤ j
      · have hR : Hid (false = R) := Lib.hid <| by
          rw [← HK.out.2.2]
          symm
          simp only [lightC, decide_eq_false_iff_not]
          rintro ⟨h, _⟩
          have := HK.out.2.1
          omega
        have h11i : (1100 : Int) ≤ (j : Int) := by omega
        have hg : decide ((1100 : Int) ≤ (j : Int)) = true := decide_eq_true h11i
        clear hst
        go_wp2_with fail
        go_ret
        exact ⟨by rw [← hR.out]; rfl, rfl⟩
      · have hjl : j < ls.length := by rw [HK.out.2.1]; exact hlt
        obtain ⟨g, off, rfl, _, hcd, ho⟩ := HK.out.1.data hjl
        have h1 := sum_take hjl
        have h2 := sum_take_le ls (j + 1)
        obtain ⟨D, hD⟩ : ∃ D, ls[j].p.data.length = D := ⟨_, rfl⟩
        rw [hD] at hcd h1
        obtain ⟨B, hB⟩ : ∃ B, ls[j].adr = B := ⟨_, rfl⟩
        obtain ⟨C, hC⟩ : ∃ C, ls[j].cap = C := ⟨_, rfl⟩
        rw [hB, hC] at hcd
        have hi1 : (0 : Int) ≤ (j : Int) := by omega
        have hi2 : (j : Int) < (k : Int) := by omega
        have h11i : ¬ (1100 : Int) ≤ (j : Int) := by omega
        have hg : decide ((1100 : Int) ≤ (j : Int)) = false := decide_eq_false h11i
        by_cases hb : s < D
        · have hR : Hid (false = R) := Lib.hid <| by
            rw [← HK.out.2.2]
            symm
            simp only [lightC, decide_eq_false_iff_not]
            rintro ⟨_, h⟩
            have := hst.out
            omega
          have hbi : (s : Int) < (D : Int) := by omega
          clear hst hD hB hC ho h1 h2 hb hs hj hj2
          have hgt : decide ((s : Int) < (D : Int)) = true := decide_eq_true hbi
          go_wp2_with fail
          go_ret
          exact ⟨by rw [← hR.out]; rfl, rfl⟩
        · have hbi : ¬ (s : Int) < (D : Int) := by omega
          have HNX := Lib.hid (show ((ls.take (j + 1)).map fun x => x.p.data.length).sum + (s - D) = 100000 by have := hst.out; omega)
          have hsd : ((s - D : Nat) : Int) = (s : Int) - (D : Int) := by omega
          clear hst hD hB hC ho h1 h2
          go_wp2_with fail
          go_roundw
          case rel => exact ⟨j + 1, s - D, by omega, by omega, by go_num, by rw [hsd], by omega, HNX, trivial⟩
          case measure => simp [intOf]; omega
    · obtain rfl : j = k := by omega
      have hR : Hid (true = R) := Lib.hid <| by
        rw [← HK.out.2.2]
        symm
        simp only [lightC, decide_eq_true_eq]
        have e : ls.take j = ls := List.take_of_length_le (by rw [HK.out.2.1]; exact Nat.le_refl _)
        have := hst.out
        rw [e] at this
        exact ⟨by have := HK.out.2.1; omega, by omega⟩
      clear hst
      go_wp2_with fail
      go_ret
      exact ⟨by rw [← hR.out]; rfl, rfl⟩
end Go.Proofs.Ytoiiiccichkgpaa
