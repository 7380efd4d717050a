/- few: the first acts; the acts as they lie in memory. No statement of the seat is proved here. -/
import Derived.Test.YtiomfkhblmmdoaaTrKit
import Derived.Test.YtiomfkhblmmdoaaQuiet
import Derived.Deep.QuietTactic
import Derived.BigQuiet
namespace Go.Proofs.Ytiomfkhblmmdoaa
open Go.RowKit
set_option linter.unusedVariables false
set_option linter.unusedSimpArgs false
set_option maxRecDepth 100000

/-- An act: is the key dropped; the pair. -/
abbrev AT18 : Type := Bool × PT
def acs18 (a : AT18) : List Value := [.bool a.1, .string (st a.2.1), .string (st a.2.2)]
/-- A slice of acts that reads. -/
def RdQ (w : World) (B : Nat) (A : Option Addr) (ls : List AT18) : Prop := RdS w B 3 A (ls.map acs18)
section
variable {w w' : World} {B B' : Nat} {A : Option Addr} {ls : List AT18}
theorem RdQ.below (h : RdQ w B A ls) (hb : Below B w w') : RdQ w' B A ls := RdS.below h hb
theorem RdQ.more (h : RdQ w B A ls) (hB : B ≤ B') : RdQ w B' A ls := RdS.more h hB
theorem RdQ.on (h : RdQ w w.heap.size A ls) (hb : Below w.heap.size w w') : RdQ w' w'.heap.size A ls := (h.below hb).more hb.size
theorem RdQ.take (h : RdQ w B A ls) (k : Nat) : RdQ w B A (ls.take k) := by
  unfold RdQ
  rw [List.map_take]
  exact RdS.take h k
theorem RdQ.at_ (h : RdQ w B A ls) {j : Nat} (hj : j < ls.length) : ∃ g off, A = some ⟨g, off, none⟩ ∧ g < B ∧ w.cell? ⟨g, off + j * 3, none⟩ = some (.bool ls[j].1) ∧ w.cell? ⟨g, off + j * 3 + 1, none⟩ = some (.string (st ls[j].2.1)) ∧ w.cell? ⟨g, off + j * 3 + 2, none⟩ = some (.string (st ls[j].2.2)) := by
  obtain ⟨g, off, e, hg, hc⟩ := h (by simp; omega)
  have h1 := hc j (by simpa using hj) 0 (.bool ls[j].1) (by simp [acs18])
  have h2 := hc j (by simpa using hj) 1 (.string (st ls[j].2.1)) (by simp [acs18])
  have h3 := hc j (by simpa using hj) 2 (.string (st ls[j].2.2)) (by simp [acs18])
  exact ⟨g, off, e, hg, by simpa using h1, by simpa using h2, by simpa using h3⟩
end
/-- Acts of short texts. -/
def Short18 (ls : List AT18) : Prop := ∀ x ∈ ls, x.2.1.length ≤ 20000 ∧ x.2.2.length ≤ 20000
theorem Short18.snoc {ls : List AT18} {j : Nat} (hj : j < ls.length) (h : Short18 (ls.take j)) (h1 : ls[j].2.1.length ≤ 20000) (h2 : ls[j].2.2.length ≤ 20000) : Short18 (ls.take (j + 1)) := fun x hx => by
  rw [List.take_succ_eq_append_getElem hj] at hx
  rcases List.mem_append.1 hx with hx | hx
  · exact h x hx
  · rw [List.mem_singleton.1 hx]
    exact ⟨h1, h2⟩
set_option maxHeartbeats 8000000 in
theorem few_any (A : Option Addr) (ls : List AT18) (k c : Nat) (hl : ls.length = k) (hc : k ≤ c) (hcm : c ≤ maxLen) (w : World) (hr : RdQ w w.heap.size A ls) :
    Calls Try.prog 10 #[.slice A k c] w fun e w' => ∃ m, m ≤ k ∧ m ≤ 200 ∧ Short18 (ls.take m) ∧ e = .returned (.slice A m c) ∧ Below w.heap.size w w' := by
  have HPL := Lib.hid hl
  have HA := Lib.hid (show ∀ W, Below w.heap.size w W → RdQ W w.heap.size A ls from fun W hb => hr.below hb)
  unfold maxLen at hcm
  have hkc : (k : Int) ≤ (c : Int) := by omega
  have hcm' : (c : Int) ≤ 9223372036854775807 := by omega
  clear hl hr
  go_enter Try.func10, Try.ntmps10
  go_wp2_with fail
  go_loopw [3, 7] (fun l i wr => ∃ (j : Nat) (L : Int), j ≤ k ∧ j ≤ 200 ∧ 0 ≤ L ∧ L ≤ 20000 ∧ i = .int .i64 (j : Nat) ∧ l = .int .i64 L ∧ Hid (Short18 (ls.take j)) ∧ Hid (Below w.heap.size w wr)) (fun _ i _ => k - (intOf i).toNat)
  case atStart => exact ⟨0, 20000, Nat.zero_le _, Nat.zero_le _, by decide, by decide, rfl, rfl, Lib.hid (fun x hx => by simp at hx), Lib.hid (Below.refl _ _)⟩
  case round =>
    obtain ⟨j, L, hj, hj2, hL0, hL1, rfl, rfl, HS, HB⟩ := hrel
    by_cases hlt : j < k
    · have hjp : j < ls.length := by rw [HPL.out]; omega
      obtain ⟨g, off, rfl, hg, -, hc2, hc3⟩ := (HA.out _ HB.out).at_ hjp
      obtain ⟨X, hX⟩ : ∃ X, st ls[j].2.1 = X := ⟨_, rfl⟩
      obtain ⟨Y, hY⟩ : ∃ Y, st ls[j].2.2 = Y := ⟨_, rfl⟩
      rw [hX] at hc2
      rw [hY] at hc3
      have hi1 : (0 : Int) ≤ (j : Int) := by omega
      have hi2 : (j : Int) < (k : Int) := by omega
      have hjc : (j : Int) ≤ (c : Int) := by omega
      have HSN := Lib.hid (show X.size ≤ 20000 → Y.size ≤ 20000 → Short18 (ls.take (j + 1)) from fun h1 h2 => by
        rw [← hX, st_size] at h1
        rw [← hY, st_size] at h2
        exact HS.out.snoc hjp h1 h2)
      clear hX hY hjp
      by_cases h200 : j = 200
      · subst h200
        go_wp2_with fail
        go_quiet (fail)
        have HBQ := Lib.hid (HB.out.trans ((below_drewN (Below.refl wr.heap.size wr) nq).mono HB.out.size))
        go_wp2_with fail
        go_ret
        exact ⟨200, by omega, by omega, HS.out, rfl, HBQ.out⟩
      · have h2 : ¬ (200 : Int) ≤ (j : Int) := by omega
        have h2b : decide ((200 : Int) ≤ (j : Int)) = false := decide_eq_false h2
        by_cases ha : L < (X.size : Int)
        · have hab : decide (L < (X.size : Int)) = true := decide_eq_true ha
          go_wp2_with fail
          go_quiet (fail)
          have HBQ := Lib.hid (HB.out.trans ((below_drewN (Below.refl wr.heap.size wr) nq).mono HB.out.size))
          go_wp2_with fail
          go_ret
          exact ⟨j, by omega, by omega, HS.out, rfl, HBQ.out⟩
        · have hab : decide (L < (X.size : Int)) = false := decide_eq_false ha
          by_cases hb : L - (X.size : Int) < (Y.size : Int)
          · have hbb : decide (L - (X.size : Int) < (Y.size : Int)) = true := decide_eq_true hb
            go_wp2_with fail
            go_quiet (fail)
            have HBQ := Lib.hid (HB.out.trans ((below_drewN (Below.refl wr.heap.size wr) nq).mono HB.out.size))
            go_wp2_with fail
            go_ret
            exact ⟨j, by omega, by omega, HS.out, rfl, HBQ.out⟩
          · have hbb : decide (L - (X.size : Int) < (Y.size : Int)) = false := decide_eq_false hb
            go_wp2_with fail
            go_quiet (fail)
            have HBQ := Lib.hid (HB.out.trans ((below_drewN (Below.refl wr.heap.size wr) nq).mono HB.out.size))
            go_wp2_with fail
            have c2 : (wr.drewN nq).cell? ⟨g, off + j * 3 + 1, none⟩ = some (.string X) := hc2
            have c3 : (wr.drewN nq).cell? ⟨g, off + j * 3 + 2, none⟩ = some (.string Y) := hc3
            generalize wr.drewN nq = wq at *
            clear hc2 hc3 hab hbb h2b
            go_quiet (fail)
            have HBR := Lib.hid (HBQ.out.trans ((below_drewN (Below.refl wq.heap.size wq) nq).mono HBQ.out.size))
            go_wp2_with fail
            go_roundw
            case rel => exact ⟨j + 1, L - ((X.size : Int) + (Y.size : Int)), by omega, by omega, by omega, by omega, by go_num, by go_num, Lib.hid (HSN.out (by omega) (by omega)), HBR⟩
            case measure => simp [intOf]; omega
    · obtain rfl : j = k := by omega
      go_wp2_with fail
      go_ret
      exact ⟨j, by omega, by omega, HS.out, rfl, HB.out⟩
end Go.Proofs.Ytiomfkhblmmdoaa
