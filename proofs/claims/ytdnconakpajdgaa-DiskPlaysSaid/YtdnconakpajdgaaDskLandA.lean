/- The contracts of the package's disk: has, begin, Size, Pending, Dead, Done, Cut, Read. No statement of the seat is proved here. -/
import Derived.Test.YtdnconakpajdgaaDskLand
namespace Go.Proofs.Ytdnconakpajdgaa
open Go.RowKit
set_option linter.unusedVariables false
set_option linter.unusedSimpArgs false

theorem sector_size : (Try.prog.info? 64).map (·.size) = some 128 := by kernel_rfl
theorem sector_desc : ∃ n e, Try.prog.underlying 64 = some (.array n e) := ⟨_, _, Try.underlying64⟩
section
variable {w : World} {d : Nat} {An : Option Addr} {cn : Nat} {As : Option Addr} {cs : Nat} {Ap : Option Addr} {cp : Nat} {n : Nat} {N Sf : Nat → List UInt8} {ps : List (Nat × List UInt8)} {fl : Fl}
theorem has_yes (h : LD w d An cn As cs Ap cp n N Sf ps fl) (t : Nat) (ht : t < n) (hn : n ≤ 16384) : Calls Try.prog 29 #[.pointer (some ⟨d, 0, none⟩), .int .i64 (t : Nat)] w fun e w' => e = .returned (.bool true) ∧ w = w' := by
  have hc0 : w.cell? ⟨d, 0, none⟩ = some (.slice An n cn) := h.blk.cell 0
  have h1 : (0 : Int) ≤ (t : Int) := by omega
  have h2 : (t : Int) < (n : Int) := by omega
  clear h ht
  go_enter Try.func29, Try.ntmps29
  go_wp2_with fail
  go_ret
  exact ⟨rfl, rfl⟩
theorem has_no (h : LD w d An cn As cs Ap cp n N Sf ps fl) (at_ : Int) (ha : at_ < 0 ∨ (n : Int) ≤ at_) (hn : n ≤ 16384) : Calls Try.prog 29 #[.pointer (some ⟨d, 0, none⟩), .int .i64 at_] w fun e w' => e = .returned (.bool false) ∧ w = w' := by
  have hc0 : w.cell? ⟨d, 0, none⟩ = some (.slice An n cn) := h.blk.cell 0
  clear h
  by_cases h1 : at_ < 0
  · have h2 : ¬ (0 : Int) ≤ at_ := by omega
    clear ha
    go_enter Try.func29, Try.ntmps29
    go_wp2_with fail
    go_ret
    exact ⟨rfl, rfl⟩
  · have h2 : (0 : Int) ≤ at_ := by omega
    have h3 : ¬ at_ < (n : Int) := by omega
    clear ha h1
    go_enter Try.func29, Try.ntmps29
    go_wp2_with fail
    go_ret
    exact ⟨rfl, rfl⟩
set_option maxHeartbeats 1000000 in
theorem begin_any (h : LD w d An cn As cs Ap cp n N Sf ps fl) (hc : fl.cnt ≤ 100000) (hl : In64 fl.left) (hp : fl.cut = true → 0 ≤ fl.left) : Calls Try.prog 30 #[.pointer (some ⟨d, 0, none⟩)] w fun e w' => e = .returned (.bool (beginF fl).2) ∧ LD w' d An cn As cs Ap cp n N Sf ps (beginF fl).1 ∧ w.grownBy w' (some d) := by
  obtain ⟨dead, cut, left, cnt⟩ := fl
  have hc3 : w.cell? ⟨d, 3, none⟩ = some (.bool dead) := h.blk.cell 3
  have hc4 : w.cell? ⟨d, 4, none⟩ = some (.bool cut) := h.blk.cell 4
  have hc5 : w.cell? ⟨d, 5, none⟩ = some (.int .i64 left) := h.blk.cell 5
  have hc6 : w.cell? ⟨d, 6, none⟩ = some (.int .i64 (cnt : Nat)) := h.blk.cell 6
  have hf3 := h.blk.frozen 3
  have hf5 := h.blk.frozen 5
  have hf6 := h.blk.frozen 6
  have HD := Lib.hid (h.flag (fl' := ⟨true, cut, left, cnt⟩) 3 (.bool true) rfl)
  have HDG := Lib.hid (grown_cell w d 3 (.bool true))
  have HC := Lib.hid (h.flag (fl' := ⟨dead, cut, left, cnt + 1⟩) 6 (.int .i64 ((cnt + 1 : Nat) : Int)) rfl)
  have HCG := Lib.hid (grown_cell w d 6 (.int .i64 ((cnt + 1 : Nat) : Int)))
  have HL := Lib.hid ((h.flag (fl' := ⟨dead, cut, left - 1, cnt⟩) 5 (.int .i64 (left - 1)) rfl).flag (fl' := ⟨dead, cut, left - 1, cnt + 1⟩) 6 (.int .i64 ((cnt + 1 : Nat) : Int)) rfl)
  have HLG := Lib.hid (grown_trans (grown_cell w d 5 (.int .i64 (left - 1))) (grown_cell _ d 6 (.int .i64 ((cnt + 1 : Nat) : Int))))
  have H := Lib.hid h
  have hw1 : IntKind.i64.wrap ((cnt : Int) + 1) = ((cnt + 1 : Nat) : Int) := by simp only at hc; rw [IntKind.wrap_i64]; omega
  cases cut with
  | false =>
    cases dead with
    | false =>
      show Calls _ _ _ _ fun e w' => e = .returned (.bool true) ∧ LD w' d An cn As cs Ap cp n N Sf ps ⟨false, false, left, cnt + 1⟩ ∧ _
      clear h hc hl hp
      go_enter Try.func30, Try.ntmps30
      go_wp2_with fail
      go_ret
      exact ⟨rfl, HC.out, HCG.out⟩
    | true =>
      show Calls _ _ _ _ fun e w' => e = .returned (.bool false) ∧ LD w' d An cn As cs Ap cp n N Sf ps ⟨true, false, left, cnt⟩ ∧ _
      clear h hc hl hp
      go_enter Try.func30, Try.ntmps30
      go_wp2_with fail
      go_ret
      exact ⟨rfl, H.out, World.grownBy.refl _ _⟩
  | true =>
    by_cases hz : left = 0
    · subst hz
      have e : beginF ⟨dead, true, 0, cnt⟩ = (⟨true, true, 0, cnt⟩, false) := by simp [beginF]
      rw [e]
      clear h hc hl hp e
      go_enter Try.func30, Try.ntmps30
      go_wp2_with fail
      go_ret
      exact ⟨rfl, HD.out, HDG.out⟩
    · have hz2 : (left == 0) = false := by simpa using hz
      cases dead with
      | true =>
        show Calls _ _ _ _ fun e w' => e = .returned (.bool false) ∧ LD w' d An cn As cs Ap cp n N Sf ps ⟨true, true, left, cnt⟩ ∧ _
        clear h hc hl hp hz2
        go_enter Try.func30, Try.ntmps30
        go_wp2_with fail
        go_ret
        exact ⟨rfl, H.out, World.grownBy.refl _ _⟩
      | false =>
        have e : beginF ⟨false, true, left, cnt⟩ = (⟨false, true, left - 1, cnt + 1⟩, true) := by simp [beginF, hz2]
        rw [e]
        have hp0 : 0 ≤ left := hp rfl
        have hl2 : left ≤ 9223372036854775807 := hl.2
        have hw2 : IntKind.i64.wrap (left - 1) = left - 1 := by rw [IntKind.wrap_i64]; omega
        clear h hc hl hp hz2 e hl2
        go_enter Try.func30, Try.ntmps30
        go_wp2_with fail
        go_ret
        exact ⟨rfl, HL.out, HLG.out⟩
theorem size_any (h : LD w d An cn As cs Ap cp n N Sf ps fl) : Calls Try.prog 25 #[.pointer (some ⟨d, 0, none⟩)] w fun e w' => e = .returned (.int .i64 (n : Nat)) ∧ w = w' := by
  have hc0 : w.cell? ⟨d, 0, none⟩ = some (.slice An n cn) := h.blk.cell 0
  clear h
  go_enter Try.func25, Try.ntmps25
  go_wp2_with fail
  go_ret
  exact ⟨rfl, rfl⟩
theorem pending_any (h : LD w d An cn As cs Ap cp n N Sf ps fl) : Calls Try.prog 22 #[.pointer (some ⟨d, 0, none⟩)] w fun e w' => e = .returned (.int .i64 (ps.length : Nat)) ∧ w = w' := by
  have hc0 : w.cell? ⟨d, 2, none⟩ = some (.slice Ap ps.length cp) := h.blk.cell 2
  clear h
  generalize ps.length = p at *
  go_enter Try.func22, Try.ntmps22
  go_wp2_with fail
  go_ret
  exact ⟨rfl, rfl⟩
theorem dead_any (h : LD w d An cn As cs Ap cp n N Sf ps fl) : Calls Try.prog 23 #[.pointer (some ⟨d, 0, none⟩)] w fun e w' => e = .returned (.bool fl.dead) ∧ w = w' := by
  have hc0 : w.cell? ⟨d, 3, none⟩ = some (.bool fl.dead) := h.blk.cell 3
  clear h
  generalize fl.dead = b at *
  go_enter Try.func23, Try.ntmps23
  go_wp2_with fail
  go_ret
  exact ⟨rfl, rfl⟩
theorem done_any (h : LD w d An cn As cs Ap cp n N Sf ps fl) : Calls Try.prog 21 #[.pointer (some ⟨d, 0, none⟩)] w fun e w' => e = .returned (.int .i64 (fl.cnt : Nat)) ∧ w = w' := by
  have hc0 : w.cell? ⟨d, 6, none⟩ = some (.int .i64 (fl.cnt : Nat)) := h.blk.cell 6
  clear h
  generalize fl.cnt = b at *
  go_enter Try.func21, Try.ntmps21
  go_wp2_with fail
  go_ret
  exact ⟨rfl, rfl⟩
set_option maxHeartbeats 1000000 in
theorem cut_any (h : LD w d An cn As cs Ap cp n N Sf ps fl) (x : Int) : Calls Try.prog 20 #[.pointer (some ⟨d, 0, none⟩), .int .i64 x] w fun e w' => e = .returned (.tuple #[]) ∧ LD w' d An cn As cs Ap cp n N Sf ps (if fl.dead = true then fl else ⟨fl.dead, decide (0 ≤ x), x, fl.cnt⟩) ∧ w.grownBy w' (some d) := by
  obtain ⟨dead, cut, left, cnt⟩ := fl
  have hc3 : w.cell? ⟨d, 3, none⟩ = some (.bool dead) := h.blk.cell 3
  have hc4 : w.cell? ⟨d, 4, none⟩ = some (.bool cut) := h.blk.cell 4
  have hc5 : w.cell? ⟨d, 5, none⟩ = some (.int .i64 left) := h.blk.cell 5
  have hf4 := h.blk.frozen 4
  have hf5 := h.blk.frozen 5
  have HL := Lib.hid (fun b => (h.flag (fl' := ⟨dead, b, left, cnt⟩) 4 (.bool b) rfl).flag (fl' := ⟨dead, b, x, cnt⟩) 5 (.int .i64 x) rfl)
  have HLG := Lib.hid (fun b : Bool => grown_trans (grown_cell w d 4 (.bool b)) (grown_cell _ d 5 (.int .i64 x)))
  have H := Lib.hid h
  cases dead with
  | true =>
    show Calls _ _ _ _ fun e w' => e = .returned (.tuple #[]) ∧ LD w' d An cn As cs Ap cp n N Sf ps ⟨true, cut, left, cnt⟩ ∧ _
    clear h
    go_enter Try.func20, Try.ntmps20
    go_wp2_with fail
    (try simp only [Exit.inBlock, Exit.then]); refine bodyPost_ret (results_none rfl _ _ _) rfl ?_
    exact ⟨rfl, H.out, World.grownBy.refl _ _⟩
  | false =>
    show Calls _ _ _ _ fun e w' => e = .returned (.tuple #[]) ∧ LD w' d An cn As cs Ap cp n N Sf ps ⟨false, decide (0 ≤ x), x, cnt⟩ ∧ _
    clear h
    by_cases hx : 0 ≤ x
    · have e : decide (0 ≤ x) = true := by simpa using hx
      rw [e]
      clear e
      go_enter Try.func20, Try.ntmps20
      go_wp2_with fail
      go_end0
      exact ⟨rfl, HL.out true, HLG.out true⟩
    · have e : decide (0 ≤ x) = false := by simpa using hx
      rw [e]
      clear e
      go_enter Try.func20, Try.ntmps20
      go_wp2_with fail
      go_end0
      exact ⟨rfl, HL.out false, HLG.out false⟩
end
end Go.Proofs.Ytdnconakpajdgaa
