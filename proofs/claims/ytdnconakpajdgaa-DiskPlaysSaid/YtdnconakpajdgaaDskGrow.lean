/- How a disk's state grows with acts, and what a sector is that nothing was written to. No statement of the seat is proved here. -/
import Derived.Test.YtdnconakpajdgaaDskRow
namespace Go.Proofs.Ytdnconakpajdgaa
open Go.RowKit
set_option linter.unusedVariables false

theorem write_grow (S : DS) (at_ : Int) (b : List UInt8) : (writeS S at_ b).n = S.n ∧ (writeS S at_ b).cnt ≤ S.cnt + 1 ∧ (writeS S at_ b).put.length ≤ S.put.length + 1 := by
  unfold writeS
  split
  · exact ⟨rfl, by omega, by omega⟩
  · split
    · rw [tickS_n, tickS_cnt, tickS_put]; exact ⟨rfl, by omega, by omega⟩
    · refine ⟨tickS_n, ?_, ?_⟩
      · show (tickS S).cnt + 1 ≤ S.cnt + 1
        rw [tickS_cnt]; exact Nat.le_refl _
      · show (S.put ++ [_]).length ≤ _
        simp
theorem flush_grow (S : DS) : (flushS S).n = S.n ∧ (flushS S).cnt ≤ S.cnt + 1 ∧ (flushS S).put.length ≤ S.put.length + 1 := by
  unfold flushS
  split
  · rw [tickS_n, tickS_cnt, tickS_put]; exact ⟨rfl, by omega, by omega⟩
  · refine ⟨tickS_n, ?_, ?_⟩
    · show (tickS S).cnt + 1 ≤ S.cnt + 1
      rw [tickS_cnt]; exact Nat.le_refl _
    · show (0 : Nat) ≤ _
      omega
theorem do_grow (S : DS) (a : DActT) : (doS S a).n = S.n ∧ (doS S a).cnt ≤ S.cnt + 1 ∧ (doS S a).put.length ≤ S.put.length + 1 := by
  unfold doS
  split
  · exact write_grow S _ _
  · split
    · exact flush_grow S
    · split
      · unfold cutS
        split
        · exact ⟨rfl, by omega, by omega⟩
        · exact ⟨rfl, Nat.le_succ _, Nat.le_succ _⟩
      · split
        · exact ⟨rfl, Nat.le_succ _, Nat.zero_le _⟩
        · exact ⟨rfl, by omega, by omega⟩
/-- Nothing that is not safe was written to sector q. -/
def Clean (S : DS) (q : Nat) : Prop := ∀ p ∈ S.put, p.1 ≠ q
theorem clean_write {S : DS} {q : Nat} (h : Clean S q) {at_ : Int} (ha : at_ ≠ (q : Int)) (b : List UInt8) : Clean (writeS S at_ b) q := by
  unfold writeS
  split
  · exact h
  · rename_i hb
    split
    · intro p hp
      rw [tickS_put] at hp
      exact h p hp
    · intro p hp
      have hp : p ∈ S.put ++ [(at_.toNat, padS b)] := hp
      rcases List.mem_append.1 hp with hp | hp
      · exact h p hp
      · rw [List.mem_singleton.1 hp]
        unfold badW at hb
        show at_.toNat ≠ q
        omega
theorem clean_flush {S : DS} {q : Nat} (h : Clean S q) : Clean (flushS S) q := by
  unfold flushS
  split
  · intro p hp
    rw [tickS_put] at hp
    exact h p hp
  · intro p hp
    have hp : p ∈ ([] : List (Nat × List UInt8)) := hp
    cases hp
theorem clean_flushed {S : DS} {q : Nat} (h : flushE S = 0) : Clean (flushS S) q := by
  unfold flushE at h
  unfold flushS
  split at h
  · cases h
  · rename_i ho
    rw [if_neg ho]
    intro p hp
    have hp : p ∈ ([] : List (Nat × List UInt8)) := hp
    cases hp
theorem clean_cut {S : DS} {q : Nat} (h : Clean S q) (n : Int) : Clean (cutS S n) q := by
  unfold cutS
  split
  · exact h
  · exact h
theorem clean_crash (S : DS) (q : Nat) (l : List Int) : Clean (crashS S l) q := fun p hp => by
  have hp : p ∈ ([] : List (Nat × List UInt8)) := hp
  cases hp
theorem crash_clean {S : DS} {q : Nat} (h : Clean S q) (l : List Int) : nowS (crashS S l) q = nowS S q := by
  show crashL (fateL l) 0 S.put S.safe q = flushL S.put S.safe q
  rw [crashL_other _ _ _ _ h, flushL_other _ _ h]
theorem read_crash {S : DS} {q : Nat} (hq : q < S.n) (l : List Int) : readE (crashS S l) q = 0 ∧ readS (crashS S l) q = nowS (crashS S l) q := by
  have h1 : readE (crashS S l) q = 0 := by
    unfold readE
    rw [if_neg (by show ¬ ((q : Int) < 0 ∨ (S.n : Int) ≤ (q : Int)); omega), if_neg (by simp [crashS])]
  exact ⟨h1, by unfold readS; rw [if_pos h1, Int.toNat_natCast]⟩
theorem read_ok {S : DS} {q : Nat} (h : readE S q = 0) : readS S q = nowS S q := by unfold readS; rw [if_pos h, Int.toNat_natCast]
theorem readE_cases (S : DS) (a : Int) : readE S a = 0 ∨ readE S a = 1 ∨ readE S a = 6 := by
  unfold readE
  split
  · exact .inr (.inl rfl)
  · split
    · exact .inr (.inr rfl)
    · exact .inl rfl
end Go.Proofs.Ytdnconakpajdgaa
