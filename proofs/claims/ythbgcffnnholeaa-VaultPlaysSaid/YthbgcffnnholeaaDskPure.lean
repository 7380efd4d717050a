/- What turns and grows with a disk, rows of bytes besides. No statement of the seat is proved here. -/
import Derived.Test.YthbgcffnnholeaaDskKit
import Derived.Test.YthbgcffnnholeaaOwnRow
import Derived.Test.YthbgcffnnholeaaInfoU8
import Derived.Test.YthbgcffnnholeaaSetRow
namespace Go.Proofs.Ythbgcffnnholeaa
open Go.RowKit
set_option linter.unusedVariables false

theorem out_own {w : World} {base n c : Nat} {A : Option Addr} {xs : List Value} {e : TypeId} {F : Nat → Prop} (h : w.ownsRow base e 1 (.slice A n c) n xs) (hF : ∀ g, F g → g < base) : Out F A n := fun ad ha h0 hf => by
  rcases h.2 with ⟨_, h0'⟩ | ⟨g, cap, cur, hv, hb, _⟩
  · omega
  · injection hv with hA _ _
    rw [hA] at ha
    injection ha with ha
    subst ha
    have := hF _ hf
    simp at this
    omega
theorem rd_own_only {w w' : World} {base n c : Nat} {e : TypeId} {A : Option Addr} {l : List UInt8} {F : Nat → Prop} (h : w.ownsRow base e 1 (.slice A n c) n (bv l)) (hF : ∀ g, F g → g < base ∨ w.heap.size ≤ g) (ho : Only F w w') : w'.ownsRow base e 1 (.slice A n c) n (bv l) :=
  ownsRow_same h fun g hv hl => ho.block g hl fun hf => by
    have := (World.ownsRow.lt h g hv)
    rcases hF g hf with h | h <;> omega
theorem own_only2 {v w w' : World} {base n c : Nat} {e : TypeId} {A : Option Addr} {l : List UInt8} {F : Nat → Prop} (h4 : v.ownsRow base e 1 (.slice A n c) n (bv l)) (h : w.ownsRow base e 1 (.slice A n c) n (bv l)) (hF : ∀ g, F g → g < base ∨ v.heap.size ≤ g) (ho : Only F w w') : w'.ownsRow base e 1 (.slice A n c) n (bv l) :=
  ownsRow_same h fun g hv hl => ho.block g hl fun hf => by
    have := (World.ownsRow.lt h4 g hv)
    rcases hF g hf with h | h <;> omega
theorem blk_new8 (w : World) (cs : Array Value) {g : Nat} (hg : g = w.heap.size) : Blk (w.alloc (.cells cs 5)) g 5 cs := by subst hg; exact Blk.new w _ cs
theorem made_rd (w : World) (n : Nat) : Rd (w.alloc (.cells (madeCells #[.int .u8 0] n) 5)) (w.heap.size + 1) (some ⟨w.heap.size, 0, none⟩) (List.replicate n 0) := fun _ => ⟨w.heap.size, 0, rfl, by omega, fun j hj => by
  rw [Nat.zero_add, (blk_new8 w (madeCells #[.int .u8 0] n) rfl).cell, ← Array.getElem?_toList, toList_madeCells_one]
  have hj' : j < n := by simpa using hj
  rw [List.getElem_replicate, List.getElem?_replicate, if_pos hj']
  rfl⟩
theorem rd_three {w : World} {B c : Nat} {A : Option Addr} {l : List UInt8} (h : Rd w B A l) : Rd w B A (l.take 3) := h.take 3
theorem write_grow (S : DS) (at_ : Int) (b : List UInt8) : (writeS S at_ b).n = S.n ∧ (writeS S at_ b).cnt ≤ S.cnt + 1 ∧ (writeS S at_ b).put.length ≤ S.put.length + 1 := by
  unfold writeS
  split
  · exact ⟨rfl, by omega, by omega⟩
  · split
    · rw [tickS_n, tickS_cnt, tickS_put]; exact ⟨rfl, by omega, by omega⟩
    · refine ⟨tickS_n, ?_, ?_⟩
      · show (tickS S).cnt + 1 ≤ S.cnt + 1
        rw [tickS_cnt]; exact Nat.le_refl _
      · show (S.put ++ [_]).length ≤ _
        simp
theorem flush_grow (S : DS) : (flushS S).n = S.n ∧ (flushS S).cnt ≤ S.cnt + 1 ∧ (flushS S).put.length ≤ S.put.length + 1 := by
  unfold flushS
  split
  · rw [tickS_n, tickS_cnt, tickS_put]; exact ⟨rfl, by omega, by omega⟩
  · refine ⟨tickS_n, ?_, ?_⟩
    · show (tickS S).cnt + 1 ≤ S.cnt + 1
      rw [tickS_cnt]; exact Nat.le_refl _
    · show (0 : Nat) ≤ _
      omega
/-- Nothing that is not safe was written to sector q. -/
def Clean (S : DS) (q : Nat) : Prop := ∀ p ∈ S.put, p.1 ≠ q
theorem clean_write {S : DS} {q : Nat} (h : Clean S q) {at_ : Int} (ha : at_ ≠ (q : Int)) (b : List UInt8) : Clean (writeS S at_ b) q := by
  unfold writeS
  split
  · exact h
  · rename_i hb
    split
    · intro p hp
      rw [tickS_put] at hp
      exact h p hp
    · intro p hp
      have hp : p ∈ S.put ++ [(at_.toNat, padS b)] := hp
      rcases List.mem_append.1 hp with hp | hp
      · exact h p hp
      · rw [List.mem_singleton.1 hp]
        unfold badW at hb
        show at_.toNat ≠ q
        omega
theorem clean_flush {S : DS} {q : Nat} (h : Clean S q) : Clean (flushS S) q := by
  unfold flushS
  split
  · intro p hp
    rw [tickS_put] at hp
    exact h p hp
  · intro p hp
    have hp : p ∈ ([] : List (Nat × List UInt8)) := hp
    cases hp
theorem clean_flushed {S : DS} {q : Nat} (h : flushE S = 0) : Clean (flushS S) q := by
  unfold flushE at h
  unfold flushS
  split at h
  · cases h
  · rename_i ho
    rw [if_neg ho]
    intro p hp
    have hp : p ∈ ([] : List (Nat × List UInt8)) := hp
    cases hp
theorem clean_cut {S : DS} {q : Nat} (h : Clean S q) (n : Int) : Clean (cutS S n) q := by
  unfold cutS
  split
  · exact h
  · exact h
theorem clean_crash (S : DS) (q : Nat) (l : List Int) : Clean (crashS S l) q := fun p hp => by
  have hp : p ∈ ([] : List (Nat × List UInt8)) := hp
  cases hp
theorem crash_clean {S : DS} {q : Nat} (h : Clean S q) (l : List Int) : nowS (crashS S l) q = nowS S q := by
  show crashL (fateL l) 0 S.put S.safe q = flushL S.put S.safe q
  rw [crashL_other _ _ _ _ h, flushL_other _ _ h]
theorem read_crash {S : DS} {q : Nat} (hq : q < S.n) (l : List Int) : readE (crashS S l) q = 0 ∧ readS (crashS S l) q = nowS (crashS S l) q := by
  have h1 : readE (crashS S l) q = 0 := by
    unfold readE
    rw [if_neg (by show ¬ ((q : Int) < 0 ∨ (S.n : Int) ≤ (q : Int)); omega), if_neg (by simp [crashS])]
  exact ⟨h1, by unfold readS; rw [if_pos h1, Int.toNat_natCast]⟩
theorem read_ok {S : DS} {q : Nat} (h : readE S q = 0) : readS S q = nowS S q := by unfold readS; rw [if_pos h, Int.toNat_natCast]
theorem readE_cases (S : DS) (a : Int) : readE S a = 0 ∨ readE S a = 1 ∨ readE S a = 6 := by
  unfold readE
  split
  · exact .inr (.inl rfl)
  · split
    · exact .inr (.inr rfl)
    · exact .inl rfl
section
variable {w : World} {F : Nat → Prop}
theorem out_low {A : Option Addr} {b : List UInt8} (hr : Rd w w.heap.size A b) (hF : ∀ g, F g → w.heap.size ≤ g) : Out F A b.length := fun ad ha h0 hf => by
  obtain ⟨g, off, e, hg, _⟩ := hr h0
  rw [ha] at e
  injection e with e
  rw [e] at hf
  have := hF _ hf
  simp at this
  omega
theorem outv_low {A : Option Addr} {b : List Value} (hr : RdV w w.heap.size A b) (hF : ∀ g, F g → w.heap.size ≤ g) : Out F A b.length := fun ad ha h0 hf => by
  obtain ⟨g, off, e, hg, _⟩ := hr h0
  rw [ha] at e
  injection e with e
  rw [e] at hf
  have := hF _ hf
  simp at this
  omega
end
end Go.Proofs.Ythbgcffnnholeaa
