/- Pieces of the call's own: the bytes of one of them are said. No statement of the seat is proved here. -/
import Derived.Test.YtoiiiccichkgpaaCtRow
namespace Go.Proofs.Ytoiiiccichkgpaa
open Go.RowKit
set_option linter.unusedVariables false

/-- A piece with other bytes. -/
def PieceT.with_ (x : PieceT) (a : Option Addr) (c : Nat) (d : List UInt8) : PieceT := ⟨a, c, ⟨x.p.s, x.p.n, d⟩⟩
theorem pcs_with {x : PieceT} (hx : x.p.Ok) (a : Option Addr) (c : Nat) (d : List UInt8) : pcs (x.with_ a c d) = (pcs x).set 33 (.slice a d.length c) := by
  unfold pcs
  rw [List.set_append_right _ _ (by rw [kcs_length hx.key]; exact Nat.le_refl _), kcs_length hx.key]
  rfl
theorem flatp_set {l : List PieceT} (h : ∀ x ∈ l, x.p.Ok) {j : Nat} (hj : j < l.length) (a : Option Addr) (c : Nat) (d : List UInt8) : (l.flatMap pcs).set (j * 34 + 33) (.slice a d.length c) = (l.set j (l[j].with_ a c d)).flatMap pcs := by
  induction l generalizing j with
  | nil => simp at hj
  | cons k l ih =>
    have hk := pcs_length (h k (by simp))
    cases j with
    | zero =>
      rw [List.set_cons_zero, List.flatMap_cons, List.flatMap_cons, List.set_append_left _ _ (by rw [hk]; omega), List.getElem_cons_zero, pcs_with (h k (by simp)), Nat.zero_mul, Nat.zero_add]
    | succ j =>
      have hj2 : j < l.length := by simpa using hj
      rw [List.set_cons_succ, List.flatMap_cons, List.flatMap_cons, List.set_append_right _ _ (by rw [hk]; omega), hk, show (j + 1) * 34 + 33 - 34 = j * 34 + 33 by omega, List.getElem_cons_succ, ih (fun x hx => h x (by simp [hx])) hj2]
theorem OwnP.put_ {w : World} {B n pc : Nat} {P : Option Addr} {l : List PieceT} (h : OwnP w B P pc n l) (ho : ∀ x ∈ l, x.p.Ok) (hn : l.length = n) {j : Nat} (hj : j < l.length) :
    ∃ d, P = some ⟨d, 0, none⟩ ∧ B ≤ d ∧ d < w.heap.size ∧ (Value.slice P n pc).ownBlock = some d ∧ w.cell? ⟨d, j * 34 + 33, none⟩ = some (.slice l[j].adr l[j].p.data.length l[j].cap) ∧ w.frozen? ⟨d, j * 34 + 33, none⟩ = false ∧
      ∀ (a : Option Addr) (c : Nat) (y : List UInt8), OwnP (w.setCell ⟨d, j * 34 + 33, none⟩ (.slice a y.length c)) B P pc n (l.set j (l[j].with_ a c y)) := by
  rcases h.2 with ⟨_, h0⟩ | ⟨g, cap, cur, hv, hb, hh, hnc, hm, hcs, ht⟩
  · omega
  · injection hv with hA _ hC
    subst hA hC
    have hB : Blk w g 42 cur := hh
    refine ⟨g, rfl, hb, hB.lt, rfl, ?_, hB.frozen _, fun a c y => ⟨?_, .inr ⟨g, pc, cur.setIfInBounds (j * 34 + 33) (.slice a y.length c), rfl, hb, hB.set_ _ _, hnc, hm, by simpa using hcs, ?_⟩⟩⟩
    · have h1 := flatp_at ho hj 33 (by omega)
      rw [pcs_data (ho _ (List.getElem_mem hj)), ← ht, List.getElem?_take] at h1
      split at h1
      · rw [hB.cell]
        simpa using h1
      · cases h1
    · rw [← flatp_set ho hj, List.length_set]
      exact h.1
    · rw [← flatp_set ho hj, ← ht]
      simp [List.take_set]
end Go.Proofs.Ytoiiiccichkgpaa
