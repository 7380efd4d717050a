/- Rows of bytes of the call's own: what stays, what is written over. No statement of the seat is proved here. -/
import Derived.Test.YtiomfkhblmmdoaaMem
namespace Go.Proofs.Ytiomfkhblmmdoaa
open Go.RowKit

theorem ownsRow_same {w w' : World} {b : Nat} {e : TypeId} {s n : Nat} {v : Value} {xs : List Value} (h : w.ownsRow b e s v n xs) (hk : ∀ g, v.ownBlock = some g → g < w.heap.size → w'.heap[g]? = w.heap[g]?) : w'.ownsRow b e s v n xs := by
  refine ⟨h.1, ?_⟩
  rcases h.2 with hn | ⟨g, cap, cur, rfl, hbg, hgg, rest⟩
  · exact .inl hn
  · exact .inr ⟨g, cap, cur, rfl, hbg, (hk g rfl (Array.getElem?_eq_some_iff.1 hgg).1).trans hgg, rest⟩
theorem ownsRow_grown {w w' : World} {b : Nat} {e : TypeId} {s n : Nat} {v : Value} {xs : List Value} {r : Option Nat} (h : w.ownsRow b e s v n xs) (hg : w.grownBy w' r) (hr : ∀ g, r = some g → v.ownBlock ≠ some g) : w'.ownsRow b e s v n xs :=
  ownsRow_same h fun g hv hl => hg.block g hl fun e => hr g e.symm hv
theorem setCell_block {w : World} {g g' i : Nat} {v : Value} (h : g' ≠ g) : (w.setCell ⟨g, i, none⟩ v).heap[g']? = w.heap[g']? := by
  simp [World.setCell, Array.getElem?_modify]
  intro e; exact absurd e.symm h
theorem setCell_size {w : World} {g i : Nat} {v : Value} : (w.setCell ⟨g, i, none⟩ v).heap.size = w.heap.size := by simp [World.setCell]
theorem setCell_grown {w0 w : World} {g i : Nat} {v : Value} (h : w0.grownBy w (some g)) : w0.grownBy (w.setCell ⟨g, i, none⟩ v) (some g) :=
  ⟨h.os, h.tape, h.output, by rw [setCell_size]; exact h.size, fun k hk hn => (setCell_block (fun e => hn (by rw [e]))).trans (h.block k hk hn)⟩
/-- A byte of a row of the call's own. -/
theorem own_at {w : World} {b n c : Nat} {e : TypeId} {A : Option Addr} {l : List UInt8} (h : w.ownsRow b e 1 (.slice A n c) n (bv l)) {k : Nat} (hk : k < n) :
    ∃ g x, A = some ⟨g, 0, none⟩ ∧ (Value.slice A n c).ownBlock = some g ∧ w.cell? ⟨g, k, none⟩ = some (.int .u8 ((x : UInt8).toNat : Nat)) ∧ w.frozen? ⟨g, k, none⟩ = false := by
  have hl : l.length = n := by have := h.1; rw [bv_length] at this; omega
  rcases h.2 with ⟨_, h0⟩ | ⟨g, cap, cur, hv, _, hh, hnc, _, hcs, ht⟩
  · omega
  · injection hv with hA _ _
    refine ⟨g, l[k], hA, by rw [hA]; rfl, ?_, frozen_of_row w g k cur _ hh⟩
    rw [cell_of_row w g k cur _ (0, 0) hh]
    have hu : (bv l)[k]? = some (.int .u8 (l[k]).toNat) := bv_get (by omega)
    rw [← ht, List.getElem?_take] at hu
    split at hu
    · simpa using hu
    · cases hu
/-- The row stays one when a byte is written into its block, or into another one. -/
theorem own_set {w : World} {b n g j : Nat} {ty : TypeId} {v : Value} {l : List UInt8} (h : w.ownsRow b ty 1 v n (bv l)) (x : UInt8) : ∃ l', (w.setCell ⟨g, j, none⟩ (.int .u8 x.toNat)).ownsRow b ty 1 v n (bv l') := by
  by_cases hg : v.ownBlock = some g
  · rcases h.2 with ⟨rfl, _⟩ | ⟨g1, cap, cur, rfl, hb, hh, hnc, hm, hcs, ht⟩
    · simp [Value.ownBlock] at hg
    · simp [Value.ownBlock] at hg
      subst hg
      have hB : Blk w g1 ty cur := hh
      refine ⟨l.set j x, ⟨by rw [bv_length, List.length_set, ← bv_length]; exact h.1, .inr ⟨g1, cap, cur.setIfInBounds j (.int .u8 x.toNat), rfl, hb, hB.set_ j _, hnc, hm, by simpa using hcs, ?_⟩⟩⟩
      have e : bv (l.set j x) = (bv l).set j (.int .u8 x.toNat) := by simp [bv, List.map_set]
      rw [e, ← ht]
      simp [List.take_set]
  · exact ⟨l, ownsRow_same h fun g' hv _ => setCell_block fun e => hg (by rw [hv, e])⟩
/-- What a row of the call's own is written over: all stays but its own block. -/
theorem own_xor {w : World} {b n c k : Nat} {e : TypeId} {A : Option Addr} {l : List UInt8} (h : w.ownsRow b e 1 (.slice A n c) n (bv l)) (hk : k < n) :
    ∃ g x, A = some ⟨g, 0, none⟩ ∧ (Value.slice A n c).ownBlock = some g ∧ w.cell? ⟨g, k, none⟩ = some (.int .u8 ((x : UInt8).toNat : Nat)) ∧ w.frozen? ⟨g, k, none⟩ = false ∧ g < w.heap.size ∧ b ≤ g := by
  obtain ⟨g, x, h1, h2, h3, h4⟩ := own_at h hk
  exact ⟨g, x, h1, h2, h3, h4, World.block_lt_of_cell? w _ h3, (h.lt g h2).1⟩
end Go.Proofs.Ytiomfkhblmmdoaa
