/- A block of the call's own that begins with known bytes, and that is written, whatever its type. No statement of the seat is proved here. -/
import Derived.Test.YtoiiiccichkgpaaMem
import Derived.Deep.CutBlock
import Derived.Deep.DeepCutAuto
namespace Go.Proofs.Ytoiiiccichkgpaa
open Go.RowKit

/-- Block g begins with the bytes L, and may be written. -/
def RowT (w : World) (g : Nat) (L : List UInt8) : Prop := ∃ (t : TypeId) (cur : Array Value), Blk w g t cur ∧ t ≠ 42 ∧ ∀ (j : Nat) (u : Value), (bv L)[j]? = some u → cur[j]? = some u
section
variable {w w' : World} {g : Nat} {L : List UInt8}
theorem RowT.lt (h : RowT w g L) : g < w.heap.size := by obtain ⟨_, _, hb, _⟩ := h; exact hb.lt
theorem RowT.rd (h : RowT w g L) : Rd w w.heap.size (some ⟨g, 0, none⟩) L := fun _ => by
  obtain ⟨t, cur, hb, hne, hc⟩ := h
  refine ⟨g, 0, rfl, hb.lt, fun j hj => ?_⟩
  rw [hb.cell, Nat.zero_add]
  exact hc j _ (bv_get hj)
theorem RowT.at_ (h : RowT w g L) {j : Nat} {x : UInt8} (hx : L[j]? = some x) : w.cell? ⟨g, j, none⟩ = some (.int .u8 x.toNat) := by
  obtain ⟨t, cur, hb, hne, hc⟩ := h
  rw [hb.cell]
  refine hc j _ ?_
  obtain ⟨h1, h2⟩ := List.getElem?_eq_some_iff.1 hx
  subst h2
  exact bv_get h1
theorem RowT.frozen (h : RowT w g L) (j : Nat) : w.frozen? ⟨g, j, none⟩ = false := by
  obtain ⟨t, cur, hb, hne, hc⟩ := h
  exact hb.frozen j
theorem RowT.below (h : RowT w g L) (hb : Below w.heap.size w w') : RowT w' g L := by
  obtain ⟨t, cur, hk, hne, hc⟩ := h
  exact ⟨t, cur, hk.below hb hk.lt, hne, hc⟩
theorem RowT.set_ (h : RowT w g L) (j : Nat) (x : UInt8) : RowT (w.setCell ⟨g, j, none⟩ (.int .u8 x.toNat)) g (L.set j x) := by
  obtain ⟨t, cur, hb, hne, hc⟩ := h
  refine ⟨t, _, hb.set_ j _, hne, fun i u hu => ?_⟩
  have e : bv (L.set j x) = (bv L).set j (.int .u8 x.toNat) := by simp [bv, List.map_set]
  rw [e, List.getElem?_set] at hu
  rw [Array.getElem?_setIfInBounds]
  by_cases hij : j = i
  · subst hij
    rw [if_pos rfl] at hu ⊢
    split at hu
    · rename_i hlt
      have h2 := hc j _ (List.getElem?_eq_getElem hlt)
      have hsz : j < cur.size := by
        rcases Nat.lt_or_ge j cur.size with h3 | h3
        · exact h3
        · rw [Array.getElem?_eq_none h3] at h2; cases h2
      rw [if_pos hsz]; exact hu
    · cases hu
  · rw [if_neg hij] at hu ⊢
    exact hc i u hu
end
/-- What the call owns, and is not empty, is such a block. -/
theorem row_of_own {w : World} {B c n : Nat} {A : Option Addr} {L : List UInt8} {t : TypeId} (h : w.ownsRow B t 1 (.slice A n c) n (bv L)) (hne : t ≠ 42) (hn : 0 < n) : ∃ g, A = some ⟨g, 0, none⟩ ∧ B ≤ g ∧ RowT w g L := by
  obtain ⟨h1, h2⟩ := h
  rcases h2 with ⟨hv, h0⟩ | ⟨g, cap, cur, hv, hB, hh, _, _, _, ht⟩
  · omega
  · injection hv with hA _ _
    refine ⟨g, hA, hB, t, cur, hh, hne, fun j u hu => ?_⟩
    rw [← ht, List.getElem?_take] at hu
    split at hu
    · simpa using hu
    · cases hu
end Go.Proofs.Ytoiiiccichkgpaa
