/- Slices of structs that came in, row by row. No statement of the seat is proved here. -/
import Derived.Test.YtiomfkhblmmdoaaArgs
import Derived.Test.YtiomfkhblmmdoaaOpen
import Derived.Deep.MidRow
import Derived.Deep.Slices
namespace Go.Proofs.Ytiomfkhblmmdoaa
open Go.ChangeShapes Go.WideShapes Go.ChangeAt Go.RowKit Go.Deep

/-- The slice value '.slice A rows.length c' reads as those rows, each of sz cells, in blocks below B. -/
def RdS (w : World) (B sz : Nat) (A : Option Addr) (rows : List (List Value)) : Prop :=
  0 < rows.length → ∃ g off, A = some ⟨g, off, none⟩ ∧ g < B ∧ ∀ j (_ : j < rows.length), w.rangeAt g (off + j * sz) rows[j]
theorem RdS.below {w w' : World} {B sz : Nat} {A : Option Addr} {rows : List (List Value)} (h : RdS w B sz A rows) (hb : Below B w w') : RdS w' B sz A rows := fun hn => by
  obtain ⟨g, off, e, hg, hc⟩ := h hn
  exact ⟨g, off, e, hg, fun j hj i v hv => (hb.cell (p := ⟨g, off + j * sz + i, none⟩) hg).trans (hc j hj i v hv)⟩
theorem RdS.more {w : World} {B B' sz : Nat} {A : Option Addr} {rows : List (List Value)} (h : RdS w B sz A rows) (hB : B ≤ B') : RdS w B' sz A rows := fun hn => by
  obtain ⟨g, off, e, hg, hc⟩ := h hn
  exact ⟨g, off, e, by omega, hc⟩
theorem RdS.take {w : World} {B sz : Nat} {A : Option Addr} {rows : List (List Value)} (h : RdS w B sz A rows) (k : Nat) : RdS w B sz A (rows.take k) := fun hn => by
  rw [List.length_take] at hn
  obtain ⟨g, off, e, hg, hc⟩ := h (by omega)
  refine ⟨g, off, e, hg, fun j hj => ?_⟩
  rw [List.length_take] at hj
  rw [List.getElem_take]
  exact hc j (by omega)
section
variable {H : Type} {enc : TypeId × Value → H} {P : Program} {w : World} {base : Nat}
theorem open_rows {α : Type} [Inhabited α] (f : α → List Value) (Q : α → Prop) {t e : TypeId} {sz fuel : Nat} {a : Option Addr} {len cap : Nat} {x : DataW H × List MemPlace}
    (ht : P.underlying t = some (.slice e)) (hC : P.cellsOf e = sz) (hs : 0 < sz)
    (each : ∀ n cs y, DataW.trod enc P w base (fun _ => true) true n e cs = some y → ∃ z : α, cs = f z ∧ Q z)
    (h : DataW.trod enc P w base (fun _ => true) true fuel t (Value.slice a len cap).cells.toList = some x) :
    ∃ zs : List α, len = zs.length ∧ RdS w w.heap.size sz a (zs.map f) ∧ zs.length ≤ cap ∧ cap ≤ maxLen ∧ ∀ z ∈ zs, Q z := by
  rcases open_slice ht h with ⟨hcs, _⟩ | ⟨ad, l, c, m, n, D, Pl, hcs, hb, hl, hm, hmm, hx, hi⟩
  · simp [Value.cells] at hcs
    obtain ⟨rfl, rfl, rfl⟩ := hcs
    exact ⟨[], rfl, fun h => absurd h (by simp), by simp, by simp [maxLen], by simp⟩
  · simp [Value.cells] at hcs
    obtain ⟨rfl, rfl, rfl⟩ := hcs
    have key : ∀ i, i < len → ∃ z : α, (∀ j, j < sz → w.cell? ((ad.add (i * sz)).add j) = (f z)[j]?) ∧ (f z).length = sz ∧ Q z := fun i hil => by
      obtain ⟨cs', h1, h2⟩ := hi i (by simp at hmm; omega)
      rw [hC] at h1
      obtain ⟨_, h3, h4⟩ := World.cells?_some h1
      obtain ⟨z, rfl, hq⟩ := each _ _ _ h2
      exact ⟨z, h4, h3, hq⟩
    obtain ⟨F, hF⟩ := choose_lt key
    refine ⟨(List.range len).map F, by simp, fun hn => ?_, by simpa using hl, hm, fun z hz => ?_⟩
    · have hn' : 0 < len := by simpa using hn
      obtain ⟨c0, l0, _⟩ := hF 0 hn'
      have h0 := c0 0 hs
      rw [List.getElem?_eq_getElem (by omega)] at h0
      obtain ⟨b, off, spot⟩ := ad
      have hz : ((⟨b, off, spot⟩ : Addr).add (0 * sz)).add 0 = ⟨b, off, spot⟩ := by simp [Addr.add]
      rw [hz] at h0
      have hsp : spot = none := World.cell?_spot h0
      subst hsp
      refine ⟨b, off, rfl, World.block_lt_of_cell? w _ h0, fun j hj i v hv => ?_⟩
      have hj' : j < len := by simpa using hj
      simp only [List.map_map, List.getElem_map, List.getElem_range, Function.comp] at hv
      obtain ⟨c1, l1, _⟩ := hF j hj'
      have hi' : i < sz := by have := (List.getElem?_eq_some_iff.1 hv).1; omega
      have := c1 i hi'
      rw [Addr.add_mid, Addr.add_mid, hv] at this
      exact this
    · obtain ⟨i, hi2, rfl⟩ := List.mem_map.1 hz
      exact (hF i (List.mem_range.1 hi2)).2.2
end
end Go.Proofs.Ytiomfkhblmmdoaa
