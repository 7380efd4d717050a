/- Words for memory: a codec reader's block. No statement of the seat is proved here. -/
import Derived.Test.YtmfbidohmkoeeaaMem
namespace Go.Proofs.Ytmfbidohmkoeeaa
open Go.RowKit

/-- A reader's own block g: what is left of its bytes (in an array of the same make), and its fault. -/
def Rdr (w : World) (g : Nat) (l : List UInt8) (f : Int) : Prop :=
  ∃ A c, Blk w g 56 #[.slice A l.length c, .int .i64 f] ∧ l.length ≤ c ∧ c ≤ maxLen ∧
    (0 < l.length → ∃ gb off cur, A = some ⟨gb, off, none⟩ ∧ Blk w gb 5 cur ∧ ∀ j (_ : j < l.length), cur[off + j]? = some (.int .u8 l[j].toNat))
section
variable {w w' : World} {g g' : Nat} {l l' : List UInt8} {f f' : Int}
theorem Rdr.lt (h : Rdr w g l f) : g < w.heap.size := by
  obtain ⟨_, _, hb, _⟩ := h; exact hb.lt
theorem Rdr.below (h : Rdr w g l f) (hb : Below w.heap.size w w') : Rdr w' g l f := by
  obtain ⟨A, c, h1, h2, h3, h4⟩ := h
  refine ⟨A, c, h1.below hb h1.lt, h2, h3, fun hn => ?_⟩
  obtain ⟨gb, off, cur, e, hc, hr⟩ := h4 hn
  exact ⟨gb, off, cur, e, hc.below hb hc.lt, hr⟩
theorem Rdr.far (h : Rdr w g l f) (h' : Rdr w g' l' f') (hne : g ≠ g') (hb : w.grownBy w' (some g')) : Rdr w' g l f := by
  obtain ⟨A, c, h1, h2, h3, h4⟩ := h
  refine ⟨A, c, h1.same (hb.block g h1.lt (by simpa using hne)), h2, h3, fun hn => ?_⟩
  obtain ⟨gb, off, cur, e, hc, hr⟩ := h4 hn
  refine ⟨gb, off, cur, e, hc.same (hb.block gb hc.lt ?_), hr⟩
  rintro ⟨⟩
  obtain ⟨_, _, k1, _⟩ := h'
  unfold Blk at hc k1
  rw [hc] at k1
  simp at k1
theorem Rdr.rd {A : Option Addr} (h4 : 0 < l.length → ∃ gb off cur, A = some ⟨gb, off, none⟩ ∧ Blk w gb 5 cur ∧ ∀ j (_ : j < l.length), cur[off + j]? = some (.int .u8 l[j].toNat)) : Rd w w.heap.size A l := fun hn => by
  obtain ⟨gb, off, cur, e, hc, hr⟩ := h4 hn
  exact ⟨gb, off, e, hc.lt, fun j hj => by rw [hc.cell]; exact hr j hj⟩
/-- What the call owns stays owned while a reader's block is written. -/
theorem own_far {base : Nat} {v : Value} {n : Nat} {xs : List Value} (h : w.ownsRow base 5 1 v n xs) (h' : Rdr w g' l' f') (hb : w.grownBy w' (some g')) : w'.ownsRow base 5 1 v n xs := by
  refine h.kept hb ?_
  rcases h.2 with ⟨rfl, _⟩ | ⟨g0, cap, cur, rfl, _, hh, _⟩
  · left; rfl
  · right
    rintro ⟨⟩
    obtain ⟨_, _, k1, _⟩ := h'
    unfold Blk at k1
    rw [hh] at k1
    simp at k1
end
end Go.Proofs.Ytmfbidohmkoeeaa
