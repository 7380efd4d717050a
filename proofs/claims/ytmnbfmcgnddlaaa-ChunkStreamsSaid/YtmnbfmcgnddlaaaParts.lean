/- Rows of slices of bytes: read, and of the call's own. No statement of the seat is proved here. -/
import Derived.Test.YtmnbfmcgnddlaaaArgs
import Derived.Handy
namespace Go.Proofs.Ytmnbfmcgnddlaaa
open Go.RowKit

/-- A slice of bytes: its address, capacity, bytes. -/
abbrev Part := Option Addr × Nat × List UInt8
def Part.val (p : Part) : Value := .slice p.1 p.2.2.length p.2.1
abbrev psv (ps : List Part) : List Value := ps.map Part.val
abbrev psb (ps : List Part) : List (List UInt8) := ps.map (·.2.2)
/-- A row of slices, each of which reads as its bytes, in blocks below B. -/
structure Parts (w : World) (B : Nat) (A : Option Addr) (ps : List Part) : Prop where
  row : RdV w B A (psv ps)
  each : ∀ p ∈ ps, Rd w B p.1 p.2.2 ∧ p.2.2.length ≤ p.2.1 ∧ p.2.1 ≤ maxLen
theorem RdV.more {w : World} {B B' : Nat} {A : Option Addr} {vs : List Value} (h : RdV w B A vs) (hB : B ≤ B') : RdV w B' A vs := fun hn => by
  obtain ⟨g, off, e, hb, hc⟩ := h hn
  exact ⟨g, off, e, by omega, hc⟩
theorem RdV.below {w w' : World} {B : Nat} {A : Option Addr} {vs : List Value} (h : RdV w B A vs) (hb : Below B w w') : RdV w' B A vs := fun hn => by
  obtain ⟨g, off, e, hg, hc⟩ := h hn
  exact ⟨g, off, e, hg, fun j hj => (hb.cell (p := ⟨g, off + j, none⟩) hg).trans (hc j hj)⟩
section
variable {w w' : World} {B B' : Nat} {A : Option Addr} {ps : List Part}
theorem Parts.nil (w : World) (B : Nat) (A : Option Addr) : Parts w B A [] := ⟨fun h => absurd h (by simp), by simp⟩
theorem Parts.below (h : Parts w B A ps) (hb : Below B w w') : Parts w' B A ps := ⟨h.row.below hb, fun p hp => ⟨(h.each p hp).1.below hb, (h.each p hp).2⟩⟩
theorem Parts.more (h : Parts w B A ps) (hB : B ≤ B') : Parts w B' A ps := ⟨h.row.more hB, fun p hp => ⟨(h.each p hp).1.more hB, (h.each p hp).2⟩⟩
theorem Parts.on (h : Parts w w.heap.size A ps) (hb : Below w.heap.size w w') : Parts w' w'.heap.size A ps := (h.below hb).more hb.size
/-- The row from a place on. -/
theorem Parts.drop (h : Parts w B A ps) {k c : Nat} (hc : ps.length ≤ c) : Parts w B (if c = k then A else A.map (·.add k)) (ps.drop k) := by
  refine ⟨fun hn => ?_, fun p hp => h.each p (List.mem_of_mem_drop hp)⟩
  rw [List.length_map, List.length_drop] at hn
  obtain ⟨g, off, rfl, hb, hcell⟩ := h.row (by rw [List.length_map]; omega)
  rw [if_neg (by omega)]
  refine ⟨g, off + k, by simp [Addr.add_lit], hb, fun j hj => ?_⟩
  rw [List.length_map, List.length_drop] at hj
  rw [Nat.add_assoc, hcell (k + j) (by rw [List.length_map]; omega)]
  simp
theorem Parts.at_ (h : Parts w B A ps) {k : Nat} (hk : k < ps.length) : ∃ g off, A = some ⟨g, off, none⟩ ∧ g < B ∧ w.cell? ⟨g, off + k, none⟩ = some (ps[k].val) := by
  obtain ⟨g, off, rfl, hb, hcell⟩ := h.row (by rw [List.length_map]; omega)
  refine ⟨g, off, rfl, hb, ?_⟩
  rw [hcell k (by rw [List.length_map]; exact hk)]
  simp
end
theorem str_of {w : World} {B : Nat} {A : Option Addr} {l : List UInt8} (h : Rd w B A l) (k c : Nat) (hk : l.length = k) (W : World) (hb : Below B w W) :
    (convert 25 9 (.slice A k c)).run Try.prog W = .ok (.string ⟨l.toArray⟩) W := by
  have := run_str (P := Try.prog) 25 9 5 Try.underlying25 Try.underlying5 Try.underlying9 (h.below hb) c
  rwa [hk] at this

/-- The rows' blocks are others, where their types are. -/
theorem ownsRow_other {w : World} {b b' : Nat} {e e' : TypeId} {s s' n n' : Nat} {v v' : Value} {xs xs' : List Value} (h : w.ownsRow b e s v n xs) (h' : w.ownsRow b' e' s' v' n' xs') (he : e ≠ e') (g : Nat) (hg : v.ownBlock = some g) : v'.ownBlock ≠ some g := by
  intro hg'
  rcases h.2 with ⟨rfl, _⟩ | ⟨g1, cap, cur, rfl, _, hh, _⟩
  · simp [Value.ownBlock] at hg
  · rcases h'.2 with ⟨rfl, _⟩ | ⟨g2, cap', cur', rfl, _, hh', _⟩
    · simp [Value.ownBlock] at hg'
    · simp [Value.ownBlock] at hg hg'
      subst hg; subst hg'
      rw [hh] at hh'
      injection hh' with hh'
      injection hh' with _ hh' _
      exact he hh'
theorem ownsRow_same {w w' : World} {b : Nat} {e : TypeId} {s n : Nat} {v : Value} {xs : List Value} (h : w.ownsRow b e s v n xs) (hk : ∀ g, v.ownBlock = some g → g < w.heap.size → w'.heap[g]? = w.heap[g]?) : w'.ownsRow b e s v n xs := by
  refine ⟨h.1, ?_⟩
  rcases h.2 with hn | ⟨g, cap, cur, rfl, hbg, hgg, rest⟩
  · exact .inl hn
  · exact .inr ⟨g, cap, cur, rfl, hbg, (hk g rfl (Array.getElem?_eq_some_iff.1 hgg).1).trans hgg, rest⟩
theorem ownsRow_grown {w w' : World} {b : Nat} {e : TypeId} {s n : Nat} {v : Value} {xs : List Value} {r : Option Nat} (h : w.ownsRow b e s v n xs) (hg : w.grownBy w' r) (hr : ∀ g, r = some g → v.ownBlock ≠ some g) : w'.ownsRow b e s v n xs :=
  ownsRow_same h fun g hv hl => hg.block g hl fun e => hr g e.symm hv
/-- A row of slices of the call's own, each of them in memory of its own. -/
structure Chunks (w : World) (B : Nat) (V : Value) (ps : List Part) : Prop where
  row : w.ownsRow B 25 1 V ps.length (psv ps)
  each : ∀ p ∈ ps, w.ownsRow B 5 1 p.val p.2.2.length (bv p.2.2)
section
variable {w w' : World} {B B' : Nat} {V : Value} {ps : List Part}
theorem Chunks.nil (w : World) (B : Nat) : Chunks w B (.slice none 0 0) [] := ⟨World.ownsRow_nil _ _ _ _, by simp⟩
theorem Chunks.on (h : Chunks w B V ps) (hb : Below w.heap.size w w') : Chunks w' B V ps := ⟨ownsRow_below h.row hb, fun p hp => ownsRow_below (h.each p hp) hb⟩
theorem Chunks.base (h : Chunks w B V ps) (hB : B' ≤ B) : Chunks w B' V ps := ⟨ownsRow_base h.row hB, fun p hp => ownsRow_base (h.each p hp) hB⟩
theorem own_rd {w : World} {b : Nat} {p : Part} (h : w.ownsRow b 5 1 p.val p.2.2.length (bv p.2.2)) : Rd w w.heap.size p.1 p.2.2 ∧ p.2.2.length ≤ p.2.1 ∧ p.2.1 ≤ maxLen := by
  refine ⟨Rd.of_own h, ?_⟩
  obtain ⟨_, _, e, h1, h2⟩ := ownsRow_form h
  injection e with _ _ e
  subst e; exact ⟨h1, h2⟩
theorem own_rdv {w : World} {b : Nat} {e : TypeId} {A : Option Addr} {n c : Nat} {xs : List Value} (h : w.ownsRow b e 1 (.slice A n c) n xs) : RdV w w.heap.size A xs := fun hn => by
  rcases h.2 with ⟨_, h0⟩ | ⟨g, cap, cur, hv, _, hh, hnc, _, hcs, ht⟩
  · have := h.1; omega
  · injection hv with hA _ _
    refine ⟨g, 0, hA, ?_, fun j hj => ?_⟩
    · rcases Nat.lt_or_ge g w.heap.size with hlt | hge
      · exact hlt
      · rw [Array.getElem?_eq_none hge] at hh; cases hh
    · have hl : xs[j]? = some xs[j] := List.getElem?_eq_getElem hj
      rw [cell_of_row w g (0 + j) cur _ (0, 0) hh, Nat.zero_add]
      conv at hl => lhs; rw [← ht]
      rw [List.getElem?_take] at hl
      split at hl
      · simpa using hl
      · cases hl
theorem Chunks.parts {A : Option Addr} {n c : Nat} (h : Chunks w B (.slice A n c) ps) (hn : ps.length = n) : Parts w w.heap.size A ps := by
  subst hn
  exact ⟨own_rdv h.row, fun p hp => own_rd (h.each p hp)⟩
theorem Chunks.form (h : Chunks w B V ps) : ∃ A c, V = .slice A ps.length c ∧ ps.length ≤ c ∧ c ≤ maxLen := ownsRow_form h.row
/-- One more behind. -/
theorem Chunks.push {V' : Value} {p : Part} (h : Chunks w B V ps) (hp : w.ownsRow B 5 1 p.val p.2.2.length (bv p.2.2)) (ho : w'.ownsRow B 25 1 V' (ps.length + 1) (psv ps ++ [p.val])) (hg : w.grownBy w' V.ownBlock) : Chunks w' B V' (ps ++ [p]) := by
  refine ⟨by rw [List.length_append, psv, List.map_append]; exact ho, fun q hq => ?_⟩
  have ht : (25 : TypeId) ≠ 5 := by decide
  rcases List.mem_append.1 hq with hq | hq
  · exact ownsRow_grown (h.each q hq) hg fun g e => ownsRow_other h.row (h.each q hq) ht g e
  · rw [List.mem_singleton.1 hq]
    exact ownsRow_grown hp hg fun g e => ownsRow_other h.row hp ht g e
end
theorem info_bytes : (Try.prog.info? 25).map (fun i => (i.zero, i.size, i.bytes)) = some (some (.slice none 0 0), 1, 24) := by kernel_rfl
theorem info_byte : (Try.prog.info? 5).map (fun i => (i.zero, i.size, i.bytes)) = some (some (.int .u8 0), 1, 1) := by kernel_rfl
def lenV : Value → Nat
  | .slice _ n _ => n
  | _ => 0
end Go.Proofs.Ytmnbfmcgnddlaaa
