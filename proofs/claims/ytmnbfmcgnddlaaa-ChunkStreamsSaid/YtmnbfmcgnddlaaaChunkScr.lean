/- What is written over: rows of the call's own; what stays. No statement of the seat is proved here. -/
import Derived.Test.YtmnbfmcgnddlaaaChunkRows
import Derived.Test.YtmnbfmcgnddlaaaChunkEnds
namespace Go.Proofs.Ytmnbfmcgnddlaaa
open Go.RowKit

theorem setCell_block {w : World} {g g' i : Nat} {v : Value} (h : g' ≠ g) : (w.setCell ⟨g, i, none⟩ v).heap[g']? = w.heap[g']? := by
  simp [World.setCell, Array.getElem?_modify]
  intro e; exact absurd e.symm h
theorem setCell_size {w : World} {g i : Nat} {v : Value} : (w.setCell ⟨g, i, none⟩ v).heap.size = w.heap.size := by simp [World.setCell]
theorem setCell_grown {w0 w : World} {g i : Nat} {v : Value} (h : w0.grownBy w (some g)) : w0.grownBy (w.setCell ⟨g, i, none⟩ v) (some g) :=
  ⟨h.os, h.tape, h.output, by rw [setCell_size]; exact h.size, fun k hk hn => (setCell_block (fun e => hn (by rw [e]))).trans (h.block k hk hn)⟩
/-- A byte of a row of the call's own. -/
theorem own_at {w : World} {b n c : Nat} {A : Option Addr} {l : List UInt8} (h : w.ownsRow b 5 1 (.slice A n c) n (bv l)) {k : Nat} (hk : k < n) :
    ∃ g x, A = some ⟨g, 0, none⟩ ∧ (Value.slice A n c).ownBlock = some g ∧ w.cell? ⟨g, k, none⟩ = some (.int .u8 ((x : UInt8).toNat : Nat)) ∧ w.frozen? ⟨g, k, none⟩ = false := by
  have hl : l.length = n := by have := h.1; rw [bv_length] at this; omega
  rcases h.2 with ⟨_, h0⟩ | ⟨g, cap, cur, hv, _, hh, hnc, _, hcs, ht⟩
  · omega
  · injection hv with hA _ _
    refine ⟨g, l[k], hA, by rw [hA]; rfl, ?_, frozen_of_row w g k cur _ hh⟩
    rw [cell_of_row w g k cur _ (0, 0) hh]
    have hu : (bv l)[k]? = some (.int .u8 (l[k]).toNat) := bv_get (by omega)
    rw [← ht, List.getElem?_take] at hu
    split at hu
    · simpa using hu
    · cases hu
/-- The row stays one when a byte is written into its block, or into another one. -/
theorem own_set {w : World} {b n g j : Nat} {v : Value} {l : List UInt8} (h : w.ownsRow b 5 1 v n (bv l)) (x : UInt8) : ∃ l', (w.setCell ⟨g, j, none⟩ (.int .u8 x.toNat)).ownsRow b 5 1 v n (bv l') := by
  by_cases hg : v.ownBlock = some g
  · rcases h.2 with ⟨rfl, _⟩ | ⟨g1, cap, cur, rfl, hb, hh, hnc, hm, hcs, ht⟩
    · simp [Value.ownBlock] at hg
    · simp [Value.ownBlock] at hg
      subst hg
      have hB : Blk w g1 5 cur := hh
      refine ⟨l.set j x, ⟨by rw [bv_length, List.length_set, ← bv_length]; exact h.1, .inr ⟨g1, cap, cur.setIfInBounds j (.int .u8 x.toNat), rfl, hb, hB.set_ j _, hnc, hm, by simpa using hcs, ?_⟩⟩⟩
      have e : bv (l.set j x) = (bv l).set j (.int .u8 x.toNat) := by simp [bv, List.map_set]
      rw [e, ← ht]
      simp [List.take_set]
  · exact ⟨l, ownsRow_same h fun g' hv _ => setCell_block fun e => hg (by rw [hv, e])⟩
theorem Rd.touch {w w' : World} {s : Nat} {A : Option Addr} {l : List UInt8} (h : Rd w w.heap.size A l) (hne : ∀ ad, A = some ad → ad.block ≠ s) (ht : Touch s w w') : Rd w' w'.heap.size A l := fun hn => by
  obtain ⟨g, off, e, hg, hc⟩ := h hn
  have h1 := hne _ e
  refine ⟨g, off, e, Nat.lt_of_lt_of_le hg ht.size, fun j hj => ?_⟩
  rw [← hc j hj]
  exact World.cell?_of_block (a := ⟨g, off + j, none⟩) (ht.block g hg h1)
/-- What stays while the chunks that were told are written over: all below block b, the stream, what is left. -/
structure Scr (w0 : World) (b B s : Nat) (C : Ctr) (As : Option Addr) (ns cs : Nat) (hs : List UInt8) (Ar : Option Addr) (r : List UInt8) (V : Value) (ps : List Part) (w : World) : Prop where
  bel : Below b w0 w
  st : St w B s C As ns cs hs
  rd : Rd w w.heap.size Ar r
  row : w.ownsRow b 25 1 V ps.length (psv ps)
  each : ∀ p ∈ ps, ∃ l, w.ownsRow b 5 1 p.val p.2.2.length (bv l)
theorem Scr.set_ {w0 w : World} {b B s : Nat} {C : Ctr} {As : Option Addr} {ns cs : Nat} {hs : List UInt8} {Ar : Option Addr} {r : List UInt8} {V : Value} {ps : List Part} (h : Scr w0 b B s C As ns cs hs Ar r V ps w) {p : Part} (hp : p ∈ ps) {g : Nat} (hg : p.val.ownBlock = some g)
    (hs1 : (Value.slice As ns cs).ownBlock ≠ some g) (hr1 : ∀ ad, Ar = some ad → ad.block ≠ g) (j : Nat) (x : UInt8) : Scr w0 b B s C As ns cs hs Ar r V ps (w.setCell ⟨g, j, none⟩ (.int .u8 x.toNat)) := by
  obtain ⟨l0, h0⟩ := h.each p hp
  have hbg : b ≤ g := (h0.lt g hg).1
  have hsg : s ≠ g := fun e => row_not_blk h0 h.st.blk ty_u8 (by rw [e]; exact hg)
  refine ⟨h.bel.setCell (show b ≤ (⟨g, j, none⟩ : Addr).block from hbg) _, ⟨h.st.blk.same (setCell_block hsg), ownsRow_same h.st.own fun g' hv _ => setCell_block fun e => hs1 (by rw [hv, e]), h.st.len, h.st.le⟩, ?_,
    ownsRow_same h.row fun g' hv _ => setCell_block fun e => ownsRow_other h.row h0 ty_row g' hv (by rw [e]; exact hg), fun q hq => ?_⟩
  · intro hn
    obtain ⟨g', off, e, hl, hc⟩ := h.rd hn
    refine ⟨g', off, e, by rw [setCell_size]; exact hl, fun k hk => ?_⟩
    rw [← hc k hk]
    have hne : g' ≠ g := hr1 ⟨g', off, none⟩ e
    exact World.cell?_of_block (a := ⟨g', off + k, none⟩) (setCell_block hne)
  · obtain ⟨l, hl⟩ := h.each q hq
    exact own_set hl x
/-- Behind a Write, when what was written is written over: the chunks, the stream. -/
theorem Wrote.after {C : Ctr} {l : List UInt8} {w2 w3 W : World} {B s : Nat} {V : Value} {ps : List Part} {A' : Option Addr} {n' c' : Nat} (hW : Wrote C l w2 w3 B s V ps A' n' c') {b n : Nat} {v : Value} {xs : List UInt8} {cs : Array Value}
    (ho : w2.ownsRow b 5 1 v n (bv xs)) (hB : Blk w2 s 49 cs) (hg : w3.grownBy W v.ownBlock) : Chunks W w2.heap.size V ps ∧ St W B s C A' n' c' (leftB C l) := by
  have hlt : ∀ g, v.ownBlock = some g → g < w2.heap.size := fun g e => (ho.lt g e).2
  refine ⟨⟨ownsRow_grown hW.chunks.row hg fun g e e' => ?_, fun p hp => ownsRow_grown (hW.chunks.each p hp) hg fun g e e' => ?_⟩, ⟨hW.st.blk.same (hg.block s hW.st.blk.lt fun e => ?_), ownsRow_grown hW.st.own hg fun g e e' => ?_, hW.st.len, hW.st.le⟩⟩
  · have h1 := hlt g e; have h2 := (hW.chunks.row.lt g e').1; omega
  · have h1 := hlt g e; have h2 := ((hW.chunks.each p hp).lt g e').1; omega
  · exact row_not_blk ho hB ty_u8 e.symm
  · have h1 := hlt g e; have h2 := (hW.own.lt g e').1; omega
theorem close_told (B s : Nat) (C : Ctr) (A : Option Addr) (n c : Nat) (h : List UInt8) (w : World) (hs : St w B s C A n c h) :
    Calls Try.prog 23 #[.pointer (some ⟨s, 0, none⟩)] w fun e w' => ∃ A' c' A'' c'', e = .returned (.slice A' (tailB h).length c') ∧ (∃ ps, Parts w' w'.heap.size A' ps ∧ psb ps = tailB h) ∧ St w' B s C A'' 0 c'' [] ∧ Touch s w w' :=
  (close_ok B s C A n c h w hs).mono fun e w' ⟨V, ps, he, hch, hps, ⟨A'', c'', hst⟩, ht⟩ => by
    obtain ⟨A', c', rfl, h1, h2⟩ := hch.form
    have hlen : ps.length = (tailB h).length := by rw [← hps]; simp [psb]
    rw [hlen] at he h1 hch
    exact ⟨A', c', A'', c'', he, ⟨ps, hch.parts hlen, hps⟩, hst, ht⟩
theorem psv_at {w : World} {b z c k : Nat} {e : TypeId} {A : Option Addr} {ps : List Part} (h : w.ownsRow b e 1 (.slice A z c) ps.length (psv ps)) (hz : z = ps.length) (hk : k < ps.length) : ∃ g off, A = some ⟨g, off, none⟩ ∧ w.cell? ⟨g, off + k, none⟩ = some ps[k].val := by
  subst hz
  obtain ⟨g, off, e, _, hc⟩ := own_rdv h (by rw [List.length_map]; omega)
  exact ⟨g, off, e, by rw [hc k (by rw [List.length_map]; exact hk)]; simp⟩
theorem own_le {w : World} {b n c : Nat} {e : TypeId} {A : Option Addr} {xs : List Value} (h : w.ownsRow b e 1 (.slice A n c) n xs) : n ≤ c ∧ c ≤ 9223372036854775807 := by
  obtain ⟨_, _, e, h1, h2⟩ := ownsRow_form h
  injection e with _ _ e
  subst e; exact ⟨h1, h2⟩
theorem bits_xor_byte (a b : Nat) (ha : a < 256) (hb : b < 256) : bits .xor .u8 (a : Int) (b : Int) = ((a ^^^ b : Nat) : Int) := by
  have hx : a ^^^ b < 2 ^ 8 := Nat.xor_lt_two_pow (by omega) (by omega)
  have h1 : (BitVec.ofInt 8 (a : Int)).toNat = a := by
    rw [BitVec.ofInt_natCast, BitVec.toNat_ofNat]; exact Nat.mod_eq_of_lt (by omega)
  have h2 : (BitVec.ofInt 8 (b : Int)).toNat = b := by
    rw [BitVec.ofInt_natCast, BitVec.toNat_ofNat]; exact Nat.mod_eq_of_lt (by omega)
  show IntKind.u8.wrap ((BitVec.ofInt 8 (a : Int) ^^^ BitVec.ofInt 8 (b : Int)).toNat : Int) = _
  rw [BitVec.toNat_xor, h1, h2, IntKind.wrap_u8]
  omega
theorem xor_byte (x : UInt8) : ∃ y : UInt8, bits .xor .u8 ((x.toNat : Nat) : Int) 85 = ((y.toNat : Nat) : Int) := by
  have h := x.toNat_lt
  refine ⟨x ^^^ 85, ?_⟩
  rw [show (85 : Int) = ((85 : Nat) : Int) from rfl, bits_xor_byte _ _ (by omega) (by omega), UInt8.toNat_xor]
  rfl
end Go.Proofs.Ytmnbfmcgnddlaaa
