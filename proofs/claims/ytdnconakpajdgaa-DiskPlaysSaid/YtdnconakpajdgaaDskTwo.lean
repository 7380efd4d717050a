/- Both disks of one world, apart from one another: what DiskPlays holds from round to round. No statement of the seat is proved here. -/
import Derived.Test.YtdnconakpajdgaaDskModel
import Derived.Test.YtdnconakpajdgaaDskAlike
namespace Go.Proofs.Ytdnconakpajdgaa
open Go.RowKit
set_option linter.unusedVariables false

/-- In wr the package's disk s is S, the reference's r is T; their blocks are apart, and behind all of w. -/
structure Two (St : World → Addr → (Nat → Prop) → DS → Prop) (w wr : World) (s r : Addr) (S T : DS) (F G : Nat → Prop) : Prop where
  left : St wr s F S
  right : Rst wr r G T
  apart : ∀ g, F g → ¬ G g
  lF : ∀ g, F g → w.heap.size ≤ g
  lG : ∀ g, G g → w.heap.size ≤ g
  bel : Below w.heap.size w wr
section
variable {St : World → Addr → (Nat → Prop) → DS → Prop} {w wr w' : World} {s r s' : Addr} {S T S' : DS} {F G F' : Nat → Prop}
theorem Two.on (K : DisksOk St) (h : Two St w wr s r S T F G) (hb : Below wr.heap.size wr w') : Two St w w' s r S T F G :=
  ⟨K.below h.left hb, rst_keep h.right fun g hg => hb.block g (rst_lt h.right g hg), h.apart, h.lF, h.lG, h.bel.trans (hb.mono h.bel.size)⟩
/-- The package's disk has turned. -/
theorem Two.turn (h : Two St w wr s r S T F G) (ht : Turned St wr s F w' S') : ∃ F', Two St w w' s r S' T F' G := by
  obtain ⟨F', a1, a2, a3⟩ := ht
  refine ⟨F', a1, rst_keep h.right fun g hg => a3.block g (rst_lt h.right g hg) fun hf => h.apart g hf hg, fun g hf hg => ?_, fun g hf => ?_, h.lG, h.bel.trans (a3.below h.lF h.bel.size)⟩
  · rcases a2 g hf with h1 | h1
    · exact h.apart g h1 hg
    · have := rst_lt h.right g hg; omega
  · rcases a2 g hf with h1 | h1
    · exact h.lF g h1
    · exact Nat.le_trans h.bel.size h1
/-- The reference's disk has turned. -/
theorem Two.turn2 (K : DisksOk St) (h : Two St w wr s r S T F G) (ht : Turned Rst wr r G w' S') : ∃ G', Two St w w' s r S S' F G' := by
  obtain ⟨G', a1, a2, a3⟩ := ht
  refine ⟨G', K.other h.left a3 h.apart, a1, fun g hf hg => ?_, h.lF, fun g hg => ?_, h.bel.trans (a3.below h.lG h.bel.size)⟩
  · rcases a2 g hg with h1 | h1
    · exact h.apart g hf h1
    · have := K.lt h.left g hf; omega
  · rcases a2 g hg with h1 | h1
    · exact h.lG g h1
    · exact Nat.le_trans h.bel.size h1
/-- Another disk of the package, made behind wr, takes the place of s; s itself has turned, and is let go. -/
theorem Two.swap (K : DisksOk St) (h : Two St w wr s r S T F G) {wc : World} (hc : St wc s' F' S') (hF : ∀ g, F' g → wr.heap.size ≤ g) (hb : Below wr.heap.size wr wc) (ho : Only F wc w') : Two St w w' s' r S' T F' G := by
  have h1 := h.on K hb
  refine ⟨K.other hc ho fun g hf h2 => ?_, rst_keep h1.right fun g hg => ho.block g (rst_lt h1.right g hg) fun hf => h.apart g hf hg, fun g hf hg => ?_, fun g hf => ?_, h.lG, h1.bel.trans (ho.below h.lF h1.bel.size)⟩
  · have := hF g hf; have := K.lt h.left g h2; omega
  · have := hF g hf; have := rst_lt h.right g hg; omega
  · exact Nat.le_trans h.bel.size (hF g hf)
/-- Both, and the block of an act that is of neither. -/
def Two2 (St : World → Addr → (Nat → Prop) → DS → Prop) (w wr : World) (s r : Addr) (S T : DS) (a : DActT) (ab : Nat) : Prop :=
  ∃ F G, Two St w wr s r S T F G ∧ Blk wr ab 35 (dcs a).toArray ∧ ¬ F ab ∧ ¬ G ab
variable {a : DActT} {ab : Nat}
theorem t2_rng (h : Two2 St w wr s r S T a ab) : wr.rangeAt ab 0 (dcs a) := by
  obtain ⟨F, G, _, hb, _, _⟩ := h
  intro u v hu
  rw [Nat.zero_add, hb.cell, List.getElem?_toArray]
  exact hu
theorem t2_cells (h : Two2 St w wr s r S T a ab) : wr.cell? ⟨ab, 0, none⟩ = some (.int .u8 a.kind) ∧ wr.cell? ⟨ab, 1, none⟩ = some (.int .i64 a.at_) ∧ wr.cell? ⟨ab, 2, none⟩ = some (.int .i64 a.num) ∧
    wr.cell? ⟨ab, 3, none⟩ = some (.slice a.adr a.b.length a.cap) ∧ wr.cell? ⟨ab, 4, none⟩ = some (.slice a.fadr a.fates.length a.fcap) := by
  obtain ⟨F, G, _, hb, _, _⟩ := h
  exact ⟨hb.cell 0, hb.cell 1, hb.cell 2, hb.cell 3, hb.cell 4⟩
theorem t2_on (K : DisksOk St) (h : Two2 St w wr s r S T a ab) (hb : Below wr.heap.size wr w') : Two2 St w w' s r S T a ab := by
  obtain ⟨F, G, h, hk, h1, h2⟩ := h
  exact ⟨F, G, h.on K hb, hk.below hb hk.lt, h1, h2⟩
theorem out_low {A : Option Addr} {b : List UInt8} (hr : Rd w w.heap.size A b) (hF : ∀ g, F g → w.heap.size ≤ g) : Out F A b.length := fun ad ha h0 hf => by
  obtain ⟨g, off, e, hg, _⟩ := hr h0
  rw [ha] at e
  injection e with e
  rw [e] at hf
  have := hF _ hf
  simp at this
  omega
theorem outv_low {A : Option Addr} {b : List Value} (hr : RdV w w.heap.size A b) (hF : ∀ g, F g → w.heap.size ≤ g) : Out F A b.length := fun ad ha h0 hf => by
  obtain ⟨g, off, e, hg, _⟩ := hr h0
  rw [ha] at e
  injection e with e
  rw [e] at hf
  have := hF _ hf
  simp at this
  omega
theorem t2_does (K : DisksOk St) (h : Two2 St w wr s r S T a ab) (hf : Few S) (ha : a.Ok w w.heap.size) (hbl : a.b.length ≤ 20000) :
    Calls Try.prog 16 #[.pointer (some s), .agg #[.int .u8 a.kind, .int .i64 a.at_, .int .i64 a.num, .slice a.adr a.b.length a.cap, .slice a.fadr a.fates.length a.fcap]] wr fun e w' => e = .returned (.int .i64 (doE S a : Nat)) ∧ Two2 St w w' s r (doS S a) T a ab := by
  obtain ⟨F, G, h, hk, h1, h2⟩ := h
  refine (does_any K (Turned.refl h.left) hf a ((ha.below h.bel).more h.bel.size) hbl (out_low ha.rd h.lF) (by have := outv_low ha.frd h.lF; rw [iv_length] at this; exact this)).mono ?_
  rintro e w' ⟨rfl, ht⟩
  have ht0 := ht
  obtain ⟨F1, a1, a2, a3⟩ := ht0
  obtain ⟨F2, hh⟩ := h.turn ht
  have hk2 : Blk w' ab 35 (dcs a).toArray := hk.same (a3.block ab hk.lt h1)
  refine ⟨rfl, F1, G, ⟨a1, hh.right, fun g hf hg => ?_, fun g hf => ?_, h.lG, hh.bel⟩, hk2, fun hx => ?_, h2⟩
  · rcases a2 g hf with h3 | h3
    · exact h.apart g h3 hg
    · have := rst_lt h.right g hg; omega
  · rcases a2 g hf with h3 | h3
    · exact h.lF g h3
    · exact Nat.le_trans h.bel.size h3
  · rcases a2 ab hx with h3 | h3
    · exact h1 h3
    · have := hk.lt; omega
theorem t2_model (K : DisksOk St) (h : Two2 St w wr s r S T a ab) (hf : Few T) (ha : a.Ok w w.heap.size) :
    Calls Try.prog 17 #[.pointer (some r), .agg #[.int .u8 a.kind, .int .i64 a.at_, .int .i64 a.num, .slice a.adr a.b.length a.cap, .slice a.fadr a.fates.length a.fcap]] wr fun e w' => e = .returned (.int .i64 (doE T a : Nat)) ∧ Two2 St w w' s r S (doS T a) a ab := by
  obtain ⟨F, G, h, hk, h1, h2⟩ := h
  refine (model_any (Turned.refl h.right) hf a ((ha.below h.bel).more h.bel.size) (out_low ha.rd h.lG) (by have := outv_low ha.frd h.lG; rw [iv_length] at this; exact this)).mono ?_
  rintro e w' ⟨rfl, G1, a1, a2, a3⟩
  have hk2 : Blk w' ab 35 (dcs a).toArray := hk.same (a3.block ab hk.lt h2)
  refine ⟨rfl, F, G1, ⟨K.other h.left a3 h.apart, a1, fun g hf hg => ?_, h.lF, fun g hg => ?_, h.bel.trans (a3.below h.lG h.bel.size)⟩, hk2, h1, fun hx => ?_⟩
  · rcases a2 g hg with h3 | h3
    · exact h.apart g hf h3
    · have := K.lt h.left g hf; omega
  · rcases a2 g hg with h3 | h3
    · exact h.lG g h3
    · exact Nat.le_trans h.bel.size h3
  · rcases a2 ab hx with h3 | h3
    · exact h2 h3
    · have := hk.lt; omega
theorem t2_alike (K : DisksOk St) (h : Two2 St w wr s r S S a ab) (hf : Few S) :
    Calls Try.prog 18 #[.pointer (some s), .pointer (some r)] wr fun e w' => e = .returned (.bool true) ∧ Two2 St w w' s r S S a ab := by
  have h0 := h
  obtain ⟨F, G, h, hk, h1, h2⟩ := h
  refine (alike_any K h.left h.right hf).mono ?_
  rintro e w' ⟨rfl, hb⟩
  exact ⟨rfl, t2_on K h0 hb⟩
end
end Go.Proofs.Ytdnconakpajdgaa
