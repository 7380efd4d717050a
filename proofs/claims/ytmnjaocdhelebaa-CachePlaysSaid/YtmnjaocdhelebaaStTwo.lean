/- Two states behind pointers in one world, apart. For every stage. No statement of the seat is proved here. -/
import Derived.Test.YtmnjaocdhelebaaStKit
namespace Go.Proofs.Ytmnjaocdhelebaa
open Go.RowKit
set_option linter.unusedVariables false

/-- What every state is asked for: its blocks are there, and it stays while they stay. -/
structure Firm {σ : Type} (St : World → Addr → (Nat → Prop) → σ → Prop) : Prop where
  lt : ∀ {w s F S}, St w s F S → ∀ g, F g → g < w.heap.size
  keep : ∀ {w w' : World} {s F S}, St w s F S → (∀ g, F g → w'.heap[g]? = w.heap[g]?) → St w' s F S
/-- Both states in one world, in blocks apart that were made behind a base world. -/
def Two {σ τ : Type} (St : World → Addr → (Nat → Prop) → σ → Prop) (Tt : World → Addr → (Nat → Prop) → τ → Prop) (w0 w : World) (s t : Addr) (S : σ) (T : τ) : Prop :=
  ∃ F G, St w s F S ∧ Tt w t G T ∧ (∀ g, F g → ¬ G g) ∧ (∀ g, F g → w0.heap.size ≤ g) ∧ (∀ g, G g → w0.heap.size ≤ g) ∧ Below w0.heap.size w0 w
section
variable {σ τ : Type} {St : World → Addr → (Nat → Prop) → σ → Prop} {Tt : World → Addr → (Nat → Prop) → τ → Prop} {w0 w w' : World} {s t : Addr} {S S' : σ} {T : τ}
theorem Two.swap (h : Two St Tt w0 w s t S T) : Two Tt St w0 w t s T S := by
  obtain ⟨F, G, h1, h2, h3, h4, h5, h6⟩ := h
  exact ⟨G, F, h2, h1, fun g hg hf => h3 g hf hg, h5, h4, h6⟩
theorem Two.bel (h : Two St Tt w0 w s t S T) : Below w0.heap.size w0 w := by
  obtain ⟨F, G, h1, h2, h3, h4, h5, h6⟩ := h
  exact h6
theorem Two.on (hS : Firm St) (hT : Firm Tt) (h : Two St Tt w0 w s t S T) (hb : Below w.heap.size w w') : Two St Tt w0 w' s t S T := by
  obtain ⟨F, G, h1, h2, h3, h4, h5, h6⟩ := h
  exact ⟨F, G, hS.keep h1 fun g hg => hb.block g (hS.lt h1 g hg), hT.keep h2 fun g hg => hb.block g (hT.lt h2 g hg), h3, h4, h5, h6.trans (hb.mono h6.size)⟩
/-- The first one alone. -/
theorem Two.fst (h : Two St Tt w0 w s t S T) : Turned St w0 s (fun _ => False) w S := by
  obtain ⟨F, G, h1, h2, h3, h4, h5, h6⟩ := h
  exact ⟨F, h1, fun g hg => .inr (h4 g hg), ⟨h6.os, h6.tape, h6.output, h6.size, fun g hg _ => h6.block g hg⟩⟩
theorem Two.snd (h : Two St Tt w0 w s t S T) : Turned Tt w0 t (fun _ => False) w T := h.swap.fst
/-- The first one turns. -/
theorem Two.turn (hS : Firm St) (hT : Firm Tt) (h : Two St Tt w0 w s t S T) : ∃ F, Turned St w s F w S ∧ ∀ {w' S'}, Turned St w s F w' S' → Two St Tt w0 w' s t S' T := by
  obtain ⟨F, G, h1, h2, h3, h4, h5, h6⟩ := h
  refine ⟨F, Turned.refl h1, fun {w' S'} ht => ?_⟩
  obtain ⟨F', a1, a2, a3⟩ := ht
  have hG := hT.lt h2
  refine ⟨F', G, a1, hT.keep h2 fun g hg => a3.block g (hG g hg) fun hf => h3 g hf hg, fun g hf hg => ?_, fun g hf => ?_, h5, ?_⟩
  · rcases a2 g hf with h | h
    · exact h3 g h hg
    · have := hG g hg; omega
  · rcases a2 g hf with h | h
    · exact h4 g h
    · exact Nat.le_trans h6.size h
  · exact h6.trans (Only.below a3 h4 h6.size)
theorem Firm.on (hS : Firm St) {N : Nat → Prop} (h : Turned St w0 s N w S) (hb : Below w.heap.size w w') : Turned St w0 s N w' S := Turned.on' (fun h => hS.lt h) (fun h hk => hS.keep h hk) h hb
/-- The same further on; its blocks lie ahead of what was made meanwhile. -/
theorem Two.turn2 (hS : Firm St) (hT : Firm Tt) (h : Two St Tt w0 w s t S T) {w5 : World} (hb : Below w.heap.size w w5) : ∃ F, (∀ g, F g → g < w.heap.size) ∧ Turned St w5 s F w5 S ∧ ∀ {w' S'}, Turned St w5 s F w' S' → Two St Tt w0 w' s t S' T := by
  obtain ⟨F, G, h1, h2, h3, h4, h5, h6⟩ := h
  have hF := hS.lt h1
  have hG := hT.lt h2
  have h1' := hS.keep h1 fun g hg => hb.block g (hF g hg)
  have h2' := hT.keep h2 fun g hg => hb.block g (hG g hg)
  have h6' := h6.trans (hb.mono h6.size)
  have hG' := hT.lt h2'
  refine ⟨F, hF, Turned.refl h1', fun {w' S'} ht => ?_⟩
  obtain ⟨F', a1, a2, a3⟩ := ht
  refine ⟨F', G, a1, hT.keep h2' fun g hg => a3.block g (hG' g hg) fun hf => h3 g hf hg, fun g hf hg => ?_, fun g hf => ?_, h5, ?_⟩
  · rcases a2 g hf with h | h
    · exact h3 g h hg
    · have := hG' g hg; omega
  · rcases a2 g hf with h | h
    · exact h4 g h
    · exact Nat.le_trans h6'.size h
  · exact h6'.trans (Only.below a3 h4 h6'.size)
/-- A second one is made. -/
theorem Two.made (hS : Firm St) (h : Turned St w0 s (fun _ => False) w S) {G : Nat → Prop} (ht : Tt w' t G T) (hG : ∀ g, G g → w.heap.size ≤ g) (hb : Below w.heap.size w w') : Two St Tt w0 w' s t S T := by
  obtain ⟨F, h1, h2, h3⟩ := h
  have hF := hS.lt h1
  have hs := h3.size
  refine ⟨F, G, hS.keep h1 fun g hg => hb.block g (hF g hg), ht, fun g hf hg => by have := hF g hf; have := hG g hg; omega, fun g hf => (h2 g hf).elim (fun h => h.elim) id, fun g hg => Nat.le_trans hs (hG g hg), ?_⟩
  have h6 : Below w0.heap.size w0 w := h3.below (fun g hg => hg.elim) (Nat.le_refl _)
  exact h6.trans (hb.mono hs)
end
end Go.Proofs.Ytmnjaocdhelebaa
