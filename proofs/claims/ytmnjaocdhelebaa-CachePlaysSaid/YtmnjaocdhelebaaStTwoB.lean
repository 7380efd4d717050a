/- Two states and blocks of the call's own in one world, apart: for every law that plays a package against its reference. No statement of the seat is proved here; nothing of the program is named. -/
import Derived.Test.YtmnjaocdhelebaaStTwo
namespace Go.Proofs.Ytmnjaocdhelebaa
open Go.RowKit
set_option linter.unusedVariables false

def TwoB {σ τ : Type} (St : World → Addr → (Nat → Prop) → σ → Prop) (Tt : World → Addr → (Nat → Prop) → τ → Prop) (w0 w : World) (s t : Addr) (S : σ) (T : τ) (E : List (Nat × Obj)) : Prop :=
  ∃ F G, St w s F S ∧ Tt w t G T ∧ (∀ g, F g → ¬ G g) ∧ (∀ g, F g → w0.heap.size ≤ g) ∧ (∀ g, G g → w0.heap.size ≤ g) ∧ Below w0.heap.size w0 w ∧ ∀ p ∈ E, w.heap[p.1]? = some p.2 ∧ ¬ F p.1 ∧ ¬ G p.1
theorem blk_in {w : World} {g : Nat} {o : Obj} (h : w.heap[g]? = some o) : g < w.heap.size := by
  rcases Nat.lt_or_ge g w.heap.size with hlt | hge
  · exact hlt
  · rw [Array.getElem?_eq_none hge] at h; cases h
section
variable {σ τ : Type} {St : World → Addr → (Nat → Prop) → σ → Prop} {Tt : World → Addr → (Nat → Prop) → τ → Prop} {w0 w w' : World} {s t : Addr} {S S' : σ} {T T' : τ} {E : List (Nat × Obj)}
theorem TwoB.swap (h : TwoB St Tt w0 w s t S T E) : TwoB Tt St w0 w t s T S E := by
  obtain ⟨F, G, h1, h2, h3, h4, h5, h6, h7⟩ := h
  exact ⟨G, F, h2, h1, fun g hg hf => h3 g hf hg, h5, h4, h6, fun p hp => ⟨(h7 p hp).1, (h7 p hp).2.2, (h7 p hp).2.1⟩⟩
theorem TwoB.bel (h : TwoB St Tt w0 w s t S T E) : Below w0.heap.size w0 w := by
  obtain ⟨F, G, h1, h2, h3, h4, h5, h6, h7⟩ := h
  exact h6
theorem TwoB.on (hS : Firm St) (hT : Firm Tt) (h : TwoB St Tt w0 w s t S T E) (hb : Below w.heap.size w w') : TwoB St Tt w0 w' s t S T E := by
  obtain ⟨F, G, h1, h2, h3, h4, h5, h6, h7⟩ := h
  exact ⟨F, G, hS.keep h1 fun g hg => hb.block g (hS.lt h1 g hg), hT.keep h2 fun g hg => hb.block g (hT.lt h2 g hg), h3, h4, h5, h6.trans (hb.mono h6.size), fun p hp => ⟨(hb.block p.1 (blk_in (h7 p hp).1)).trans (h7 p hp).1, (h7 p hp).2⟩⟩
theorem TwoB.blk {g : Nat} {t' : TypeId} {cs : Array Value} (h : TwoB St Tt w0 w s t S T E) (hm : (g, Obj.cells cs t' (0, 0)) ∈ E) : Blk w g t' cs := by
  obtain ⟨F, G, h1, h2, h3, h4, h5, h6, h7⟩ := h
  exact (h7 _ hm).1
theorem TwoB.drop {e : Nat × Obj} (h : TwoB St Tt w0 w s t S T (e :: E)) : TwoB St Tt w0 w s t S T E := by
  obtain ⟨F, G, h1, h2, h3, h4, h5, h6, h7⟩ := h
  exact ⟨F, G, h1, h2, h3, h4, h5, h6, fun p hp => h7 p (List.mem_cons_of_mem _ hp)⟩
/-- Of both states there are no boxes yet. -/
theorem TwoB.of_two (h : Two St Tt w0 w s t S T) : TwoB St Tt w0 w s t S T [] := by
  obtain ⟨F, G, h1, h2, h3, h4, h5, h6⟩ := h
  exact ⟨F, G, h1, h2, h3, h4, h5, h6, fun p hp => by cases hp⟩
/-- A block that stood when the base world was is a box, too. -/
theorem TwoB.old {g : Nat} {o : Obj} (h : TwoB St Tt w0 w s t S T E) (hg : w0.heap[g]? = some o) : TwoB St Tt w0 w s t S T ((g, o) :: E) := by
  obtain ⟨F, G, h1, h2, h3, h4, h5, h6, h7⟩ := h
  have hlt := blk_in hg
  refine ⟨F, G, h1, h2, h3, h4, h5, h6, fun p hp => ?_⟩
  rcases List.mem_cons.1 hp with rfl | hp
  · exact ⟨(h6.block g hlt).trans hg, fun hf => by have := h4 _ hf; omega, fun hf => by have := h5 _ hf; omega⟩
  · exact h7 p hp
/-- A box is made. -/
theorem TwoB.box (hS : Firm St) (hT : Firm Tt) (h : TwoB St Tt w0 w s t S T E) {g : Nat} {t' : TypeId} {cs : Array Value} (hg : w.heap.size = g) (hw : w.alloc (.cells cs t') = w') : TwoB St Tt w0 w' s t S T ((g, Obj.cells cs t' (0, 0)) :: E) := by
  have hb : Below w.heap.size w w' := hw ▸ (Below.refl _ _).alloc (Nat.le_refl _) _
  obtain ⟨F, G, h1, h2, h3, h4, h5, h6, h7⟩ := h
  have hF := hS.lt h1
  have hG := hT.lt h2
  refine ⟨F, G, hS.keep h1 fun g hg => hb.block g (hF g hg), hT.keep h2 fun g hg => hb.block g (hG g hg), h3, h4, h5, h6.trans (hb.mono h6.size), fun p hp => ?_⟩
  rcases List.mem_cons.1 hp with rfl | hp
  · refine ⟨by rw [← hw, ← hg]; exact heap_alloc_new w _, fun hf => ?_, fun hf => ?_⟩
    · have := hF _ hf; omega
    · have := hG _ hf; omega
  · exact ⟨(hb.block p.1 (blk_in (h7 p hp).1)).trans (h7 p hp).1, (h7 p hp).2⟩
/-- The first state turns; the world may have grown meanwhile. -/
theorem TwoB.left (hS : Firm St) (hT : Firm Tt) (h : TwoB St Tt w0 w s t S T E) {W : World} (hb : Below w.heap.size w W) : ∃ F, (∀ g, F g → g < w.heap.size ∧ w0.heap.size ≤ g) ∧ St W s F S ∧ ∀ {w' S'}, Turned St W s F w' S' → TwoB St Tt w0 w' s t S' T E := by
  obtain ⟨F, G, h1, h2, h3, h4, h5, h6, h7⟩ := h
  have hF := hS.lt h1
  have h1' := hS.keep h1 fun g hg => hb.block g (hF g hg)
  have hG := hT.lt h2
  have h2' := hT.keep h2 fun g hg => hb.block g (hG g hg)
  have hG' := hT.lt h2'
  have h6' := h6.trans (hb.mono h6.size)
  refine ⟨F, fun g hg => ⟨hF g hg, h4 g hg⟩, h1', fun {w' S'} ⟨F', a1, a2, a3⟩ => ⟨F', G, a1, hT.keep h2' fun g hg => a3.block g (hG' g hg) fun hf => h3 g hf hg, fun g hf hg => ?_, fun g hf => ?_, h5, h6'.trans (Only.below a3 h4 h6'.size), fun p hp => ?_⟩⟩
  · rcases a2 g hf with h | h
    · exact h3 g h hg
    · have := hG' g hg; omega
  · rcases a2 g hf with h | h
    · exact h4 g h
    · exact Nat.le_trans h6'.size h
  · have hp1 := (hb.block p.1 (blk_in (h7 p hp).1)).trans (h7 p hp).1
    refine ⟨(a3.block p.1 (blk_in hp1) (h7 p hp).2.1).trans hp1, fun hf => ?_, (h7 p hp).2.2⟩
    rcases a2 _ hf with h | h
    · exact (h7 p hp).2.1 h
    · have := blk_in hp1; omega
theorem TwoB.right (hS : Firm St) (hT : Firm Tt) (h : TwoB St Tt w0 w s t S T E) {W : World} (hb : Below w.heap.size w W) : ∃ G, (∀ g, G g → g < w.heap.size ∧ w0.heap.size ≤ g) ∧ Tt W t G T ∧ ∀ {w' T'}, Turned Tt W t G w' T' → TwoB St Tt w0 w' s t S T' E := by
  obtain ⟨G, h1, h2, h3⟩ := h.swap.left hT hS hb
  exact ⟨G, h1, h2, fun ht => (h3 ht).swap⟩
end
end Go.Proofs.Ytmnjaocdhelebaa
