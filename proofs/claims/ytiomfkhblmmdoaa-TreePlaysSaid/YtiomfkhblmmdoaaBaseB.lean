/- Calls and cells told from a base world, for regions whose calls return plain values. No statement of the seat is proved here. -/
import Derived.Test.YtiomfkhblmmdoaaQuiet
import Derived.Deep.MidRow
namespace Go.Proofs.Ytiomfkhblmmdoaa
open Go.RowKit Go.Sort

theorem from_base {P : Program} {f : FuncId} {args : Array Value} {w : World} {v : Value} (h : ∀ W, Below w.heap.size w W → Calls P f args W fun e w' => e = .returned v ∧ Below W.heap.size W w') (d : Nat) (os : Array Obj) :
    Calls P f args (grow (redrawn w d) os) fun e w'' => e = .returned v ∧ ∃ p : Regrown, w'' = grow (redrawn w p.d) p.os :=
  (h _ (below_regrown w d os)).mono fun _ _ ⟨he, hb⟩ => ⟨he, regrown_of_below ((below_regrown w d os).trans (hb.mono (below_regrown w d os).size))⟩
theorem cell_base {w : World} {g i : Nat} {v : Value} (h : w.cell? ⟨g, i, none⟩ = some v) (d : Nat) (os : Array Obj) : (grow (redrawn w d) os).cell? ⟨g, i, none⟩ = some v :=
  ((below_regrown w d os).cell (p := ⟨g, i, none⟩) (World.block_lt_of_cell? w _ h)).trans h
/-- The world behind such a region, by name. -/
theorem regrown_some (w : World) (p : Regrown) : ∃ w', grow (redrawn w p.d) p.os = w' ∧ Below w.heap.size w w' := ⟨_, rfl, below_regrown w p.d p.os⟩
/-- A range of cells in every world behind, as a quiet region asks for it. -/
theorem rng_base {w : World} {b off : Nat} {cs : List Value} (h : ∀ W, Below w.heap.size w W → W.rangeAt b off cs) (W : World) (hW : ∃ p : Regrown, W = grow (redrawn w p.d) p.os) : W.rangeAt b off cs := by
  obtain ⟨p, rfl⟩ := hW
  exact h _ (below_regrown w p.d p.os)
end Go.Proofs.Ytiomfkhblmmdoaa
