/- A box that is made and filled. No statement of the seat is proved here. -/
import Derived.Test.YtmnjaocdhelebaaMem
namespace Go.Proofs.Ytmnjaocdhelebaa
open Go.RowKit
set_option linter.unusedVariables false

/-- A box that is made and filled. -/
theorem setRow_alloc (w : World) (t : TypeId) (cs ds : Array Value) : (w.alloc (.cells cs t)).setRow w.heap.size ds = w.alloc (.cells ds t) := by
  have e : ∀ f : Obj → Obj, f (.cells cs t) = .cells ds t → (w.heap.push (.cells cs t)).modify w.heap.size f = w.heap.push (.cells ds t) := fun f hf => by
    apply Array.ext
    · simp
    · intro i h1 h2
      rw [Array.getElem_modify]
      by_cases e : w.heap.size = i
      · subst e
        simp [hf]
      · have hi : i < w.heap.size := by simp at h2; omega
        rw [if_neg e, Array.getElem_push_lt hi, Array.getElem_push_lt hi]
  unfold World.setRow
  show ({ (w.alloc (.cells cs t)) with heap := (w.heap.push (.cells cs t)).modify w.heap.size _ } : World) = _
  rw [e _ rfl]
  rfl
end Go.Proofs.Ytmnjaocdhelebaa
