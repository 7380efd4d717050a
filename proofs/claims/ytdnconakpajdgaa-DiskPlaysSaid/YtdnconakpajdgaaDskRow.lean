/- An act in a variable of its own. No statement of the seat is proved here. -/
import Derived.Test.YtdnconakpajdgaaDskShown
namespace Go.Proofs.Ytdnconakpajdgaa
open Go.RowKit
set_option linter.unusedVariables false

/-- A box that is made and filled. -/
theorem setRow_alloc (w : World) (t : TypeId) (cs ds : Array Value) : (w.alloc (.cells cs t)).setRow w.heap.size ds = w.alloc (.cells ds t) := by
  have e : ∀ f : Obj → Obj, f (.cells cs t) = .cells ds t → (w.heap.push (.cells cs t)).modify w.heap.size f = w.heap.push (.cells ds t) := fun f hf => by
    apply Array.ext
    · simp
    · intro i h1 h2
      rw [Array.getElem_modify]
      by_cases e : w.heap.size = i
      · subst e
        simp [hf]
      · have hi : i < w.heap.size := by simp at h2; omega
        rw [if_neg e, Array.getElem_push_lt hi, Array.getElem_push_lt hi]
  unfold World.setRow
  show ({ (w.alloc (.cells cs t)) with heap := (w.heap.push (.cells cs t)).modify w.heap.size _ } : World) = _
  rw [e _ rfl]
  rfl
theorem act_desc : ∃ fs, Try.prog.underlying 35 = some (.struct fs) := ⟨_, Try.underlying35⟩
theorem act_size : (Try.prog.info? 35).map (·.size) = some 5 := by kernel_rfl
abbrev dz : Array Value := #[.int .u8 0, .int .i64 0, .int .i64 0, .slice none 0 0, .slice none 0 0]
theorem dcs_one (a : DActT) : (dcs a).toArray.all (·.oneCell') = true := by simp [dcs]; exact ⟨rfl, rfl, rfl, rfl, rfl⟩
theorem RdD.get {w wr : World} {A : Option Addr} {ls : List DActT} (h : RdD w w.heap.size A ls) (hb : Below w.heap.size w wr) {j k : Nat} (hj : j < ls.length) (hk : j < k) (hall : ∀ a ∈ ls.take k, a.b.length ≤ 20000) :
    ∃ g off a, A = some ⟨g, off, none⟩ ∧ wr.rangeAt g (off + j * 5) (dcs a) ∧ a.Ok w w.heap.size ∧ a.b.length ≤ 20000 ∧ ls[j] = a := by
  obtain ⟨g, off, e, _, hra, _⟩ := (h.below hb).at_ hj
  obtain ⟨_, _, _, _, _, hok⟩ := h.at_ hj
  exact ⟨g, off, _, e, hra, hok, hall _ (List.mem_iff_getElem.2 ⟨j, by rw [List.length_take]; omega, by rw [List.getElem_take]⟩), rfl⟩
/-- The box of an act. -/
theorem act_box (w : World) (a : DActT) : ∃ w1 ab, w.alloc (.cells (dcs a).toArray 35) = w1 ∧ w.heap.size = ab ∧ Below w.heap.size w w1 ∧ Blk w1 ab 35 (dcs a).toArray :=
  ⟨_, _, rfl, rfl, (Below.refl _ _).alloc (Nat.le_refl _) _, Blk.new w _ _⟩
end Go.Proofs.Ytdnconakpajdgaa
