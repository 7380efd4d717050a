/- An act in a variable of its own. No statement of the seat is proved here. -/
import Derived.Test.YthbgcffnnholeaaDskAct
import Derived.Test.YthbgcffnnholeaaSetRow
namespace Go.Proofs.Ythbgcffnnholeaa
open Go.RowKit
set_option linter.unusedVariables false

theorem act_desc : ∃ fs, Try.prog.underlying 45 = some (.struct fs) := ⟨_, Try.underlying45⟩
theorem act_size : (Try.prog.info? 45).map (·.size) = some 5 := by kernel_rfl
abbrev dz : Array Value := #[.int .u8 0, .int .i64 0, .int .i64 0, .slice none 0 0, .slice none 0 0]
theorem dcs_one (a : DActT) : (dcs a).toArray.all (·.oneCell') = true := by simp [dcs]; exact ⟨rfl, rfl, rfl, rfl, rfl⟩
theorem RdD.get {w wr : World} {A : Option Addr} {ls : List DActT} (h : RdD w w.heap.size A ls) (hb : Below w.heap.size w wr) {j k : Nat} (hj : j < ls.length) (hk : j < k) (hall : ∀ a ∈ ls.take k, a.b.length ≤ 20000) :
    ∃ g off a, A = some ⟨g, off, none⟩ ∧ wr.rangeAt g (off + j * 5) (dcs a) ∧ a.Ok w w.heap.size ∧ a.b.length ≤ 20000 ∧ ls[j] = a := by
  obtain ⟨g, off, e, _, hra, _⟩ := (h.below hb).at_ hj
  obtain ⟨_, _, _, _, _, hok⟩ := h.at_ hj
  exact ⟨g, off, _, e, hra, hok, hall _ (List.mem_iff_getElem.2 ⟨j, by rw [List.length_take]; omega, by rw [List.getElem_take]⟩), rfl⟩
/-- The box of an act. -/
theorem act_box (w : World) (a : DActT) : ∃ w1 ab, w.alloc (.cells (dcs a).toArray 45) = w1 ∧ w.heap.size = ab ∧ Below w.heap.size w w1 ∧ Blk w1 ab 45 (dcs a).toArray :=
  ⟨_, _, rfl, rfl, (Below.refl _ _).alloc (Nat.le_refl _) _, Blk.new w _ _⟩
end Go.Proofs.Ythbgcffnnholeaa
