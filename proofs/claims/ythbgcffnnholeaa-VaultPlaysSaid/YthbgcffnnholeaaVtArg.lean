/- A shape that came in. No statement of the seat is proved here. -/
import Derived.Test.YthbgcffnnholeaaStKit
import Derived.Lib.SmallJoins
namespace Go.Proofs.Ythbgcffnnholeaa
open Go.ChangeShapes Go.WideShapes Go.ChangeAt Go.RowKit Go.Sort Go.Deep Go.Joins

theorem shape_fields : ∃ f0 f1 f2 f3 : Field, Try.prog.underlying 23 = some (.struct #[f0, f1, f2, f3]) ∧ f0.type = 5 ∧ f1.type = 3 ∧ f2.type = 3 ∧ f3.type = 3 ∧ oneCellFields Try.prog #[f0, f1, f2, f3] = true ∧ Try.prog.cellsOf 23 = 4 := by
  refine ⟨_, _, _, _, Try.underlying23, ?_, ?_, ?_, ?_, ?_, ?_⟩ <;> kernel_rfl
theorem open_shape {H : Type} {enc : TypeId × Value → H} {w : World} {base : Nat} {sp : Nat → Bool} {held : Bool} {v : Value} {r : Reach} {b0 : Nat} {d : DataW H} {p : List MemPlace}
    (hv : Value.okWide Try.prog w r b0 23 v) (h : DataW.Trod enc Try.prog w base sp held 23 v d p) :
    ∃ z f e n : Int, v = .agg #[.int .u8 z, .int .i64 f, .int .i64 e, .int .i64 n] ∧ (0 ≤ z ∧ z < 256) ∧ (In64 f ∧ In64 e ∧ In64 n) := by
  obtain ⟨f0, f1, f2, f3, hs, e0, e1, e2, e3, hone, hC⟩ := shape_fields
  obtain ⟨v0, v1, v2, v3, y0, y1, y2, y3, n, rfl, _, _, t0, t1, t2, t3⟩ := open_agg4 hs hone hC hv h
  rw [e0] at t0
  rw [e1] at t1
  rw [e2] at t2
  rw [e3] at t3
  obtain ⟨a0, c0, _, w0⟩ := DataW.trod_int Try.underlying5 t0
  obtain ⟨a1, c1, _, w1⟩ := DataW.trod_int Try.underlying3 t1
  obtain ⟨a2, c2, _, w2⟩ := DataW.trod_int Try.underlying3 t2
  obtain ⟨a3, c3, _, w3⟩ := DataW.trod_int Try.underlying3 t3
  injection c0 with c0
  injection c1 with c1
  injection c2 with c2
  injection c3 with c3
  subst c0 c1 c2 c3
  have b0 := bounds_u8 w0
  exact ⟨a0, a1, a2, a3, rfl, by omega, in64 w1, in64 w2, in64 w3⟩
end Go.Proofs.Ythbgcffnnholeaa
