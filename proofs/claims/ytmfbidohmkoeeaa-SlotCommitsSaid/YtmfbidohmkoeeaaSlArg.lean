/- A slot that came in; bytes that came in, with the bound on their number that the form itself says. No statement of the seat is proved here. -/
import Derived.Test.YtmfbidohmkoeeaaSlKit
import Derived.Test.YtmfbidohmkoeeaaArgSz
import Derived.Lib.SmallJoins
namespace Go.Proofs.Ytmfbidohmkoeeaa
open Go.ChangeShapes Go.WideShapes Go.ChangeAt Go.RowKit Go.Sort Go.Deep Go.Joins
set_option linter.unusedVariables false

theorem slt_fields : ∃ f0 f1 f2 f3 : Field, Try.prog.underlying 25 = some (.struct #[f0, f1, f2, f3]) ∧ f0.type = 22 ∧ f1.type = 5 ∧ f2.type = 23 ∧ f3.type = 23 ∧ oneCellFields Try.prog #[f0, f1, f2, f3] = true ∧ Try.prog.cellsOf 25 = 4 := by
  refine ⟨_, _, _, _, Try.underlying25, ?_, ?_, ?_, ?_, ?_, ?_⟩ <;> kernel_rfl
theorem open_slot {H : Type} {enc : TypeId × Value → H} {w : World} {base : Nat} {sp : Nat → Bool} {held : Bool} {v : Value} {r : Reach} {b0 : Nat} {d : DataW H} {p : List MemPlace}
    (hv : Value.okWide Try.prog w r b0 25 v) (h : DataW.Trod enc Try.prog w base sp held 25 v d p) :
    ∃ g a z u : Nat, v = .agg #[.int .u64 g, .int .u8 a, .int .u32 z, .int .u32 u] ∧ (⟨g, a, z, u⟩ : SlT).Ok := by
  obtain ⟨f0, f1, f2, f3, hs, e0, e1, e2, e3, hone, hC⟩ := slt_fields
  obtain ⟨v0, v1, v2, v3, y0, y1, y2, y3, n, rfl, _, _, t0, t1, t2, t3⟩ := open_agg4 hs hone hC hv h
  rw [e0] at t0
  rw [e1] at t1
  rw [e2] at t2
  rw [e3] at t3
  obtain ⟨a0, c0, _, w0⟩ := DataW.trod_int Try.underlying22 t0
  obtain ⟨a1, c1, _, w1⟩ := DataW.trod_int Try.underlying5 t1
  obtain ⟨a2, c2, _, w2⟩ := DataW.trod_int Try.underlying23 t2
  obtain ⟨a3, c3, _, w3⟩ := DataW.trod_int Try.underlying23 t3
  injection c0 with c0
  injection c1 with c1
  injection c2 with c2
  injection c3 with c3
  subst c0 c1 c2 c3
  have b0 := bounds_u64 w0
  have b1 := bounds_u8 w1
  have b2 := bounds_u32 w2
  have b3 := bounds_u32 w3
  obtain ⟨g, rfl⟩ : ∃ g : Nat, a0 = g := ⟨a0.toNat, by omega⟩
  obtain ⟨a, rfl⟩ : ∃ g : Nat, a1 = g := ⟨a1.toNat, by omega⟩
  obtain ⟨z, rfl⟩ : ∃ g : Nat, a2 = g := ⟨a2.toNat, by omega⟩
  obtain ⟨u, rfl⟩ : ∃ g : Nat, a3 = g := ⟨a3.toNat, by omega⟩
  exact ⟨g, a, z, u, rfl, ⟨by simp only; omega, by simp only; omega, by simp only; omega, by simp only; omega⟩⟩
theorem open_slot_sized {H : Type} {enc : TypeId × Value → H} {w : World} {base : Nat} {sp : Nat → Bool} {held : Bool} {v : Value} {r : Reach} {b0 : Nat} {d : DataW H} {p : List MemPlace}
    (hv : Value.okWide Try.prog w r b0 25 v) (h : DataW.Trod enc Try.prog w base sp held 25 v d p)
    {ts : List TypeId} {ds : List (DataW H)} (hsz : (DataW.weightsEach Try.prog ts ds).all (· ≤ reachBytes) = true) {j : Nat} (hj : ts[j]? = some 25) (hd : ds[j]? = some d) :
    ∃ g a z u : Nat, v = .agg #[.int .u64 g, .int .u8 a, .int .u32 z, .int .u32 u] ∧ (⟨g, a, z, u⟩ : SlT).Ok := open_slot hv h
theorem sized_len {k c : Nat} (hk : k ≤ c) (h : c * Try.prog.bytesOf 5 ≤ reachBytes) : k ≤ 140737488351232 := by
  have hb : Try.prog.bytesOf 5 = 1 := by kernel_rfl
  rw [hb, Nat.mul_one] at h
  have : reachBytes = 140737488351232 := by decide
  omega
theorem u8_in {a : Int} (h : (Lit.int .u8 a).wf = true) : ∃ n : Nat, a = n ∧ n < 256 := by
  have b := bounds_u8 h
  exact ⟨a.toNat, by omega, by omega⟩
end Go.Proofs.Ytmfbidohmkoeeaa
