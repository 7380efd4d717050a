/- Two rows, two places compared. No statement of the seat is proved here. -/
import Derived.Test.YtmnjaocdhelebaaIxRow
import Derived.Test.YtmnjaocdhelebaaKeyEq
namespace Go.Proofs.Ytmnjaocdhelebaa
open Go.ChangeShapes Go.WideShapes Go.ChangeAt Go.RowKit Go.Deep Go.Joins Go.Maps
set_option linter.unusedVariables false

theorem lits_int (D : Nat) (x : Int) (h : In64 x) : Try.prog.keyLits (D + 1) 3 [.int .i64 x] = some [.int .i64 x] := by
  unfold Program.keyLits
  have hw : (Lit.int .i64 x).wf = true := by simp [Lit.wf, IntKind.min, IntKind.max, IntKind.signed, IntKind.bits]; have := h.1; have := h.2; omega
  simp [Try.underlying3, hw]
theorem lits_place (D : Nat) {p : Int × Int} (h1 : In64 p.1) (h2 : In64 p.2) : Try.prog.keyLits (D + 2) 29 (pvs p) = some [.int .i64 p.1, .int .i64 p.2] := by
  obtain ⟨f0, f1, hs, e0, e1, o0, o1, _, hC, hI⟩ := place_fields
  have hnm : (match Try.prog.underlying 29 with | some (.struct fs) => fs.all (·.name != "_") | _ => false) = true := by kernel_rfl
  rw [hs] at hnm
  unfold Program.keyLits
  simp only [hs]
  rw [if_pos ⟨by rw [hC]; rfl, hnm⟩]
  rw [mapM_all (g := fun f => if f.offset = 0 then [Lit.int .i64 p.1] else [Lit.int .i64 p.2]) fun f hf => ?_]
  · simp [o0, o1]
  · have hf2 : f = f0 ∨ f = f1 := by simpa using hf
    rcases hf2 with rfl | rfl
    · rw [e0, o0, hI]; exact lits_int D p.1 h1
    · rw [e1, o1, hI]; exact lits_int D p.2 h2
theorem lits_row (D : Nat) {r : RowT} (h : r.Ok) : Try.prog.keyLits (D + 4) 31 (rcs r) = some (((r.1.1.map fun b => .int .u8 b.toNat) ++ [.int .u32 r.1.2]) ++ [.int .i64 r.2.1, .int .i64 r.2.2]) := by
  have hL := lits_key D h.key
  generalize ((r.1.1.map fun b => Lit.int .u8 b.toNat) ++ [Lit.int .u32 r.1.2]) = L at *
  obtain ⟨f0, f1, hs, e0, e1, o0, o1, hC, hK, hP⟩ := row_fields
  have hnm : (match Try.prog.underlying 31 with | some (.struct fs) => fs.all (·.name != "_") | _ => false) = true := by kernel_rfl
  rw [hs] at hnm
  unfold Program.keyLits
  simp only [hs]
  rw [if_pos ⟨by rw [hC, rcs_length h], hnm⟩]
  have t0 : ((rcs r).drop 0).take 33 = kcs r.1 := by
    rw [List.drop_zero, rcs]; exact List.take_left' (kcs_length h.key)
  have t1 : ((rcs r).drop 33).take 2 = pvs r.2 := by
    rw [rcs, List.drop_left' (kcs_length h.key)]; rfl
  rw [mapM_all (g := fun f => if f.offset = 0 then L else [.int .i64 r.2.1, .int .i64 r.2.2]) fun f hf => ?_]
  · simp [o0, o1]
  · have hf2 : f = f0 ∨ f = f1 := by simpa using hf
    rcases hf2 with rfl | rfl
    · rw [e0, o0, hK, t0, hL]; rfl
    · rw [e1, o1, hP, t1, lits_place (D + 1) h.shelf h.slot]; rfl
def rl (r : RowT) : Lit := .string (keyBytes (((r.1.1.map fun b => .int .u8 b.toNat) ++ [.int .u32 r.1.2]) ++ [.int .i64 r.2.1, .int .i64 r.2.2]))
def pl (p : Int × Int) : Lit := .string (keyBytes [.int .i64 p.1, .int .i64 p.2])
theorem rl_is {r : RowT} (h : r.Ok) : keyOf Try.prog 31 (.agg (rcs r).toArray) = some (rl r) := by
  obtain ⟨D, hD⟩ : ∃ D, Try.prog.types.size + 1 = D + 4 := ⟨Try.prog.types.size - 3, by have : 3 ≤ Try.prog.types.size := of_decide_eq_true (by kernel_rfl); omega⟩
  have hL := lits_row D h
  obtain ⟨f0, f1, hs, e0, e1, o0, o1, hC, _⟩ := row_fields
  have hk : Try.prog.keyType 31 = true := by kernel_rfl
  have hf : (Value.agg (rcs r).toArray).formed Try.prog 31 = true := by
    simp only [Value.formed, hs, hC, List.size_toArray, rcs_length h]; rfl
  unfold keyOf rl
  simp only [hs, hk, hf, Bool.and_self, if_true, hD]
  show Option.map _ (Try.prog.keyLits (D + 4) 31 (rcs r)) = _
  rw [hL]; rfl
theorem pl_is {p : Int × Int} (h1 : In64 p.1) (h2 : In64 p.2) : keyOf Try.prog 29 (.agg (pvs p).toArray) = some (pl p) := by
  obtain ⟨D, hD⟩ : ∃ D, Try.prog.types.size + 1 = D + 2 := ⟨Try.prog.types.size - 1, by have : 1 ≤ Try.prog.types.size := of_decide_eq_true (by kernel_rfl); omega⟩
  have hL := lits_place D h1 h2
  obtain ⟨f0, f1, hs, e0, e1, o0, o1, _, hC, _⟩ := place_fields
  have hk : Try.prog.keyType 29 = true := by kernel_rfl
  have hf : (Value.agg (pvs p).toArray).formed Try.prog 29 = true := by
    simp only [Value.formed, hs, hC]; rfl
  unfold keyOf pl
  simp only [hs, hk, hf, Bool.and_self, if_true, hD]
  show Option.map _ (Try.prog.keyLits (D + 2) 29 (pvs p)) = _
  rw [hL]; rfl
theorem rowLaw : Keyed Try.prog 31 := Keyed.of_law (deep_law_laid laidKeys (m := 6) (by decide) (of_decide_eq_true (by kernel_rfl)) (by kernel_rfl) (by kernel_rfl))
theorem placeLaw : Keyed Try.prog 29 := Keyed.of_law (deep_law_laid laidKeys (m := 5) (by decide) (of_decide_eq_true (by kernel_rfl)) (by kernel_rfl) (by kernel_rfl))
theorem rl_inj {a b : RowT} (ha : a.Ok) (hb : b.Ok) (h : rl a = rl b) : a = b := by
  have := rowLaw.inj (rl_is ha) (h ▸ rl_is hb)
  injection this with this
  have h2 : (rcs a).toArray.toList = (rcs b).toArray.toList := by rw [this]
  exact rcs_inj ha hb h2
theorem pl_inj {a b : Int × Int} (ha : In64 a.1 ∧ In64 a.2) (hb : In64 b.1 ∧ In64 b.2) (h : pl a = pl b) : a = b := by
  have := placeLaw.inj (pl_is ha.1 ha.2) (h ▸ pl_is hb.1 hb.2)
  injection this with this
  have h2 : (pvs a).toArray.toList = (pvs b).toArray.toList := by rw [this]
  simp only [pvs, List.cons.injEq, and_true] at h2
  obtain ⟨e2, e3⟩ := h2
  injection e2 with _ e2
  injection e3 with _ e3
  exact Prod.ext e2 e3
set_option maxRecDepth 100000 in
theorem row_eq {a b : RowT} (ha : a.Ok) (hb : b.Ok) (w : World) : (Op.equal 31 (.agg (rcs a).toArray) (.agg (rcs b).toArray)).run Try.prog w = .ok (decide (a = b)) w := by
  obtain ⟨r, hr, hi⟩ := run_equal_deep (P := Try.prog) w (m := 6) (by decide) (k := 31) (by kernel_rfl) (by kernel_rfl) (rl_is ha) (rl_is hb)
  rw [hr]
  congr 1
  cases r
  · symm; rw [decide_eq_false_iff_not]; intro h; subst h; exact absurd (hi.2 rfl) (by simp)
  · symm; rw [decide_eq_true_iff]; exact rl_inj ha hb (hi.1 rfl)
set_option maxRecDepth 100000 in
theorem place_eq {a b : Int × Int} (ha : In64 a.1 ∧ In64 a.2) (hb : In64 b.1 ∧ In64 b.2) (w : World) : (Op.equal 29 (.agg (pvs a).toArray) (.agg (pvs b).toArray)).run Try.prog w = .ok (decide (a = b)) w := by
  obtain ⟨r, hr, hi⟩ := run_equal_deep (P := Try.prog) w (m := 5) (by decide) (k := 29) (by kernel_rfl) (by kernel_rfl) (pl_is ha.1 ha.2) (pl_is hb.1 hb.2)
  rw [hr]
  congr 1
  cases r
  · symm; rw [decide_eq_false_iff_not]; intro h; subst h; exact absurd (hi.2 rfl) (by simp)
  · symm; rw [decide_eq_true_iff]; exact pl_inj ha hb (hi.1 rfl)
theorem row_guard : Try.prog.eqGuardType Try.prog.depth 31 = false := by kernel_rfl
theorem place_guard : Try.prog.eqGuardType Try.prog.depth 29 = false := by kernel_rfl
end Go.Proofs.Ytmnjaocdhelebaa
