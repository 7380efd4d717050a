/- A key that came in. No statement of the seat is proved here. -/
import Derived.Test.YtjahlachoabmkaaBloomIt
import Derived.Test.YtjahlachoabmkaaArgB
import Derived.Lib.SmallJoins
import Derived.BigFrame
namespace Go.Proofs.Ytjahlachoabmkaa
open Go.ChangeShapes Go.WideShapes Go.ChangeAt Go.RowKit Go.Deep Go.Joins

/-- A load of a whole row, at an operation whose guard says yes. -/
theorem wpList_load_want {P : Program} {ops : Array Oper} {rest : List Oper} {o : Oper} {a : Act} {w : World} {Q : Exit → Act → World → Prop} (hgd : Region.wanted o (yielded ops a.tmps) = true) (ty : TypeId) (x : Operand) (ho : o.op = .load ty x)
    (g : Nat) (hx : a.eval x = .pointer (some ⟨g, 0, none⟩)) (t : TypeId) (cs : Array Value) (fr : Nat × Nat) (d : TypeDesc) (hg : w.heap[g]? = some (.cells cs t fr))
    (hu : P.underlying ty = some d) (hd : (match d with | .struct _ | .array _ _ => true | _ => false) = true) (hi : (P.info? ty).map (·.size) = some cs.size)
    (h : wpList P ops Q rest (a.put o.dst (.agg cs)) w) : wpList P ops Q (o :: rest) a w :=
  BigFrame.wpList_want hgd fun _ hK => wp_load_row ty x ho g hx t cs fr d hg hu hd hi (hK _ _ h)
theorem key_fields : ∃ f0 f1 : Field, Try.prog.underlying 27 = some (.struct #[f0, f1]) ∧ f0.type = 24 ∧ f1.type = 25 ∧ f0.offset = 0 ∧ f1.offset = 32 ∧ Try.prog.cellsOf 27 = 33 ∧ Try.prog.cellsOf 24 = 32 ∧ Try.prog.cellsOf 25 = 1 ∧ Try.prog.cellsOf 5 = 1 := by
  refine ⟨_, _, Try.underlying27, ?_, ?_, ?_, ?_, ?_, ?_, ?_, ?_⟩ <;> kernel_rfl
section
variable {H : Type} {enc : TypeId × Value → H} {w : World} {base : Nat} {sp : Nat → Bool} {held : Bool}
theorem key_cells {fuel : Nat} {cs : List Value} {x : DataW H × List MemPlace} (h : DataW.trod enc Try.prog w base sp held fuel 27 cs = some x) :
    ∃ (s : List UInt8) (N : Nat), cs = bv s ++ [.int .u32 N] ∧ s.length = 32 ∧ N < 4294967296 := by
  obtain ⟨f0, f1, hs, e0, e1, o0, o1, hC, hS, h4, h8⟩ := key_fields
  obtain ⟨xs, n, _, _, hl, hxl, hf⟩ := DataW.trod_struct hs h
  have h0 := hf 0 f0 rfl
  have h1 := hf 1 f1 rfl
  rw [e0, o0, hS] at h0
  rw [e1, o1, h4] at h1
  have hxl2 : xs.length = 2 := hxl
  rw [List.getElem?_eq_getElem (by omega)] at h0 h1
  obtain ⟨ys, m, _, _, hyl, hyn, hy⟩ := DataW.trod_array Try.underlying24 h0
  rw [hC] at hl
  obtain ⟨z, ez, _, hz⟩ := DataW.trod_int Try.underlying25 h1
  have bz := bounds_u32 hz
  have key : ∀ i (_ : i < 32), ∃ b : UInt8, cs[i]'(by omega) = .int .u8 b.toNat := fun i hi => by
    have h2 := hy i hi
    rw [h8, List.getElem?_eq_getElem (by omega), Nat.mul_one] at h2
    have h3 : ((((cs.drop 0).take 32).drop i).take 1) = [cs[i]'(by omega)] := by
      rw [List.drop_zero, List.drop_eq_getElem_cons (by rw [List.length_take]; omega)]
      simp
    rw [h3] at h2
    obtain ⟨y, ey, _, hw⟩ := DataW.trod_int Try.underlying5 h2
    have by8 := bounds_u8 hw
    refine ⟨UInt8.ofNat y.toNat, ?_⟩
    have : cs[i]'(by omega) = .int .u8 y := by simpa using ey
    rw [this, UInt8.toNat_ofNat']
    congr 1
    omega
  have h5 : ((cs.drop 32).take 1) = [cs[32]'(by omega)] := by
    rw [List.drop_eq_getElem_cons (by omega)]
    rfl
  rw [h5] at ez
  have ez : cs[32]'(by omega) = .int .u32 z := by simpa using ez
  have key2 : ∀ i, i < 32 → ∃ b : UInt8, cs[i]? = some (.int .u8 b.toNat) := fun i hi => by
    obtain ⟨b, hb⟩ := key i hi
    exact ⟨b, by rw [List.getElem?_eq_getElem (by omega), hb]⟩
  obtain ⟨F, hF⟩ := choose_lt key2
  refine ⟨(List.range 32).map F, z.toNat, ?_, by simp, by omega⟩
  apply List.ext_getElem (by simp [bv_length, hl])
  intro j j1 j2
  by_cases hj : j < 32
  · rw [List.getElem_append_left (by simpa [bv_length] using hj)]
    have h6 := hF j hj
    rw [List.getElem?_eq_getElem j1] at h6
    injection h6 with h6
    rw [h6]
    simp [bv]
  · have hj2 : j = 32 := by omega
    subst hj2
    rw [ez, List.getElem_append_right (by simp [bv_length])]
    simp [bv_length]
    omega
theorem keyOk_of {s : List UInt8} {N : Nat} (hl : s.length = 32) (hN : N < 4294967296) : KeyOk (bv s ++ [Value.int .u32 N]).toArray s N :=
  ⟨fun j hj => by
    rw [List.getElem?_toArray, List.getElem?_append_left (by rw [bv_length]; exact hj), bv_get hj],
   by rw [List.getElem?_toArray, List.getElem?_append_right (by rw [bv_length]; omega), bv_length, hl]; rfl, hl, by simp [bv_length, hl], hN⟩
/-- A key by value. -/
theorem open_key {v : Value} {r : Reach} {b0 : Nat} {d : DataW H} {p : List MemPlace}
    (hv : Value.okWide Try.prog w r b0 27 v) (h : DataW.Trod enc Try.prog w base sp held 27 v d p) :
    ∃ (kc : Array Value) (s : List UInt8) (N : Nat), v = .agg kc ∧ KeyOk kc s N := by
  obtain ⟨f0, f1, hs, _⟩ := key_fields
  obtain ⟨cs, rfl, hsz⟩ := okWide_struct hs hv
  obtain ⟨fuel, hf⟩ := h
  obtain ⟨s, N, hcs, hl, hN⟩ := key_cells hf
  refine ⟨cs, s, N, rfl, ?_⟩
  have e : cs = (bv s ++ [Value.int .u32 N]).toArray := by
    rw [← Array.toList_inj]; exact hcs
  rw [e]
  exact keyOk_of hl hN
end
end Go.Proofs.Ytjahlachoabmkaa
