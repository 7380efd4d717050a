/- Acts and pairs that came in. No statement of the seat is proved here. -/
import Derived.Test.YtiomfkhblmmdoaaTrFew
import Derived.Test.YtiomfkhblmmdoaaOpen
import Derived.Test.YtiomfkhblmmdoaaRowsOf
import Derived.WideShapes
namespace Go.Proofs.Ytiomfkhblmmdoaa
open Go.ChangeShapes Go.WideShapes Go.ChangeAt Go.RowKit Go.Deep
set_option linter.unusedVariables false

theorem st_of18 (b : ByteArray) : st b.data.toList = b := by
  apply ByteArray.ext
  simp
theorem data_len18 (b : ByteArray) : b.data.toList.length = b.size := by cases b; rfl
/-- Texts of a length that is a length. -/
def PT.Ok18 (p : PT) : Prop := p.1.length ≤ maxLen ∧ p.2.length ≤ maxLen
set_option maxRecDepth 100000 in
theorem pair_fields18 : ∃ f0 f1 : Field, Try.prog.underlying 30 = some (.struct #[f0, f1]) ∧ f0.type = 9 ∧ f1.type = 9 ∧ f0.offset = 0 ∧ f1.offset = 1 ∧ Try.prog.cellsOf 30 = 2 ∧ Try.prog.cellsOf 9 = 1 := by
  refine ⟨_, _, Try.underlying30, ?_, ?_, ?_, ?_, ?_, ?_⟩ <;> kernel_rfl
set_option maxRecDepth 100000 in
theorem act18_fields : ∃ f0 f1 : Field, Try.prog.underlying 32 = some (.struct #[f0, f1]) ∧ f0.type = 4 ∧ f1.type = 30 ∧ f0.offset = 0 ∧ f1.offset = 1 ∧ Try.prog.cellsOf 32 = 3 ∧ Try.prog.cellsOf 4 = 1 := by
  refine ⟨_, _, Try.underlying32, ?_, ?_, ?_, ?_, ?_, ?_⟩ <;> kernel_rfl
theorem pair_cells18 {H : Type} {enc : TypeId × Value → H} {w : World} {base fuel : Nat} {sp : Nat → Bool} {held : Bool} {cs : List Value} {x : DataW H × List MemPlace} (h : DataW.trod enc Try.prog w base sp held fuel 30 cs = some x) :
    ∃ p : PT, cs = pcs p ∧ p.Ok18 := by
  obtain ⟨f0, f1, hs, e0, e1, o0, o1, hC, hS⟩ := pair_fields18
  obtain ⟨xs, n, _, _, hl, hxl, hf⟩ := DataW.trod_struct hs h
  have h0 := hf 0 f0 rfl
  have h1 := hf 1 f1 rfl
  rw [e0, o0, hS] at h0
  rw [e1, o1, hS] at h1
  have hxl2 : xs.length = 2 := hxl
  rw [List.getElem?_eq_getElem (by omega)] at h0 h1
  rw [hC] at hl
  obtain ⟨s, c0, _, l0⟩ := DataW.trod_string Try.underlying9 h0
  obtain ⟨t, c1, _, l1⟩ := DataW.trod_string Try.underlying9 h1
  refine ⟨(s.data.toList, t.data.toList), ?_, by rw [PT.Ok18]; exact ⟨by rw [data_len18]; exact l0, by rw [data_len18]; exact l1⟩⟩
  have e : cs = cs.take 1 ++ (cs.drop 1).take 1 := by
    have : (cs.drop 1).take 1 = cs.drop 1 := List.take_of_length_le (by rw [List.length_drop]; omega)
    rw [this, List.take_append_drop]
  rw [List.drop_zero] at c0
  rw [e, c0, c1]
  show _ = [Value.string (st s.data.toList), Value.string (st t.data.toList)]
  rw [st_of18, st_of18]
  rfl
theorem act18_cells {H : Type} {enc : TypeId × Value → H} {w : World} {base fuel : Nat} {cs : List Value} {x : DataW H × List MemPlace} (h : DataW.trod enc Try.prog w base (fun _ => true) true fuel 32 cs = some x) :
    ∃ a : AT18, cs = acs18 a ∧ True := by
  obtain ⟨f0, f1, hs, e0, e1, o0, o1, hC, hB⟩ := act18_fields
  obtain ⟨_, _, _, _, _, _, _, hR, _⟩ := pair_fields18
  obtain ⟨xs, n, _, _, hl, hxl, hf⟩ := DataW.trod_struct hs h
  have h0 := hf 0 f0 rfl
  have h1 := hf 1 f1 rfl
  rw [e0, o0, hB] at h0
  rw [e1, o1, hR] at h1
  have hxl2 : xs.length = 2 := hxl
  rw [List.getElem?_eq_getElem (by omega)] at h0 h1
  rw [hC] at hl
  obtain ⟨b, c0, _⟩ := DataW.trod_bool Try.underlying4 h0
  obtain ⟨p, hp, hok⟩ := pair_cells18 h1
  refine ⟨(b, p), ?_, trivial⟩
  have e : cs = cs.take 1 ++ (cs.drop 1).take 2 := by
    have : (cs.drop 1).take 2 = cs.drop 1 := List.take_of_length_le (by rw [List.length_drop]; omega)
    rw [this, List.take_append_drop]
  rw [List.drop_zero] at c0
  rw [e, c0, hp]
  rfl
theorem open_acts18_arg {H : Type} {enc : TypeId × Value → H} {w : World} {base fuel : Nat} {a : Option Addr} {len cap : Nat} {x : DataW H × List MemPlace}
    (h : DataW.trod enc Try.prog w base (fun _ => true) true fuel 22 (Value.slice a len cap).cells.toList = some x) :
    ∃ ls : List AT18, len = ls.length ∧ RdQ w w.heap.size a ls ∧ ls.length ≤ cap ∧ cap ≤ maxLen ∧ True := by
  obtain ⟨f0, f1, hs, e0, e1, o0, o1, hC, _⟩ := act18_fields
  obtain ⟨zs, h1, h2, h3, h4, h5⟩ := open_rows acs18 (fun _ => True) Try.underlying22 hC (by omega) (fun n cs y hy => act18_cells hy) h
  exact ⟨zs, h1, h2, h3, h4, trivial⟩
set_option maxRecDepth 100000 in
theorem open_pairv {H : Type} {enc : TypeId × Value → H} {w : World} {base : Nat} {sp : Nat → Bool} {held : Bool} {v : Value} {r : Reach} {b0 : Nat} {d : DataW H} {p : List MemPlace}
    (hv : Value.okWide Try.prog w r b0 30 v) (h : DataW.Trod enc Try.prog w base sp held 30 v d p) : ∃ q : PT, v = .agg (pcs q).toArray ∧ q.Ok18 := by
  obtain ⟨f0, f1, hs, _⟩ := pair_fields18
  obtain ⟨cs, rfl, hsz⟩ := okWide_struct hs hv
  obtain ⟨fuel, hf⟩ := h
  obtain ⟨q, hcs, h1⟩ := pair_cells18 hf
  refine ⟨q, ?_, h1⟩
  have e : cs = (pcs q).toArray := by rw [← Array.toList_inj]; exact hcs
  rw [e]
end Go.Proofs.Ytiomfkhblmmdoaa
