/- Acts upon an index that came in. No statement of the seat is proved here. -/
import Derived.Test.YteieaindejcfbaaIxRow
namespace Go.Proofs.Yteieaindejcfbaa
open Go.ChangeShapes Go.WideShapes Go.ChangeAt Go.RowKit Go.Deep Go.Joins
set_option linter.unusedVariables false

/-- An act: whether it is taken out, a row. -/
abbrev IAct := Bool × RowT
def ics (a : IAct) : List Value := .bool a.1 :: rcs a.2
theorem ics_length {a : IAct} (h : a.2.Ok) : (ics a).length = 36 := by simp [ics, rcs_length h]
theorem ics_one {a : IAct} : (ics a).toArray.all (·.oneCell') = true := by
  refine all_oneCell_toArray fun v hv => ?_
  rcases List.mem_cons.1 hv with rfl | h
  · rfl
  · have := rcs_one (r := a.2)
    rw [Array.all_eq_true_iff_forall_mem] at this
    exact this v (by simpa using h)
structure RdIa (w : World) (B : Nat) (A : Option Addr) (ls : List IAct) : Prop where
  rows : RdS w B 36 A (ls.map ics)
  each : ∀ a ∈ ls, a.2.Ok
section
variable {w w' : World} {B B' : Nat} {A : Option Addr} {ls : List IAct}
theorem RdIa.below (h : RdIa w B A ls) (hb : Below B w w') : RdIa w' B A ls := ⟨h.rows.below hb, h.each⟩
theorem RdIa.more (h : RdIa w B A ls) (hB : B ≤ B') : RdIa w B' A ls := ⟨h.rows.more hB, h.each⟩
theorem RdIa.at_ (h : RdIa w B A ls) {j : Nat} (hj : j < ls.length) : ∃ g off, A = some ⟨g, off, none⟩ ∧ g < B ∧ w.rangeAt g (off + j * 36) (ics ls[j]) ∧ (ls[j]).2.Ok := by
  obtain ⟨g, off, e, hg, hc⟩ := h.rows (by simp; omega)
  refine ⟨g, off, e, hg, ?_, h.each _ (List.getElem_mem hj)⟩
  have := hc j (by simpa using hj)
  simpa using this
end
set_option maxRecDepth 100000 in
theorem iact_fields : ∃ f0 f1 : Field, Try.prog.underlying 41 = some (.struct #[f0, f1]) ∧ f0.type = 4 ∧ f1.type = 39 ∧ f0.offset = 0 ∧ f1.offset = 1 ∧ Try.prog.cellsOf 41 = 36 ∧ Try.prog.cellsOf 4 = 1 := by
  refine ⟨_, _, Try.underlying41, ?_, ?_, ?_, ?_, ?_, ?_⟩ <;> kernel_rfl
theorem iact_desc : ∃ fs, Try.prog.underlying 41 = some (.struct fs) := ⟨_, Try.underlying41⟩
theorem iact_size : (Try.prog.info? 41).map (·.size) = some 36 := by kernel_rfl
set_option maxRecDepth 100000 in
theorem iact_cells {H : Type} {enc : TypeId × Value → H} {w : World} {base fuel : Nat} {cs : List Value} {x : DataW H × List MemPlace} (h : DataW.trod enc Try.prog w base (fun _ => true) true fuel 41 cs = some x) :
    ∃ a : IAct, cs = ics a ∧ a.2.Ok := by
  obtain ⟨f0, f1, hs, e0, e1, o0, o1, hC, hB⟩ := iact_fields
  obtain ⟨_, _, _, _, _, _, _, hR, _, _⟩ := row_fields
  obtain ⟨xs, n, _, _, hl, hxl, hf⟩ := DataW.trod_struct hs h
  have h0 := hf 0 f0 rfl
  have h1 := hf 1 f1 rfl
  rw [e0, o0, hB] at h0
  rw [e1, o1, hR] at h1
  have hxl2 : xs.length = 2 := hxl
  rw [List.getElem?_eq_getElem (by omega)] at h0 h1
  rw [hC] at hl
  obtain ⟨b, c0, _⟩ := DataW.trod_bool Try.underlying4 h0
  obtain ⟨r, hr, hok⟩ := row_cells h1
  refine ⟨(b, r), ?_, hok⟩
  have e : cs = cs.take 1 ++ (cs.drop 1).take 35 := by
    have : (cs.drop 1).take 35 = cs.drop 1 := List.take_of_length_le (by rw [List.length_drop]; omega)
    rw [this, List.take_append_drop]
  rw [List.drop_zero] at c0
  rw [e, c0, hr]
  rfl
theorem open_iacts_arg {H : Type} {enc : TypeId × Value → H} {w : World} {base fuel : Nat} {a : Option Addr} {len cap : Nat} {x : DataW H × List MemPlace}
    (h : DataW.trod enc Try.prog w base (fun _ => true) true fuel 22 (Value.slice a len cap).cells.toList = some x) :
    ∃ ls : List IAct, len = ls.length ∧ RdIa w w.heap.size a ls ∧ ls.length ≤ cap ∧ cap ≤ maxLen ∧ True := by
  obtain ⟨f0, f1, hs, e0, e1, o0, o1, hC, _⟩ := iact_fields
  obtain ⟨zs, h1, h2, h3, h4, h5⟩ := open_rows ics (fun a => a.2.Ok) Try.underlying22 hC (by omega) (fun n cs y hy => iact_cells hy) h
  exact ⟨zs, h1, ⟨h2, h5⟩, h3, h4, trivial⟩
set_option maxHeartbeats 1000000 in
/-- How many acts are gone through. -/
theorem few_any (A : Option Addr) (n c m : Nat) (hm : m = min n 200) (hc : n ≤ c) (w : World) : Calls Try.prog 10 #[.slice A n c] w fun e w' => e = .returned (.slice A m c) ∧ w = w' := by
  have hif : (if 200 < n then (200 : Int) else (n : Int)) = (m : Int) := by split <;> omega
  have hifi : (if (200 : Int) < (n : Int) then (200 : Int) else (n : Int)) = (m : Int) := by split <;> omega
  have h1 : (m : Int) ≤ (c : Int) := by omega
  have h0 : (0 : Int) ≤ (m : Int) := by omega
  clear hm hc
  go_enter Try.func10, Try.ntmps10
  go_wp2
  go_ret
  exact ⟨rfl, rfl⟩
end Go.Proofs.Yteieaindejcfbaa
