/- Rows (api.Row) and places (api.Place) in memory. No statement of the seat is proved here. -/
import Derived.Test.YtmnjaocdhelebaaKeys
import Derived.Test.YtmnjaocdhelebaaIxMath
import Derived.Test.YtmnjaocdhelebaaStKit
namespace Go.Proofs.Ytmnjaocdhelebaa
open Go.ChangeShapes Go.WideShapes Go.ChangeAt Go.RowKit Go.Deep Go.Joins
set_option linter.unusedVariables false

abbrev pvs (p : Int × Int) : List Value := [.int .i64 p.1, .int .i64 p.2]
def rcs (r : RowT) : List Value := kcs r.1 ++ pvs r.2
structure RowT.Ok (r : RowT) : Prop where
  key : KeyT.Ok r.1
  shelf : In64 r.2.1
  slot : In64 r.2.2
theorem rcs_length {r : RowT} (h : r.Ok) : (rcs r).length = 35 := by simp [rcs, kcs_length h.key]
theorem rcs_one {r : RowT} : (rcs r).toArray.all (·.oneCell') = true := by
  refine all_oneCell_toArray fun v hv => ?_
  rcases List.mem_append.1 hv with h | h
  · have := kcs_one (k := r.1)
    rw [Array.all_eq_true_iff_forall_mem] at this
    exact this v (by simpa using h)
  · simp [pvs] at h
    rcases h with rfl | rfl <;> rfl
theorem rcs_key {r : RowT} {j : Nat} {u : Value} (h : (kcs r.1)[j]? = some u) : (rcs r)[j]? = some u := by
  have hj := (List.getElem?_eq_some_iff.1 h).1
  unfold rcs
  rw [List.getElem?_append_left hj]
  exact h
theorem rcs_place {r : RowT} (h : r.Ok) {j : Nat} {u : Value} (hu : (pvs r.2)[j]? = some u) : (rcs r)[33 + j]? = some u := by
  unfold rcs
  rw [List.getElem?_append_right (by rw [kcs_length h.key]; omega), kcs_length h.key, Nat.add_sub_cancel_left]
  exact hu
theorem rcs_33 {r : RowT} (h : r.Ok) : (rcs r)[33]? = some (.int .i64 r.2.1) := rcs_place h (j := 0) rfl
theorem rcs_34 {r : RowT} (h : r.Ok) : (rcs r)[34]? = some (.int .i64 r.2.2) := rcs_place h (j := 1) rfl
theorem rcs_inj {a b : RowT} (ha : a.Ok) (hb : b.Ok) (h : rcs a = rcs b) : a = b := by
  unfold rcs at h
  obtain ⟨h1, h2⟩ := List.append_inj h (by rw [kcs_length ha.key, kcs_length hb.key])
  have e1 := kcs_inj ha.key hb.key h1
  simp only [pvs, List.cons.injEq, and_true] at h2
  obtain ⟨e2, e3⟩ := h2
  injection e2 with _ e2
  injection e3 with _ e3
  exact Prod.ext e1 (Prod.ext e2 e3)
set_option maxRecDepth 100000 in
theorem row_fields : ∃ f0 f1 : Field, Try.prog.underlying 31 = some (.struct #[f0, f1]) ∧ f0.type = 27 ∧ f1.type = 29 ∧ f0.offset = 0 ∧ f1.offset = 33 ∧ Try.prog.cellsOf 31 = 35 ∧ Try.prog.cellsOf 27 = 33 ∧ Try.prog.cellsOf 29 = 2 := by
  refine ⟨_, _, Try.underlying31, ?_, ?_, ?_, ?_, ?_, ?_, ?_⟩ <;> kernel_rfl
theorem row_desc : ∃ fs, Try.prog.underlying 31 = some (.struct fs) := ⟨_, Try.underlying31⟩
theorem row_size : (Try.prog.info? 31).map (·.size) = some 35 := by kernel_rfl
set_option maxRecDepth 100000 in
theorem place_fields : ∃ f0 f1 : Field, Try.prog.underlying 29 = some (.struct #[f0, f1]) ∧ f0.type = 3 ∧ f1.type = 3 ∧ f0.offset = 0 ∧ f1.offset = 1 ∧ oneCellFields Try.prog #[f0, f1] = true ∧ Try.prog.cellsOf 29 = 2 ∧ Try.prog.cellsOf 3 = 1 := by
  refine ⟨_, _, Try.underlying29, ?_, ?_, ?_, ?_, ?_, ?_, ?_⟩ <;> kernel_rfl
theorem place_desc : ∃ fs, Try.prog.underlying 29 = some (.struct fs) := ⟨_, Try.underlying29⟩
theorem place_size : (Try.prog.info? 29).map (·.size) = some 2 := by kernel_rfl
section
variable {H : Type} {enc : TypeId × Value → H} {w : World} {base : Nat} {sp : Nat → Bool} {held : Bool}
set_option maxRecDepth 100000 in
theorem place_cells {fuel : Nat} {cs : List Value} {x : DataW H × List MemPlace} (h : DataW.trod enc Try.prog w base sp held fuel 29 cs = some x) : ∃ p : Int × Int, cs = pvs p ∧ In64 p.1 ∧ In64 p.2 := by
  obtain ⟨f0, f1, hs, e0, e1, o0, o1, _, hC, hI⟩ := place_fields
  obtain ⟨xs, n, _, _, hl, hxl, hf⟩ := DataW.trod_struct hs h
  have h0 := hf 0 f0 rfl
  have h1 := hf 1 f1 rfl
  rw [e0, o0, hI] at h0
  rw [e1, o1, hI] at h1
  have hxl2 : xs.length = 2 := hxl
  rw [List.getElem?_eq_getElem (by omega)] at h0 h1
  rw [hC] at hl
  obtain ⟨z0, c0, _, w0⟩ := DataW.trod_int Try.underlying3 h0
  obtain ⟨z1, c1, _, w1⟩ := DataW.trod_int Try.underlying3 h1
  match cs, hl with
  | [v0, v1], _ =>
    simp only [List.drop_zero, List.drop_succ_cons, List.take_succ_cons, List.take_zero, List.cons.injEq, and_true] at c0 c1
    exact ⟨(z0, z1), by rw [c0, c1], in64 w0, in64 w1⟩
set_option maxRecDepth 100000 in
theorem row_cells {fuel : Nat} {cs : List Value} {x : DataW H × List MemPlace} (h : DataW.trod enc Try.prog w base sp held fuel 31 cs = some x) : ∃ r : RowT, cs = rcs r ∧ r.Ok := by
  obtain ⟨f0, f1, hs, e0, e1, o0, o1, hC, hK, hP⟩ := row_fields
  obtain ⟨xs, n, _, _, hl, hxl, hf⟩ := DataW.trod_struct hs h
  have h0 := hf 0 f0 rfl
  have h1 := hf 1 f1 rfl
  rw [e0, o0, hK] at h0
  rw [e1, o1, hP] at h1
  have hxl2 : xs.length = 2 := hxl
  rw [List.getElem?_eq_getElem (by omega)] at h0 h1
  rw [hC] at hl
  obtain ⟨s, N, hk, hsl, hN⟩ := key_cells h0
  obtain ⟨p, hp, hp1, hp2⟩ := place_cells h1
  rw [List.drop_zero] at hk
  refine ⟨((s, N), p), ?_, ⟨⟨hsl, hN⟩, hp1, hp2⟩⟩
  have e : cs = cs.take 33 ++ (cs.drop 33).take 2 := by
    have : (cs.drop 33).take 2 = cs.drop 33 := List.take_of_length_le (by rw [List.length_drop]; omega)
    rw [this, List.take_append_drop]
  rw [e, hk, hp]
  rfl
end
set_option maxRecDepth 100000 in
theorem open_place {H : Type} {enc : TypeId × Value → H} {w : World} {base : Nat} {sp : Nat → Bool} {held : Bool} {v : Value} {r : Reach} {b0 : Nat} {d : DataW H} {p : List MemPlace}
    (hv : Value.okWide Try.prog w r b0 29 v) (h : DataW.Trod enc Try.prog w base sp held 29 v d p) : ∃ q : Int × Int, v = .agg (pvs q).toArray ∧ (In64 q.1 ∧ In64 q.2) := by
  obtain ⟨f0, f1, hs, _⟩ := place_fields
  obtain ⟨cs, rfl, hsz⟩ := okWide_struct hs hv
  obtain ⟨fuel, hf⟩ := h
  obtain ⟨q, hcs, h1, h2⟩ := place_cells hf
  refine ⟨q, ?_, h1, h2⟩
  have e : cs = (pvs q).toArray := by rw [← Array.toList_inj]; exact hcs
  rw [e]
/-- A row of zeros. -/
abbrev rz : Array Value := #[.int .u8 0, .int .u8 0, .int .u8 0, .int .u8 0, .int .u8 0, .int .u8 0, .int .u8 0, .int .u8 0, .int .u8 0, .int .u8 0, .int .u8 0, .int .u8 0, .int .u8 0, .int .u8 0, .int .u8 0, .int .u8 0, .int .u8 0, .int .u8 0, .int .u8 0, .int .u8 0, .int .u8 0, .int .u8 0, .int .u8 0, .int .u8 0, .int .u8 0, .int .u8 0, .int .u8 0, .int .u8 0, .int .u8 0, .int .u8 0, .int .u8 0, .int .u8 0, .int .u32 0, .int .i64 0, .int .i64 0]
theorem rz_size : rz.size = 35 := rfl
theorem kz_size : (kz 0).size = 33 := rfl
/-- A slice of rows that reads. -/
structure RdRw (w : World) (B : Nat) (A : Option Addr) (ls : List RowT) : Prop where
  rows : RdS w B 35 A (ls.map rcs)
  each : ∀ r ∈ ls, r.Ok
section
variable {w w' : World} {B B' : Nat} {A : Option Addr} {ls : List RowT}
theorem RdRw.below (h : RdRw w B A ls) (hb : Below B w w') : RdRw w' B A ls := ⟨h.rows.below hb, h.each⟩
theorem RdRw.more (h : RdRw w B A ls) (hB : B ≤ B') : RdRw w B' A ls := ⟨h.rows.more hB, h.each⟩
theorem RdRw.on (h : RdRw w w.heap.size A ls) (hb : Below w.heap.size w w') : RdRw w' w'.heap.size A ls := (h.below hb).more hb.size
theorem RdRw.nil (w : World) (B : Nat) (A : Option Addr) : RdRw w B A [] := ⟨fun h => absurd h (by simp), by simp⟩
theorem RdRw.at_ (h : RdRw w B A ls) {j : Nat} (hj : j < ls.length) : ∃ g off, A = some ⟨g, off, none⟩ ∧ g < B ∧ w.rangeAt g (off + j * 35) (rcs ls[j]) ∧ (ls[j]).Ok := by
  obtain ⟨g, off, e, hg, hc⟩ := h.rows (by simp; omega)
  refine ⟨g, off, e, hg, ?_, h.each _ (List.getElem_mem hj)⟩
  have := hc j (by simpa using hj)
  simpa using this
theorem RdK.on {ks : List KeyT} (h : RdK w w.heap.size A ks) (hb : Below w.heap.size w w') : RdK w' w'.heap.size A ks := (h.below hb).more hb.size
end
/-- The key's cells of a row's, the place's. -/
theorem range_key {w : World} {g o : Nat} {r : RowT} (h : w.rangeAt g o (rcs r)) : w.rangeAt g o (kcs r.1) := fun j u hu => h j u (rcs_key hu)
theorem range_place {w : World} {g o : Nat} {r : RowT} (hr : r.Ok) (h : w.rangeAt g o (rcs r)) : w.rangeAt g (o + 33) (pvs r.2) := fun j u hu => by
  have := h (33 + j) u (rcs_place hr hu)
  rwa [← Nat.add_assoc] at this
/-- A key, a place, as values. -/
abbrev kv (k : KeyT) : Value := .agg (kcs k).toArray
abbrev pv (p : Int × Int) : Value := .agg (pvs p).toArray
abbrev PlOk (p : Int × Int) : Prop := In64 p.1 ∧ In64 p.2
end Go.Proofs.Ytmnjaocdhelebaa
