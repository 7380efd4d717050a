/- Acts upon a cache that came in: whether a shelf goes, the shelf, rows, a draw. No statement of the seat is proved here. -/
import Derived.Test.YtmnjaocdhelebaaIxRow
namespace Go.Proofs.Ytmnjaocdhelebaa
open Go.ChangeShapes Go.WideShapes Go.ChangeAt Go.RowKit Go.Deep Go.Joins
set_option linter.unusedVariables false

structure CAct where
  gone : Bool
  shelf : Int
  adr : Option Addr
  cap : Nat
  rows : List RowT
  draw : Nat
deriving Inhabited
def ccs (a : CAct) : List Value := [.bool a.gone, .int .i64 a.shelf, .slice a.adr a.rows.length a.cap, .int .u64 a.draw]
theorem ccs_length (a : CAct) : (ccs a).length = 4 := rfl
theorem ccs_one {a : CAct} : (ccs a).toArray.all (·.oneCell') = true := by simp [ccs]; exact ⟨rfl, rfl, rfl, rfl⟩
structure CAct.Ok (w : World) (B : Nat) (a : CAct) : Prop where
  shelf : In64 a.shelf
  draw : a.draw < 18446744073709551616
  rd : RdRw w B a.adr a.rows
  le : a.rows.length ≤ a.cap
  max : a.cap ≤ maxLen
structure RdC (w : World) (B : Nat) (A : Option Addr) (ls : List CAct) : Prop where
  rows : RdS w B 4 A (ls.map ccs)
  each : ∀ a ∈ ls, a.Ok w B
section
variable {w w' : World} {B B' : Nat} {A : Option Addr} {ls : List CAct} {a : CAct}
theorem CAct.Ok.below (h : a.Ok w B) (hb : Below B w w') : a.Ok w' B := ⟨h.shelf, h.draw, h.rd.below hb, h.le, h.max⟩
theorem CAct.Ok.more (h : a.Ok w B) (hB : B ≤ B') : a.Ok w B' := ⟨h.shelf, h.draw, h.rd.more hB, h.le, h.max⟩
theorem RdC.below (h : RdC w B A ls) (hb : Below B w w') : RdC w' B A ls := ⟨h.rows.below hb, fun a ha => (h.each a ha).below hb⟩
theorem RdC.more (h : RdC w B A ls) (hB : B ≤ B') : RdC w B' A ls := ⟨h.rows.more hB, fun a ha => (h.each a ha).more hB⟩
theorem RdC.take (h : RdC w B A ls) (k : Nat) : RdC w B A (ls.take k) := ⟨by rw [List.map_take]; exact h.rows.take k, fun x hx => h.each x (List.mem_of_mem_take hx)⟩
theorem RdC.at_ (h : RdC w B A ls) {j : Nat} (hj : j < ls.length) : ∃ g off, A = some ⟨g, off, none⟩ ∧ g < B ∧ w.rangeAt g (off + j * 4) (ccs ls[j]) ∧ (ls[j]).Ok w B := by
  obtain ⟨g, off, e, hg, hc⟩ := h.rows (by simp; omega)
  refine ⟨g, off, e, hg, ?_, h.each _ (List.getElem_mem hj)⟩
  have := hc j (by simpa using hj)
  simpa using this
/-- An act in a world behind, its list told where it came in. -/
theorem RdC.get {wr : World} (h : RdC w w.heap.size A ls) (hb : Below w.heap.size w wr) {j k : Nat} (hj : j < ls.length) (hk : j < k) (hall : ∀ a ∈ ls.take k, a.rows.length ≤ 50) :
    ∃ g off a, A = some ⟨g, off, none⟩ ∧ wr.rangeAt g (off + j * 4) (ccs a) ∧ a.Ok w w.heap.size ∧ a.rows.length ≤ 50 ∧ ls[j] = a ∧ g < w.heap.size := by
  obtain ⟨g, off, e, hg, hra, _⟩ := (h.below hb).at_ hj
  obtain ⟨_, _, _, _, _, hok⟩ := h.at_ hj
  exact ⟨g, off, _, e, hra, hok, hall _ (List.mem_iff_getElem.2 ⟨j, by rw [List.length_take]; omega, by rw [List.getElem_take]⟩), rfl, hg⟩
end
/-- Where the rows of a slice that reads begin. -/
theorem RdRw.adr {w : World} {B : Nat} {A : Option Addr} {l : List RowT} (h : RdRw w B A l) : ∀ ad, A = some ad → 0 < l.length → ad.block < B := fun ad e h0 => by
  obtain ⟨g, off, e2, hg, _⟩ := h.at_ h0
  rw [e] at e2
  injection e2 with e2
  subst e2
  exact hg
set_option maxRecDepth 100000 in
theorem cact_fields : ∃ f0 f1 f2 f3 : Field, Try.prog.underlying 45 = some (.struct #[f0, f1, f2, f3]) ∧ f0.type = 4 ∧ f1.type = 3 ∧ f2.type = 42 ∧ f3.type = 43 ∧
    f0.offset = 0 ∧ f1.offset = 1 ∧ f2.offset = 2 ∧ f3.offset = 3 ∧
    Try.prog.cellsOf 45 = 4 ∧ Try.prog.cellsOf 4 = 1 ∧ Try.prog.cellsOf 3 = 1 ∧ Try.prog.cellsOf 42 = 1 ∧ Try.prog.cellsOf 43 = 1 := by
  refine ⟨_, _, _, _, Try.underlying45, ?_, ?_, ?_, ?_, ?_, ?_, ?_, ?_, ?_, ?_, ?_, ?_, ?_⟩ <;> kernel_rfl
theorem cact_desc : ∃ fs, Try.prog.underlying 45 = some (.struct fs) := ⟨_, Try.underlying45⟩
theorem cact_size : (Try.prog.info? 45).map (·.size) = some 4 := by kernel_rfl
section
variable {H : Type} {enc : TypeId × Value → H} {w : World} {base : Nat}
/-- A slice of rows that came in, as one cell. -/
theorem rows_cell {n : Nat} {cs : List Value} {x : DataW H × List MemPlace} (h : DataW.trod enc Try.prog w base (fun _ => true) true n 42 cs = some x) :
    ∃ A c l, cs = [.slice A l.length c] ∧ RdRw w w.heap.size A l ∧ l.length ≤ c ∧ c ≤ maxLen := by
  obtain ⟨_, _, _, _, _, _, _, hR, _, _⟩ := row_fields
  rcases open_slice Try.underlying42 h with ⟨hcs, _⟩ | ⟨ad, l, c, m, n', D, Pl, hcs, _⟩
  · exact ⟨none, 0, [], hcs, RdRw.nil _ _ _, Nat.le_refl _, by simp [maxLen]⟩
  · have h3 := h
    rw [hcs] at h3
    obtain ⟨zs, h1, h2, hle, hmx, h5⟩ := open_rows (a := some ad) (len := l) (cap := c) rcs RowT.Ok Try.underlying42 hR (by omega) (fun n cs y hy => row_cells hy) h3
    exact ⟨some ad, c, zs, by rw [hcs, h1], ⟨h2, h5⟩, hle, hmx⟩
theorem cact_cells {fuel : Nat} {cs : List Value} {x : DataW H × List MemPlace} (h : DataW.trod enc Try.prog w base (fun _ => true) true fuel 45 cs = some x) :
    ∃ a : CAct, cs = ccs a ∧ a.Ok w w.heap.size := by
  obtain ⟨f0, f1, f2, f3, hs, e0, e1, e2, e3, o0, o1, o2, o3, hC, hB, hI, hR, hU⟩ := cact_fields
  obtain ⟨xs, n, _, _, hl, hxl, hf⟩ := DataW.trod_struct hs h
  have h0 := hf 0 f0 rfl
  have h1 := hf 1 f1 rfl
  have h2 := hf 2 f2 rfl
  have h3 := hf 3 f3 rfl
  rw [e0, o0, hB] at h0
  rw [e1, o1, hI] at h1
  rw [e2, o2, hR] at h2
  rw [e3, o3, hU] at h3
  have hxl2 : xs.length = 4 := hxl
  rw [List.getElem?_eq_getElem (by omega)] at h0 h1 h2 h3
  rw [hC] at hl
  obtain ⟨b, c0, _⟩ := DataW.trod_bool Try.underlying4 h0
  obtain ⟨z1, c1, _, hz1⟩ := DataW.trod_int Try.underlying3 h1
  obtain ⟨A, c, l, c2, hr, hle, hmx⟩ := rows_cell h2
  obtain ⟨z3, c3, _, hz3⟩ := DataW.trod_int Try.underlying43 h3
  have bz := bounds_u64 hz3
  match cs, hl with
  | [v0, v1, v2, v3], _ =>
    simp only [List.drop_zero, List.drop_succ_cons, List.take_succ_cons, List.take_zero, List.cons.injEq, and_true] at c0 c1 c2 c3
    refine ⟨⟨b, z1, A, c, l, z3.toNat⟩, ?_, ⟨in64 hz1, by show z3.toNat < 18446744073709551616; omega, hr, hle, hmx⟩⟩
    rw [c0, c1, c2, c3]
    simp only [ccs]
    rw [show ((z3.toNat : Nat) : Int) = z3 by omega]
theorem open_cacts_arg {fuel : Nat} {a : Option Addr} {len cap : Nat} {x : DataW H × List MemPlace}
    (h : DataW.trod enc Try.prog w base (fun _ => true) true fuel 22 (Value.slice a len cap).cells.toList = some x) :
    ∃ ls : List CAct, len = ls.length ∧ RdC w w.heap.size a ls ∧ ls.length ≤ cap ∧ cap ≤ maxLen ∧ True := by
  obtain ⟨_, _, _, _, _, _, _, _, _, _, _, _, _, hC, _⟩ := cact_fields
  obtain ⟨zs, h1, h2, h3, h4, h5⟩ := open_rows ccs (CAct.Ok w w.heap.size) Try.underlying22 hC (by omega) (fun n cs y hy => cact_cells hy) h
  exact ⟨zs, h1, ⟨h2, h5⟩, h3, h4, trivial⟩
end
end Go.Proofs.Ytmnjaocdhelebaa
