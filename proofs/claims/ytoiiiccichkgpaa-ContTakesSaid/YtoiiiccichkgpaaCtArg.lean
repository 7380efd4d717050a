/- Pieces (api.Piece) in memory: their cells, slices of them that came in. No statement of the seat is proved here. -/
import Derived.Test.YtoiiiccichkgpaaKeys
import Derived.Test.YtoiiiccichkgpaaCtMA
namespace Go.Proofs.Ytoiiiccichkgpaa
open Go.ChangeShapes Go.WideShapes Go.ChangeAt Go.RowKit Go.Deep Go.Joins
set_option linter.unusedVariables false

/-- A piece, and where its bytes lie. -/
structure PieceT where
  adr : Option Addr
  cap : Nat
  p : PcD
instance : Inhabited PieceT := ⟨⟨none, 0, ⟨[], 0, []⟩⟩⟩
def pcs (x : PieceT) : List Value := kcs x.p.key ++ [.slice x.adr x.p.data.length x.cap]
structure PieceT.Ok (w : World) (B : Nat) (x : PieceT) : Prop where
  ok : x.p.Ok
  rd : Rd w B x.adr x.p.data
  le : x.p.data.length ≤ x.cap
  max : x.cap ≤ maxLen
theorem PcD.Ok.key {p : PcD} (h : p.Ok) : KeyT.Ok p.key := ⟨h.s, h.n⟩
theorem pcs_length {x : PieceT} (h : x.p.Ok) : (pcs x).length = 34 := by
  show (kcs x.p.key ++ _).length = 34
  rw [List.length_append, kcs_length h.key]
  rfl
theorem pcs_byte {x : PieceT} {j : Nat} (hj : j < x.p.s.length) : (pcs x)[j]? = some (.int .u8 x.p.s[j].toNat) := by
  unfold pcs
  rw [List.getElem?_append_left (by rw [kcs, List.length_append, bv_length]; show j < x.p.s.length + _; omega)]
  exact kcs_byte (k := x.p.key) hj
theorem pcs_num {x : PieceT} (h : x.p.Ok) : (pcs x)[32]? = some (.int .u32 x.p.n) := by
  unfold pcs
  rw [List.getElem?_append_left (by rw [kcs_length h.key]; omega)]
  exact kcs_num h.key
theorem pcs_data {x : PieceT} (h : x.p.Ok) : (pcs x)[33]? = some (.slice x.adr x.p.data.length x.cap) := by
  unfold pcs
  rw [List.getElem?_append_right (by rw [kcs_length h.key]; omega), kcs_length h.key]
  rfl
theorem pcs_key {x : PieceT} (h : x.p.Ok) : (pcs x).take 33 = kcs x.p.key := List.take_left' (kcs_length h.key)
structure RdPc (w : World) (B : Nat) (A : Option Addr) (ls : List PieceT) : Prop where
  rows : RdS w B 34 A (ls.map pcs)
  each : ∀ x ∈ ls, x.Ok w B
section
variable {w w' : World} {B B' : Nat} {A : Option Addr} {ls : List PieceT} {x : PieceT}
theorem PieceT.Ok.below (h : x.Ok w B) (hb : Below B w w') : x.Ok w' B := ⟨h.ok, h.rd.below hb, h.le, h.max⟩
theorem PieceT.Ok.more (h : x.Ok w B) (hB : B ≤ B') : x.Ok w B' := ⟨h.ok, h.rd.more hB, h.le, h.max⟩
theorem RdPc.below (h : RdPc w B A ls) (hb : Below B w w') : RdPc w' B A ls := ⟨h.rows.below hb, fun a ha => (h.each a ha).below hb⟩
theorem RdPc.more (h : RdPc w B A ls) (hB : B ≤ B') : RdPc w B' A ls := ⟨h.rows.more hB, fun a ha => (h.each a ha).more hB⟩
theorem RdPc.nil (w : World) (B : Nat) (A : Option Addr) : RdPc w B A [] := ⟨fun h => absurd h (by simp), by simp⟩
theorem RdPc.at_ (h : RdPc w B A ls) {j : Nat} (hj : j < ls.length) : ∃ g off, A = some ⟨g, off, none⟩ ∧ g < B ∧ w.rangeAt g (off + j * 34) (pcs ls[j]) ∧ (ls[j]).Ok w B := by
  obtain ⟨g, off, e, hg, hc⟩ := h.rows (by simp; omega)
  refine ⟨g, off, e, hg, ?_, h.each _ (List.getElem_mem hj)⟩
  have := hc j (by simpa using hj)
  simpa using this
/-- A piece's data cell. -/
theorem RdPc.data (h : RdPc w B A ls) {j : Nat} (hj : j < ls.length) : ∃ g off, A = some ⟨g, off, none⟩ ∧ g < B ∧ w.cell? ⟨g, off + j * 34 + 33, none⟩ = some (.slice ls[j].adr ls[j].p.data.length ls[j].cap) ∧ (ls[j]).Ok w B := by
  obtain ⟨g, off, e, hg, hr, ho⟩ := h.at_ hj
  exact ⟨g, off, e, hg, hr 33 _ (pcs_data ho.ok), ho⟩
end
theorem piece_fields : ∃ f0 f1 : Field, Try.prog.underlying 42 = some (.struct #[f0, f1]) ∧ f0.type = 40 ∧ f1.type = 26 ∧ f0.offset = 0 ∧ f1.offset = 33 ∧ Try.prog.cellsOf 42 = 34 ∧ Try.prog.cellsOf 40 = 33 ∧ Try.prog.cellsOf 26 = 1 ∧ Try.prog.cellsOf 5 = 1 := by
  refine ⟨_, _, Try.underlying42, ?_, ?_, ?_, ?_, ?_, ?_, ?_, ?_⟩ <;> kernel_rfl
section
variable {H : Type} {enc : TypeId × Value → H} {w : World} {base : Nat}
/-- A slice of bytes that came in, as one cell. -/
theorem bytes_cell {n : Nat} {cs : List Value} {x : DataW H × List MemPlace} (h : DataW.trod enc Try.prog w base (fun _ => true) true n 26 cs = some x) :
    ∃ A c b, cs = [.slice A b.length c] ∧ Rd w w.heap.size A b ∧ b.length ≤ c ∧ c ≤ maxLen := by
  obtain ⟨_, _, _, _, _, _, _, _, _, _, h8⟩ := piece_fields
  rcases open_slice Try.underlying26 h with ⟨hcs, _⟩ | ⟨ad, l, c, m, n', D, Pl, hcs, _⟩
  · exact ⟨none, 0, [], hcs, Rd.nil _ _ _, Nat.le_refl _, by simp [maxLen]⟩
  · have h3 := h
    rw [hcs] at h3
    obtain ⟨zs, hzl, hr, hzc, hcm, hw⟩ := open_ints_arg (a := some ad) (len := l) (cap := c) Try.underlying26 Try.underlying5 h8 h3
    exact ⟨some ad, c, bytesOf zs, by rw [hcs, bytesOf_length, hzl], rd_bytes hr hw, by rw [bytesOf_length]; exact hzc, hcm⟩
theorem piece_cells {fuel : Nat} {cs : List Value} {x : DataW H × List MemPlace} (h : DataW.trod enc Try.prog w base (fun _ => true) true fuel 42 cs = some x) :
    ∃ a : PieceT, cs = pcs a ∧ a.Ok w w.heap.size := by
  obtain ⟨f0, f1, hs, e0, e1, o0, o1, hC, hK, hB, h8⟩ := piece_fields
  obtain ⟨xs, n, _, _, hl, hxl, hf⟩ := DataW.trod_struct hs h
  have h0 := hf 0 f0 rfl
  have h1 := hf 1 f1 rfl
  rw [e0, o0, hK] at h0
  rw [e1, o1, hB] at h1
  have hxl2 : xs.length = 2 := hxl
  rw [List.getElem?_eq_getElem (by omega)] at h0 h1
  rw [hC] at hl
  obtain ⟨s, N, hk, hsl, hN⟩ := key_cells h0
  obtain ⟨A, c, b, hd, hr, hle, hmx⟩ := bytes_cell h1
  rw [List.drop_zero] at hk
  refine ⟨⟨A, c, ⟨s, N, b⟩⟩, ?_, ⟨⟨hsl, hN⟩, hr, hle, hmx⟩⟩
  have e : cs = cs.take 33 ++ (cs.drop 33).take 1 := by
    have : (cs.drop 33).take 1 = cs.drop 33 := List.take_of_length_le (by rw [List.length_drop]; omega)
    rw [this, List.take_append_drop]
  rw [e, hk, hd]
  rfl
theorem open_pieces_arg {fuel : Nat} {a : Option Addr} {len cap : Nat} {x : DataW H × List MemPlace}
    (h : DataW.trod enc Try.prog w base (fun _ => true) true fuel 23 (Value.slice a len cap).cells.toList = some x) :
    ∃ ls : List PieceT, len = ls.length ∧ RdPc w w.heap.size a ls ∧ ls.length ≤ cap ∧ cap ≤ maxLen ∧ True := by
  obtain ⟨f0, f1, hs, e0, e1, o0, o1, hC, _⟩ := piece_fields
  obtain ⟨zs, h1, h2, h3, h4, h5⟩ := open_rows pcs (PieceT.Ok w w.heap.size) Try.underlying23 hC (by omega) (fun n cs y hy => piece_cells hy) h
  exact ⟨zs, h1, ⟨h2, h5⟩, h3, h4, trivial⟩
end
end Go.Proofs.Ytoiiiccichkgpaa
