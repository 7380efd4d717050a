/- Acts upon a disk that came in: a kind, two numbers, bytes, fates. No statement of the seat is proved here. -/
import Derived.Test.YthbgcffnnholeaaRowsOf
import Derived.Test.YthbgcffnnholeaaStKit
import Derived.Test.YthbgcffnnholeaaArgB
import Derived.Test.YthbgcffnnholeaaVMA
import Derived.BigFrame
namespace Go.Proofs.Ythbgcffnnholeaa
open Go.ChangeShapes Go.WideShapes Go.ChangeAt Go.RowKit Go.Deep

structure DActT where
  kind : Nat
  at_ : Int
  num : Int
  adr : Option Addr
  cap : Nat
  b : List UInt8
  fadr : Option Addr
  fcap : Nat
  fates : List Int
deriving Inhabited
def dcs (a : DActT) : List Value := [.int .u8 a.kind, .int .i64 a.at_, .int .i64 a.num, .slice a.adr a.b.length a.cap, .slice a.fadr a.fates.length a.fcap]
theorem dcs_length (a : DActT) : (dcs a).length = 5 := rfl
structure DActT.Ok (w : World) (B : Nat) (a : DActT) : Prop where
  kind : a.kind < 256
  at_ : In64 a.at_
  num : In64 a.num
  rd : Rd w B a.adr a.b
  le : a.b.length ≤ a.cap
  max : a.cap ≤ maxLen
  frd : RdV w B a.fadr (iv a.fates)
  fle : a.fates.length ≤ a.fcap
  fmax : a.fcap ≤ maxLen
  fin : ∀ x ∈ a.fates, In64 x
structure RdD (w : World) (B : Nat) (A : Option Addr) (ls : List DActT) : Prop where
  rows : RdS w B 5 A (ls.map dcs)
  each : ∀ a ∈ ls, a.Ok w B
section
variable {w w' : World} {B B' : Nat} {A : Option Addr} {ls : List DActT} {a : DActT}
theorem DActT.Ok.below (h : a.Ok w B) (hb : Below B w w') : a.Ok w' B := ⟨h.kind, h.at_, h.num, h.rd.below hb, h.le, h.max, h.frd.below hb, h.fle, h.fmax, h.fin⟩
theorem DActT.Ok.more (h : a.Ok w B) (hB : B ≤ B') : a.Ok w B' := ⟨h.kind, h.at_, h.num, h.rd.more hB, h.le, h.max, h.frd.more hB, h.fle, h.fmax, h.fin⟩
theorem RdD.below (h : RdD w B A ls) (hb : Below B w w') : RdD w' B A ls := ⟨h.rows.below hb, fun a ha => (h.each a ha).below hb⟩
theorem RdD.more (h : RdD w B A ls) (hB : B ≤ B') : RdD w B' A ls := ⟨h.rows.more hB, fun a ha => (h.each a ha).more hB⟩
theorem RdD.take (h : RdD w B A ls) (k : Nat) : RdD w B A (ls.take k) := ⟨by rw [List.map_take]; exact h.rows.take k, fun x hx => h.each x (List.mem_of_mem_take hx)⟩
theorem RdD.at_ (h : RdD w B A ls) {j : Nat} (hj : j < ls.length) : ∃ g off, A = some ⟨g, off, none⟩ ∧ g < B ∧ w.rangeAt g (off + j * 5) (dcs ls[j]) ∧ (ls[j]).Ok w B := by
  obtain ⟨g, off, e, hg, hc⟩ := h.rows (by simp; omega)
  refine ⟨g, off, e, hg, ?_, h.each _ (List.getElem_mem hj)⟩
  have := hc j (by simpa using hj)
  simpa using this
end
theorem act_fields : ∃ f0 f1 f2 f3 f4 : Field, Try.prog.underlying 45 = some (.struct #[f0, f1, f2, f3, f4]) ∧ f0.type = 5 ∧ f1.type = 3 ∧ f2.type = 3 ∧ f3.type = 42 ∧ f4.type = 43 ∧
    f0.offset = 0 ∧ f1.offset = 1 ∧ f2.offset = 2 ∧ f3.offset = 3 ∧ f4.offset = 4 ∧
    Try.prog.cellsOf 45 = 5 ∧ Try.prog.cellsOf 3 = 1 ∧ Try.prog.cellsOf 42 = 1 ∧ Try.prog.cellsOf 43 = 1 ∧ Try.prog.cellsOf 5 = 1 := by
  refine ⟨_, _, _, _, _, Try.underlying45, ?_, ?_, ?_, ?_, ?_, ?_, ?_, ?_, ?_, ?_, ?_, ?_, ?_, ?_, ?_⟩ <;> kernel_rfl
section
variable {H : Type} {enc : TypeId × Value → H} {w : World} {base : Nat}
/-- A slice of bytes that came in, as one cell. -/
theorem bytes_cell {n : Nat} {cs : List Value} {x : DataW H × List MemPlace} (h : DataW.trod enc Try.prog w base (fun _ => true) true n 42 cs = some x) :
    ∃ A c b, cs = [.slice A b.length c] ∧ Rd w w.heap.size A b ∧ b.length ≤ c ∧ c ≤ maxLen := by
  obtain ⟨_, _, _, _, _, _, _, _, _, _, _, _, _, _, _, _, _, _, _, _, h8⟩ := act_fields
  rcases open_slice Try.underlying42 h with ⟨hcs, _⟩ | ⟨ad, l, c, m, n', D, Pl, hcs, _⟩
  · exact ⟨none, 0, [], hcs, Rd.nil _ _ _, Nat.le_refl _, by simp [maxLen]⟩
  · have h3 := h
    rw [hcs] at h3
    obtain ⟨zs, hzl, hr, hzc, hcm, hw⟩ := open_ints_arg (a := some ad) (len := l) (cap := c) Try.underlying42 Try.underlying5 h8 h3
    exact ⟨some ad, c, bytesOf zs, by rw [hcs, bytesOf_length, hzl], rd_bytes hr hw, by rw [bytesOf_length]; exact hzc, hcm⟩
/-- A slice of numbers that came in, as one cell. -/
theorem ints_cell {n : Nat} {cs : List Value} {x : DataW H × List MemPlace} (h : DataW.trod enc Try.prog w base (fun _ => true) true n 43 cs = some x) :
    ∃ A c l, cs = [.slice A l.length c] ∧ RdV w w.heap.size A (iv l) ∧ l.length ≤ c ∧ c ≤ maxLen ∧ ∀ x ∈ l, In64 x := by
  obtain ⟨_, _, _, _, _, _, _, _, _, _, _, _, _, _, _, _, _, hI, _, _, _⟩ := act_fields
  rcases open_slice Try.underlying43 h with ⟨hcs, _⟩ | ⟨ad, l, c, m, n', D, Pl, hcs, _⟩
  · exact ⟨none, 0, [], hcs, RdV.nil _ _ _, Nat.le_refl _, by simp [maxLen], by simp⟩
  · have h3 := h
    rw [hcs] at h3
    obtain ⟨zs, hzl, hr, hzc, hcm, hw⟩ := open_ints_arg (a := some ad) (len := l) (cap := c) Try.underlying43 Try.underlying3 hI h3
    exact ⟨some ad, c, zs, by rw [hcs, hzl], hr, hzc, hcm, fun x hx => in64 (hw x hx)⟩
end
set_option maxRecDepth 100000 in
theorem act_cells {H : Type} {enc : TypeId × Value → H} {w : World} {base fuel : Nat} {cs : List Value} {x : DataW H × List MemPlace} (h : DataW.trod enc Try.prog w base (fun _ => true) true fuel 45 cs = some x) :
    ∃ a : DActT, cs = dcs a ∧ a.Ok w w.heap.size := by
  obtain ⟨f0, f1, f2, f3, f4, hs, e0, e1, e2, e3, e4, o0, o1, o2, o3, o4, hC, hI, hB, hF, h8⟩ := act_fields
  obtain ⟨xs, n, _, _, hl, hxl, hf⟩ := DataW.trod_struct hs h
  have h0 := hf 0 f0 rfl
  have h1 := hf 1 f1 rfl
  have h2 := hf 2 f2 rfl
  have h3 := hf 3 f3 rfl
  have h4 := hf 4 f4 rfl
  rw [e0, o0, h8] at h0
  rw [e1, o1, hI] at h1
  rw [e2, o2, hI] at h2
  rw [e3, o3, hB] at h3
  rw [e4, o4, hF] at h4
  have hxl2 : xs.length = 5 := hxl
  rw [List.getElem?_eq_getElem (by omega)] at h0 h1 h2 h3 h4
  rw [hC] at hl
  obtain ⟨z0, c0, _, hz0⟩ := DataW.trod_int Try.underlying5 h0
  obtain ⟨z1, c1, _, hz1⟩ := DataW.trod_int Try.underlying3 h1
  obtain ⟨z2, c2, _, hz2⟩ := DataW.trod_int Try.underlying3 h2
  obtain ⟨A, c, b, c3, hr, hle, hmx⟩ := bytes_cell h3
  obtain ⟨A', c', l, c4, hr', hle', hmx', hin⟩ := ints_cell h4
  have bz := bounds_u8 hz0
  match cs, hl with
  | [v0, v1, v2, v3, v4], _ =>
    simp only [List.drop_zero, List.drop_succ_cons, List.take_succ_cons, List.take_zero, List.cons.injEq, and_true] at c0 c1 c2 c3 c4
    refine ⟨⟨z0.toNat, z1, z2, A, c, b, A', c', l⟩, ?_, ⟨by show z0.toNat < 256; omega, in64 hz1, in64 hz2, hr, hle, hmx, hr', hle', hmx', hin⟩⟩
    rw [c0, c1, c2, c3, c4]
    simp only [dcs]
    rw [show ((z0.toNat : Nat) : Int) = z0 by omega]
theorem open_acts_arg {H : Type} {enc : TypeId × Value → H} {w : World} {base fuel : Nat} {a : Option Addr} {len cap : Nat} {x : DataW H × List MemPlace}
    (h : DataW.trod enc Try.prog w base (fun _ => true) true fuel 24 (Value.slice a len cap).cells.toList = some x) :
    ∃ ls : List DActT, len = ls.length ∧ RdD w w.heap.size a ls ∧ ls.length ≤ cap ∧ cap ≤ maxLen ∧ True := by
  obtain ⟨f0, f1, f2, f3, f4, hs, e0, e1, e2, e3, e4, o0, o1, o2, o3, o4, hC, _⟩ := act_fields
  obtain ⟨zs, h1, h2, h3, h4, h5⟩ := open_rows dcs (DActT.Ok w w.heap.size) Try.underlying24 hC (by omega) (fun n cs y hy => act_cells hy) h
  exact ⟨zs, h1, ⟨h2, h5⟩, h3, h4, trivial⟩
end Go.Proofs.Ythbgcffnnholeaa
