/- Acts upon a space that came in: a kind and a place. No statement of the seat is proved here. -/
import Derived.Test.YtlcbmpojigjjlaaRowsOf
import Derived.Test.YtlcbmpojigjjlaaStKit
import Derived.Test.YtlcbmpojigjjlaaSpcMath
import Derived.BigFrame
namespace Go.Proofs.Ytlcbmpojigjjlaa
open Go.ChangeShapes Go.WideShapes Go.ChangeAt Go.RowKit Go.Deep

structure PActT where
  kind : Nat
  at_ : Int
deriving Inhabited
def pcsA (a : PActT) : List Value := [.int .u8 a.kind, .int .i64 a.at_]
structure PActT.Ok (a : PActT) : Prop where
  kind : a.kind < 256
  at_ : In64 a.at_
structure RdP (w : World) (B : Nat) (A : Option Addr) (ls : List PActT) : Prop where
  rows : RdS w B 2 A (ls.map pcsA)
  each : ∀ a ∈ ls, a.Ok
section
variable {w w' : World} {B B' : Nat} {A : Option Addr} {ls : List PActT}
theorem RdP.below (h : RdP w B A ls) (hb : Below B w w') : RdP w' B A ls := ⟨h.rows.below hb, h.each⟩
theorem RdP.more (h : RdP w B A ls) (hB : B ≤ B') : RdP w B' A ls := ⟨h.rows.more hB, h.each⟩
theorem RdP.at_ (h : RdP w B A ls) {j : Nat} (hj : j < ls.length) : ∃ g off, A = some ⟨g, off, none⟩ ∧ g < B ∧ w.rangeAt g (off + j * 2) (pcsA ls[j]) ∧ (ls[j]).Ok := by
  obtain ⟨g, off, e, hg, hc⟩ := h.rows (by simp; omega)
  refine ⟨g, off, e, hg, ?_, h.each _ (List.getElem_mem hj)⟩
  have := hc j (by simpa using hj)
  simpa using this
end
theorem pact_fields : ∃ f0 f1 : Field, Try.prog.underlying 33 = some (.struct #[f0, f1]) ∧ f0.type = 5 ∧ f1.type = 3 ∧ f0.offset = 0 ∧ f1.offset = 1 ∧
    Try.prog.cellsOf 33 = 2 ∧ Try.prog.cellsOf 3 = 1 ∧ Try.prog.cellsOf 5 = 1 := by
  refine ⟨_, _, Try.underlying33, ?_, ?_, ?_, ?_, ?_, ?_, ?_⟩ <;> kernel_rfl
theorem pact_size : (Try.prog.info? 33).map (·.size) = some 2 := by kernel_rfl
theorem pact_desc : ∃ fs, Try.prog.underlying 33 = some (.struct fs) := ⟨_, Try.underlying33⟩
theorem pact_cells {H : Type} {enc : TypeId × Value → H} {w : World} {base fuel : Nat} {cs : List Value} {x : DataW H × List MemPlace} (h : DataW.trod enc Try.prog w base (fun _ => true) true fuel 33 cs = some x) :
    ∃ a : PActT, cs = pcsA a ∧ a.Ok := by
  obtain ⟨f0, f1, hs, e0, e1, o0, o1, hC, hI, h8⟩ := pact_fields
  obtain ⟨xs, n, _, _, hl, hxl, hf⟩ := DataW.trod_struct hs h
  have h0 := hf 0 f0 rfl
  have h1 := hf 1 f1 rfl
  rw [e0, o0, h8] at h0
  rw [e1, o1, hI] at h1
  have hxl2 : xs.length = 2 := hxl
  rw [List.getElem?_eq_getElem (by omega)] at h0 h1
  rw [hC] at hl
  obtain ⟨z0, c0, _, hz0⟩ := DataW.trod_int Try.underlying5 h0
  obtain ⟨z1, c1, _, hz1⟩ := DataW.trod_int Try.underlying3 h1
  have bz := bounds_u8 hz0
  match cs, hl with
  | [v0, v1], _ =>
    simp only [List.drop_zero, List.drop_succ_cons, List.take_succ_cons, List.take_zero, List.cons.injEq, and_true] at c0 c1
    refine ⟨⟨z0.toNat, z1⟩, ?_, ⟨by show z0.toNat < 256; omega, in64 hz1⟩⟩
    rw [c0, c1]
    simp only [pcsA]
    rw [show ((z0.toNat : Nat) : Int) = z0 by omega]
theorem open_pacts_arg {H : Type} {enc : TypeId × Value → H} {w : World} {base fuel : Nat} {a : Option Addr} {len cap : Nat} {x : DataW H × List MemPlace}
    (h : DataW.trod enc Try.prog w base (fun _ => true) true fuel 22 (Value.slice a len cap).cells.toList = some x) :
    ∃ ls : List PActT, len = ls.length ∧ RdP w w.heap.size a ls ∧ ls.length ≤ cap ∧ cap ≤ maxLen ∧ True := by
  obtain ⟨f0, f1, hs, e0, e1, o0, o1, hC, _⟩ := pact_fields
  obtain ⟨zs, h1, h2, h3, h4, h5⟩ := open_rows pcsA PActT.Ok Try.underlying22 hC (by omega) (fun n cs y hy => pact_cells hy) h
  exact ⟨zs, h1, ⟨h2, h5⟩, h3, h4, trivial⟩
/-- What an act makes of a space, and tells. -/
def doP (s : PS) (a : PActT) : PS := if a.kind % 3 = 0 then takeP s else if a.kind % 3 = 1 then holdP s a.at_ else freeP s a.at_
def doV (s : PS) (a : PActT) : Nat := if a.kind % 3 = 0 then takeV s else 0
def doE (s : PS) (a : PActT) : Nat := if a.kind % 3 = 0 then takeE s else if a.kind % 3 = 1 then holdE s a.at_ else freeE s a.at_
def playP (s : PS) (l : List PActT) : PS := l.foldl doP s
theorem playP_snoc (s : PS) (l : List PActT) (a : PActT) : playP s (l ++ [a]) = doP (playP s l) a := by simp [playP, List.foldl_append]
theorem doP_ok {s : PS} (h : s.Ok) (a : PActT) : (doP s a).Ok := by
  unfold doP
  split
  · exact takeP_ok h
  · split
    · exact holdP_ok h _
    · exact freeP_ok h _
theorem doP_n (s : PS) (a : PActT) : (doP s a).n = s.n := by
  unfold doP
  split
  · exact takeP_n
  · split
    · exact holdP_n _
    · exact freeP_n _
theorem playP_n (l : List PActT) : ∀ s : PS, (playP s l).n = s.n := by
  induction l with
  | nil => intro s; rfl
  | cons a l ih => intro s; show (playP (doP s a) l).n = _; rw [ih, doP_n]
theorem playP_ok (l : List PActT) : ∀ {s : PS}, s.Ok → (playP s l).Ok := by
  induction l with
  | nil => intro s h; exact h
  | cons a l ih => intro s h; exact ih (doP_ok h a)
end Go.Proofs.Ytlcbmpojigjjlaa
