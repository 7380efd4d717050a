/- VaultShelves' walk, told from what the package does. No statement of the seat is proved here. -/
import Derived.Test.YthbgcffnnholeaaVtBack
import Derived.Test.YthbgcffnnholeaaRowsOf
import Derived.Test.YthbgcffnnholeaaSetRow
import Derived.Test.YthbgcffnnholeaaBaseB
import Derived.Deep.MidRow
import Derived.BigQuiet
import Derived.BigFrame
namespace Go.Proofs.Ythbgcffnnholeaa
open Go.ChangeShapes Go.WideShapes Go.ChangeAt Go.RowKit Go.Deep
set_option linter.unusedVariables false
set_option linter.unusedSimpArgs false

/-- Bytes that are put onto a shelf, as they came in. -/
structure PutT where
  at_ : Nat
  adr : Option Addr
  cap : Nat
  b : List UInt8
deriving Inhabited
def puc (a : PutT) : List Value := [.int .u8 a.at_, .slice a.adr a.b.length a.cap]
structure PutT.Ok (w : World) (B : Nat) (a : PutT) : Prop where
  at_ : a.at_ < 256
  rd : Rd w B a.adr a.b
  le : a.b.length ≤ a.cap
  max : a.cap ≤ maxLen
structure RdPt (w : World) (B : Nat) (A : Option Addr) (ls : List PutT) : Prop where
  rows : RdS w B 2 A (ls.map puc)
  each : ∀ a ∈ ls, a.Ok w B
section
variable {w w' : World} {B B' : Nat} {A : Option Addr} {ls : List PutT} {a : PutT}
theorem PutT.Ok.below (h : a.Ok w B) (hb : Below B w w') : a.Ok w' B := ⟨h.at_, h.rd.below hb, h.le, h.max⟩
theorem RdPt.below (h : RdPt w B A ls) (hb : Below B w w') : RdPt w' B A ls := ⟨h.rows.below hb, fun a ha => (h.each a ha).below hb⟩
theorem RdPt.get {wr : World} (h : RdPt w w.heap.size A ls) (hb : Below w.heap.size w wr) {j : Nat} (hj : j < ls.length) :
    ∃ g off a, A = some ⟨g, off, none⟩ ∧ wr.rangeAt g (off + j * 2) (puc a) ∧ a.Ok w w.heap.size ∧ ls[j] = a := by
  obtain ⟨g, off, e, hg, hc⟩ := (h.below hb).rows (by simp; omega)
  refine ⟨g, off, _, e, ?_, h.each _ (List.getElem_mem hj), rfl⟩
  have := hc j (by simpa using hj)
  simpa using this
end
theorem put_fields : ∃ f0 f1 : Field, Try.prog.underlying 65 = some (.struct #[f0, f1]) ∧ f0.type = 5 ∧ f1.type = 42 ∧ f0.offset = 0 ∧ f1.offset = 1 ∧
    Try.prog.cellsOf 65 = 2 ∧ Try.prog.cellsOf 42 = 1 ∧ Try.prog.cellsOf 5 = 1 := by
  refine ⟨_, _, Try.underlying65, ?_, ?_, ?_, ?_, ?_, ?_, ?_⟩ <;> kernel_rfl
section
variable {H : Type} {enc : TypeId × Value → H} {w : World} {base : Nat}
/-- A slice of bytes that came in, as one cell. -/
theorem put_bytes {n : Nat} {cs : List Value} {x : DataW H × List MemPlace} (h : DataW.trod enc Try.prog w base (fun _ => true) true n 42 cs = some x) :
    ∃ A c b, cs = [.slice A b.length c] ∧ Rd w w.heap.size A b ∧ b.length ≤ c ∧ c ≤ maxLen := by
  obtain ⟨_, _, _, _, _, _, _, _, _, h8⟩ := put_fields
  rcases open_slice Try.underlying42 h with ⟨hcs, _⟩ | ⟨ad, l, c, m, n', D, Pl, hcs, _⟩
  · exact ⟨none, 0, [], hcs, Rd.nil _ _ _, Nat.le_refl _, by simp [maxLen]⟩
  · have h3 := h
    rw [hcs] at h3
    obtain ⟨zs, hzl, hr, hzc, hcm, hw⟩ := open_ints_arg (a := some ad) (len := l) (cap := c) Try.underlying42 Try.underlying5 h8 h3
    exact ⟨some ad, c, bytesOf zs, by rw [hcs, bytesOf_length, hzl], rd_bytes hr hw, by rw [bytesOf_length]; exact hzc, hcm⟩
end
set_option maxRecDepth 100000 in
theorem put_cells {H : Type} {enc : TypeId × Value → H} {w : World} {base fuel : Nat} {cs : List Value} {x : DataW H × List MemPlace} (h : DataW.trod enc Try.prog w base (fun _ => true) true fuel 65 cs = some x) :
    ∃ a : PutT, cs = puc a ∧ a.Ok w w.heap.size := by
  obtain ⟨f0, f1, hs, e0, e1, o0, o1, hC, hB, h8⟩ := put_fields
  obtain ⟨xs, n, _, _, hl, hxl, hf⟩ := DataW.trod_struct hs h
  have h0 := hf 0 f0 rfl
  have h1 := hf 1 f1 rfl
  rw [e0, o0, h8] at h0
  rw [e1, o1, hB] at h1
  have hxl2 : xs.length = 2 := hxl
  rw [List.getElem?_eq_getElem (by omega)] at h0 h1
  rw [hC] at hl
  obtain ⟨z0, c0, _, hz0⟩ := DataW.trod_int Try.underlying5 h0
  obtain ⟨A, c, b, c1, hr, hle, hmx⟩ := put_bytes h1
  have bz := bounds_u8 hz0
  match cs, hl with
  | [v0, v1], _ =>
    simp only [List.drop_zero, List.drop_succ_cons, List.take_succ_cons, List.take_zero, List.cons.injEq, and_true] at c0 c1
    refine ⟨⟨z0.toNat, A, c, b⟩, ?_, ⟨by show z0.toNat < 256; omega, hr, hle, hmx⟩⟩
    rw [c0, c1]
    simp only [puc]
    rw [show ((z0.toNat : Nat) : Int) = z0 by omega]
theorem open_puts_arg {H : Type} {enc : TypeId × Value → H} {w : World} {base fuel : Nat} {a : Option Addr} {len cap : Nat} {x : DataW H × List MemPlace}
    (h : DataW.trod enc Try.prog w base (fun _ => true) true fuel 62 (Value.slice a len cap).cells.toList = some x) :
    ∃ ls : List PutT, len = ls.length ∧ RdPt w w.heap.size a ls ∧ ls.length ≤ cap ∧ cap ≤ maxLen ∧ True := by
  obtain ⟨f0, f1, hs, e0, e1, o0, o1, hC, _⟩ := put_fields
  obtain ⟨zs, h1, h2, h3, h4, h5⟩ := open_rows puc (PutT.Ok w w.heap.size) Try.underlying62 hC (by omega) (fun n cs y hy => put_cells hy) h
  exact ⟨zs, h1, ⟨h2, h5⟩, h3, h4, trivial⟩
theorem pt_desc : ∃ fs, Try.prog.underlying 65 = some (.struct fs) := ⟨_, Try.underlying65⟩
theorem pt_size : (Try.prog.info? 65).map (·.size) = some 2 := by kernel_rfl
theorem puc_one (a : PutT) : (puc a).toArray.all (·.oneCell') = true := by simp [puc]; exact ⟨rfl, rfl⟩
/-- The texts of the shelves. -/
def lastV (l : Nat → List UInt8) : List Value := (List.range 7).map fun i => .string ⟨(l i).toArray⟩
theorem lastV_length (l : Nat → List UInt8) : (lastV l).length = 7 := by simp [lastV]
theorem lastV_get (l : Nat → List UInt8) {i : Nat} (h : i < 7) : (lastV l)[i]? = some (.string ⟨(l i).toArray⟩) := by simp [lastV, h]
theorem lastV_set (l : Nat → List UInt8) {i : Nat} (h : i < 7) (b : List UInt8) : (lastV l).set i (.string ⟨b.toArray⟩) = lastV fun u => if u = i then b else l u := by
  apply List.ext_getElem?
  intro j
  rw [List.getElem?_set]
  by_cases hj : j < 7
  · rw [lastV_get _ hj, lastV_get _ hj]
    by_cases e : i = j
    · subst e
      rw [if_pos rfl, if_pos (by rw [lastV_length]; exact hj), if_pos rfl]
    · rw [if_neg e, if_neg fun h => e h.symm]
  · have h1 : ∀ l', (lastV l')[j]? = none := fun l' => List.getElem?_eq_none (by rw [lastV_length]; omega)
    rw [h1, h1]
    split
    · rename_i e; omega
    · rfl
/-- The variable of the shelves' texts. -/
def Lt (lb : Nat) (w : World) (a : Addr) (G : Nat → Prop) (l : Nat → List UInt8) : Prop := a = ⟨lb, 0, none⟩ ∧ Blk w lb 63 (lastV l).toArray ∧ ∀ g, G g ↔ g = lb
theorem lt_firm (lb : Nat) : Firm (Lt lb) := ⟨fun ⟨_, h, hg⟩ g hx => by rw [(hg g).1 hx]; exact h.lt, fun ⟨e, h, hg⟩ hk => ⟨e, h.same (hk lb ((hg lb).2 rfl)), hg⟩⟩
section
variable {St : World → Addr → (Nat → Prop) → DS → Prop} {Vt : World → Addr → (Nat → Prop) → Addr → VS → Prop} {w0 w w' : World} {d v : Addr} {V : VS} {S S' : DS} {lb : Nat} {l : Nat → List UInt8}
abbrev Sh (St : World → Addr → (Nat → Prop) → DS → Prop) (Vt : World → Addr → (Nat → Prop) → Addr → VS → Prop) (v : Addr) (V : VS) (lb : Nat) (w0 w : World) (d : Addr) (S : DS) (l : Nat → List UInt8) : Prop := Two (SV St Vt v V) (Lt lb) w0 w d ⟨lb, 0, none⟩ S l
theorem Sh.on' (K : DisksOk St) (L : VaultsOk St Vt) (h : Sh St Vt v V lb w0 w d S l) (hb : Below w.heap.size w w') : Sh St Vt v V lb w0 w' d S l := Two.on (sv_firm K L v V) (lt_firm lb) h hb
theorem Sh.blk (h : Sh St Vt v V lb w0 w d S l) : Blk w lb 63 (lastV l).toArray := by
  obtain ⟨_, _, _, h2, _⟩ := h
  exact h2.2.1
theorem Sh.store (K : DisksOk St) (L : VaultsOk St Vt) (h : Sh St Vt v V lb w0 w d S l) {i : Nat} (hi : i < 7) (b : List UInt8) : Sh St Vt v V lb w0 (w.setCell ⟨lb, i, none⟩ (.string ⟨b.toArray⟩)) d S fun u => if u = i then b else l u := by
  obtain ⟨F, G, h1, ⟨e, h2, hg⟩, h3, h4, h5, h6⟩ := h
  have hlb : ∀ g, F g → g ≠ lb := fun g hf e => h3 g hf ((hg g).2 e)
  refine ⟨F, G, (sv_firm K L v V).keep h1 fun g hf => setCell_block (hlb g hf), ⟨e, ?_, hg⟩, h3, h4, h5, h6.setCell (h5 lb ((hg lb).2 rfl)) _⟩
  have := h2.set_ i (.string ⟨b.toArray⟩)
  rw [List.setIfInBounds_toArray, lastV_set l hi] at this
  exact this
/-- Bytes that came in are put; a box that was made meanwhile stays. -/
theorem Sh.put (K : DisksOk St) (L : VaultsOk St Vt) (h : Sh St Vt v V lb w0 w d S l) {w5 : World} (hb : Below w.heap.size w w5) {pb : Nat} {ty : TypeId} {cs : Array Value} (hp : Blk w5 pb ty cs) (hpb : w.heap.size ≤ pb)
    (t : Nat) (ht : t < 256) (A : Option Addr) (n c : Nat) (b : List UInt8) (hl : b.length = n) (hf : FewBy (nSec (n + 4)) S) (hc : n ≤ c) (hm : c ≤ maxLen) (hn : n ≤ 100000) (hr : Rd w0 w0.heap.size A b) :
    Calls Try.prog 16 #[.pointer (some v), .int .i64 t, .slice A n c] w5 fun x w' => x = .returned (.int .i64 ((putV V S t b).2 : Nat)) ∧ Sh St Vt v V lb w0 w' d (putV V S t b).1 l ∧ Blk w' pb ty cs := by
  have hbel : Below w0.heap.size w0 w5 := h.bel.trans (hb.mono h.bel.size)
  obtain ⟨F, G, h1, h2, h3, h4, h5, h6⟩ := h
  have hF := (sv_firm K L v V).lt h1
  have hG := (lt_firm lb).lt h2
  have h1' := (sv_firm K L v V).keep h1 fun g hg => hb.block g (hF g hg)
  have h2' := (lt_firm lb).keep h2 fun g hg => hb.block g (hG g hg)
  refine (Turned.vput K L (Turned.refl h1') t ⟨by omega, by omega⟩ A n c b hl hf hc hm hn ((hr.below hbel).more hbel.size) fun ad e h0 hf => ?_).mono fun x w' ⟨hx, F', a1, a2, a3⟩ => ⟨hx, ⟨F', G, a1, (lt_firm lb).keep h2' fun g hg => a3.block g ((lt_firm lb).lt h2' g hg) fun hf => h3 g hf hg, fun g hf hg => ?_, fun g hf => ?_, h5, ?_⟩, hp.same (a3.block pb hp.lt fun hf => by have := hF pb hf; omega)⟩
  · obtain ⟨g, off, e2, hg, _⟩ := hr (by omega)
    rw [e] at e2
    injection e2 with e2
    have := h4 _ hf
    rw [e2] at this
    have : w0.heap.size ≤ g := this
    omega
  · rcases a2 g hf with h | h
    · exact h3 g h hg
    · have := (lt_firm lb).lt h2' g hg; omega
  · rcases a2 g hf with h | h
    · exact h4 g h
    · exact Nat.le_trans hbel.size h
  · exact hbel.trans (Only.below a3 h4 hbel.size)
end
end Go.Proofs.Ythbgcffnnholeaa
