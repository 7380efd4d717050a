/- A finder of the package's and another state in one world. No statement of the seat is proved here. -/
import Derived.Test.YtoofhaoaogoomaaZMAE
import Derived.Lib.Hide
import Derived.Deep.Cut
import Derived.Laws.Tables
import Derived.Laws.Rows
import Derived.StillTailTactics
namespace Go.Proofs.Ytoofhaoaogoomaa
open Go.RowKit
set_option linter.unusedVariables false

section
variable {σ τ : Type} {St : World → Addr → (Nat → Prop) → σ → Prop} {Tt : World → Addr → (Nat → Prop) → τ → Prop} {w0 w w' : World} {s t : Addr} {S : σ} {T : τ} {F G : Nat → Prop}
/-- One state stands, the other was made behind it. -/
theorem two_made (hS : Firm St) (hT : Firm Tt) (h0 : Below w0.heap.size w0 w) (h : St w s F S) (hF : ∀ g, F g → w0.heap.size ≤ g) (hb : Below w.heap.size w w') (h2 : Tt w' t G T) (hG : ∀ g, G g → w.heap.size ≤ g) : TwoB St Tt w0 w' s t S T [] := by
  have hlt := hS.lt h
  exact ⟨F, G, hS.keep h fun g hg => hb.block g (hlt g hg), h2, fun g h3 h4 => by
    have a := hlt g h3
    have b := hG g h4
    omega, hF, fun g hg => Nat.le_trans h0.size (hG g hg), h0.trans (hb.mono h0.size), fun p hp => by cases hp⟩
end
section
variable {τ : Type} {Ft : World → Addr → (Nat → Prop) → FS → Prop} {Tt : World → Addr → (Nat → Prop) → τ → Prop} {w0 w : World} {s t : Addr} {f : FS} {T : τ} {E : List (Nat × Obj)}
theorem fgoodL (K : FindersOk Ft) (h : TwoB Ft Tt w0 w s t f T E) : f.Ok := by
  obtain ⟨F, _, h1, _⟩ := h
  exact K.ok h1
theorem fputL (K : FindersOk Ft) (hT : Firm Tt) (h : TwoB Ft Tt w0 w s t f T E) (hl : f.L.length ≤ 900) (k : KeyT) (hk : KeyT.Ok k) (q : Int × Int) (hq : PlOk q) :
    Calls Try.prog 21 #[.pointer (some s), kv k, pv q] w fun e w' => e = .returned (.tuple #[]) ∧ TwoB Ft Tt w0 w' s t (putF f k q) T E := by
  obtain ⟨F, hF, h1, back⟩ := h.left K.firm hT (Below.refl _ _)
  exact (K.put s F f k q w h1 hl hk hq).mono fun e w' ⟨he, ht⟩ => ⟨he, back ht⟩
theorem fdropL (K : FindersOk Ft) (hT : Firm Tt) (h : TwoB Ft Tt w0 w s t f T E) (hl : f.L.length ≤ 900) (k : KeyT) (hk : KeyT.Ok k) :
    Calls Try.prog 25 #[.pointer (some s), kv k] w fun e w' => e = .returned (.bool (hasX f.L k)) ∧ TwoB Ft Tt w0 w' s t (dropF f k) T E := by
  obtain ⟨F, hF, h1, back⟩ := h.left K.firm hT (Below.refl _ _)
  exact (K.drop s F f k w h1 hl hk).mono fun e w' ⟨he, ht⟩ => ⟨he, back ht⟩
/-- A search, told by the index. -/
theorem ffindL (K : FindersOk Ft) (hT : Firm Tt) (h : TwoB Ft Tt w0 w s t f T E) (hl : f.L.length ≤ 900) (ha : f.asked ≤ 100000) (hb : f.loads ≤ 100000) (k : KeyT) (hk : KeyT.Ok k) (d : Nat) (hd : d < 18446744073709551616) :
    Calls Try.prog 15 #[.pointer (some s), kv k, .int .u64 d] w fun e w' => e = .returned (.tuple #[pv (getX f.L k), .bool (hasX f.L k)]) ∧ TwoB Ft Tt w0 w' s t (nextF f k d) T E := by
  obtain ⟨F, hF, h1, back⟩ := h.left K.firm hT (Below.refl _ _)
  refine (K.find s F f k d w h1 hl ha hb hk hd).mono fun e w' ⟨he, ht⟩ => ⟨?_, back ht⟩
  rw [answer_get (K.ok h1)] at he
  exact he
theorem fanewL (K : FindersOk Ft) (hT : Firm Tt) (h : TwoB Ft Tt w0 w s t f T E) (hl : f.L.length ≤ 900) : Calls Try.prog 23 #[.pointer (some s)] w fun e w' => e = .returned (.tuple #[]) ∧ TwoB Ft Tt w0 w' s t (anewF f) T E := by
  obtain ⟨F, hF, h1, back⟩ := h.left K.firm hT (Below.refl _ _)
  exact (K.anew s F f w h1 hl).mono fun e w' ⟨he, ht⟩ => ⟨he, back ht⟩
/-- Bytes that stood at the start. -/
theorem fblurL (K : FindersOk Ft) (hT : Firm Tt) (h : TwoB Ft Tt w0 w s t f T E) (A : Option Addr) (b : List UInt8) (n c : Nat) (hl : b.length = n) (hc : n ≤ c) (hm : c ≤ maxLen) (hr : Rd w w.heap.size A b) (hA : ∀ ad, A = some ad → 0 < n → ad.block < w0.heap.size) :
    Calls Try.prog 24 #[.pointer (some s), .slice A n c] w fun e w' => e = .returned (.tuple #[]) ∧ TwoB Ft Tt w0 w' s t (blurF f b) T E := by
  obtain ⟨F, hF, h1, back⟩ := h.left K.firm hT (Below.refl _ _)
  exact (K.blur s F f A b n c w h1 hl hc hm hr fun ad e h0 hf => by
    have a1 := hA ad e h0
    have a2 := (hF _ hf).2
    omega).mono fun e w' ⟨he, ht⟩ => ⟨he, back ht⟩
theorem fcostL (K : FindersOk Ft) (hT : Firm Tt) (h : TwoB Ft Tt w0 w s t f T E) : Calls Try.prog 22 #[.pointer (some s)] w fun e w' => e = .returned (.tuple #[.int .i64 (f.asked : Nat), .int .i64 (f.loads : Nat)]) ∧ TwoB Ft Tt w0 w' s t f T E := by
  obtain ⟨F, _, h1, _⟩ := id h
  exact (K.cost s F f w h1).mono fun e w' ⟨he, hb⟩ => ⟨he, h.on K.firm hT hb⟩
theorem flenL (K : FindersOk Ft) (hT : Firm Tt) (h : TwoB Ft Tt w0 w s t f T E) (hl : f.L.length ≤ 900) : Calls Try.prog 20 #[.pointer (some s)] w fun e w' => e = .returned (.int .i64 (f.L.length : Nat)) ∧ TwoB Ft Tt w0 w' s t f T E := by
  obtain ⟨F, _, h1, _⟩ := id h
  exact (K.len s F f w h1 hl).mono fun e w' ⟨he, hb⟩ => ⟨he, h.on K.firm hT hb⟩
theorem fallL (K : FindersOk Ft) (hT : Firm Tt) (h : TwoB Ft Tt w0 w s t f T E) (hl : f.L.length ≤ 900) : Calls Try.prog 19 #[.pointer (some s)] w fun e w' => ∃ A c, e = .returned (.slice A f.L.length c) ∧ RdRw w' w'.heap.size A f.L ∧ f.L.length ≤ c ∧ c ≤ maxLen ∧ (∀ ad, A = some ad → w.heap.size ≤ ad.block) ∧ Below w.heap.size w w' ∧ TwoB Ft Tt w0 w' s t f T E := by
  obtain ⟨F, _, h1, _⟩ := id h
  exact (K.all s F f w h1 hl).mono fun e w' ⟨A, c, a1, a2, a3, a4, a5, hb⟩ => ⟨A, c, a1, a2, a3, a4, a5, hb, h.on K.firm hT hb⟩
/-- Both are finders, new. -/
theorem fnew2 (K : FindersOk Ft) {F : Nat → Prop} (h0 : Below w0.heap.size w0 w) (h : Ft w s F f) (hF : ∀ g, F g → w0.heap.size ≤ g) (n p r : Nat) (hn : n ≤ 1048576) (hp : p ≤ 30) (hr : r ≤ 4096) :
    Calls Try.prog 9 #[.int .i64 n, .int .i64 p, .int .i64 r] w fun e w' => ∃ t, e = .returned (.tuple #[.pointer (some t), .int .i64 0]) ∧ TwoB Ft Ft w0 w' s t f (newF n p r) [] :=
  (K.new n p r w hn hp hr).mono fun e w' ⟨t, G, he, h2, hG, hb⟩ => ⟨t, he, two_made K.firm K.firm h0 h hF hb h2 hG⟩
end
theorem getX_ok {L : List RowT} (h : RowsOk L) (k : KeyT) : In64 (getX L k).1 ∧ In64 (getX L k).2 := by
  cases hf : L.find? (fun r => decide (r.1 = k)) with
  | none => simp only [getX, hf]; exact ⟨in64_lit (by omega) (by omega), in64_lit (by omega) (by omega)⟩
  | some x =>
    simp only [getX, hf]
    exact h.place x (List.mem_of_find?_eq_some hf)
end Go.Proofs.Ytoofhaoaogoomaa
/- Acts upon a finder that came in: a kind, a row, a draw, bytes. No statement of the seat is proved here. -/
namespace Go.Proofs.Ytoofhaoaogoomaa
open Go.ChangeShapes Go.WideShapes Go.ChangeAt Go.RowKit Go.Deep Go.Joins
set_option linter.unusedVariables false

structure FAct where
  kind : Nat
  row : RowT
  draw : Nat
  adr : Option Addr
  cap : Nat
  b : List UInt8
deriving Inhabited
def fcs (a : FAct) : List Value := .int .u8 a.kind :: (rcs a.row ++ [.int .u64 a.draw, .slice a.adr a.b.length a.cap])
structure FAct.Ok (w : World) (B : Nat) (a : FAct) : Prop where
  kind : a.kind < 256
  row : a.row.Ok
  draw : a.draw < 18446744073709551616
  rd : Rd w B a.adr a.b
  le : a.b.length ≤ a.cap
  max : a.cap ≤ maxLen
theorem fcs_length {a : FAct} (h : a.row.Ok) : (fcs a).length = 38 := by simp [fcs, rcs_length h]
theorem fcs_one {a : FAct} : (fcs a).toArray.all (·.oneCell') = true := by
  refine all_oneCell_toArray fun v hv => ?_
  rcases List.mem_cons.1 hv with rfl | h
  · rfl
  · rcases List.mem_append.1 h with h | h
    · have := rcs_one (r := a.row)
      rw [Array.all_eq_true_iff_forall_mem] at this
      exact this v (by simpa using h)
    · simp at h
      rcases h with rfl | rfl <;> rfl
structure RdF (w : World) (B : Nat) (A : Option Addr) (ls : List FAct) : Prop where
  rows : RdS w B 38 A (ls.map fcs)
  each : ∀ a ∈ ls, a.Ok w B
section
variable {w w' : World} {B B' : Nat} {A : Option Addr} {ls : List FAct} {a : FAct}
theorem FAct.Ok.below (h : a.Ok w B) (hb : Below B w w') : a.Ok w' B := ⟨h.kind, h.row, h.draw, h.rd.below hb, h.le, h.max⟩
theorem FAct.Ok.more (h : a.Ok w B) (hB : B ≤ B') : a.Ok w B' := ⟨h.kind, h.row, h.draw, h.rd.more hB, h.le, h.max⟩
theorem RdF.below (h : RdF w B A ls) (hb : Below B w w') : RdF w' B A ls := ⟨h.rows.below hb, fun a ha => (h.each a ha).below hb⟩
theorem RdF.more (h : RdF w B A ls) (hB : B ≤ B') : RdF w B' A ls := ⟨h.rows.more hB, fun a ha => (h.each a ha).more hB⟩
theorem RdF.take (h : RdF w B A ls) (k : Nat) : RdF w B A (ls.take k) := ⟨by rw [List.map_take]; exact h.rows.take k, fun x hx => h.each x (List.mem_of_mem_take hx)⟩
theorem RdF.at_ (h : RdF w B A ls) {j : Nat} (hj : j < ls.length) : ∃ g off, A = some ⟨g, off, none⟩ ∧ g < B ∧ w.rangeAt g (off + j * 38) (fcs ls[j]) ∧ (ls[j]).Ok w B := by
  obtain ⟨g, off, e, hg, hc⟩ := h.rows (by simp; omega)
  refine ⟨g, off, e, hg, ?_, h.each _ (List.getElem_mem hj)⟩
  have := hc j (by simpa using hj)
  simpa using this
end
/-- The parts of an act's cells. -/
theorem fcs_kind {w : World} {g o : Nat} {a : FAct} (h : w.rangeAt g o (fcs a)) : w.cell? ⟨g, o, none⟩ = some (.int .u8 a.kind) := h 0 _ rfl
theorem fcs_row {w : World} {g o : Nat} {a : FAct} (h : w.rangeAt g o (fcs a)) : w.rangeAt g (o + 1) (rcs a.row) := fun j u hu => by
  have hj := (List.getElem?_eq_some_iff.1 hu).1
  have := h (1 + j) u (by
    unfold fcs
    rw [Nat.add_comm, List.getElem?_cons_succ, List.getElem?_append_left hj]
    exact hu)
  rwa [← Nat.add_assoc] at this
theorem fcs_draw {w : World} {g o : Nat} {a : FAct} (hr : a.row.Ok) (h : w.rangeAt g o (fcs a)) : w.cell? ⟨g, o + 36, none⟩ = some (.int .u64 a.draw) := h 36 _ (by
  unfold fcs
  rw [show 36 = 35 + 1 from rfl, List.getElem?_cons_succ, List.getElem?_append_right (by rw [rcs_length hr]; exact Nat.le_refl _), rcs_length hr]
  rfl)
theorem fcs_bytes {w : World} {g o : Nat} {a : FAct} (hr : a.row.Ok) (h : w.rangeAt g o (fcs a)) : w.cell? ⟨g, o + 37, none⟩ = some (.slice a.adr a.b.length a.cap) := h 37 _ (by
  unfold fcs
  rw [show 37 = 36 + 1 from rfl, List.getElem?_cons_succ, List.getElem?_append_right (by rw [rcs_length hr]; omega), rcs_length hr]
  rfl)
set_option maxRecDepth 100000 in
theorem fact_fields : ∃ f0 f1 f2 f3 : Field, Try.prog.underlying 46 = some (.struct #[f0, f1, f2, f3]) ∧ f0.type = 5 ∧ f1.type = 42 ∧ f2.type = 43 ∧ f3.type = 44 ∧
    f0.offset = 0 ∧ f1.offset = 1 ∧ f2.offset = 36 ∧ f3.offset = 37 ∧
    Try.prog.cellsOf 46 = 38 ∧ Try.prog.cellsOf 5 = 1 ∧ Try.prog.cellsOf 43 = 1 ∧ Try.prog.cellsOf 44 = 1 := by
  refine ⟨_, _, _, _, Try.underlying46, ?_, ?_, ?_, ?_, ?_, ?_, ?_, ?_, ?_, ?_, ?_, ?_⟩ <;> kernel_rfl
theorem fact_desc : ∃ fs, Try.prog.underlying 46 = some (.struct fs) := ⟨_, Try.underlying46⟩
theorem fact_size : (Try.prog.info? 46).map (·.size) = some 38 := by kernel_rfl
section
variable {H : Type} {enc : TypeId × Value → H} {w : World} {base : Nat}
set_option maxRecDepth 100000 in
theorem fact_cells {fuel : Nat} {cs : List Value} {x : DataW H × List MemPlace} (h : DataW.trod enc Try.prog w base (fun _ => true) true fuel 46 cs = some x) :
    ∃ a : FAct, cs = fcs a ∧ a.Ok w w.heap.size := by
  obtain ⟨f0, f1, f2, f3, hs, e0, e1, e2, e3, o0, o1, o2, o3, hC, h8, hU, hS⟩ := fact_fields
  obtain ⟨_, _, _, _, _, _, _, hR, _, _⟩ := row_fields
  obtain ⟨xs, n, _, _, hl, hxl, hf⟩ := DataW.trod_struct hs h
  have h0 := hf 0 f0 rfl
  have h1 := hf 1 f1 rfl
  have h2 := hf 2 f2 rfl
  have h3 := hf 3 f3 rfl
  rw [e0, o0, h8] at h0
  rw [e1, o1, hR] at h1
  rw [e2, o2, hU] at h2
  rw [e3, o3, hS] at h3
  have hxl2 : xs.length = 4 := hxl
  rw [List.getElem?_eq_getElem (by omega)] at h0 h1 h2 h3
  rw [hC] at hl
  obtain ⟨z, c0, _, hz⟩ := DataW.trod_int Try.underlying5 h0
  have bz := bounds_u8 hz
  obtain ⟨r, c1, hr⟩ := row_cells h1
  obtain ⟨d, c2, _, hd⟩ := DataW.trod_int Try.underlying43 h2
  have bd := bounds_u64 hd
  have hsp : cs = (cs.drop 0).take 1 ++ ((cs.drop 1).take 35 ++ ((cs.drop 36).take 1 ++ (cs.drop 37).take 1)) := by
    have q1 : (cs.drop 37).take 1 = cs.drop 37 := List.take_of_length_le (by rw [List.length_drop]; omega)
    have q2 : (cs.drop 36).take 1 ++ cs.drop 37 = cs.drop 36 := by rw [show cs.drop 37 = (cs.drop 36).drop 1 by rw [List.drop_drop], List.take_append_drop]
    have q3 : (cs.drop 1).take 35 ++ cs.drop 36 = cs.drop 1 := by rw [show cs.drop 36 = (cs.drop 1).drop 35 by rw [List.drop_drop], List.take_append_drop]
    rw [q1, q2, q3, List.drop_zero, List.take_append_drop]
  rw [c0, c1, c2] at hsp
  rcases open_slice Try.underlying44 h3 with ⟨hcs, _⟩ | ⟨ad, l, c, m, n', D, Pl, hcs, _⟩
  · rw [hcs] at hsp
    refine ⟨⟨z.toNat, r, d.toNat, none, 0, []⟩, ?_, ⟨by show z.toNat < 256; omega, hr, by show d.toNat < 18446744073709551616; omega, Rd.nil _ _ _, Nat.le_refl _, by simp [maxLen]⟩⟩
    rw [hsp]
    simp only [fcs, List.length_nil]
    rw [show ((z.toNat : Nat) : Int) = z by omega, show ((d.toNat : Nat) : Int) = d by omega]
    rfl
  · have h4 := h3
    rw [hcs] at h4 hsp
    obtain ⟨zs, hzl, hrd, hzc, hcm, hw⟩ := open_ints_arg (a := some ad) (len := l) (cap := c) Try.underlying44 Try.underlying5 h8 h4
    have hrb := rd_bytes hrd hw
    refine ⟨⟨z.toNat, r, d.toNat, some ad, c, bytesOf zs⟩, ?_, ⟨by show z.toNat < 256; omega, hr, by show d.toNat < 18446744073709551616; omega, hrb, by show (bytesOf zs).length ≤ c; rw [bytesOf_length]; exact hzc, hcm⟩⟩
    rw [hsp]
    simp only [fcs]
    rw [show ((z.toNat : Nat) : Int) = z by omega, show ((d.toNat : Nat) : Int) = d by omega, bytesOf_length, hzl]
    rfl
theorem open_facts_arg {fuel : Nat} {a : Option Addr} {len cap : Nat} {x : DataW H × List MemPlace}
    (h : DataW.trod enc Try.prog w base (fun _ => true) true fuel 24 (Value.slice a len cap).cells.toList = some x) :
    ∃ ls : List FAct, len = ls.length ∧ RdF w w.heap.size a ls ∧ ls.length ≤ cap ∧ cap ≤ maxLen ∧ True := by
  obtain ⟨_, _, _, _, _, _, _, _, _, _, _, _, _, hC, _⟩ := fact_fields
  obtain ⟨zs, h1, h2, h3, h4, h5⟩ := open_rows fcs (FAct.Ok w w.heap.size) Try.underlying24 hC (by omega) (fun n cs y hy => fact_cells hy) h
  exact ⟨zs, h1, ⟨h2, h5⟩, h3, h4, trivial⟩
end
abbrev fz : Array Value := #[.int .u8 0, .int .u8 0, .int .u8 0, .int .u8 0, .int .u8 0, .int .u8 0, .int .u8 0, .int .u8 0, .int .u8 0, .int .u8 0, .int .u8 0, .int .u8 0, .int .u8 0, .int .u8 0, .int .u8 0, .int .u8 0, .int .u8 0, .int .u8 0, .int .u8 0, .int .u8 0, .int .u8 0, .int .u8 0, .int .u8 0, .int .u8 0, .int .u8 0, .int .u8 0, .int .u8 0, .int .u8 0, .int .u8 0, .int .u8 0, .int .u8 0, .int .u8 0, .int .u8 0, .int .u32 0, .int .i64 0, .int .i64 0, .int .u64 0, .slice none 0 0]
theorem fz_size : fz.size = 38 := rfl
end Go.Proofs.Ytoofhaoaogoomaa
/- How many acts are gone through; what a search costs. No statement of the seat is proved here. -/
namespace Go.Proofs.Ytoofhaoaogoomaa
open Go.RowKit
set_option linter.unusedVariables false
set_option linter.unusedSimpArgs false

theorem few_any (A : Option Addr) (n c : Nat) (ls : List FAct) (hl : ls.length = n) (hc : n ≤ c) (hm : c ≤ maxLen) (w : World) (hr : RdF w w.heap.size A ls) :
    Calls Try.prog 11 #[.slice A n c] w fun e w' => ∃ k, k ≤ n ∧ k ≤ 150 ∧ e = .returned (.slice A k c) ∧ w = w' := by
  unfold maxLen at hm
  have HL := Lib.hid hl
  have HR := Lib.hid hr
  clear hl hr
  go_enter Try.func11, Try.ntmps11
  go_wp2_with fail
  go_loop [3, 7] (fun l i => ∃ k L : Nat, k ≤ n ∧ k ≤ 150 ∧ i = .int .i64 k ∧ l = .int .i64 L ∧ L ≤ 2000) (fun _ i => n - (intOf i).toNat)
  case atStart => exact ⟨0, 2000, Nat.zero_le _, by omega, rfl, rfl, Nat.le_refl _⟩
  case round =>
    obtain ⟨k, L, hk, hk2, rfl, rfl, hL⟩ := hrel
    by_cases hlt : k < n
    · obtain ⟨g, off, hA, hg, hra, hok⟩ := HR.out.at_ (j := k) (by rw [HL.out]; exact hlt)
      have hcb := fcs_bytes hok.row hra
      have hmx := hok.max
      have hle := hok.le
      unfold maxLen at hmx
      have hkl : k < ls.length := by rw [HL.out]; exact hlt
      generalize hb : (ls[k]'hkl).b.length = nb at *
      generalize (ls[k]'hkl).adr = ab at *
      generalize (ls[k]'hkl).cap = cb at *
      have hi1 : (0 : Int) ≤ (k : Int) := by omega
      have hi2 : (k : Int) < (n : Int) := by omega
      have hkc : k ≤ c := by omega
      have hc63 : c ≤ 9223372036854775807 := by omega
      clear hra hok hb
      subst hA
      by_cases h3 : 150 ≤ k
      · have h3i : (150 : Int) ≤ (k : Int) := by omega
        go_wp2_with fail
        go_ret
        exact ⟨k, by omega, hk2, rfl, rfl⟩
      · have h3i : ¬ (150 : Int) ≤ (k : Int) := by omega
        by_cases hb2 : L < nb
        · go_wp2_with fail
          go_ret
          exact ⟨k, by omega, hk2, rfl, rfl⟩
        · have hsub : ((L : Int) - (nb : Int)) = ((L - nb : Nat) : Int) := by omega
          go_wp2_with fail
          go_round
          case rel => exact ⟨k + 1, L - nb, by omega, by omega, by go_num, rfl, by omega⟩
          case measure => simp [intOf]; omega
    · obtain rfl : k = n := by omega
      go_wp2_with fail
      go_ret
      exact ⟨k, Nat.le_refl _, hk2, rfl, rfl⟩
theorem next_cost (f : FS) (k : List UInt8 × Nat) (d : Nat) : (nextF f k d).asked ≤ f.asked + 1 ∧ (nextF f k d).loads ≤ f.loads + 1 := by
  unfold nextF
  split
  · exact ⟨by omega, by omega⟩
  · split
    · exact ⟨by omega, by omega⟩
    · split
      · exact ⟨Nat.le_refl _, Nat.le_refl _⟩
      · exact ⟨Nat.le_refl _, by show f.loads ≤ f.loads + 1; omega⟩
end Go.Proofs.Ytoofhaoaogoomaa
/- The statements' helpers of package find: how many acts are gone through, an act but a search. No statement of the seat is proved here. -/
namespace Go.Proofs.Ytoofhaoaogoomaa
open Go.RowKit
set_option linter.unusedVariables false
set_option linter.unusedSimpArgs false

/-- What an act makes of a finder. -/
def doesF (f : FS) (a : FAct) : FS := if a.kind % 5 = 0 then putF f a.row.1 a.row.2 else if a.kind % 5 = 1 then dropF f a.row.1 else if a.kind % 5 = 3 then anewF f else if a.kind % 5 = 4 then blurF f a.b else f
section
variable {τ : Type} {Ft : World → Addr → (Nat → Prop) → FS → Prop} {Tt : World → Addr → (Nat → Prop) → τ → Prop} {w0 w : World} {s t : Addr} {f : FS} {T : τ} {E : List (Nat × Obj)}
set_option maxRecDepth 100000 in
set_option maxHeartbeats 4000000 in
theorem does_any (K : FindersOk Ft) (hT : Firm Tt) (h : TwoB Ft Tt w0 w s t f T E) (hl : f.L.length ≤ 900) (a : FAct) (ha : a.Ok w0 w0.heap.size) :
    Calls Try.prog 12 #[.pointer (some s), .agg (fcs a).toArray] w fun e w' => e = .returned (.tuple #[]) ∧ TwoB Ft Tt w0 w' s t (doesF f a) T E := by
  obtain ⟨V, hV⟩ : ∃ V, fcs a = V := ⟨_, rfl⟩
  obtain ⟨w1, hw1⟩ : ∃ w1, w.alloc (.cells V.toArray 46) = w1 := ⟨_, rfl⟩
  obtain ⟨ab, hab⟩ : ∃ ab, w.heap.size = ab := ⟨_, rfl⟩
  have hb1 : Below w.heap.size w w1 := hw1 ▸ (Below.refl _ _).alloc (Nat.le_refl _) _
  have hbk : Blk w1 ab 46 V.toArray := by rw [← hab, ← hw1]; exact Blk.new w _ _
  have hra : w1.rangeAt ab 0 (fcs a) := by rw [hV]; exact range_of_blk hbk
  have h1 := h.on K.firm hT hb1
  have hck : w1.cell? ⟨ab, 0, none⟩ = some (.int .u8 a.kind) := fcs_kind hra
  have hcb : w1.cell? ⟨ab, 37, none⟩ = some (.slice a.adr a.b.length a.cap) := by have := fcs_bytes ha.row hra; rwa [Nat.zero_add] at this
  have hrr : w1.rangeAt ab 1 (rcs a.row) := by have := fcs_row hra; rwa [Nat.zero_add] at this
  obtain ⟨X, hX⟩ : ∃ X, kcs a.row.1 = X := ⟨_, rfl⟩
  have hXl : X.length = 33 := by rw [← hX]; exact kcs_length ha.row.key
  obtain ⟨⟨p1, p2⟩, hp⟩ : ∃ p, a.row.2 = p := ⟨_, rfl⟩
  have HRK := Lib.hid (show w1.rangeAt ab 1 X by rw [← hX]; exact range_key hrr)
  have HRP := Lib.hid (show w1.rangeAt ab 34 [.int .i64 p1, .int .i64 p2] by
    have := range_place ha.row hrr
    rwa [hp] at this)
  obtain ⟨fk, hfk⟩ := key_desc
  obtain ⟨fp, hfp⟩ := place_desc
  have HF := Lib.hid (And.intro hfk hfp)
  have HXS := Lib.hid (show (Try.prog.info? 38).map (·.size) = some X.length by rw [hXl]; exact key_size)
  have HPS := Lib.hid (show (Try.prog.info? 40).map (·.size) = some ([Value.int .i64 p1, Value.int .i64 p2]).length from place_size)
  have hrd : Rd w1 w1.heap.size a.adr a.b := (ha.rd.below h1.bel).more h1.bel.size
  have KP := fputL K hT h1 hl a.row.1 ha.row.key a.row.2 ⟨ha.row.shelf, ha.row.slot⟩
  have KD := fdropL K hT h1 hl a.row.1 ha.row.key
  have KA := Lib.hid (fanewL K hT h1 hl)
  have KB := Lib.hid (fblurL K hT h1 a.adr a.b a.b.length a.cap rfl ha.le ha.max hrd fun ad e h0 => by
    obtain ⟨g, off, e2, hg, _⟩ := ha.rd h0
    rw [e] at e2
    injection e2 with e2
    rw [e2]
    exact hg)
  unfold kv pv at KP
  unfold kv at KD
  rw [hX] at KP KD
  rw [hp] at KP
  replace KP := Lib.hid KP
  replace KD := Lib.hid KD
  have hact := show doesF f a = if a.kind % 5 = 0 then putF f a.row.1 a.row.2 else if a.kind % 5 = 1 then dropF f a.row.1 else if a.kind % 5 = 3 then anewF f else if a.kind % 5 = 4 then blurF f a.b else f from rfl
  rw [hp] at hact
  have HW := Lib.hid (And.intro hw1 hab)
  have H1 := Lib.hid h1
  have hkd := ha.kind
  rw [hV]
  generalize doesF f a = R at *
  generalize a.b.length = nb at *
  generalize a.adr = ad at *
  generalize a.cap = cp at *
  generalize hkk : a.kind = kd at *
  obtain ⟨r, hr⟩ : ∃ r, kd % 5 = r := ⟨_, rfl⟩
  have hri : (kd : Int) % 5 = (r : Int) := by omega
  have hr3 : r < 5 := by omega
  rw [hr] at hact
  have HACT := Lib.hid hact
  clear hkk hr hact hw1 hab hb1 hbk hra h1 hrr hX hXl hp hfk hfp hrd hV ha h
  have hcase : r = 0 ∨ r = 1 ∨ r = 2 ∨ r = 3 ∨ r = 4 := by omega
  rcases hcase with rfl | rfl | rfl | rfl | rfl
  · have hri : (kd : Int) % 5 = 0 := hri
    go_enter Try.func12, Try.ntmps12
    go_upto_region 1 with fail
    rw [HW.out.1, HW.out.2]
    go_wp2_with (first
      | (refine wpList_load_mid rfl 38 (.tmp 11) rfl ab 1 rfl X (.struct fk) HRK.out HF.out.1 rfl HXS.out ?_)
      | (refine wpList_load_mid rfl 40 (.tmp 14) rfl ab 34 rfl [.int .i64 p1, .int .i64 p2] (.struct fp) HRP.out HF.out.2 rfl HPS.out ?_)
      | (go_at_call 21; (with_reducible refine KP.out.mono ?_); rintro e w2 ⟨rfl, h2⟩; have H2 := Lib.hid h2; clear h2))
    (try simp only [Exit.inBlock, Exit.then])
    refine bodyPost_end (results_none rfl _ _ _) rfl ?_
    exact ⟨rfl, by rw [HACT.out]; exact H2.out⟩
  · have hri : (kd : Int) % 5 = 1 := hri
    go_enter Try.func12, Try.ntmps12
    go_upto_region 1 with fail
    rw [HW.out.1, HW.out.2]
    go_wp2_with (first
      | (refine wpList_load_mid rfl 38 (.tmp 21) rfl ab 1 rfl X (.struct fk) HRK.out HF.out.1 rfl HXS.out ?_)
      | (go_at_call 25; (with_reducible refine KD.out.mono ?_); rintro e w2 ⟨rfl, h2⟩; have H2 := Lib.hid h2; clear h2))
    (try simp only [Exit.inBlock, Exit.then])
    refine bodyPost_end (results_none rfl _ _ _) rfl ?_
    exact ⟨rfl, by rw [HACT.out]; exact H2.out⟩
  · have hri : (kd : Int) % 5 = 2 := hri
    go_enter Try.func12, Try.ntmps12
    go_upto_region 1 with fail
    rw [HW.out.1, HW.out.2]
    go_wp2_with fail
    (try simp only [Exit.inBlock, Exit.then])
    refine bodyPost_end (results_none rfl _ _ _) rfl ?_
    exact ⟨rfl, by rw [HACT.out]; exact H1.out⟩
  · have hri : (kd : Int) % 5 = 3 := hri
    go_enter Try.func12, Try.ntmps12
    go_upto_region 1 with fail
    rw [HW.out.1, HW.out.2]
    go_wp2_with (go_at_call 23; (with_reducible refine KA.out.mono ?_); rintro e w2 ⟨rfl, h2⟩; have H2 := Lib.hid h2; clear h2)
    (try simp only [Exit.inBlock, Exit.then])
    refine bodyPost_end (results_none rfl _ _ _) rfl ?_
    exact ⟨rfl, by rw [HACT.out]; exact H2.out⟩
  · have hri : (kd : Int) % 5 = 4 := hri
    go_enter Try.func12, Try.ntmps12
    go_upto_region 1 with fail
    rw [HW.out.1, HW.out.2]
    go_wp2_with (go_at_call 24; (with_reducible refine KB.out.mono ?_); rintro e w2 ⟨rfl, h2⟩; have H2 := Lib.hid h2; clear h2)
    (try simp only [Exit.inBlock, Exit.then])
    refine bodyPost_end (results_none rfl _ _ _) rfl ?_
    exact ⟨rfl, by rw [HACT.out]; exact H2.out⟩
end
theorem does_L (f : FS) (a : FAct) : (doesF f a).L = if a.kind % 5 = 0 then putX f.L a.row.1 a.row.2 else if a.kind % 5 = 1 then dropX f.L a.row.1 else f.L := by
  unfold doesF
  split
  · rfl
  · split
    · rfl
    · split
      · rfl
      · split <;> rfl
theorem does_cost (f : FS) (a : FAct) : (doesF f a).asked = f.asked ∧ (doesF f a).loads = f.loads := by
  unfold doesF
  split
  · exact ⟨rfl, rfl⟩
  · split
    · exact ⟨rfl, rfl⟩
    · split
      · exact ⟨rfl, rfl⟩
      · split <;> exact ⟨rfl, rfl⟩
theorem does_len (f : FS) (a : FAct) : (doesF f a).L.length ≤ f.L.length + 1 := by
  rw [does_L]
  split
  · exact length_putX' _ _ _
  · split
    · exact Nat.le_succ_of_le (length_dropX' _ _)
    · exact Nat.le_succ _
end Go.Proofs.Ytoofhaoaogoomaa
/- How chunks are looked for: numbers that came in. No statement of the seat is proved here. -/
namespace Go.Proofs.Ytoofhaoaogoomaa
open Go.ChangeShapes Go.WideShapes Go.ChangeAt Go.RowKit Go.Deep Go.Joins
set_option linter.unusedVariables false
set_option linter.unusedSimpArgs false

abbrev hws (a b c : Int) : List Value := [.int .i64 a, .int .i64 b, .int .i64 c]
set_option maxRecDepth 100000 in
theorem how_fields : ∃ f0 f1 f2 : Field, Try.prog.underlying 23 = some (.struct #[f0, f1, f2]) ∧ f0.type = 3 ∧ f1.type = 3 ∧ f2.type = 3 ∧ f0.offset = 0 ∧ f1.offset = 1 ∧ f2.offset = 2 ∧ Try.prog.cellsOf 23 = 3 ∧ Try.prog.cellsOf 3 = 1 := by
  refine ⟨_, _, _, Try.underlying23, ?_, ?_, ?_, ?_, ?_, ?_, ?_, ?_⟩ <;> kernel_rfl
theorem how_desc : ∃ fs, Try.prog.underlying 23 = some (.struct fs) := ⟨_, Try.underlying23⟩
theorem how_size : (Try.prog.info? 23).map (·.size) = some 3 := by kernel_rfl
set_option maxRecDepth 100000 in
theorem open_how {H : Type} {enc : TypeId × Value → H} {w : World} {base : Nat} {sp : Nat → Bool} {held : Bool} {v : Value} {r : Reach} {b0 : Nat} {d : DataW H} {p : List MemPlace}
    (hv : Value.okWide Try.prog w r b0 23 v) (h : DataW.Trod enc Try.prog w base sp held 23 v d p) : ∃ q : Int × Int × Int, v = .agg (hws q.1 q.2.1 q.2.2).toArray ∧ (In64 q.1 ∧ In64 q.2.1 ∧ In64 q.2.2) := by
  obtain ⟨f0, f1, f2, hs, e0, e1, e2, o0, o1, o2, hC, hI⟩ := how_fields
  obtain ⟨cs, rfl, hsz⟩ := okWide_struct hs hv
  obtain ⟨fuel, hf⟩ := h
  obtain ⟨xs, n, _, _, hl, hxl, hf⟩ := DataW.trod_struct hs hf
  have h0 := hf 0 f0 rfl
  have h1 := hf 1 f1 rfl
  have h2 := hf 2 f2 rfl
  rw [e0, o0, hI] at h0
  rw [e1, o1, hI] at h1
  rw [e2, o2, hI] at h2
  have hxl2 : xs.length = 3 := hxl
  rw [List.getElem?_eq_getElem (by omega)] at h0 h1 h2
  rw [hC] at hl
  obtain ⟨z0, c0, _, w0⟩ := DataW.trod_int Try.underlying3 h0
  obtain ⟨z1, c1, _, w1⟩ := DataW.trod_int Try.underlying3 h1
  obtain ⟨z2, c2, _, w2⟩ := DataW.trod_int Try.underlying3 h2
  have hcl : (Value.agg cs).cells.toList = cs.toList := rfl
  rw [hcl] at c0 c1 c2 hl
  obtain ⟨l, hcs⟩ : ∃ l, cs.toList = l := ⟨_, rfl⟩
  rw [hcs] at c0 c1 c2 hl
  match l, hl with
  | [v0, v1, v2], _ =>
    simp only [List.drop_zero, List.drop_succ_cons, List.take_succ_cons, List.take_zero, List.cons.injEq, and_true] at c0 c1 c2
    refine ⟨(z0, z1, z2), ?_, in64 w0, in64 w1, in64 w2⟩
    have e : cs = (hws z0 z1 z2).toArray := by rw [← Array.toList_inj, hcs, c0, c1, c2]
    rw [e]
end Go.Proofs.Ytoofhaoaogoomaa
