/- Keys and acts that came in. No statement of the seat is proved here. -/
import Derived.Test.YtjahlachoabmkaaBloomKey
import Derived.Test.YtjahlachoabmkaaRowsOf
namespace Go.Proofs.Ytjahlachoabmkaa
open Go.ChangeShapes Go.WideShapes Go.ChangeAt Go.RowKit Go.Deep Go.Joins

/-- A key: its Sum and its N. -/
abbrev KeyT := List UInt8 × Nat
def KeyT.Ok (k : KeyT) : Prop := k.1.length = 32 ∧ k.2 < 4294967296
def kcs (k : KeyT) : List Value := bv k.1 ++ [.int .u32 k.2]
theorem kcs_length {k : KeyT} (h : k.Ok) : (kcs k).length = 33 := by simp [kcs, bv_length, h.1]
theorem kcs_ok {k : KeyT} (h : k.Ok) : KeyOk (kcs k).toArray k.1 k.2 := keyOk_of h.1 h.2
/-- A slice of keys that reads. -/
structure RdK (w : World) (B : Nat) (A : Option Addr) (ks : List KeyT) : Prop where
  rows : RdS w B 33 A (ks.map kcs)
  each : ∀ k ∈ ks, k.Ok
section
variable {w w' : World} {B B' : Nat} {A : Option Addr} {ks : List KeyT}
theorem RdK.below (h : RdK w B A ks) (hb : Below B w w') : RdK w' B A ks := ⟨h.rows.below hb, h.each⟩
theorem RdK.more (h : RdK w B A ks) (hB : B ≤ B') : RdK w B' A ks := ⟨h.rows.more hB, h.each⟩
theorem RdK.take (h : RdK w B A ks) (k : Nat) : RdK w B A (ks.take k) := ⟨by rw [List.map_take]; exact h.rows.take k, fun x hx => h.each x (List.mem_of_mem_take hx)⟩
theorem RdK.at_ (h : RdK w B A ks) {j : Nat} (hj : j < ks.length) : ∃ g off, A = some ⟨g, off, none⟩ ∧ g < B ∧ w.rangeAt g (off + j * 33) (kcs ks[j]) ∧ (ks[j]).Ok := by
  obtain ⟨g, off, e, hg, hc⟩ := h.rows (by simp; omega)
  refine ⟨g, off, e, hg, ?_, h.each _ (List.getElem_mem hj)⟩
  have := hc j (by simpa using hj)
  simpa using this
end
theorem open_keys_arg {H : Type} {enc : TypeId × Value → H} {w : World} {base fuel : Nat} {a : Option Addr} {len cap : Nat} {x : DataW H × List MemPlace}
    (h : DataW.trod enc Try.prog w base (fun _ => true) true fuel 50 (Value.slice a len cap).cells.toList = some x) :
    ∃ ks : List KeyT, len = ks.length ∧ RdK w w.heap.size a ks ∧ ks.length ≤ cap ∧ cap ≤ maxLen ∧ True := by
  obtain ⟨f0, f1, hs, e0, e1, o0, o1, hC, _⟩ := key_fields
  obtain ⟨zs, h1, h2, h3, h4, h5⟩ := open_rows kcs KeyT.Ok Try.underlying50 hC (by omega) (fun n cs y hy => by
    obtain ⟨s, N, hcs, hl, hN⟩ := key_cells hy
    exact ⟨(s, N), hcs, hl, hN⟩) h
  exact ⟨zs, h1, ⟨h2, h5⟩, h3, h4, trivial⟩
/-- An act: its kind, its key, its bytes. -/
structure ActT where
  kind : Nat
  key : KeyT
  adr : Option Addr
  cap : Nat
  b : List UInt8
deriving Inhabited
def acs (a : ActT) : List Value := .int .u8 a.kind :: (kcs a.key ++ [.slice a.adr a.b.length a.cap])
structure ActT.Ok (w : World) (B : Nat) (a : ActT) : Prop where
  kind : a.kind < 256
  key : a.key.Ok
  rd : Rd w B a.adr a.b
  le : a.b.length ≤ a.cap
  max : a.cap ≤ maxLen
theorem acs_length {a : ActT} (h : a.key.Ok) : (acs a).length = 35 := by simp [acs, kcs_length h]
structure RdA (w : World) (B : Nat) (A : Option Addr) (ls : List ActT) : Prop where
  rows : RdS w B 35 A (ls.map acs)
  each : ∀ a ∈ ls, a.Ok w B
section
variable {w w' : World} {B B' : Nat} {A : Option Addr} {ls : List ActT} {a : ActT}
theorem ActT.Ok.below (h : a.Ok w B) (hb : Below B w w') : a.Ok w' B := ⟨h.kind, h.key, h.rd.below hb, h.le, h.max⟩
theorem ActT.Ok.more (h : a.Ok w B) (hB : B ≤ B') : a.Ok w B' := ⟨h.kind, h.key, h.rd.more hB, h.le, h.max⟩
theorem RdA.below (h : RdA w B A ls) (hb : Below B w w') : RdA w' B A ls := ⟨h.rows.below hb, fun a ha => (h.each a ha).below hb⟩
theorem RdA.more (h : RdA w B A ls) (hB : B ≤ B') : RdA w B' A ls := ⟨h.rows.more hB, fun a ha => (h.each a ha).more hB⟩
theorem RdA.take (h : RdA w B A ls) (k : Nat) : RdA w B A (ls.take k) := ⟨by rw [List.map_take]; exact h.rows.take k, fun x hx => h.each x (List.mem_of_mem_take hx)⟩
theorem RdA.at_ (h : RdA w B A ls) {j : Nat} (hj : j < ls.length) : ∃ g off, A = some ⟨g, off, none⟩ ∧ g < B ∧ w.rangeAt g (off + j * 35) (acs ls[j]) ∧ (ls[j]).Ok w B := by
  obtain ⟨g, off, e, hg, hc⟩ := h.rows (by simp; omega)
  refine ⟨g, off, e, hg, ?_, h.each _ (List.getElem_mem hj)⟩
  have := hc j (by simpa using hj)
  simpa using this
end
theorem act_fields : ∃ f0 f1 f2 : Field, Try.prog.underlying 39 = some (.struct #[f0, f1, f2]) ∧ f0.type = 5 ∧ f1.type = 27 ∧ f2.type = 37 ∧ f0.offset = 0 ∧ f1.offset = 1 ∧ f2.offset = 34 ∧
    Try.prog.cellsOf 39 = 35 ∧ Try.prog.cellsOf 27 = 33 ∧ Try.prog.cellsOf 37 = 1 ∧ Try.prog.cellsOf 5 = 1 := by
  refine ⟨_, _, _, Try.underlying39, ?_, ?_, ?_, ?_, ?_, ?_, ?_, ?_, ?_, ?_⟩ <;> kernel_rfl
theorem act_cells {H : Type} {enc : TypeId × Value → H} {w : World} {base fuel : Nat} {cs : List Value} {x : DataW H × List MemPlace} (h : DataW.trod enc Try.prog w base (fun _ => true) true fuel 39 cs = some x) :
    ∃ a : ActT, cs = acs a ∧ a.Ok w w.heap.size := by
  obtain ⟨f0, f1, f2, hs, e0, e1, e2, o0, o1, o2, hC, hK, hS, h8⟩ := act_fields
  obtain ⟨xs, n, _, _, hl, hxl, hf⟩ := DataW.trod_struct hs h
  have h0 := hf 0 f0 rfl
  have h1 := hf 1 f1 rfl
  have h2 := hf 2 f2 rfl
  rw [e0, o0, h8] at h0
  rw [e1, o1, hK] at h1
  rw [e2, o2, hS] at h2
  have hxl2 : xs.length = 3 := hxl
  rw [List.getElem?_eq_getElem (by omega)] at h0 h1 h2
  rw [hC] at hl
  obtain ⟨z, ez, _, hz⟩ := DataW.trod_int Try.underlying5 h0
  have bz := bounds_u8 hz
  obtain ⟨s, N, hk, hsl, hN⟩ := key_cells h1
  have hsp : cs = (cs.drop 0).take 1 ++ ((cs.drop 1).take 33 ++ (cs.drop 34).take 1) := by
    have e3 : (cs.drop 34).take 1 = cs.drop 34 := List.take_of_length_le (by rw [List.length_drop]; omega)
    have e4 : (cs.drop 1).take 33 ++ cs.drop 34 = cs.drop 1 := by
      rw [show cs.drop 34 = (cs.drop 1).drop 33 by rw [List.drop_drop], List.take_append_drop]
    rw [e3, e4, List.drop_zero, List.take_append_drop]
  rw [ez, hk] at hsp
  rcases open_slice Try.underlying37 h2 with ⟨hcs, _⟩ | ⟨ad, l, c, m, n', D, Pl, hcs, _⟩
  · rw [hcs] at hsp
    exact ⟨⟨z.toNat, (s, N), none, 0, []⟩, by rw [hsp]; simp [acs, kcs]; omega, ⟨by show z.toNat < 256; omega, ⟨hsl, hN⟩, Rd.nil _ _ _, Nat.le_refl _, by simp [maxLen]⟩⟩
  · have h3 := h2
    rw [hcs] at h3 hsp
    obtain ⟨zs, hzl, hr, hzc, hcm, hw⟩ := open_ints_arg (a := some ad) (len := l) (cap := c) Try.underlying37 Try.underlying5 h8 h3
    have hrb := rd_bytes hr hw
    refine ⟨⟨z.toNat, (s, N), some ad, c, bytesOf zs⟩, by rw [hsp]; simp [acs, kcs, bytesOf_length, hzl]; omega, ⟨by show z.toNat < 256; omega, ⟨hsl, hN⟩, hrb, by show (bytesOf zs).length ≤ c; rw [bytesOf_length]; exact hzc, hcm⟩⟩
theorem open_acts_arg {H : Type} {enc : TypeId × Value → H} {w : World} {base fuel : Nat} {a : Option Addr} {len cap : Nat} {x : DataW H × List MemPlace}
    (h : DataW.trod enc Try.prog w base (fun _ => true) true fuel 22 (Value.slice a len cap).cells.toList = some x) :
    ∃ ls : List ActT, len = ls.length ∧ RdA w w.heap.size a ls ∧ ls.length ≤ cap ∧ cap ≤ maxLen ∧ True := by
  obtain ⟨f0, f1, f2, hs, e0, e1, e2, o0, o1, o2, hC, _⟩ := act_fields
  obtain ⟨zs, h1, h2, h3, h4, h5⟩ := open_rows acs (ActT.Ok w w.heap.size) Try.underlying22 hC (by omega) (fun n cs y hy => act_cells hy) h
  exact ⟨zs, h1, ⟨h2, h5⟩, h3, h4, trivial⟩
end Go.Proofs.Ytjahlachoabmkaa
