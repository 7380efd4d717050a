/- Keys (api.Key): their cells, slices of them that came in, what a map reads them as. For every stage that has keys. No statement of the seat is proved here. -/
import Derived.Test.YtmnjaocdhelebaaArgB
import Derived.Test.YtmnjaocdhelebaaSetRow
import Derived.Test.YtmnjaocdhelebaaRowsOf
import Derived.Test.YtmnjaocdhelebaaQuiet
import Derived.Lib.SmallJoins
import Derived.BigFrame
import Derived.Laws.BitsAllLaws
namespace Go.Proofs.Ytmnjaocdhelebaa
open Go.ChangeShapes Go.WideShapes Go.ChangeAt Go.RowKit Go.Deep Go.Joins

/-- A load of a whole row, at an operation whose guard says yes. -/
theorem wpList_load_want {P : Program} {ops : Array Oper} {rest : List Oper} {o : Oper} {a : Act} {w : World} {Q : Exit → Act → World → Prop} (hgd : Region.wanted o (yielded ops a.tmps) = true) (ty : TypeId) (x : Operand) (ho : o.op = .load ty x)
    (g : Nat) (hx : a.eval x = .pointer (some ⟨g, 0, none⟩)) (t : TypeId) (cs : Array Value) (fr : Nat × Nat) (d : TypeDesc) (hg : w.heap[g]? = some (.cells cs t fr))
    (hu : P.underlying ty = some d) (hd : (match d with | .struct _ | .array _ _ => true | _ => false) = true) (hi : (P.info? ty).map (·.size) = some cs.size)
    (h : wpList P ops Q rest (a.put o.dst (.agg cs)) w) : wpList P ops Q (o :: rest) a w :=
  BigFrame.wpList_want hgd fun _ hK => wp_load_row ty x ho g hx t cs fr d hg hu hd hi (hK _ _ h)
theorem key_fields : ∃ f0 f1 : Field, Try.prog.underlying 27 = some (.struct #[f0, f1]) ∧ f0.type = 24 ∧ f1.type = 25 ∧ f0.offset = 0 ∧ f1.offset = 32 ∧ Try.prog.cellsOf 27 = 33 ∧ Try.prog.cellsOf 24 = 32 ∧ Try.prog.cellsOf 25 = 1 ∧ Try.prog.cellsOf 5 = 1 := by
  refine ⟨_, _, Try.underlying27, ?_, ?_, ?_, ?_, ?_, ?_, ?_, ?_⟩ <;> kernel_rfl
theorem key_desc : ∃ fs, Try.prog.underlying 27 = some (.struct fs) := ⟨_, Try.underlying27⟩
theorem key_size : (Try.prog.info? 27).map (·.size) = some 33 := by kernel_rfl
section
variable {H : Type} {enc : TypeId × Value → H} {w : World} {base : Nat} {sp : Nat → Bool} {held : Bool}
set_option maxRecDepth 100000 in
theorem key_cells {fuel : Nat} {cs : List Value} {x : DataW H × List MemPlace} (h : DataW.trod enc Try.prog w base sp held fuel 27 cs = some x) :
    ∃ (s : List UInt8) (N : Nat), cs = bv s ++ [.int .u32 N] ∧ s.length = 32 ∧ N < 4294967296 := by
  obtain ⟨f0, f1, hs, e0, e1, o0, o1, hC, hS, h4, h8⟩ := key_fields
  obtain ⟨xs, n, _, _, hl, hxl, hf⟩ := DataW.trod_struct hs h
  have h0 := hf 0 f0 rfl
  have h1 := hf 1 f1 rfl
  rw [e0, o0, hS] at h0
  rw [e1, o1, h4] at h1
  have hxl2 : xs.length = 2 := hxl
  rw [List.getElem?_eq_getElem (by omega)] at h0 h1
  obtain ⟨ys, m, _, _, hyl, hyn, hy⟩ := DataW.trod_array Try.underlying24 h0
  rw [hC] at hl
  obtain ⟨z, ez, _, hz⟩ := DataW.trod_int Try.underlying25 h1
  have bz := bounds_u32 hz
  have key : ∀ i (_ : i < 32), ∃ b : UInt8, cs[i]'(by omega) = .int .u8 b.toNat := fun i hi => by
    have h2 := hy i hi
    rw [h8, List.getElem?_eq_getElem (by omega), Nat.mul_one] at h2
    have h3 : ((((cs.drop 0).take 32).drop i).take 1) = [cs[i]'(by omega)] := by
      rw [List.drop_zero, List.drop_eq_getElem_cons (by rw [List.length_take]; omega)]
      simp
    rw [h3] at h2
    obtain ⟨y, ey, _, hw⟩ := DataW.trod_int Try.underlying5 h2
    have by8 := bounds_u8 hw
    refine ⟨UInt8.ofNat y.toNat, ?_⟩
    have : cs[i]'(by omega) = .int .u8 y := by simpa using ey
    rw [this, UInt8.toNat_ofNat']
    congr 1
    omega
  have h5 : ((cs.drop 32).take 1) = [cs[32]'(by omega)] := by
    rw [List.drop_eq_getElem_cons (by omega)]
    rfl
  rw [h5] at ez
  have ez : cs[32]'(by omega) = .int .u32 z := by simpa using ez
  have key2 : ∀ i, i < 32 → ∃ b : UInt8, cs[i]? = some (.int .u8 b.toNat) := fun i hi => by
    obtain ⟨b, hb⟩ := key i hi
    exact ⟨b, by rw [List.getElem?_eq_getElem (by omega), hb]⟩
  obtain ⟨F, hF⟩ := choose_lt key2
  refine ⟨(List.range 32).map F, z.toNat, ?_, by simp, by omega⟩
  apply List.ext_getElem (by simp [bv_length, hl])
  intro j j1 j2
  by_cases hj : j < 32
  · rw [List.getElem_append_left (by simpa [bv_length] using hj)]
    have h6 := hF j hj
    rw [List.getElem?_eq_getElem j1] at h6
    injection h6 with h6
    rw [h6]
    simp [bv]
  · have hj2 : j = 32 := by omega
    subst hj2
    rw [ez, List.getElem_append_right (by simp [bv_length])]
    simp [bv_length]
    omega
end
/-- A key: its Sum and its N. -/
abbrev KeyT := List UInt8 × Nat
def KeyT.Ok (k : KeyT) : Prop := k.1.length = 32 ∧ k.2 < 4294967296
def kcs (k : KeyT) : List Value := bv k.1 ++ [.int .u32 k.2]
theorem kcs_length {k : KeyT} (h : k.Ok) : (kcs k).length = 33 := by simp [kcs, bv_length, h.1]
theorem kcs_one {k : KeyT} : (kcs k).toArray.all (·.oneCell') = true := by
  refine all_oneCell_toArray fun v hv => ?_
  rcases List.mem_append.1 hv with h | h
  · exact bv_oneCell _ v h
  · rw [List.mem_singleton.1 h]; rfl
theorem kcs_byte {k : KeyT} {j : Nat} (hj : j < k.1.length) : (kcs k)[j]? = some (.int .u8 k.1[j].toNat) := by
  rw [kcs, List.getElem?_append_left (by rw [bv_length]; exact hj), bv_get hj]
theorem kcs_num {k : KeyT} (h : k.Ok) : (kcs k)[32]? = some (.int .u32 k.2) := by
  rw [kcs, List.getElem?_append_right (by rw [bv_length, h.1]; omega), bv_length, h.1]; rfl
theorem kcs_inj {a b : KeyT} (ha : a.Ok) (hb : b.Ok) (h : kcs a = kcs b) : a = b := by
  unfold kcs at h
  obtain ⟨h1, h2⟩ := List.append_inj h (by rw [bv_length, bv_length, ha.1, hb.1])
  have e1 : a.1 = b.1 := by
    apply List.ext_getElem (by rw [ha.1, hb.1])
    intro j j1 j2
    have h3 : (bv a.1)[j]? = (bv b.1)[j]? := by rw [h1]
    rw [bv_get j1, bv_get j2] at h3
    injection h3 with h3
    injection h3 with _ h3
    exact UInt8.toNat_inj.1 (by omega)
  have e2 : a.2 = b.2 := by
    have h3 := (List.cons.inj h2).1
    injection h3 with _ h3
    omega
  exact Prod.ext e1 e2
/-- A slice of keys that reads. -/
structure RdK (w : World) (B : Nat) (A : Option Addr) (ks : List KeyT) : Prop where
  rows : RdS w B 33 A (ks.map kcs)
  each : ∀ k ∈ ks, k.Ok
section
variable {w w' : World} {B B' : Nat} {A : Option Addr} {ks : List KeyT}
theorem RdK.below (h : RdK w B A ks) (hb : Below B w w') : RdK w' B A ks := ⟨h.rows.below hb, h.each⟩
theorem RdK.more (h : RdK w B A ks) (hB : B ≤ B') : RdK w B' A ks := ⟨h.rows.more hB, h.each⟩
theorem RdK.take (h : RdK w B A ks) (k : Nat) : RdK w B A (ks.take k) := ⟨by rw [List.map_take]; exact h.rows.take k, fun x hx => h.each x (List.mem_of_mem_take hx)⟩
theorem RdK.nil (w : World) (B : Nat) (A : Option Addr) : RdK w B A [] := ⟨fun h => absurd h (by simp), by simp⟩
theorem RdK.at_ (h : RdK w B A ks) {j : Nat} (hj : j < ks.length) : ∃ g off, A = some ⟨g, off, none⟩ ∧ g < B ∧ w.rangeAt g (off + j * 33) (kcs ks[j]) ∧ (ks[j]).Ok := by
  obtain ⟨g, off, e, hg, hc⟩ := h.rows (by simp; omega)
  refine ⟨g, off, e, hg, ?_, h.each _ (List.getElem_mem hj)⟩
  have := hc j (by simpa using hj)
  simpa using this
end
set_option maxRecDepth 100000 in
theorem open_key2 {H : Type} {enc : TypeId × Value → H} {w : World} {base : Nat} {sp : Nat → Bool} {held : Bool} {v : Value} {r : Reach} {b0 : Nat} {d : DataW H} {p : List MemPlace}
    (hv : Value.okWide Try.prog w r b0 27 v) (h : DataW.Trod enc Try.prog w base sp held 27 v d p) : ∃ k : KeyT, v = .agg (kcs k).toArray ∧ k.Ok := by
  obtain ⟨f0, f1, hs, _⟩ := key_fields
  obtain ⟨cs, rfl, hsz⟩ := okWide_struct hs hv
  obtain ⟨fuel, hf⟩ := h
  obtain ⟨s, N, hcs, hl, hN⟩ := key_cells hf
  refine ⟨(s, N), ?_, hl, hN⟩
  have e : cs = (bv s ++ [Value.int .u32 N]).toArray := by
    rw [← Array.toList_inj]; exact hcs
  rw [e]; rfl
/-- A load of many cells in a quiet region. -/
theorem quiet_load_mid {P : Program} {C : World → Prop} {next : Act → Prop} {o : Oper} {a a' : Act} (ty : TypeId) (x : Operand) (ho : o.op = .load ty x)
    (b off : Nat) (hx : a.eval x = .pointer (some ⟨b, off, none⟩)) (cs : List Value) (d : TypeDesc) (hC : ∀ w, C w → w.rangeAt b off cs)
    (hu : P.underlying ty = some d) (hd : d.isRow = true) (hi : (P.info? ty).map (·.size) = some cs.length)
    (ha : a.put o.dst (.agg cs.toArray) = a') (hn : next a') : o.quiet P a C next := by
  subst ha
  refine ⟨.agg cs.toArray, fun w hw => ?_, hn⟩
  unfold Oper.quietAt execOp
  simp only [ho, hx, Instr.loadAt, Instr.sureAddr, Sem.run_bind, Sem.run_pure, Result.andThen_ok, run_loadVar_mid w b off ty cs d (hC w hw) hu hd hi]
  exact ⟨rfl, rfl⟩
/-- A key of zeros. -/
abbrev kz (N : Int) : Array Value := #[.int .u8 0, .int .u8 0, .int .u8 0, .int .u8 0, .int .u8 0, .int .u8 0, .int .u8 0, .int .u8 0, .int .u8 0, .int .u8 0, .int .u8 0, .int .u8 0, .int .u8 0, .int .u8 0, .int .u8 0, .int .u8 0, .int .u8 0, .int .u8 0, .int .u8 0, .int .u8 0, .int .u8 0, .int .u8 0, .int .u8 0, .int .u8 0, .int .u8 0, .int .u8 0, .int .u8 0, .int .u8 0, .int .u8 0, .int .u8 0, .int .u8 0, .int .u8 0, .int .u32 N]
/-- A key's block. -/
theorem range_of_blk {w : World} {g : Nat} {t : TypeId} {cs : List Value} (h : Blk w g t cs.toArray) : w.rangeAt g 0 cs := fun j u hu => by
  rw [h.cell, List.getElem?_toArray, Nat.zero_add]; exact hu
end Go.Proofs.Ytmnjaocdhelebaa
