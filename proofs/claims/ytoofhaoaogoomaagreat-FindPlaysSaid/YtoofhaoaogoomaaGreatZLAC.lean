/- A box that is made and filled. No statement of the seat is proved here. -/
import Derived.Test.YtoofhaoaogoomaaGreatZLAA
import Derived.Deep.MidRow
import Derived.Deep.Slices
import Derived.Deep.QuietTactic
import Derived.BigQuiet
import Derived.Lib.QuietBelow
import Derived.Lib.SmallJoins
import Derived.BigFrame
import Derived.Laws.BitsAllLaws
namespace Go.Proofs.YtoofhaoaogoomaaGreat
open Go.RowKit
set_option linter.unusedVariables false

/-- A box that is made and filled. -/
theorem setRow_alloc (w : World) (t : TypeId) (cs ds : Array Value) : (w.alloc (.cells cs t)).setRow w.heap.size ds = w.alloc (.cells ds t) := by
  have e : ∀ f : Obj → Obj, f (.cells cs t) = .cells ds t → (w.heap.push (.cells cs t)).modify w.heap.size f = w.heap.push (.cells ds t) := fun f hf => by
    apply Array.ext
    · simp
    · intro i h1 h2
      rw [Array.getElem_modify]
      by_cases e : w.heap.size = i
      · subst e
        simp [hf]
      · have hi : i < w.heap.size := by simp at h2; omega
        rw [if_neg e, Array.getElem_push_lt hi, Array.getElem_push_lt hi]
  unfold World.setRow
  show ({ (w.alloc (.cells cs t)) with heap := (w.heap.push (.cells cs t)).modify w.heap.size _ } : World) = _
  rw [e _ rfl]
  rfl
end Go.Proofs.YtoofhaoaogoomaaGreat
/- Slices of structs that came in, row by row. No statement of the seat is proved here. -/
namespace Go.Proofs.YtoofhaoaogoomaaGreat
open Go.ChangeShapes Go.WideShapes Go.ChangeAt Go.RowKit Go.Deep

/-- The slice value '.slice A rows.length c' reads as those rows, each of sz cells, in blocks below B. -/
def RdS (w : World) (B sz : Nat) (A : Option Addr) (rows : List (List Value)) : Prop :=
  0 < rows.length → ∃ g off, A = some ⟨g, off, none⟩ ∧ g < B ∧ ∀ j (_ : j < rows.length), w.rangeAt g (off + j * sz) rows[j]
theorem RdS.below {w w' : World} {B sz : Nat} {A : Option Addr} {rows : List (List Value)} (h : RdS w B sz A rows) (hb : Below B w w') : RdS w' B sz A rows := fun hn => by
  obtain ⟨g, off, e, hg, hc⟩ := h hn
  exact ⟨g, off, e, hg, fun j hj i v hv => (hb.cell (p := ⟨g, off + j * sz + i, none⟩) hg).trans (hc j hj i v hv)⟩
theorem RdS.more {w : World} {B B' sz : Nat} {A : Option Addr} {rows : List (List Value)} (h : RdS w B sz A rows) (hB : B ≤ B') : RdS w B' sz A rows := fun hn => by
  obtain ⟨g, off, e, hg, hc⟩ := h hn
  exact ⟨g, off, e, by omega, hc⟩
theorem RdS.take {w : World} {B sz : Nat} {A : Option Addr} {rows : List (List Value)} (h : RdS w B sz A rows) (k : Nat) : RdS w B sz A (rows.take k) := fun hn => by
  rw [List.length_take] at hn
  obtain ⟨g, off, e, hg, hc⟩ := h (by omega)
  refine ⟨g, off, e, hg, fun j hj => ?_⟩
  rw [List.length_take] at hj
  rw [List.getElem_take]
  exact hc j (by omega)
section
variable {H : Type} {enc : TypeId × Value → H} {P : Program} {w : World} {base : Nat}
theorem open_rows {α : Type} [Inhabited α] (f : α → List Value) (Q : α → Prop) {t e : TypeId} {sz fuel : Nat} {a : Option Addr} {len cap : Nat} {x : DataW H × List MemPlace}
    (ht : P.underlying t = some (.slice e)) (hC : P.cellsOf e = sz) (hs : 0 < sz)
    (each : ∀ n cs y, DataW.trod enc P w base (fun _ => true) true n e cs = some y → ∃ z : α, cs = f z ∧ Q z)
    (h : DataW.trod enc P w base (fun _ => true) true fuel t (Value.slice a len cap).cells.toList = some x) :
    ∃ zs : List α, len = zs.length ∧ RdS w w.heap.size sz a (zs.map f) ∧ zs.length ≤ cap ∧ cap ≤ maxLen ∧ ∀ z ∈ zs, Q z := by
  rcases open_slice ht h with ⟨hcs, _⟩ | ⟨ad, l, c, m, n, D, Pl, hcs, hb, hl, hm, hmm, hx, hi⟩
  · simp [Value.cells] at hcs
    obtain ⟨rfl, rfl, rfl⟩ := hcs
    exact ⟨[], rfl, fun h => absurd h (by simp), by simp, by simp [maxLen], by simp⟩
  · simp [Value.cells] at hcs
    obtain ⟨rfl, rfl, rfl⟩ := hcs
    have key : ∀ i, i < len → ∃ z : α, (∀ j, j < sz → w.cell? ((ad.add (i * sz)).add j) = (f z)[j]?) ∧ (f z).length = sz ∧ Q z := fun i hil => by
      obtain ⟨cs', h1, h2⟩ := hi i (by simp at hmm; omega)
      rw [hC] at h1
      obtain ⟨_, h3, h4⟩ := World.cells?_some h1
      obtain ⟨z, rfl, hq⟩ := each _ _ _ h2
      exact ⟨z, h4, h3, hq⟩
    obtain ⟨F, hF⟩ := choose_lt key
    refine ⟨(List.range len).map F, by simp, fun hn => ?_, by simpa using hl, hm, fun z hz => ?_⟩
    · have hn' : 0 < len := by simpa using hn
      obtain ⟨c0, l0, _⟩ := hF 0 hn'
      have h0 := c0 0 hs
      rw [List.getElem?_eq_getElem (by omega)] at h0
      obtain ⟨b, off, spot⟩ := ad
      have hz : ((⟨b, off, spot⟩ : Addr).add (0 * sz)).add 0 = ⟨b, off, spot⟩ := by simp [Addr.add]
      rw [hz] at h0
      have hsp : spot = none := World.cell?_spot h0
      subst hsp
      refine ⟨b, off, rfl, World.block_lt_of_cell? w _ h0, fun j hj i v hv => ?_⟩
      have hj' : j < len := by simpa using hj
      simp only [List.map_map, List.getElem_map, List.getElem_range, Function.comp] at hv
      obtain ⟨c1, l1, _⟩ := hF j hj'
      have hi' : i < sz := by have := (List.getElem?_eq_some_iff.1 hv).1; omega
      have := c1 i hi'
      rw [Addr.add_mid, Addr.add_mid, hv] at this
      exact this
    · obtain ⟨i, hi2, rfl⟩ := List.mem_map.1 hz
      exact (hF i (List.mem_range.1 hi2)).2.2
end
end Go.Proofs.YtoofhaoaogoomaaGreat
/- What the walks of a region that draws lean on. No statement of the seat is proved here. -/
namespace Go.Proofs.YtoofhaoaogoomaaGreat
open Go.RowKit
theorem below_drewN {B : Nat} {a w : World} (h : Below B a w) (q : Nat) : Below B a (w.drewN q) := ⟨h.os, h.tape, h.output, h.size, h.block⟩
theorem quiet_left {P : Program} {f : FuncId} {args : Array Value} {w : World} {n : Nat} {v : Value}
    (h : Calls P f args (w.drewN n) fun e w' => e = .returned v ∧ w.drewN n = w') : Calls P f args (w.drewN n) fun e w'' => e = .returned v ∧ ∃ m, w'' = w.drewN m :=
  h.mono fun _ _ ⟨he, hm⟩ => ⟨he, n, hm.symm⟩
/-- The same behind draws. -/
theorem quiet_left2 {P : Program} {f : FuncId} {args : Array Value} {w : World} {q n : Nat} {v : Value}
    (h : Calls P f args (w.drewN (q + n)) fun e w' => e = .returned v ∧ w.drewN (q + n) = w') : Calls P f args (w.drewN (q + n)) fun e w'' => e = .returned v ∧ ∃ m, w'' = w.drewN (q + m) :=
  h.mono fun _ _ ⟨he, hm⟩ => ⟨he, n, hm.symm⟩
theorem Rd.drewN {w : World} {B : Nat} {A : Option Addr} {l : List UInt8} (h : Rd w B A l) (n : Nat) : Rd (w.drewN n) B A l := h
theorem blk_at (w : World) (t : TypeId) (cs : Array Value) {g : Nat} (hg : g = w.heap.size) : Blk (w.alloc (.cells cs t)) g t cs := by subst hg; exact Blk.new w t cs
end Go.Proofs.YtoofhaoaogoomaaGreat
/- Keys (api.Key): their cells, slices of them that came in, what a map reads them as. For every stage that has keys. No statement of the seat is proved here. -/
namespace Go.Proofs.YtoofhaoaogoomaaGreat
open Go.ChangeShapes Go.WideShapes Go.ChangeAt Go.RowKit Go.Deep Go.Joins

/-- A load of a whole row, at an operation whose guard says yes. -/
theorem wpList_load_want {P : Program} {ops : Array Oper} {rest : List Oper} {o : Oper} {a : Act} {w : World} {Q : Exit → Act → World → Prop} (hgd : Region.wanted o (yielded ops a.tmps) = true) (ty : TypeId) (x : Operand) (ho : o.op = .load ty x)
    (g : Nat) (hx : a.eval x = .pointer (some ⟨g, 0, none⟩)) (t : TypeId) (cs : Array Value) (fr : Nat × Nat) (d : TypeDesc) (hg : w.heap[g]? = some (.cells cs t fr))
    (hu : P.underlying ty = some d) (hd : (match d with | .struct _ | .array _ _ => true | _ => false) = true) (hi : (P.info? ty).map (·.size) = some cs.size)
    (h : wpList P ops Q rest (a.put o.dst (.agg cs)) w) : wpList P ops Q (o :: rest) a w :=
  BigFrame.wpList_want hgd fun _ hK => wp_load_row ty x ho g hx t cs fr d hg hu hd hi (hK _ _ h)
theorem key_fields : ∃ f0 f1 : Field, Tryz.prog.underlying 29 = some (.struct #[f0, f1]) ∧ f0.type = 26 ∧ f1.type = 27 ∧ f0.offset = 0 ∧ f1.offset = 32 ∧ Tryz.prog.cellsOf 29 = 33 ∧ Tryz.prog.cellsOf 26 = 32 ∧ Tryz.prog.cellsOf 27 = 1 ∧ Tryz.prog.cellsOf 5 = 1 := by
  refine ⟨_, _, Tryz.underlying29, ?_, ?_, ?_, ?_, ?_, ?_, ?_, ?_⟩ <;> kernel_rfl
theorem key_desc : ∃ fs, Tryz.prog.underlying 29 = some (.struct fs) := ⟨_, Tryz.underlying29⟩
theorem key_size : (Tryz.prog.info? 29).map (·.size) = some 33 := by kernel_rfl
section
variable {H : Type} {enc : TypeId × Value → H} {w : World} {base : Nat} {sp : Nat → Bool} {held : Bool}
set_option maxRecDepth 100000 in
theorem key_cells {fuel : Nat} {cs : List Value} {x : DataW H × List MemPlace} (h : DataW.trod enc Tryz.prog w base sp held fuel 29 cs = some x) :
    ∃ (s : List UInt8) (N : Nat), cs = bv s ++ [.int .u32 N] ∧ s.length = 32 ∧ N < 4294967296 := by
  obtain ⟨f0, f1, hs, e0, e1, o0, o1, hC, hS, h4, h8⟩ := key_fields
  obtain ⟨xs, n, _, _, hl, hxl, hf⟩ := DataW.trod_struct hs h
  have h0 := hf 0 f0 rfl
  have h1 := hf 1 f1 rfl
  rw [e0, o0, hS] at h0
  rw [e1, o1, h4] at h1
  have hxl2 : xs.length = 2 := hxl
  rw [List.getElem?_eq_getElem (by omega)] at h0 h1
  obtain ⟨ys, m, _, _, hyl, hyn, hy⟩ := DataW.trod_array Tryz.underlying26 h0
  rw [hC] at hl
  obtain ⟨z, ez, _, hz⟩ := DataW.trod_int Tryz.underlying27 h1
  have bz := bounds_u32 hz
  have key : ∀ i (_ : i < 32), ∃ b : UInt8, cs[i]'(by omega) = .int .u8 b.toNat := fun i hi => by
    have h2 := hy i hi
    rw [h8, List.getElem?_eq_getElem (by omega), Nat.mul_one] at h2
    have h3 : ((((cs.drop 0).take 32).drop i).take 1) = [cs[i]'(by omega)] := by
      rw [List.drop_zero, List.drop_eq_getElem_cons (by rw [List.length_take]; omega)]
      simp
    rw [h3] at h2
    obtain ⟨y, ey, _, hw⟩ := DataW.trod_int Tryz.underlying5 h2
    have by8 := bounds_u8 hw
    refine ⟨UInt8.ofNat y.toNat, ?_⟩
    have : cs[i]'(by omega) = .int .u8 y := by simpa using ey
    rw [this, UInt8.toNat_ofNat']
    congr 1
    omega
  have h5 : ((cs.drop 32).take 1) = [cs[32]'(by omega)] := by
    rw [List.drop_eq_getElem_cons (by omega)]
    rfl
  rw [h5] at ez
  have ez : cs[32]'(by omega) = .int .u32 z := by simpa using ez
  have key2 : ∀ i, i < 32 → ∃ b : UInt8, cs[i]? = some (.int .u8 b.toNat) := fun i hi => by
    obtain ⟨b, hb⟩ := key i hi
    exact ⟨b, by rw [List.getElem?_eq_getElem (by omega), hb]⟩
  obtain ⟨F, hF⟩ := choose_lt key2
  refine ⟨(List.range 32).map F, z.toNat, ?_, by simp, by omega⟩
  apply List.ext_getElem (by simp [bv_length, hl])
  intro j j1 j2
  by_cases hj : j < 32
  · rw [List.getElem_append_left (by simpa [bv_length] using hj)]
    have h6 := hF j hj
    rw [List.getElem?_eq_getElem j1] at h6
    injection h6 with h6
    rw [h6]
    simp [bv]
  · have hj2 : j = 32 := by omega
    subst hj2
    rw [ez, List.getElem_append_right (by simp [bv_length])]
    simp [bv_length]
    omega
end
/-- A key: its Sum and its N. -/
abbrev KeyT := List UInt8 × Nat
def KeyT.Ok (k : KeyT) : Prop := k.1.length = 32 ∧ k.2 < 4294967296
def kcs (k : KeyT) : List Value := bv k.1 ++ [.int .u32 k.2]
theorem kcs_length {k : KeyT} (h : k.Ok) : (kcs k).length = 33 := by simp [kcs, bv_length, h.1]
theorem kcs_one {k : KeyT} : (kcs k).toArray.all (·.oneCell') = true := by
  refine all_oneCell_toArray fun v hv => ?_
  rcases List.mem_append.1 hv with h | h
  · exact bv_oneCell _ v h
  · rw [List.mem_singleton.1 h]; rfl
theorem kcs_byte {k : KeyT} {j : Nat} (hj : j < k.1.length) : (kcs k)[j]? = some (.int .u8 k.1[j].toNat) := by
  rw [kcs, List.getElem?_append_left (by rw [bv_length]; exact hj), bv_get hj]
theorem kcs_num {k : KeyT} (h : k.Ok) : (kcs k)[32]? = some (.int .u32 k.2) := by
  rw [kcs, List.getElem?_append_right (by rw [bv_length, h.1]; omega), bv_length, h.1]; rfl
theorem kcs_inj {a b : KeyT} (ha : a.Ok) (hb : b.Ok) (h : kcs a = kcs b) : a = b := by
  unfold kcs at h
  obtain ⟨h1, h2⟩ := List.append_inj h (by rw [bv_length, bv_length, ha.1, hb.1])
  have e1 : a.1 = b.1 := by
    apply List.ext_getElem (by rw [ha.1, hb.1])
    intro j j1 j2
    have h3 : (bv a.1)[j]? = (bv b.1)[j]? := by rw [h1]
    rw [bv_get j1, bv_get j2] at h3
    injection h3 with h3
    injection h3 with _ h3
    exact UInt8.toNat_inj.1 (by omega)
  have e2 : a.2 = b.2 := by
    have h3 := (List.cons.inj h2).1
    injection h3 with _ h3
    omega
  exact Prod.ext e1 e2
/-- A slice of keys that reads. -/
structure RdK (w : World) (B : Nat) (A : Option Addr) (ks : List KeyT) : Prop where
  rows : RdS w B 33 A (ks.map kcs)
  each : ∀ k ∈ ks, k.Ok
section
variable {w w' : World} {B B' : Nat} {A : Option Addr} {ks : List KeyT}
theorem RdK.below (h : RdK w B A ks) (hb : Below B w w') : RdK w' B A ks := ⟨h.rows.below hb, h.each⟩
theorem RdK.more (h : RdK w B A ks) (hB : B ≤ B') : RdK w B' A ks := ⟨h.rows.more hB, h.each⟩
theorem RdK.take (h : RdK w B A ks) (k : Nat) : RdK w B A (ks.take k) := ⟨by rw [List.map_take]; exact h.rows.take k, fun x hx => h.each x (List.mem_of_mem_take hx)⟩
theorem RdK.nil (w : World) (B : Nat) (A : Option Addr) : RdK w B A [] := ⟨fun h => absurd h (by simp), by simp⟩
theorem RdK.at_ (h : RdK w B A ks) {j : Nat} (hj : j < ks.length) : ∃ g off, A = some ⟨g, off, none⟩ ∧ g < B ∧ w.rangeAt g (off + j * 33) (kcs ks[j]) ∧ (ks[j]).Ok := by
  obtain ⟨g, off, e, hg, hc⟩ := h.rows (by simp; omega)
  refine ⟨g, off, e, hg, ?_, h.each _ (List.getElem_mem hj)⟩
  have := hc j (by simpa using hj)
  simpa using this
end
theorem open_keys_arg {H : Type} {enc : TypeId × Value → H} {w : World} {base fuel : Nat} {a : Option Addr} {len cap : Nat} {x : DataW H × List MemPlace}
    (h : DataW.trod enc Tryz.prog w base (fun _ => true) true fuel 66 (Value.slice a len cap).cells.toList = some x) :
    ∃ ks : List KeyT, len = ks.length ∧ RdK w w.heap.size a ks ∧ ks.length ≤ cap ∧ cap ≤ maxLen ∧ True := by
  obtain ⟨f0, f1, hs, e0, e1, o0, o1, hC, _⟩ := key_fields
  obtain ⟨zs, h1, h2, h3, h4, h5⟩ := open_rows kcs KeyT.Ok Tryz.underlying66 hC (by omega) (fun n cs y hy => by
    obtain ⟨s, N, hcs, hl, hN⟩ := key_cells hy
    exact ⟨(s, N), hcs, hl, hN⟩) h
  exact ⟨zs, h1, ⟨h2, h5⟩, h3, h4, trivial⟩
set_option maxRecDepth 100000 in
theorem open_key2 {H : Type} {enc : TypeId × Value → H} {w : World} {base : Nat} {sp : Nat → Bool} {held : Bool} {v : Value} {r : Reach} {b0 : Nat} {d : DataW H} {p : List MemPlace}
    (hv : Value.okWide Tryz.prog w r b0 29 v) (h : DataW.Trod enc Tryz.prog w base sp held 29 v d p) : ∃ k : KeyT, v = .agg (kcs k).toArray ∧ k.Ok := by
  obtain ⟨f0, f1, hs, _⟩ := key_fields
  obtain ⟨cs, rfl, hsz⟩ := okWide_struct hs hv
  obtain ⟨fuel, hf⟩ := h
  obtain ⟨s, N, hcs, hl, hN⟩ := key_cells hf
  refine ⟨(s, N), ?_, hl, hN⟩
  have e : cs = (bv s ++ [Value.int .u32 N]).toArray := by
    rw [← Array.toList_inj]; exact hcs
  rw [e]; rfl
/-- A load of many cells in a quiet region. -/
theorem quiet_load_mid {P : Program} {C : World → Prop} {next : Act → Prop} {o : Oper} {a a' : Act} (ty : TypeId) (x : Operand) (ho : o.op = .load ty x)
    (b off : Nat) (hx : a.eval x = .pointer (some ⟨b, off, none⟩)) (cs : List Value) (d : TypeDesc) (hC : ∀ w, C w → w.rangeAt b off cs)
    (hu : P.underlying ty = some d) (hd : d.isRow = true) (hi : (P.info? ty).map (·.size) = some cs.length)
    (ha : a.put o.dst (.agg cs.toArray) = a') (hn : next a') : o.quiet P a C next := by
  subst ha
  refine ⟨.agg cs.toArray, fun w hw => ?_, hn⟩
  unfold Oper.quietAt execOp
  simp only [ho, hx, Instr.loadAt, Instr.sureAddr, Sem.run_bind, Sem.run_pure, Result.andThen_ok, run_loadVar_mid w b off ty cs d (hC w hw) hu hd hi]
  exact ⟨rfl, rfl⟩
/-- A key of zeros. -/
abbrev kz (N : Int) : Array Value := #[.int .u8 0, .int .u8 0, .int .u8 0, .int .u8 0, .int .u8 0, .int .u8 0, .int .u8 0, .int .u8 0, .int .u8 0, .int .u8 0, .int .u8 0, .int .u8 0, .int .u8 0, .int .u8 0, .int .u8 0, .int .u8 0, .int .u8 0, .int .u8 0, .int .u8 0, .int .u8 0, .int .u8 0, .int .u8 0, .int .u8 0, .int .u8 0, .int .u8 0, .int .u8 0, .int .u8 0, .int .u8 0, .int .u8 0, .int .u8 0, .int .u8 0, .int .u8 0, .int .u32 N]
/-- A key's block. -/
theorem range_of_blk {w : World} {g : Nat} {t : TypeId} {cs : List Value} (h : Blk w g t cs.toArray) : w.rangeAt g 0 cs := fun j u hu => by
  rw [h.cell, List.getElem?_toArray, Nat.zero_add]; exact hu
end Go.Proofs.YtoofhaoaogoomaaGreat
/- Plain mathematics for package index: rows in the order of their keys, what is put and taken out. No statement of the seat is proved here; nothing of the program is imported. -/
namespace Go.Proofs.YtoofhaoaogoomaaGreat
set_option linter.unusedVariables false

/-- A row: its key (fingerprint, number), its shelf, its slot. -/
abbrev RowT := (List UInt8 × Nat) × (Int × Int)
def KeyOk (k : List UInt8 × Nat) : Prop := k.1.length = 32 ∧ k.2 < 4294967296
/-- Where a key stands. -/
def ordK (k : List UInt8 × Nat) : Nat := val k.1 * 4294967296 + k.2
theorem ordK_inj {a b : List UInt8 × Nat} (ha : KeyOk a) (hb : KeyOk b) (h : ordK a = ordK b) : a = b := by
  obtain ⟨x, m⟩ := a
  obtain ⟨y, n⟩ := b
  have h1 : m < 4294967296 := ha.2
  have h2 : n < 4294967296 := hb.2
  have hx : x.length = 32 := ha.1
  have hy : y.length = 32 := hb.1
  unfold ordK at h
  simp only at h
  have h3 : val x = val y := by omega
  have h4 : m = n := by omega
  rw [← be_val x, ← be_val y, hx, hy, h3, h4]
def Rise (L : List RowT) : Prop := L.Pairwise fun a b => ordK a.1 < ordK b.1
def under (L : List RowT) (k : List UInt8 × Nat) : List RowT := L.filter fun r => decide (ordK r.1 < ordK k)
def over (L : List RowT) (k : List UInt8 × Nat) : List RowT := L.filter fun r => decide (ordK k < ordK r.1)
def putX (L : List RowT) (k : List UInt8 × Nat) (p : Int × Int) : List RowT := under L k ++ (k, p) :: over L k
def dropX (L : List RowT) (k : List UInt8 × Nat) : List RowT := under L k ++ over L k
def hasX (L : List RowT) (k : List UInt8 × Nat) : Bool := L.any fun r => decide (r.1 = k)
def getX (L : List RowT) (k : List UInt8 × Nat) : Int × Int := match L.find? fun r => decide (r.1 = k) with
  | some r => r.2
  | none => (0, 0)
def twinsX (L : List RowT) (d : List UInt8) : List (List UInt8 × Nat) := (L.filter fun r => decide (r.1.1 = d)).map (·.1)
/-- A row set in by its slot, behind all of the same. -/
def insS (l : List RowT) (r : RowT) : List RowT := l.takeWhile (fun x => decide (x.2.2 ≤ r.2.2)) ++ r :: l.dropWhile (fun x => decide (x.2.2 ≤ r.2.2))
def shelfX (L : List RowT) (at_ : Int) : List RowT := (L.filter fun r => decide (r.2.1 = at_)).foldl insS []
structure RowsOk (L : List RowT) : Prop where
  rise : Rise L
  key : ∀ r ∈ L, KeyOk r.1
  place : ∀ r ∈ L, (-9223372036854775808 ≤ r.2.1 ∧ r.2.1 ≤ 9223372036854775807) ∧ (-9223372036854775808 ≤ r.2.2 ∧ r.2.2 ≤ 9223372036854775807)
theorem rise_split {L : List RowT} (h : Rise L) {k : List UInt8 × Nat} (hk : KeyOk k) (hL : ∀ r ∈ L, KeyOk r.1) : (hasX L k = false ∧ L = under L k ++ over L k) ∨ ∃ p, hasX L k = true ∧ getX L k = p ∧ L = under L k ++ (k, p) :: over L k := by
  induction L with
  | nil => exact .inl ⟨rfl, rfl⟩
  | cons r L ih =>
    have hr := List.pairwise_cons.1 h
    have ihh := ih hr.2 fun x hx => hL x (by simp [hx])
    have hrk := hL r (by simp)
    rcases Nat.lt_trichotomy (ordK r.1) (ordK k) with h1 | h1 | h1
    · have hne : r.1 ≠ k := fun e => by rw [e] at h1; omega
      have e1 : under (r :: L) k = r :: under L k := by unfold under; rw [List.filter_cons, if_pos (by simpa using h1)]
      have e2 : over (r :: L) k = over L k := by unfold over; rw [List.filter_cons, if_neg (by simp; omega)]
      have e3 : hasX (r :: L) k = hasX L k := by unfold hasX; rw [List.any_cons, decide_eq_false hne, Bool.false_or]
      have e4 : getX (r :: L) k = getX L k := by unfold getX; rw [List.find?_cons, decide_eq_false hne]
      rcases ihh with ⟨i1, i2⟩ | ⟨p, i1, i2, i3⟩
      · exact .inl ⟨e3.trans i1, by rw [e1, e2, List.cons_append, ← i2]⟩
      · exact .inr ⟨p, e3.trans i1, e4.trans i2, by rw [e1, e2, List.cons_append, ← i3]⟩
    · have e0 : r.1 = k := ordK_inj hrk hk h1
      have e1 : under (r :: L) k = [] := by
        unfold under
        rw [List.filter_eq_nil_iff]
        intro x hx
        rcases List.mem_cons.1 hx with rfl | hx
        · simp; omega
        · have := hr.1 x hx; simp; omega
      have e2 : over (r :: L) k = L := by
        unfold over
        rw [List.filter_cons, if_neg (by simp; omega), List.filter_eq_self]
        intro x hx
        have := hr.1 x hx; simp; omega
      refine .inr ⟨r.2, ?_, ?_, ?_⟩
      · unfold hasX; rw [List.any_cons, decide_eq_true e0, Bool.true_or]
      · unfold getX; rw [List.find?_cons, decide_eq_true e0]
      · rw [e1, e2, ← e0]; rfl
    · have hne : r.1 ≠ k := fun e => by rw [e] at h1; omega
      have e1 : under (r :: L) k = [] := by
        unfold under
        rw [List.filter_eq_nil_iff]
        intro x hx
        rcases List.mem_cons.1 hx with rfl | hx
        · simp; omega
        · have := hr.1 x hx; simp; omega
      have e2 : over (r :: L) k = r :: L := by
        unfold over
        rw [List.filter_eq_self]
        intro x hx
        rcases List.mem_cons.1 hx with rfl | hx
        · simpa using h1
        · have := hr.1 x hx; simp; omega
      have e3 : hasX (r :: L) k = false := by
        unfold hasX
        rw [List.any_eq_false]
        intro x hx
        simp only [decide_eq_true_eq]
        rintro rfl
        rcases List.mem_cons.1 hx with rfl | hx
        · omega
        · have := hr.1 x hx; omega
      exact .inl ⟨e3, by rw [e1, e2, List.nil_append]⟩
theorem mem_under {L : List RowT} {k : List UInt8 × Nat} {r : RowT} : r ∈ under L k ↔ r ∈ L ∧ ordK r.1 < ordK k := by unfold under; rw [List.mem_filter]; simp
theorem mem_over {L : List RowT} {k : List UInt8 × Nat} {r : RowT} : r ∈ over L k ↔ r ∈ L ∧ ordK k < ordK r.1 := by unfold over; rw [List.mem_filter]; simp
theorem rise_under {L : List RowT} (h : Rise L) (k : List UInt8 × Nat) : Rise (under L k) := List.Pairwise.filter _ h
theorem rise_over {L : List RowT} (h : Rise L) (k : List UInt8 × Nat) : Rise (over L k) := List.Pairwise.filter _ h
theorem RowsOk.put {L : List RowT} (h : RowsOk L) {k : List UInt8 × Nat} (hk : KeyOk k) {p : Int × Int} (hp : (-9223372036854775808 ≤ p.1 ∧ p.1 ≤ 9223372036854775807) ∧ (-9223372036854775808 ≤ p.2 ∧ p.2 ≤ 9223372036854775807)) : RowsOk (putX L k p) := by
  have hm : ∀ r ∈ putX L k p, r ∈ L ∨ r = (k, p) := fun r hr => by
    rcases List.mem_append.1 hr with hr | hr
    · exact .inl (mem_under.1 hr).1
    · rcases List.mem_cons.1 hr with hr | hr
      · exact .inr hr
      · exact .inl (mem_over.1 hr).1
  refine ⟨?_, fun r hr => ?_, fun r hr => ?_⟩
  · refine List.pairwise_append.2 ⟨rise_under h.rise k, List.pairwise_cons.2 ⟨fun r hr => (mem_over.1 hr).2, rise_over h.rise k⟩, fun a ha b hb => ?_⟩
    have h1 := (mem_under.1 ha).2
    rcases List.mem_cons.1 hb with rfl | hb
    · exact h1
    · have := (mem_over.1 hb).2; omega
  · rcases hm r hr with h1 | rfl
    · exact h.key r h1
    · exact hk
  · rcases hm r hr with h1 | rfl
    · exact h.place r h1
    · exact hp
theorem RowsOk.drop {L : List RowT} (h : RowsOk L) (k : List UInt8 × Nat) : RowsOk (dropX L k) := by
  have hm : ∀ r ∈ dropX L k, r ∈ L := fun r hr => by
    rcases List.mem_append.1 hr with hr | hr
    · exact (mem_under.1 hr).1
    · exact (mem_over.1 hr).1
  refine ⟨List.pairwise_append.2 ⟨rise_under h.rise k, rise_over h.rise k, fun a ha b hb => ?_⟩, fun r hr => h.key r (hm r hr), fun r hr => h.place r (hm r hr)⟩
  have h1 := (mem_under.1 ha).2
  have := (mem_over.1 hb).2
  omega
theorem RowsOk.nil : RowsOk [] := ⟨List.Pairwise.nil, by simp, by simp⟩
theorem putX_length (L : List RowT) (h : Rise L) {k : List UInt8 × Nat} (hk : KeyOk k) (hL : ∀ r ∈ L, KeyOk r.1) (p : Int × Int) : (putX L k p).length ≤ L.length + 1 := by
  rcases rise_split h hk hL with ⟨_, e⟩ | ⟨q, _, _, e⟩
  · have := congrArg List.length e
    simp [putX] at this ⊢
    omega
  · have := congrArg List.length e
    simp [putX] at this ⊢
    omega
theorem dropX_length (L : List RowT) (h : Rise L) {k : List UInt8 × Nat} (hk : KeyOk k) (hL : ∀ r ∈ L, KeyOk r.1) : (dropX L k).length ≤ L.length := by
  rcases rise_split h hk hL with ⟨_, e⟩ | ⟨q, _, _, e⟩
  · have := congrArg List.length e
    simp [dropX] at this ⊢
    omega
  · have := congrArg List.length e
    simp [dropX] at this ⊢
    omega
theorem insS_length (l : List RowT) (r : RowT) : (insS l r).length = l.length + 1 := by
  have h := congrArg List.length (List.takeWhile_append_dropWhile (p := fun x : RowT => decide (x.2.2 ≤ r.2.2)) (l := l))
  simp only [List.length_append] at h
  simp only [insS, List.length_append, List.length_cons]
  omega
theorem foldl_insS_length : ∀ (M l : List RowT), (M.foldl insS l).length = l.length + M.length
  | [], l => rfl
  | r :: M, l => by rw [List.foldl_cons, foldl_insS_length M, insS_length, List.length_cons]; omega
theorem shelfX_length (L : List RowT) (at_ : Int) : (shelfX L at_).length ≤ L.length := by
  unfold shelfX
  rw [foldl_insS_length]
  have := List.length_filter_le (fun r : RowT => decide (r.2.1 = at_)) L
  simp only [List.length_nil, Nat.zero_add]
  exact this
theorem twinsX_length (L : List RowT) (d : List UInt8) : (twinsX L d).length ≤ L.length := by
  unfold twinsX
  rw [List.length_map]
  exact List.length_filter_le _ _
theorem mem_insS {l : List RowT} {r x : RowT} : x ∈ insS l r ↔ x = r ∨ x ∈ l := by
  have h : ∀ x, x ∈ l ↔ x ∈ l.takeWhile (fun x => decide (x.2.2 ≤ r.2.2)) ∨ x ∈ l.dropWhile (fun x => decide (x.2.2 ≤ r.2.2)) := fun x => by
    conv => lhs; rw [← List.takeWhile_append_dropWhile (p := fun x : RowT => decide (x.2.2 ≤ r.2.2)) (l := l), List.mem_append]
  rw [h x]
  unfold insS
  rw [List.mem_append, List.mem_cons]
  constructor
  · rintro (h | h | h)
    · exact .inr (.inl h)
    · exact .inl h
    · exact .inr (.inr h)
  · rintro (h | h | h)
    · exact .inr (.inl h)
    · exact .inl h
    · exact .inr (.inr h)
theorem mem_foldl_insS : ∀ (M l : List RowT) (x : RowT), x ∈ M.foldl insS l ↔ x ∈ M ∨ x ∈ l
  | [], l, x => by simp
  | r :: M, l, x => by
    rw [List.foldl_cons, mem_foldl_insS M, mem_insS, List.mem_cons]
    constructor
    · rintro (h | h | h)
      · exact .inl (.inr h)
      · exact .inl (.inl h)
      · exact .inr h
    · rintro ((h | h) | h)
      · exact .inr (.inl h)
      · exact .inl h
      · exact .inr (.inr h)
theorem mem_shelfX {L : List RowT} {at_ : Int} {x : RowT} : x ∈ shelfX L at_ ↔ x ∈ L ∧ x.2.1 = at_ := by
  unfold shelfX
  rw [mem_foldl_insS, List.mem_filter]
  simp
theorem mem_twinsX {L : List RowT} {d : List UInt8} {k : List UInt8 × Nat} : k ∈ twinsX L d ↔ k.1 = d ∧ ∃ p, (k, p) ∈ L := by
  unfold twinsX
  rw [List.mem_map]
  constructor
  · rintro ⟨r, hr, rfl⟩
    rw [List.mem_filter] at hr
    exact ⟨by simpa using hr.2, r.2, hr.1⟩
  · rintro ⟨h, p, hp⟩
    exact ⟨(k, p), List.mem_filter.2 ⟨hp, by simpa using h⟩, rfl⟩
theorem hasX_iff {L : List RowT} {k : List UInt8 × Nat} : hasX L k = true ↔ ∃ p, (k, p) ∈ L := by
  unfold hasX
  rw [List.any_eq_true]
  constructor
  · rintro ⟨r, hr, h⟩
    have h : r.1 = k := by simpa using h
    exact ⟨r.2, by rw [← h]; exact hr⟩
  · rintro ⟨p, hp⟩
    exact ⟨(k, p), hp, by simp⟩
end Go.Proofs.YtoofhaoaogoomaaGreat
