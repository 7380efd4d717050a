/- Of one block grown alone. No statement of the seat is proved here; nothing of the program is named. -/
import Derived.Test.YtoofhaoaogoomaaGreatZLAA
import Derived.Test.YtoofhaoaogoomaaGreatZLAD
import Derived.RegionTactic
import Derived.ChangeAlike
import Derived.BigRegion
import Derived.Deep.WholeRow
import Derived.Deep.RegionHeld3
import Derived.IntWalk
import Derived.WalkSpells
import Derived.Handy
namespace Go.Proofs.YtoofhaoaogoomaaGreat
open Go.RowKit
theorem below_grownF {w W : World} (h : Below w.heap.size w W) (g : Nat) : w.grownBy W (some g) := ⟨h.os, h.tape, h.output, h.size, fun k hk _ => h.block k hk⟩
theorem gby_transF {a b c : World} {row : Option Nat} (h : a.grownBy b row) (k : b.grownBy c row) : a.grownBy c row :=
  ⟨k.os.trans h.os, k.tape.trans h.tape, k.output.trans h.output, Nat.le_trans h.size k.size, fun i hi hn => (k.block i (Nat.lt_of_lt_of_le hi h.size) hn).trans (h.block i hi hn)⟩
theorem gby_drewF {w W : World} {row : Option Nat} (h : w.grownBy W row) : w.grownBy W.drew row := ⟨h.os, h.tape, h.output, h.size, h.block⟩
theorem grownBy_cellF (W : World) (b i : Nat) (v : Value) : W.grownBy (W.setCell ⟨b, i, none⟩ v) (some b) :=
  ⟨rfl, rfl, rfl, by rw [setCell_size]; exact Nat.le_refl _, fun k _ hk => setCell_block (fun e => hk (by rw [e]))⟩
end Go.Proofs.YtoofhaoaogoomaaGreat
/- The reference of package bloom: New, four. No statement of the seat is proved here. -/
namespace Go.Proofs.YtoofhaoaogoomaaGreat
set_option maxRecDepth 100000
open Go.RowKit

/-- The bits below n, as cells. -/
def bcs (n : Nat) (S : Nat → Bool) : List Value := (List.range n).map fun q => Value.bool (S q)
theorem bcs_length (n : Nat) (S : Nat → Bool) : (bcs n S).length = n := by simp [bcs]
theorem bcs_get {n q : Nat} (S : Nat → Bool) (h : q < n) : (bcs n S)[q]? = some (.bool (S q)) := by simp [bcs, h]
theorem bcs_set {n q : Nat} (S : Nat → Bool) (b : Bool) {T : Nat → Bool} (hT : ∀ x, x < n → T x = if x = q then b else S x) : (bcs n S).toArray.setIfInBounds q (.bool b) = (bcs n T).toArray := by
  apply Array.ext_getElem?
  intro j
  by_cases hj : j < n
  · have hR : (bcs n T).toArray[j]? = some (.bool (T j)) := by rw [List.getElem?_toArray, bcs_get T hj]
    rw [hR, hT j hj]
    by_cases e : q = j
    · subst e
      simp [bcs_length, hj]
    · rw [Array.getElem?_setIfInBounds_ne e, List.getElem?_toArray, bcs_get S hj, if_neg (fun h => e h.symm)]
  · rw [Array.getElem?_eq_none (by simp [bcs_length]; omega), Array.getElem?_eq_none (by simp [bcs_length]; omega)]
/-- In w the block r is a filter of the reference. -/
structure Ref (w : World) (r g n p : Nat) (S : Nat → Bool) : Prop where
  rb : Blk w r 92 #[.slice (some ⟨g, 0, none⟩) n n, .int .i64 p]
  gb : Blk w g 4 (bcs n S).toArray
  hn : n ≤ 1048576
  hp : p ≤ 30
section
variable {w w' : World} {r g n p : Nat} {S : Nat → Bool}
theorem Ref.ne (h : Ref w r g n p S) : r ≠ g := h.rb.other h.gb (by decide)
theorem Ref.same (h : Ref w r g n p S) (h1 : w'.heap[r]? = w.heap[r]?) (h2 : w'.heap[g]? = w.heap[g]?) : Ref w' r g n p S := ⟨h.rb.same h1, h.gb.same h2, h.hn, h.hp⟩
theorem Ref.on (h : Ref w r g n p S) (hb : Below w.heap.size w w') : Ref w' r g n p S := h.same (hb.block r h.rb.lt) (hb.block g h.gb.lt)
theorem Ref.grown {x : Nat} (h : Ref w r g n p S) (hg : w.grownBy w' (some x)) (h1 : r ≠ x) (h2 : g ≠ x) : Ref w' r g n p S :=
  h.same (hg.block r h.rb.lt (fun e => h1 (by injection e))) (hg.block g h.gb.lt (fun e => h2 (by injection e)))
theorem Ref.cells (h : Ref w r g n p S) : w.cell? ⟨r, 0, none⟩ = some (.slice (some ⟨g, 0, none⟩) n n) ∧ w.cell? ⟨r, 1, none⟩ = some (.int .i64 p) := ⟨h.rb.cell 0, h.rb.cell 1⟩
theorem Ref.bit (h : Ref w r g n p S) {q : Nat} (hq : q < n) : w.cell? ⟨g, q, none⟩ = some (.bool (S q)) := by rw [h.gb.cell, List.getElem?_toArray, bcs_get S hq]
end
theorem info_bool : (Tryz.prog.info? 4).map (fun i => (i.zero, i.size, i.bytes)) = some (some (.bool false), 1, 1) := by kernel_rfl
theorem made_bool (m : Nat) : madeCells #[Value.bool false] m = (bcs m fun _ => false).toArray := by
  rw [← Array.toList_inj, toList_madeCells_one]
  apply List.ext_getElem (by simp [bcs])
  intro i h1 h2
  simp [bcs]
theorem refnew_bad (bits probes : Int) (h : bits < 0 ∨ 1048576 < bits ∨ probes < 0 ∨ 30 < probes) (w : World) :
    Calls Tryz.prog 30 #[.int .i64 bits, .int .i64 probes] w fun e w' => e = .returned (.tuple #[.pointer none, .int .i64 1]) ∧ w = w' := by
  by_cases h1 : bits < 0
  · go_enter Tryz.func30, Tryz.ntmps30
    go_wp2
    go_ret2
    exact ⟨rfl, rfl⟩
  by_cases h2 : 1048576 < bits
  · go_enter Tryz.func30, Tryz.ntmps30
    go_wp2
    go_ret2
    exact ⟨rfl, rfl⟩
  by_cases h3 : probes < 0
  · go_enter Tryz.func30, Tryz.ntmps30
    go_wp2
    go_ret2
    exact ⟨rfl, rfl⟩
  have h4 : 30 < probes := by omega
  go_enter Tryz.func30, Tryz.ntmps30
  go_wp2
  go_ret2
  exact ⟨rfl, rfl⟩
theorem refnew_ok (n p : Nat) (hn : n ≤ 1048576) (hp : p ≤ 30) (w : World) :
    Calls Tryz.prog 30 #[.int .i64 n, .int .i64 p] w fun e w' => ∃ r g, e = .returned (.tuple #[.pointer (some ⟨r, 0, none⟩), .int .i64 0]) ∧ w.heap.size ≤ r ∧ w.heap.size ≤ g ∧ Ref w' r g n p (fun _ => false) ∧ Below w.heap.size w w' := by
  obtain ⟨i0, hi, hz0, hz1, hz2⟩ := info_parts info_bool
  have hmk := run_make (P := Tryz.prog) w 90 4 i0 (.bool false) Tryz.underlying90 hi hz0 .i64 .i64 (n : Int) (n : Int) (by omega) (by omega) (by rw [hz2]; omega) (by omega)
  go_enter Tryz.func30, Tryz.ntmps30
  go_wp2
  go_ret2
  have hb1 := (Below.refl w.heap.size w).alloc (Nat.le_refl _) (.cells (madeCells #[Value.bool false] n) 4)
  have hgb := Blk.new w 4 (madeCells #[Value.bool false] n)
  rw [made_bool] at hb1 hgb ⊢
  refine ⟨w.heap.size + 1, w.heap.size, rfl, by omega, Nat.le_refl _, ⟨?_, ?_, hn, hp⟩, ?_⟩
  · exact blk_at _ _ _ (by simp)
  · exact hgb.below (B := w.heap.size + 1) ((Below.refl _ _).alloc (by rw [World.size_alloc]; exact Nat.le_refl _) _) (by omega)
  · exact hb1.alloc hb1.size _
set_option maxHeartbeats 1000000 in
theorem four_ok (s : List UInt8) (hs : s.length = 32) (a : Nat) (ha : a ≤ 28) (w : World) :
    Calls Tryz.prog 81 #[.agg (bv s).toArray, .int .i64 a] w fun e w' => e = .returned (.int .u32 (val ((s.drop a).take 4))) ∧ Below w.heap.size w w' := by
  have hb1 := (Below.refl w.heap.size w).alloc (Nat.le_refl _) (.cells (bv s).toArray 26)
  have hbk := Blk.new w 26 (bv s).toArray
  obtain ⟨l, hl⟩ : ∃ l, (s.drop a).take 4 = l := ⟨_, rfl⟩
  have hll : l.length = 4 := by rw [← hl, List.length_take, List.length_drop]; omega
  have hcell : ∀ k (h : k < l.length), (w.alloc (.cells (bv s).toArray 26)).cell? ⟨w.heap.size, a + k, none⟩ = some (.int .u8 (l[k]).toNat) := fun k h => by
    rw [hbk.cell, List.getElem?_toArray, bv_get (by rw [hs]; omega)]
    have : l[k] = s[a + k]'(by rw [hs]; omega) := by simp only [← hl, List.getElem_take, List.getElem_drop]
    rw [this]
  rw [hl]
  have HC := Lib.hid hcell
  have HL := Lib.hid hll
  have HB := Lib.hid hb1
  clear hcell hl hb1 hbk hll
  go_enter Tryz.func81, Tryz.ntmps81
  go_wp2
  go_loop [5, 6] (fun v i => ∃ k : Nat, k ≤ 4 ∧ i = .int .i64 k ∧ v = .int .u32 (val (l.take k))) (fun _ i => 4 - (intOf i).toNat)
  case atStart => exact ⟨0, by omega, rfl, rfl⟩
  case round =>
    obtain ⟨k, hk, rfl, rfl⟩ := hrel
    by_cases hlt : k < 4
    · have hkl : k < l.length := by rw [HL.out]; exact hlt
      have hck := HC.out k hkl
      have hs := Lib.hid (val_take_snoc l k hkl)
      have hb := val_take_lt l k (by omega)
      have ht := (l[k]'hkl).toNat_lt
      obtain ⟨V, hV⟩ : ∃ V, V = val (l.take k) := ⟨_, rfl⟩
      rw [← hV] at hb hs ⊢
      generalize hx : l[k]'hkl = x at *
      have hk4 : (k : Int) < 4 := by omega
      clear hV hx
      go_wp2
      go_round
      case rel => exact ⟨k + 1, by omega, by go_num, by rw [hs.out]; go_num⟩
      case measure => simp [intOf]; omega
    · obtain rfl : k = 4 := by omega
      go_wp2
      go_ret
      exact ⟨bl_ret (by rw [List.take_of_length_le (by rw [HL.out]; exact Nat.le_refl _)]), HB.out⟩
end Go.Proofs.YtoofhaoaogoomaaGreat
/- A key's places, as the bits of a filter. No statement of the seat is proved here; nothing of the program is named. -/
namespace Go.Proofs.YtoofhaoaogoomaaGreat
def spk (n p : Nat) (x : KeyT) : List Nat := spotsN n p (keyA x.1 x.2) (keyB x.1)
end Go.Proofs.YtoofhaoaogoomaaGreat
/- What the walks of a region that draws and makes memory lean on. No statement of the seat is proved here. -/
namespace Go.Proofs.YtoofhaoaogoomaaGreat
end Go.Proofs.YtoofhaoaogoomaaGreat
/- The reference of package bloom: Places. No statement of the seat is proved here. -/
namespace Go.Proofs.YtoofhaoaogoomaaGreat
set_option maxRecDepth 100000
open Go.RowKit

theorem info_i64 : (Tryz.prog.info? 3).map (fun i => (i.zero, i.size, i.bytes)) = some (some (.int .i64 0), 1, 8) := by kernel_rfl
/-- Numbers as cells. -/
def iv64 (l : List Nat) : List Value := l.map fun q => Value.int .i64 (q : Nat)
theorem kcs_sumF {k : KeyT} (h : k.Ok) {w : World} {g o : Nat} (hr : w.rangeAt g o (kcs k)) : w.rangeAt g o (bv k.1) ∧ w.cell? ⟨g, o + 32, none⟩ = some (.int .u32 k.2) := by
  refine ⟨fun j u hu => hr j u ?_, hr 32 _ ?_⟩
  · unfold kcs
    rw [List.getElem?_append_left (List.getElem?_eq_some_iff.1 hu).1]; exact hu
  · unfold kcs
    rw [List.getElem?_append_right (by rw [bv_length, h.1]; exact Nat.le_refl _), bv_length, h.1]; rfl
theorem sum_descB : ∃ n e, Tryz.prog.underlying 26 = some (.array n e) := ⟨_, _, Tryz.underlying26⟩
theorem sum_sizeB : (Tryz.prog.info? 26).map (·.size) = some 32 := by kernel_rfl
theorem keyB_even {B : Nat} (h : B % 2 = 0) : B ||| 1 = B + 1 := by
  rw [show B ||| 1 = B + 1 from by
    have := nat_join 1 B 1 (by omega) (by omega)
    exact this]
theorem keyB_odd {B : Nat} (h : B % 2 = 1) : B ||| 1 = B := by
  apply Nat.eq_of_testBit_eq
  intro i
  rw [Nat.testBit_or]
  by_cases e : i = 0
  · subst e; simp [h]
  · have : (1 : Nat).testBit i = false := by
      obtain ⟨j, rfl⟩ : ∃ j, i = j + 1 := ⟨i - 1, by omega⟩
      simp [Nat.testBit_succ]
    simp [this]
set_option maxRecDepth 100000 in
set_option maxHeartbeats 2000000 in
theorem places_ok (r g n p : Nat) (S : Nat → Bool) (x : KeyT) (hx : x.Ok) (w : World) (h : Ref w r g n p S) :
    Calls Tryz.prog 64 #[.pointer (some ⟨r, 0, none⟩), .agg (kcs x).toArray] w fun e w' => ∃ A c, e = .returned (.slice A (spk n p x).length c) ∧ w'.ownsRow w.heap.size 3 1 (.slice A (spk n p x).length c) (spk n p x).length (iv64 (spk n p x)) ∧ Below w.heap.size w w' := by
  obtain ⟨i0, hi, hz0, hz1, hz2⟩ := info_parts info_i64
  obtain ⟨na, ea, hfs⟩ := sum_descB
  have hb1 := (Below.refl w.heap.size w).alloc (Nat.le_refl _) (.cells (kcs x).toArray 29)
  have hbk := Blk.new w 29 (kcs x).toArray
  have hrk : ∀ W, Below (w.alloc (.cells (kcs x).toArray 29)).heap.size (w.alloc (.cells (kcs x).toArray 29)) W → W.rangeAt w.heap.size 0 (kcs x) := fun W hW j u hu => by
    rw [Nat.zero_add, (hbk.below hW hbk.lt).cell, List.getElem?_toArray]; exact hu
  have hv := h.on hb1
  obtain ⟨a, ha⟩ : ∃ a, keyA x.1 x.2 = a := ⟨_, rfl⟩
  obtain ⟨b, hb⟩ : ∃ b, keyB x.1 = b := ⟨_, rfl⟩
  have hspk : spk n p x = (spots n p a b).map (·.val) := by unfold spk spotsN; rw [ha, hb]
  rw [hspk]
  have hn := h.hn
  have hp := h.hp
  clear h
  by_cases hn0 : n = 0
  · subst hn0
    obtain ⟨hc0, _⟩ := hv.cells
    go_enter Tryz.func64, Tryz.ntmps64
    go_wp2
    go_ret
    exact ⟨none, 0, rfl, World.ownsRow_nil _ _ _ _, hb1⟩
  · have hn1 : 0 < n := by omega
    rw [show ((spots n p a b).map (·.val)).length = p by rw [List.length_map, spots_length hn1]]
    have hn0i : ((n : Int) == 0) = false := by simp; omega
    have s4 := Lib.hid (show ((x.1.drop 0).take 4).length = 4 by rw [List.length_take, List.length_drop, hx.1]; rfl)
    have hV1l := val_lt ((x.1.drop 0).take 4)
    have hV2l := val_lt ((x.1.drop 4).take 4)
    have l1 : ((x.1.drop 0).take 4).length = 4 := by rw [List.length_take, List.length_drop, hx.1]; rfl
    have l2 : ((x.1.drop 4).take 4).length = 4 := by rw [List.length_take, List.length_drop, hx.1]; rfl
    rw [l1] at hV1l
    rw [l2] at hV2l
    have hxl := hx.2
    have haV : (val ((x.1.drop 0).take 4) + x.2) % 4294967296 = a := by rw [← ha]; rfl
    have hbV : val ((x.1.drop 4).take 4) ||| 1 = b := by rw [← hb]; rfl
    have F1 : ∀ W, Calls Tryz.prog 81 #[.agg (bv x.1).toArray, .int .i64 0] W fun e w' => e = .returned (.int .u32 (val ((x.1.drop 0).take 4))) ∧ Below W.heap.size W w' := fun W => four_ok x.1 hx.1 0 (by omega) W
    have F2 : ∀ W, Calls Tryz.prog 81 #[.agg (bv x.1).toArray, .int .i64 4] W fun e w' => e = .returned (.int .u32 (val ((x.1.drop 4).take 4))) ∧ Below W.heap.size W w' := fun W => four_ok x.1 hx.1 4 (by omega) W
    generalize val ((x.1.drop 0).take 4) = V1 at *
    generalize val ((x.1.drop 4).take 4) = V2 at *
    have hV1l : V1 < 4294967296 := hV1l
    have hV2l : V2 < 4294967296 := hV2l
    have hal : a < 4294967296 := by omega
    have e1 : IntKind.u32.wrap ((V1 : Int) + (x.2 : Int)) = (a : Int) := by rw [IntKind.wrap_u32']; omega
    have HSZ := Lib.hid (show (Tryz.prog.info? 26).map (·.size) = some (bv x.1).length by rw [bv_length, hx.1]; exact sum_sizeB)
    have HFS := Lib.hid hfs
    have HRK := Lib.hid hrk
    have HX := Lib.hid hx
    have K1 := Lib.hid F1
    have K2 := Lib.hid F2
    have HV := Lib.hid hv
    have HB1 := Lib.hid hb1
    have hck := (kcs_sumF hx (hrk _ (Below.refl _ _))).2
    have hwd : Below (w.alloc (.cells (kcs x).toArray 29)).heap.size (w.alloc (.cells (kcs x).toArray 29)) (w.alloc (.cells (kcs x).toArray 29)).drew := ⟨rfl, rfl, rfl, Nat.le_refl _, fun _ _ => rfl⟩
    obtain ⟨hc0, hc1⟩ := hv.cells
    clear F1 F2 hv hb1 hbk hrk hspk hx ha hb haV hfs s4 l1 l2
    rw [Nat.zero_add] at hck
    go_enter Tryz.func64, Tryz.ntmps64
    go_wp2_with fail
    obtain ⟨bk, hbk⟩ : ∃ bk, bk = w.heap.size := ⟨_, rfl⟩
    rw [← hbk] at hck HRK ⊢
    have HBKW := Lib.hid (show w.heap.size ≤ bk by omega)
    clear hbk
    generalize (w.alloc (.cells (kcs x).toArray 29)) = w1 at *
    have HS := Lib.hid (show ∀ W, Below w1.heap.size w1 W → W.rangeAt bk 0 (bv x.1) ∧ W.cell? ⟨bk, 32, none⟩ = some (.int .u32 x.2) from fun W hW => by
      have := kcs_sumF HX.out (HRK.out W hW)
      rw [Nat.zero_add] at this; exact this)
    have hld : ∀ W, (W.rangeAt bk 0 (bv x.1) ∧ W.cell? ⟨bk, 32, none⟩ = some (.int .u32 x.2)) → (Instr.loadAt 26 (.pointer (some ⟨bk, 0, none⟩))).run Tryz.prog W = .ok (.agg (bv x.1).toArray) W := fun W hW => run_loadAt_mid W bk 0 26 (bv x.1) _ hW.1 HFS.out rfl HSZ.out
    (go_region_held (fun W => W.rangeAt bk 0 (bv x.1) ∧ W.cell? ⟨bk, 32, none⟩ = some (.int .u32 x.2)) (first | exact HS.out _ (by assumption) | fail) (first
      | (go_at_call 81; (with_reducible refine (K1.out _).mono ?_); rintro e w2 ⟨rfl, hb2⟩; have hx2 := hwd.trans (hb2.mono hwd.size))))
    go_wp2_with (refine wpList_load_mid rfl 26 (.tmp 22) rfl bk 0 rfl (bv x.1) (.array na ea) (HS.out _ hx2).1 HFS.out rfl HSZ.out ?_)
    (with_reducible refine (K2.out _).mono ?_)
    rintro e w3 ⟨rfl, hb3⟩
    have hx3 := hx2.trans (hb3.mono hx2.size)
    have HV3 := Lib.hid (HV.out.on hx3)
    have HB3 := Lib.hid (HB1.out.trans (hx3.mono HB1.out.size))
    clear hx2 hb2 hb3 hx3 hwd hck hc0 hc1 hld e1
    have hpar : V2 % 2 = 0 ∨ V2 % 2 = 1 := by omega
    have hV2b : ∃ c : Nat, (c : Int) = (V2 : Int) + 1 := ⟨V2 + 1, by omega⟩
    obtain ⟨hc0, hc1⟩ := HV3.out.cells
    have hpi : (p : Int) ≤ 30 := by omega
    have goal : ∀ (A : Prop), A → A := fun _ h => h
    rcases hpar with hpar | hpar
    · have hpi2 : (V2 : Int) % 2 = 0 := by omega
      have hbi : (V2 : Int) + 1 = (b : Int) := by rw [← hbV, keyB_even hpar]; omega
      have hbl : b < 4294967296 := by rw [← hbV, keyB_even hpar]; omega
      have HBI := Lib.hid hbi
      clear hbV hbi
      go_wp2_with fail
      rw [HBI.out]
      clear hc0 hc1 hpi2 hpar hV2b goal
      go_loopw [5, 6, 8] (fun l s i wr => ∃ (k : Nat) (V : Value), k ≤ p ∧ i = .int .i64 k ∧ s = .int .u32 (sumAt a b k : Nat) ∧ l = V ∧ wr.ownsRow w3.heap.size 3 1 V k (iv64 ((spots n k a b).map (·.val))) ∧ Below w3.heap.size w3 wr) (fun _ _ i _ => p - (intOf i).toNat)
      case atStart => exact ⟨0, _, Nat.zero_le _, rfl, by rw [sumAt_zero b hal], rfl, by simpa [spots, iv64] using World.ownsRow_nil _ _ _ _, Below.refl _ _⟩
      case round =>
        obtain ⟨k, V, hk, rfl, rfl, hlV, hown, hbel⟩ := hrel
        subst hlV
        obtain ⟨hc0, hc1⟩ := (HV3.out.on hbel).cells
        have HBEL := Lib.hid hbel
        by_cases hlt : k < p
        · have hsn := spots_snoc hn1 k a b
          have hss := sumAt_succ a b k
          have hsl := sumAt_lt a b k
          have hlen := spots_length hn1 k a b
          obtain ⟨X, hX⟩ : ∃ X, sumAt a b k = X := ⟨_, rfl⟩
          obtain ⟨q, hq⟩ : ∃ q : Fin n, q = ⟨sumAt a b k % n, Nat.mod_lt _ hn1⟩ := ⟨_, rfl⟩
          rw [← hq] at hsn
          have hqv : (X : Int) % (n : Int) = ((q.val : Nat) : Int) := by rw [hq, ← hX]; simp
          rw [hX] at hss hsl ⊢
          have hmap : iv64 ((spots n (k + 1) a b).map (·.val)) = iv64 ((spots n k a b).map (·.val)) ++ [Value.int .i64 ((q.val : Nat) : Int)] := by rw [hsn]; simp [iv64]
          have HMAP := Lib.hid hmap
          have HSS := Lib.hid hss
          have hbx := (Below.refl wr.heap.size wr).alloc (Nat.le_refl _) (.cells #[.int .i64 ((q.val : Nat) : Int)] 3)
          have HO2 := Lib.hid (ownsRow_below hown hbx)
          have HB2 := Lib.hid (hbel.trans (hbx.mono hbel.size))
          have hqn := q.2
          clear hsn hmap hss hX hq hbel hbx hown
          go_wp2_with (at_builtin; refine wpList_append_own _ rfl (.tmp 38) (.tmp 48) 98 rfl w3.heap.size 3 i0 (.int .i64 0) 1 8 Tryz.underlying98 hi hz0 hz1 hz2 rfl (by decide) u5 k _ rfl HO2.out ⟨wr.heap.size, 0, none⟩ 1 1 [.int .i64 ((q.val : Nat) : Int)] rfl rfl (cell_one_new _ _ _) (by intro u hu; simp at hu; subst hu; rfl) (by unfold maxLen; omega) (by omega) HB2.out.size ?_)
          intro V' w4 hown' hgrow _
          have hb4 : Below w3.heap.size w3 w4 := HB2.out.grown hgrow HB2.out.size (fun g hg => (HO2.out.lt g hg).1)
          have H4 := Lib.hid (And.intro hown' hb4)
          clear hown' hgrow hb4 HO2
          go_wp2_with fail
          go_roundw
          case rel => exact ⟨k + 1, V', by omega, by go_num, by rw [← HSS.out]; go_num, rfl, by rw [HMAP.out]; exact H4.out.1, H4.out.2⟩
          case measure => simp [intOf]; omega
        · obtain rfl : p = k := by omega
          obtain ⟨A5, c5, rfl, _, _⟩ := ownsRow_form hown
          have HO := Lib.hid hown
          clear hown hbel
          go_wp2
          go_ret
          exact ⟨_, _, rfl, ownsRow_base HO.out HB3.out.size, HB3.out.trans (HBEL.out.mono HB3.out.size)⟩
    · have hpi2 : (V2 : Int) % 2 = 1 := by omega
      have hbi : V2 = b := by rw [← hbV, keyB_odd hpar]
      have hbl : b < 4294967296 := by omega
      clear hbV
      subst hbi
      go_wp2_with fail
      clear hc0 hc1 hpi2 hpar hV2b goal
      go_loopw [5, 6, 8] (fun l s i wr => ∃ (k : Nat) (V : Value), k ≤ p ∧ i = .int .i64 k ∧ s = .int .u32 (sumAt a V2 k : Nat) ∧ l = V ∧ wr.ownsRow w3.heap.size 3 1 V k (iv64 ((spots n k a V2).map (·.val))) ∧ Below w3.heap.size w3 wr) (fun _ _ i _ => p - (intOf i).toNat)
      case atStart => exact ⟨0, _, Nat.zero_le _, rfl, by rw [sumAt_zero V2 hal], rfl, by simpa [spots, iv64] using World.ownsRow_nil _ _ _ _, Below.refl _ _⟩
      case round =>
        obtain ⟨k, V, hk, rfl, rfl, hlV, hown, hbel⟩ := hrel
        subst hlV
        obtain ⟨hc0, hc1⟩ := (HV3.out.on hbel).cells
        have HBEL := Lib.hid hbel
        by_cases hlt : k < p
        · have hsn := spots_snoc hn1 k a V2
          have hss := sumAt_succ a V2 k
          have hsl := sumAt_lt a V2 k
          have hlen := spots_length hn1 k a V2
          obtain ⟨X, hX⟩ : ∃ X, sumAt a V2 k = X := ⟨_, rfl⟩
          obtain ⟨q, hq⟩ : ∃ q : Fin n, q = ⟨sumAt a V2 k % n, Nat.mod_lt _ hn1⟩ := ⟨_, rfl⟩
          rw [← hq] at hsn
          have hqv : (X : Int) % (n : Int) = ((q.val : Nat) : Int) := by rw [hq, ← hX]; simp
          rw [hX] at hss hsl ⊢
          have hmap : iv64 ((spots n (k + 1) a V2).map (·.val)) = iv64 ((spots n k a V2).map (·.val)) ++ [Value.int .i64 ((q.val : Nat) : Int)] := by rw [hsn]; simp [iv64]
          have HMAP := Lib.hid hmap
          have HSS := Lib.hid hss
          have hbx := (Below.refl wr.heap.size wr).alloc (Nat.le_refl _) (.cells #[.int .i64 ((q.val : Nat) : Int)] 3)
          have HO2 := Lib.hid (ownsRow_below hown hbx)
          have HB2 := Lib.hid (hbel.trans (hbx.mono hbel.size))
          have hqn := q.2
          clear hsn hmap hss hX hq hbel hbx hown
          go_wp2_with (at_builtin; refine wpList_append_own _ rfl (.tmp 38) (.tmp 48) 98 rfl w3.heap.size 3 i0 (.int .i64 0) 1 8 Tryz.underlying98 hi hz0 hz1 hz2 rfl (by decide) u5 k _ rfl HO2.out ⟨wr.heap.size, 0, none⟩ 1 1 [.int .i64 ((q.val : Nat) : Int)] rfl rfl (cell_one_new _ _ _) (by intro u hu; simp at hu; subst hu; rfl) (by unfold maxLen; omega) (by omega) HB2.out.size ?_)
          intro V' w4 hown' hgrow _
          have hb4 : Below w3.heap.size w3 w4 := HB2.out.grown hgrow HB2.out.size (fun g hg => (HO2.out.lt g hg).1)
          have H4 := Lib.hid (And.intro hown' hb4)
          clear hown' hgrow hb4 HO2
          go_wp2_with fail
          go_roundw
          case rel => exact ⟨k + 1, V', by omega, by go_num, by rw [← HSS.out]; go_num, rfl, by rw [HMAP.out]; exact H4.out.1, H4.out.2⟩
          case measure => simp [intOf]; omega
        · obtain rfl : p = k := by omega
          obtain ⟨A5, c5, rfl, _, _⟩ := ownsRow_form hown
          have HO := Lib.hid hown
          clear hown hbel
          go_wp2
          go_ret
          exact ⟨_, _, rfl, ownsRow_base HO.out HB3.out.size, HB3.out.trans (HBEL.out.mono HB3.out.size)⟩
end Go.Proofs.YtoofhaoaogoomaaGreat
