/- Acts upon a finder that came in: a kind, a row, a draw, bytes. No statement of the seat is proved here. -/
import Derived.Test.YtoofhaoaogoomaaGreatZLAD
import Derived.Test.YtoofhaoaogoomaaGreatZLAV
import Derived.Test.YtoofhaoaogoomaaGreatZLAC
import Derived.Test.YtoofhaoaogoomaaGreatZLAG
import Derived.Test.YtoofhaoaogoomaaGreatZLAH
import Derived.Test.YtoofhaoaogoomaaGreatZLAA
import Derived.Lib.Hide
import Derived.Deep.Cut
import Derived.Laws.Tables
namespace Go.Proofs.YtoofhaoaogoomaaGreat
open Go.ChangeShapes Go.WideShapes Go.ChangeAt Go.RowKit Go.Deep Go.Joins
set_option linter.unusedVariables false

structure FAct where
  kind : Nat
  row : RowT
  draw : Nat
  adr : Option Addr
  cap : Nat
  b : List UInt8
deriving Inhabited
def fcs (a : FAct) : List Value := .int .u8 a.kind :: (rcs a.row ++ [.int .u64 a.draw, .slice a.adr a.b.length a.cap])
structure FAct.Ok (w : World) (B : Nat) (a : FAct) : Prop where
  kind : a.kind < 256
  row : a.row.Ok
  draw : a.draw < 18446744073709551616
  rd : Rd w B a.adr a.b
  le : a.b.length ≤ a.cap
  max : a.cap ≤ maxLen
theorem fcs_length {a : FAct} (h : a.row.Ok) : (fcs a).length = 38 := by simp [fcs, rcs_length h]
theorem fcs_one {a : FAct} : (fcs a).toArray.all (·.oneCell') = true := by
  refine all_oneCell_toArray fun v hv => ?_
  rcases List.mem_cons.1 hv with rfl | h
  · rfl
  · rcases List.mem_append.1 h with h | h
    · have := rcs_one (r := a.row)
      rw [Array.all_eq_true_iff_forall_mem] at this
      exact this v (by simpa using h)
    · simp at h
      rcases h with rfl | rfl <;> rfl
structure RdF (w : World) (B : Nat) (A : Option Addr) (ls : List FAct) : Prop where
  rows : RdS w B 38 A (ls.map fcs)
  each : ∀ a ∈ ls, a.Ok w B
section
variable {w w' : World} {B B' : Nat} {A : Option Addr} {ls : List FAct} {a : FAct}
theorem FAct.Ok.below (h : a.Ok w B) (hb : Below B w w') : a.Ok w' B := ⟨h.kind, h.row, h.draw, h.rd.below hb, h.le, h.max⟩
theorem FAct.Ok.more (h : a.Ok w B) (hB : B ≤ B') : a.Ok w B' := ⟨h.kind, h.row, h.draw, h.rd.more hB, h.le, h.max⟩
theorem RdF.below (h : RdF w B A ls) (hb : Below B w w') : RdF w' B A ls := ⟨h.rows.below hb, fun a ha => (h.each a ha).below hb⟩
theorem RdF.more (h : RdF w B A ls) (hB : B ≤ B') : RdF w B' A ls := ⟨h.rows.more hB, fun a ha => (h.each a ha).more hB⟩
theorem RdF.take (h : RdF w B A ls) (k : Nat) : RdF w B A (ls.take k) := ⟨by rw [List.map_take]; exact h.rows.take k, fun x hx => h.each x (List.mem_of_mem_take hx)⟩
theorem RdF.at_ (h : RdF w B A ls) {j : Nat} (hj : j < ls.length) : ∃ g off, A = some ⟨g, off, none⟩ ∧ g < B ∧ w.rangeAt g (off + j * 38) (fcs ls[j]) ∧ (ls[j]).Ok w B := by
  obtain ⟨g, off, e, hg, hc⟩ := h.rows (by simp; omega)
  refine ⟨g, off, e, hg, ?_, h.each _ (List.getElem_mem hj)⟩
  have := hc j (by simpa using hj)
  simpa using this
end
/-- The parts of an act's cells. -/
theorem fcs_kind {w : World} {g o : Nat} {a : FAct} (h : w.rangeAt g o (fcs a)) : w.cell? ⟨g, o, none⟩ = some (.int .u8 a.kind) := h 0 _ rfl
theorem fcs_row {w : World} {g o : Nat} {a : FAct} (h : w.rangeAt g o (fcs a)) : w.rangeAt g (o + 1) (rcs a.row) := fun j u hu => by
  have hj := (List.getElem?_eq_some_iff.1 hu).1
  have := h (1 + j) u (by
    unfold fcs
    rw [Nat.add_comm, List.getElem?_cons_succ, List.getElem?_append_left hj]
    exact hu)
  rwa [← Nat.add_assoc] at this
theorem fcs_draw {w : World} {g o : Nat} {a : FAct} (hr : a.row.Ok) (h : w.rangeAt g o (fcs a)) : w.cell? ⟨g, o + 36, none⟩ = some (.int .u64 a.draw) := h 36 _ (by
  unfold fcs
  rw [show 36 = 35 + 1 from rfl, List.getElem?_cons_succ, List.getElem?_append_right (by rw [rcs_length hr]; exact Nat.le_refl _), rcs_length hr]
  rfl)
theorem fcs_bytes {w : World} {g o : Nat} {a : FAct} (hr : a.row.Ok) (h : w.rangeAt g o (fcs a)) : w.cell? ⟨g, o + 37, none⟩ = some (.slice a.adr a.b.length a.cap) := h 37 _ (by
  unfold fcs
  rw [show 37 = 36 + 1 from rfl, List.getElem?_cons_succ, List.getElem?_append_right (by rw [rcs_length hr]; omega), rcs_length hr]
  rfl)
set_option maxRecDepth 100000 in
theorem fact_fields : ∃ f0 f1 f2 f3 : Field, Tryz.prog.underlying 46 = some (.struct #[f0, f1, f2, f3]) ∧ f0.type = 5 ∧ f1.type = 42 ∧ f2.type = 43 ∧ f3.type = 44 ∧
    f0.offset = 0 ∧ f1.offset = 1 ∧ f2.offset = 36 ∧ f3.offset = 37 ∧
    Tryz.prog.cellsOf 46 = 38 ∧ Tryz.prog.cellsOf 5 = 1 ∧ Tryz.prog.cellsOf 43 = 1 ∧ Tryz.prog.cellsOf 44 = 1 := by
  refine ⟨_, _, _, _, Tryz.underlying46, ?_, ?_, ?_, ?_, ?_, ?_, ?_, ?_, ?_, ?_, ?_, ?_⟩ <;> kernel_rfl
theorem fact_desc : ∃ fs, Tryz.prog.underlying 46 = some (.struct fs) := ⟨_, Tryz.underlying46⟩
theorem fact_size : (Tryz.prog.info? 46).map (·.size) = some 38 := by kernel_rfl
section
variable {H : Type} {enc : TypeId × Value → H} {w : World} {base : Nat}
set_option maxRecDepth 100000 in
theorem fact_cells {fuel : Nat} {cs : List Value} {x : DataW H × List MemPlace} (h : DataW.trod enc Tryz.prog w base (fun _ => true) true fuel 46 cs = some x) :
    ∃ a : FAct, cs = fcs a ∧ a.Ok w w.heap.size := by
  obtain ⟨f0, f1, f2, f3, hs, e0, e1, e2, e3, o0, o1, o2, o3, hC, h8, hU, hS⟩ := fact_fields
  obtain ⟨_, _, _, _, _, _, _, hR, _, _⟩ := row_fields
  obtain ⟨xs, n, _, _, hl, hxl, hf⟩ := DataW.trod_struct hs h
  have h0 := hf 0 f0 rfl
  have h1 := hf 1 f1 rfl
  have h2 := hf 2 f2 rfl
  have h3 := hf 3 f3 rfl
  rw [e0, o0, h8] at h0
  rw [e1, o1, hR] at h1
  rw [e2, o2, hU] at h2
  rw [e3, o3, hS] at h3
  have hxl2 : xs.length = 4 := hxl
  rw [List.getElem?_eq_getElem (by omega)] at h0 h1 h2 h3
  rw [hC] at hl
  obtain ⟨z, c0, _, hz⟩ := DataW.trod_int Tryz.underlying5 h0
  have bz := bounds_u8 hz
  obtain ⟨r, c1, hr⟩ := row_cells h1
  obtain ⟨d, c2, _, hd⟩ := DataW.trod_int Tryz.underlying43 h2
  have bd := bounds_u64 hd
  have hsp : cs = (cs.drop 0).take 1 ++ ((cs.drop 1).take 35 ++ ((cs.drop 36).take 1 ++ (cs.drop 37).take 1)) := by
    have q1 : (cs.drop 37).take 1 = cs.drop 37 := List.take_of_length_le (by rw [List.length_drop]; omega)
    have q2 : (cs.drop 36).take 1 ++ cs.drop 37 = cs.drop 36 := by rw [show cs.drop 37 = (cs.drop 36).drop 1 by rw [List.drop_drop], List.take_append_drop]
    have q3 : (cs.drop 1).take 35 ++ cs.drop 36 = cs.drop 1 := by rw [show cs.drop 36 = (cs.drop 1).drop 35 by rw [List.drop_drop], List.take_append_drop]
    rw [q1, q2, q3, List.drop_zero, List.take_append_drop]
  rw [c0, c1, c2] at hsp
  rcases open_slice Tryz.underlying44 h3 with ⟨hcs, _⟩ | ⟨ad, l, c, m, n', D, Pl, hcs, _⟩
  · rw [hcs] at hsp
    refine ⟨⟨z.toNat, r, d.toNat, none, 0, []⟩, ?_, ⟨by show z.toNat < 256; omega, hr, by show d.toNat < 18446744073709551616; omega, Rd.nil _ _ _, Nat.le_refl _, by simp [maxLen]⟩⟩
    rw [hsp]
    simp only [fcs, List.length_nil]
    rw [show ((z.toNat : Nat) : Int) = z by omega, show ((d.toNat : Nat) : Int) = d by omega]
    rfl
  · have h4 := h3
    rw [hcs] at h4 hsp
    obtain ⟨zs, hzl, hrd, hzc, hcm, hw⟩ := open_ints_arg (a := some ad) (len := l) (cap := c) Tryz.underlying44 Tryz.underlying5 h8 h4
    have hrb := rd_bytes hrd hw
    refine ⟨⟨z.toNat, r, d.toNat, some ad, c, bytesOf zs⟩, ?_, ⟨by show z.toNat < 256; omega, hr, by show d.toNat < 18446744073709551616; omega, hrb, by show (bytesOf zs).length ≤ c; rw [bytesOf_length]; exact hzc, hcm⟩⟩
    rw [hsp]
    simp only [fcs]
    rw [show ((z.toNat : Nat) : Int) = z by omega, show ((d.toNat : Nat) : Int) = d by omega, bytesOf_length, hzl]
    rfl
theorem open_facts_arg {fuel : Nat} {a : Option Addr} {len cap : Nat} {x : DataW H × List MemPlace}
    (h : DataW.trod enc Tryz.prog w base (fun _ => true) true fuel 24 (Value.slice a len cap).cells.toList = some x) :
    ∃ ls : List FAct, len = ls.length ∧ RdF w w.heap.size a ls ∧ ls.length ≤ cap ∧ cap ≤ maxLen ∧ True := by
  obtain ⟨_, _, _, _, _, _, _, _, _, _, _, _, _, hC, _⟩ := fact_fields
  obtain ⟨zs, h1, h2, h3, h4, h5⟩ := open_rows fcs (FAct.Ok w w.heap.size) Tryz.underlying24 hC (by omega) (fun n cs y hy => fact_cells hy) h
  exact ⟨zs, h1, ⟨h2, h5⟩, h3, h4, trivial⟩
end
abbrev fz : Array Value := #[.int .u8 0, .int .u8 0, .int .u8 0, .int .u8 0, .int .u8 0, .int .u8 0, .int .u8 0, .int .u8 0, .int .u8 0, .int .u8 0, .int .u8 0, .int .u8 0, .int .u8 0, .int .u8 0, .int .u8 0, .int .u8 0, .int .u8 0, .int .u8 0, .int .u8 0, .int .u8 0, .int .u8 0, .int .u8 0, .int .u8 0, .int .u8 0, .int .u8 0, .int .u8 0, .int .u8 0, .int .u8 0, .int .u8 0, .int .u8 0, .int .u8 0, .int .u8 0, .int .u8 0, .int .u32 0, .int .i64 0, .int .i64 0, .int .u64 0, .slice none 0 0]
theorem fz_size : fz.size = 38 := rfl
end Go.Proofs.YtoofhaoaogoomaaGreat
/- How many acts are gone through; what a search costs. No statement of the seat is proved here. -/
namespace Go.Proofs.YtoofhaoaogoomaaGreat
open Go.RowKit
set_option linter.unusedVariables false
set_option linter.unusedSimpArgs false

theorem few_any (A : Option Addr) (n c : Nat) (ls : List FAct) (hl : ls.length = n) (hc : n ≤ c) (hm : c ≤ maxLen) (w : World) (hr : RdF w w.heap.size A ls) :
    Calls Tryz.prog 7 #[.slice A n c] w fun e w' => ∃ k, k ≤ n ∧ k ≤ 150 ∧ e = .returned (.slice A k c) ∧ w = w' := by
  unfold maxLen at hm
  have HL := Lib.hid hl
  have HR := Lib.hid hr
  clear hl hr
  go_enter Tryz.func7, Tryz.ntmps7
  go_wp2_with fail
  go_loop [3, 7] (fun l i => ∃ k L : Nat, k ≤ n ∧ k ≤ 150 ∧ i = .int .i64 k ∧ l = .int .i64 L ∧ L ≤ 2000) (fun _ i => n - (intOf i).toNat)
  case atStart => exact ⟨0, 2000, Nat.zero_le _, by omega, rfl, rfl, Nat.le_refl _⟩
  case round =>
    obtain ⟨k, L, hk, hk2, rfl, rfl, hL⟩ := hrel
    by_cases hlt : k < n
    · obtain ⟨g, off, hA, hg, hra, hok⟩ := HR.out.at_ (j := k) (by rw [HL.out]; exact hlt)
      have hcb := fcs_bytes hok.row hra
      have hmx := hok.max
      have hle := hok.le
      unfold maxLen at hmx
      have hkl : k < ls.length := by rw [HL.out]; exact hlt
      generalize hb : (ls[k]'hkl).b.length = nb at *
      generalize (ls[k]'hkl).adr = ab at *
      generalize (ls[k]'hkl).cap = cb at *
      have hi1 : (0 : Int) ≤ (k : Int) := by omega
      have hi2 : (k : Int) < (n : Int) := by omega
      have hkc : k ≤ c := by omega
      have hc63 : c ≤ 9223372036854775807 := by omega
      clear hra hok hb
      subst hA
      by_cases h3 : 150 ≤ k
      · have h3i : (150 : Int) ≤ (k : Int) := by omega
        go_wp2_with fail
        go_ret
        exact ⟨k, by omega, hk2, rfl, rfl⟩
      · have h3i : ¬ (150 : Int) ≤ (k : Int) := by omega
        by_cases hb2 : L < nb
        · go_wp2_with fail
          go_ret
          exact ⟨k, by omega, hk2, rfl, rfl⟩
        · have hsub : ((L : Int) - (nb : Int)) = ((L - nb : Nat) : Int) := by omega
          go_wp2_with fail
          go_round
          case rel => exact ⟨k + 1, L - nb, by omega, by omega, by go_num, rfl, by omega⟩
          case measure => simp [intOf]; omega
    · obtain rfl : k = n := by omega
      go_wp2_with fail
      go_ret
      exact ⟨k, Nat.le_refl _, hk2, rfl, rfl⟩
theorem next_cost (f : FS) (k : List UInt8 × Nat) (d : Nat) : (nextF f k d).asked ≤ f.asked + 1 ∧ (nextF f k d).loads ≤ f.loads + 1 := by
  unfold nextF
  split
  · exact ⟨by omega, by omega⟩
  · split
    · exact ⟨by omega, by omega⟩
    · split
      · exact ⟨Nat.le_refl _, Nat.le_refl _⟩
      · exact ⟨Nat.le_refl _, by show f.loads ≤ f.loads + 1; omega⟩
end Go.Proofs.YtoofhaoaogoomaaGreat
/- The reference's SameKeys (cellarageref11). No statement of the seat is proved here. -/
namespace Go.Proofs.YtoofhaoaogoomaaGreat
open Go.RowKit Go.Maps Go.Sort
set_option linter.unusedVariables false
set_option linter.unusedSimpArgs false

theorem take_sameK {α : Type} {ps qs : List α} {j : Nat} (h1 : j < ps.length) (h2 : j < qs.length) (ht : ps.take j = qs.take j) (he : ps[j] = qs[j]) : ps.take (j + 1) = qs.take (j + 1) := by
  rw [List.take_succ_eq_append_getElem h1, List.take_succ_eq_append_getElem h2, ht, he]
theorem range_baseK {w : World} {b off : Nat} {cs : List Value} (h : ∀ W, Below w.heap.size w W → W.rangeAt b off cs) (W : World) (hW : ∃ p : Regrown, W = grow (redrawn w p.d) p.os) : W.rangeAt b off cs := by
  obtain ⟨p, rfl⟩ := hW
  exact h _ (below_regrown w p.d p.os)
set_option maxRecDepth 100000 in
set_option maxHeartbeats 600000 in
theorem rsamekeys_any (A : Option Addr) (ls : List KeyT) (k c : Nat) (B : Option Addr) (ms : List KeyT) (m d : Nat) (hl : ls.length = k) (hm : ms.length = m) (hk : k ≤ 3000) (w : World) (hr : RdK w w.heap.size A ls) (hr2 : RdK w w.heap.size B ms) :
    Calls Tryz.prog 22 #[.slice A k c, .slice B m d] w fun e w' => e = .returned (.bool (decide (ls = ms))) ∧ Below w.heap.size w w' := by
  obtain ⟨R, hR⟩ : ∃ R, decide (ls = ms) = R := ⟨_, rfl⟩
  rw [hR]
  by_cases hkm : k = m
  · subst hkm
    have hne : ((k : Int) != (k : Int)) = false := by simp
    have HR := Lib.hid hR
    have HA := Lib.hid (show ∀ W, Below w.heap.size w W → RdK W w.heap.size A ls from fun W hb => hr.below hb)
    have HB := Lib.hid (show ∀ W, Below w.heap.size w W → RdK W w.heap.size B ms from fun W hb => hr2.below hb)
    have HPL := Lib.hid hl
    have HQL := Lib.hid hm
    obtain ⟨fs, hfs⟩ := key_desc
    have HF := Lib.hid hfs
    have eqg := key_guard
    clear hR hr hr2 hl hm hfs
    go_enter Tryz.func22, Tryz.ntmps22
    go_wp2_with fail
    go_loopw [5] (fun i wr => ∃ j : Nat, j ≤ k ∧ i = .int .i64 j ∧ Hid (ls.take j = ms.take j) ∧ Below w.heap.size w wr) (fun i _ => k - (intOf i).toNat)
    case atStart => exact ⟨0, Nat.zero_le _, rfl, Lib.hid rfl, Below.refl _ _⟩
    case round =>
      obtain ⟨j, hj, rfl, hst, hbel⟩ := hrel
      by_cases hlt : j < k
      · have hjp : j < ls.length := by rw [HPL.out]; exact hlt
        have hjq : j < ms.length := by rw [HQL.out]; exact hlt
        obtain ⟨g, off, hA, hg, hra, hokx⟩ := (HA.out _ hbel).at_ hjp
        obtain ⟨g', off', hB, hg', hra', hoky⟩ := (HB.out _ hbel).at_ hjq
        obtain ⟨x, hx⟩ : ∃ x, ls[j] = x := ⟨_, rfl⟩
        obtain ⟨y, hy⟩ : ∃ y, ms[j] = y := ⟨_, rfl⟩
        have HST := Lib.hid (show x = y → ls.take (j + 1) = ms.take (j + 1) from fun h => take_sameK hjp hjq hst.out (by rw [hx, hy, h]))
        have HNO := Lib.hid (show ¬ x = y → R = false from fun h => by
          rw [← HR.out]
          refine decide_eq_false fun e => h ?_
          subst e
          rw [← hx, ← hy])
        rw [hx] at hra hokx
        rw [hy] at hra' hoky
        have hgw : g < wr.heap.size := Nat.lt_of_lt_of_le hg hbel.size
        have hgw' : g' < wr.heap.size := Nat.lt_of_lt_of_le hg' hbel.size
        have HKS := Lib.hid (show (Tryz.prog.info? 29).map (·.size) = some (kcs x).length by rw [kcs_length hokx]; exact key_size)
        have HKY := Lib.hid (show (Tryz.prog.info? 29).map (·.size) = some (kcs y).length by rw [kcs_length hoky]; exact key_size)
        have R1 := Lib.hid (range_baseK (w := wr) (b := g) (off := off + j * 33) (cs := kcs x) fun W hW => fun t v hv => by rw [hW.cell (p := ⟨g, off + j * 33 + t, none⟩) hgw]; exact hra t v hv)
        have R2 := Lib.hid (range_baseK (w := wr) (b := g') (off := off' + j * 33) (cs := kcs y) fun W hW => fun t v hv => by rw [hW.cell (p := ⟨g', off' + j * 33 + t, none⟩) hgw']; exact hra' t v hv)
        obtain ⟨r, hre⟩ : ∃ r, decide (x = y) = r := ⟨_, rfl⟩
        have QE := Lib.hid (show ∀ W, (Op.equal 29 (.agg (kcs x).toArray) (.agg (kcs y).toArray)).run Tryz.prog W = .ok r W from fun W => by rw [key_eq hokx hoky W, hre])
        have HRE := Lib.hid hre
        have HBEL := Lib.hid hbel
        subst hA
        subst hB
        have hi1 : (0 : Int) ≤ (j : Int) := by omega
        have hi2 : (j : Int) < (k : Int) := by omega
        clear hra hra' hokx hoky hre hbel hst hx hy hjp hjq
        go_wp2_with fail
        refine wp_region_quiet_below (by kernel_rfl) (by kernel_rfl) ?_
        repeat (first
          | (go_big_quiet_want; refine quiet_load_mid 29 (.tmp 19) rfl g (off + j * 33) rfl (kcs x) (.struct fs) R1.out HF.out rfl HKS.out (by simp only [Act.put, List.setIfInBounds_toArray, List.set_cons_succ, List.set_cons_zero]; rfl) ?_; go_big_quiet_on)
          | (go_big_quiet_want; refine quiet_load_mid 29 (.tmp 23) rfl g' (off' + j * 33) rfl (kcs y) (.struct fs) R2.out HF.out rfl HKY.out (by simp only [Act.put, List.setIfInBounds_toArray, List.set_cons_succ, List.set_cons_zero]; rfl) ?_; go_big_quiet_on)
          | (go_big_quiet_want; refine quiet_neq_row 29 29 (.tmp 20) (.tmp 24) rfl (kcs x).toArray (kcs y).toArray rfl rfl eqg r QE.out (by simp only [Act.put, List.setIfInBounds_toArray, List.set_cons_succ, List.set_cons_zero]; rfl) ?_; go_big_quiet_on)
          | go_big_quiet_step (fail))
        refine wpQuiet_nil ?_
        intro _ hw'
        obtain ⟨⟨dq, osq⟩, hw''⟩ := hw'
        subst hw''
        have HBQ := Lib.hid (HBEL.out.trans ((below_regrown wr dq osq).mono HBEL.out.size))
        clear R1 R2
        generalize Go.Sort.grow (redrawn wr dq) osq = wq at *
        cases r with
        | false =>
          obtain rfl : R = false := HNO.out (of_decide_eq_false HRE.out)
          go_wp2_with fail
          go_ret
          exact ⟨rfl, HBQ.out⟩
        | true =>
          have HNX := Lib.hid (HST.out (of_decide_eq_true HRE.out))
          go_wp2_with fail
          go_roundw
          case rel => exact ⟨j + 1, by omega, by go_num, HNX, HBQ.out⟩
          case measure => simp [intOf]; omega
      · obtain rfl : j = k := by omega
        obtain rfl : R = true := by
          rw [← HR.out]
          refine decide_eq_true ?_
          have := hst.out
          rwa [List.take_of_length_le (by rw [HPL.out]; exact Nat.le_refl _), List.take_of_length_le (by rw [HQL.out]; exact Nat.le_refl _)] at this
        go_wp2_with fail
        go_ret
        exact ⟨rfl, hbel⟩
  · have hne : ((k : Int) != (m : Int)) = true := by simp; omega
    obtain rfl : R = false := by
      rw [← hR]
      exact decide_eq_false fun e => hkm (by rw [← hl, ← hm, e])
    clear hl hm hR hr hr2
    go_enter Tryz.func22, Tryz.ntmps22
    go_wp2_with fail
    go_ret
    exact ⟨rfl, Below.refl _ _⟩
end Go.Proofs.YtoofhaoaogoomaaGreat
/- A variable of many cells is made. No statement of the seat is proved here. -/
namespace Go.Proofs.YtoofhaoaogoomaaGreat
open Go.RowKit
set_option linter.unusedVariables false
set_option linter.unusedSimpArgs false

/-- A variable of its own, its zero cells by a letter. -/
theorem wpList_alloc_z {ops : Array Oper} {rest : List Oper} {o : Oper} {a : Act} {w : World} {Q : Exit → Act → World → Prop} (hgd : o.guard = none) (ty : TypeId) (ho : o.op = .alloc ty) (i : TypeInfo) (z : Array Value) (hi : Tryz.prog.info? ty = some i) (hz : i.zero = some (.agg z))
    (h : wpList Tryz.prog ops Q rest (a.put o.dst (.pointer (some ⟨w.heap.size, 0, none⟩))) (w.alloc (.cells z ty))) : wpList Tryz.prog ops Q (o :: rest) a w := by
  refine wpList_plain hgd fun K hK => ?_
  unfold Oper.wp execOp
  have hr : (Instr.alloc ty true (.tuple #[])).run Tryz.prog w = .ok (.pointer (some ⟨w.heap.size, 0, none⟩)) (w.alloc (.cells z ty)) := by
    simp [Instr.alloc, zeroValue, typeInfo, hi, hz, newVar, newRow, Value.cells]
  simp only [ho, Sem.run_bind, hr, Result.andThen_ok, Sem.run_pure]
  exact hK _ _ h
theorem zero_parts {x : Option TypeInfo} {n : Nat} {z : Array Value} (h : x.map (fun i => (i.zero, i.size)) = some (some (.agg z), n)) : ∃ i, x = some i ∧ i.zero = some (.agg z) ∧ i.size = n := by
  cases x with
  | none => cases h
  | some i =>
    refine ⟨i, rfl, ?_⟩
    simp only [Option.map_some, Option.some.injEq, Prod.mk.injEq] at h
    exact h
end Go.Proofs.YtoofhaoaogoomaaGreat
