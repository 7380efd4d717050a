/- The walk of ExtentJoins, told from what package extent does; lists of lists that came in. No statement of the seat is proved here. -/
import Derived.Test.YtgemjipbifgbgaaZXAG
import Derived.Test.YtgemjipbifgbgaaZXAI
import Derived.Test.YtgemjipbifgbgaaZXAD
import Derived.Test.YtgemjipbifgbgaaZXAA
import Derived.WalkKit
import Derived.Deep.DeepCutAuto
namespace Go.Proofs.Ytgemjipbifgbgaa
open Go.ChangeShapes Go.WideShapes Go.ChangeAt Go.RowKit Go.Deep Go.Joins
set_option linter.unusedVariables false
set_option linter.unusedSimpArgs false

/-- Lists of extents that came in. -/
structure RdLx (w : World) (B : Nat) (A : Option Addr) (L : List LsT) : Prop where
  rows : RdS w B 1 A (L.map lcs)
  each : ∀ x ∈ L, RdRw w B x.1.1 x.2
  cap : ∀ x ∈ L, x.2.length ≤ x.1.2 ∧ x.1.2 ≤ maxLen
section
variable {H : Type} {enc : TypeId × Value → H} {w : World} {base : Nat}
theorem exts_cell {n : Nat} {cs : List Value} {x : DataW H × List MemPlace} (h : DataW.trod enc Try.prog w base (fun _ => true) true n 22 cs = some x) :
    ∃ z : LsT, cs = lcs z ∧ RdRw w w.heap.size z.1.1 z.2 ∧ z.2.length ≤ z.1.2 ∧ z.1.2 ≤ maxLen := by
  obtain ⟨_, _, _, _, _, _, _, _, _, _, hC, _⟩ := ext_fields
  rcases open_slice Try.underlying22 h with ⟨hcs, _⟩ | ⟨ad, l, c, m, n', D, Pl, hcs, _⟩
  · exact ⟨((none, 0), []), hcs, RdRw.nil _ _ _, Nat.le_refl _, by simp [maxLen]⟩
  · have h3 := h
    rw [hcs] at h3
    obtain ⟨zs, h1, h2, hle, hmx, h5⟩ := open_rows (a := some ad) (len := l) (cap := c) rcs RowT.Ok Try.underlying22 hC (by omega) (fun n cs y hy => ext_cells hy) h3
    exact ⟨((some ad, c), zs), by rw [hcs, h1]; rfl, ⟨h2, h5⟩, hle, hmx⟩
theorem open_lists_arg {fuel : Nat} {a : Option Addr} {len cap : Nat} {x : DataW H × List MemPlace}
    (h : DataW.trod enc Try.prog w base (fun _ => true) true fuel 33 (Value.slice a len cap).cells.toList = some x) :
    ∃ ls : List LsT, len = ls.length ∧ RdLx w w.heap.size a ls ∧ ls.length ≤ cap ∧ cap ≤ maxLen ∧ True := by
  obtain ⟨zs, h1, h2, h3, h4, h5⟩ := open_rows lcs (fun z : LsT => RdRw w w.heap.size z.1.1 z.2 ∧ z.2.length ≤ z.1.2 ∧ z.1.2 ≤ maxLen) Try.underlying33 (by kernel_rfl : Try.prog.cellsOf 22 = 1) (by omega) (fun n cs y hy => exts_cell hy) h
  exact ⟨zs, h1, ⟨h2, fun x hx => (h5 x hx).1, fun x hx => (h5 x hx).2⟩, h3, h4, trivial⟩
end
/-- The first 500 of each of the first 10. -/
def cutL (x : LsT) : LsT := (x.1, x.2.take 500)
def tenL (L : List LsT) (k : Nat) : List LsT := (L.take (min k 10)).map cutL
theorem tenL_step {L : List LsT} {k : Nat} (hk : k < L.length) (h : k < 10) : tenL L (k + 1) = tenL L k ++ [cutL L[k]] := by
  unfold tenL
  rw [show min (k + 1) 10 = k + 1 by omega, show min k 10 = k by omega, List.take_succ_eq_append_getElem hk, List.map_append, List.map_singleton]
theorem tenL_stay {L : List LsT} {k : Nat} (h : 10 ≤ k) : tenL L (k + 1) = tenL L k := by
  unfold tenL
  rw [show min (k + 1) 10 = 10 by omega, show min k 10 = 10 by omega]
theorem tenL_len (L : List LsT) (k : Nat) : (tenL L k).length ≤ 10 := by
  unfold tenL
  rw [List.length_map, List.length_take]
  omega
theorem joinE_len (ls : List (List RowT)) : (joinE ls).length ≤ 16384 := by
  unfold joinE
  split
  · rename_i h
    exact (rightE_iff.1 h.2).1
  · exact Nat.zero_le _
theorem lsE : Elem Try.prog 33 22 1 lcs (fun _ => True) where
  slice := Try.underlying33
  info := elem_info (by kernel_rfl)
  pos := by omega
  most := by omega
  len := fun _ _ => rfl
  one := fun x v hv => by
    rw [List.mem_singleton.1 hv]
    rfl
set_option maxRecDepth 100000 in
set_option maxHeartbeats 4000000 in
theorem joins_walk (K : ExtentsOk) (SH : ShownE) (A : Option Addr) (n c : Nat) (L : List LsT) (hl : L.length = n) (hc : n ≤ c) (hm : c ≤ maxLen) (w : World) (hr : RdLx w w.heap.size A L) :
    Calls Try.prog 5 #[.slice A n c] w fun e w' => e = .returned (.bool true) ∧ Below w.heap.size w w' := by
  have HR := Lib.hid hr
  have HPL := Lib.hid hl
  have KSH := Lib.hid (fun W => SH W)
  have hn9 : n ≤ 9223372036854775807 := by unfold maxLen at hm; omega
  clear SH hr hl hc hm
  go_enter Try.func5, Try.ntmps5
  go_wp2_with fail
  go_loopw [3, 7] (fun v i wr => ∃ (j u : Nat) (Y : Option Addr) (z : Nat), j ≤ n ∧ i = .int .i64 (j : Nat) ∧ v = .slice Y u z ∧ u ≤ 10 ∧ Hid ((tenL L j).length = u) ∧ Hid (OwnG 22 1 lcs wr w.heap.size Y z (tenL L j)) ∧ Hid (Below w.heap.size w wr)) (fun _ i _ => n - (intOf i).toNat)
  case atStart => exact ⟨0, 0, none, 0, Nat.zero_le _, rfl, rfl, by omega, Lib.hid rfl, Lib.hid (OwnG.nil _ _), Lib.hid (Below.refl _ _)⟩
  case round =>
    obtain ⟨j, u, Y, z, hj, rfl, rfl, hu, HN, HO, HB⟩ := hrel
    by_cases hlt : j < n
    · have hjp : j < L.length := by rw [HPL.out]; exact hlt
      have hi1 : (0 : Int) ≤ (j : Int) := by omega
      have hi2 : (j : Int) < (n : Int) := by omega
      by_cases h10 : j < 10
      · obtain ⟨g, off, rfl, hg, hcl⟩ := HR.out.rows (by simp; omega)
        have hcell := hcl j (by simpa using hjp) 0 (.slice L[j].1.1 L[j].2.length L[j].1.2) (by simp [lcs])
        rw [Nat.mul_one, Nat.add_zero] at hcell
        have hcap := HR.out.cap _ (List.getElem_mem hjp)
        have HST := Lib.hid (tenL_step hjp h10)
        obtain ⟨x, hx⟩ : ∃ x, L[j] = x := ⟨_, rfl⟩
        rw [hx] at hcell hcap HST
        obtain ⟨⟨P, pc⟩, l⟩ := x
        simp only at hcell hcap
        obtain ⟨q, hq⟩ : ∃ q, l.length = q := ⟨_, rfl⟩
        rw [hq] at hcell hcap
        obtain ⟨m, hm'⟩ : ∃ m, m = min q 500 := ⟨_, rfl⟩
        have KF := Lib.hid (fun W => few_any P q pc m W hm' hcap.1 (by have := hcap.2; unfold maxLen at this; omega))
        obtain ⟨v, hv⟩ : ∃ v : LsT, cutL ((P, pc), l) = v := ⟨_, rfl⟩
        have hvc : lcs v = [.slice P m pc] := by
          rw [← hv]
          unfold cutL lcs
          rw [List.length_take, hq, hm', Nat.min_comm]
        rw [hv] at HST
        have hcw := (HB.out.cell (p := ⟨g, off + j, none⟩) hg).trans hcell
        have hj10 : (j : Int) < 10 := by omega
        have HOA := Lib.hid (HO.out.on ((Below.refl wr.heap.size wr).alloc (Nat.le_refl _) (.cells (lcs v).toArray 22)))
        have HBB := Lib.hid (show Below w.heap.size w (wr.alloc (.cells (lcs v).toArray 22)) from HB.out.alloc HB.out.size _)
        have HR1 := Lib.hid (rds_one wr v 22 1 lcs)
        rw [hvc] at HOA HBB HR1
        clear hcl hcell hcap hx hq hm' hv hvc hg hjp HO HB h10
        go_wp2_with fail
        refine (KF.out wr).mono ?_
        rintro e w1b ⟨rfl, rfl⟩
        go_wp2_with (first
          | (at_builtin; refine wpList_append_g lsE rfl (.tmp 12) (.tmp 18) rfl w.heap.size Y z u (tenL L j) HN.out rfl HOA.out _ (some ⟨wr.heap.size, 0, none⟩) 1 1 [v] rfl rfl HR1.out (fun _ _ => trivial) (by omega) HBB.out.size ?_)
          | fail)
        intro A9 c9 w9 ho9 hg9
        have HO9 := Lib.hid (show OwnG 22 1 lcs w9 w.heap.size A9 c9 (tenL L (j + 1)) from by rw [HST.out]; exact ho9)
        have HB9 := Lib.hid (show Below w.heap.size w w9 from HBB.out.grown hg9 HBB.out.size fun r hr => (HOA.out.lt (by rw [HN.out]; exact hr)).1)
        have HN9 := Lib.hid (show (tenL L (j + 1)).length = u + 1 by rw [HST.out, List.length_append, HN.out]; rfl)
        have hu9 : u + 1 ≤ 10 := by rw [← HN9.out]; exact tenL_len _ _
        clear ho9 hg9 HOA HBB HR1
        go_wp2_with fail
        go_roundw
        case rel => exact ⟨j + 1, u + 1, A9, c9, by omega, by go_num, rfl, hu9, HN9, HO9, HB9⟩
        case measure => simp [intOf]; omega
      · have hj10 : ¬ (j : Int) < 10 := by omega
        have HST := Lib.hid (tenL_stay (L := L) (k := j) (by omega))
        clear h10
        go_wp2_with fail
        go_roundw
        case rel => exact ⟨j + 1, u, Y, z, by omega, by go_num, rfl, hu, Lib.hid (by rw [HST.out]; exact HN.out), Lib.hid (by rw [HST.out]; exact HO.out), HB⟩
        case measure => simp [intOf]; omega
    · obtain rfl : j = n := by omega
      have hin : ∀ x ∈ tenL L j, ∃ y ∈ L, cutL y = x := fun x hx => by
        obtain ⟨y, hy, e⟩ := List.mem_map.1 hx
        exact ⟨y, List.mem_of_mem_take hy, e⟩
      obtain ⟨X, hX⟩ : ∃ X, tenL L j = X := ⟨_, rfl⟩
      rw [hX] at HN HO hin
      have hls : RdLs wr wr.heap.size Y X := ⟨HO.out.rd lsE fun _ _ => trivial, fun x hx => by
        obtain ⟨y, hy, rfl⟩ := hin x hx
        exact (((HR.out.each y hy).below HB.out).more HB.out.size).take 500, fun x hx => by
        obtain ⟨y, hy, rfl⟩ := hin x hx
        have h1 := HR.out.cap y hy
        refine ⟨?_, h1.2, ?_⟩
        · show (y.2.take 500).length ≤ y.1.2
          rw [List.length_take]
          omega
        · show (y.2.take 500).length ≤ 5000
          rw [List.length_take]
          omega⟩
      have HLS := Lib.hid hls
      have hjl := joinE_len (X.map (·.2))
      have KJ := Lib.hid (fun W (h : RdLs W W.heap.size Y X) => K.join (c := z) HN.out hu h)
      have KX := Lib.hid (fun W (h : RdLs W W.heap.size Y X) => rexjoin_any Y X u z HN.out hu W h)
      generalize joinE (X.map (·.2)) = J at *
      obtain ⟨v, hv⟩ : ∃ v, J.length = v := ⟨_, rfl⟩
      have HV := Lib.hid (show J.length = v ∧ v ≤ 20000 from ⟨hv, by omega⟩)
      clear hX hin hls hjl hv HO
      go_wp2_with fail
      refine (KSH.out wr).mono ?_
      rintro e w1 ⟨rfl, hb⟩
      have HL1 := Lib.hid (show RdLs w1 w1.heap.size Y X from ⟨(HLS.out.rows.below hb).more hb.size, fun x hx => (HLS.out.each x hx).on hb, HLS.out.cap⟩)
      have HB1 := Lib.hid (HB.out.trans (hb.mono HB.out.size))
      clear hb HB HLS KSH
      go_wp2_with fail
      refine (KJ.out w1 HL1.out).mono ?_
      rintro e w2 ⟨P, pc, rfl, _, _, hrp, hb⟩
      have HL2 := Lib.hid (show RdLs w2 w2.heap.size Y X from ⟨(HL1.out.rows.below hb).more hb.size, fun x hx => (HL1.out.each x hx).on hb, HL1.out.cap⟩)
      have HB2 := Lib.hid (HB1.out.trans (hb.mono HB1.out.size))
      have HP2 := Lib.hid hrp
      rw [HV.out.1]
      clear hb hrp HB1 HL1 KJ
      go_wp2_with fail
      refine (KX.out w2 HL2.out).mono ?_
      rintro e w3 hmade
      obtain ⟨Q, qc, rfl, _, _, hrq, hb⟩ := hmade.read
      have HB3 := Lib.hid (HB2.out.trans (hb.mono HB2.out.size))
      have HSM := Lib.hid (same_true P Q J v pc qc HV.out.1 HV.out.2 w3 (HP2.out.on hb) hrq)
      rw [HV.out.1]
      clear hb hrq hmade HB2 HL2 HP2 KX
      go_wp2_with fail
      refine HSM.out.mono ?_
      rintro e w4 ⟨rfl, hb⟩
      have HB4 := Lib.hid (HB3.out.trans (hb.mono HB3.out.size))
      clear hb HB3 HSM
      go_wp2_with fail
      go_ret
      exact ⟨rfl, HB4.out⟩
end Go.Proofs.Ytgemjipbifgbgaa
/- Gates for the arms of a walk: each fails at once where the next operation is another one ('(with_reducible refine at_load ?_); refine wpList_load_mid ..'). For every stage. No statement of the seat is proved here; nothing of the program is imported. -/
namespace Go.Proofs.Ytgemjipbifgbgaa
set_option linter.unusedVariables false

theorem at_list {P : Program} {ops : Array Oper} {Q : Exit → Act → World → Prop} {l : List Oper} {a : Act} {w : World} (h : wpList P ops Q l a w) : wpList P ops Q l a w := h
theorem at_load {P : Program} {ops : Array Oper} {Q : Exit → Act → World → Prop} {l : List Oper} {a : Act} {w : World} {d po af gd ty t x} (h : wpList P ops Q ({ dst := d, op := .load t x, type := ty, pos := po, after := af, guard := gd } :: l) a w) : wpList P ops Q ({ dst := d, op := .load t x, type := ty, pos := po, after := af, guard := gd } :: l) a w := h
theorem at_store {P : Program} {ops : Array Oper} {Q : Exit → Act → World → Prop} {l : List Oper} {a : Act} {w : World} {d po af gd ty t x y} (h : wpList P ops Q ({ dst := d, op := .store t x y, type := ty, pos := po, after := af, guard := gd } :: l) a w) : wpList P ops Q ({ dst := d, op := .store t x y, type := ty, pos := po, after := af, guard := gd } :: l) a w := h
theorem at_alloc {P : Program} {ops : Array Oper} {Q : Exit → Act → World → Prop} {l : List Oper} {a : Act} {w : World} {d po af gd ty t} (h : wpList P ops Q ({ dst := d, op := .alloc t, type := ty, pos := po, after := af, guard := gd } :: l) a w) : wpList P ops Q ({ dst := d, op := .alloc t, type := ty, pos := po, after := af, guard := gd } :: l) a w := h
theorem at_build {P : Program} {ops : Array Oper} {Q : Exit → Act → World → Prop} {l : List Oper} {a : Act} {w : World} {d po af gd ty t x} (h : wpList P ops Q ({ dst := d, op := .build t x, type := ty, pos := po, after := af, guard := gd } :: l) a w) : wpList P ops Q ({ dst := d, op := .build t x, type := ty, pos := po, after := af, guard := gd } :: l) a w := h
theorem at_buildSlice {P : Program} {ops : Array Oper} {Q : Exit → Act → World → Prop} {l : List Oper} {a : Act} {w : World} {d po af gd ty t n x} (h : wpList P ops Q ({ dst := d, op := .buildSlice t n x, type := ty, pos := po, after := af, guard := gd } :: l) a w) : wpList P ops Q ({ dst := d, op := .buildSlice t n x, type := ty, pos := po, after := af, guard := gd } :: l) a w := h
theorem at_lookup {P : Program} {ops : Array Oper} {Q : Exit → Act → World → Prop} {l : List Oper} {a : Act} {w : World} {d po af gd ty t m x c} (h : wpList P ops Q ({ dst := d, op := .lookup t m x c, type := ty, pos := po, after := af, guard := gd } :: l) a w) : wpList P ops Q ({ dst := d, op := .lookup t m x c, type := ty, pos := po, after := af, guard := gd } :: l) a w := h
theorem at_update {P : Program} {ops : Array Oper} {Q : Exit → Act → World → Prop} {l : List Oper} {a : Act} {w : World} {d po af gd ty t m x v} (h : wpList P ops Q ({ dst := d, op := .mapUpdate t m x v, type := ty, pos := po, after := af, guard := gd } :: l) a w) : wpList P ops Q ({ dst := d, op := .mapUpdate t m x v, type := ty, pos := po, after := af, guard := gd } :: l) a w := h
theorem at_convert {P : Program} {ops : Array Oper} {Q : Exit → Act → World → Prop} {l : List Oper} {a : Act} {w : World} {d po af gd ty s t x} (h : wpList P ops Q ({ dst := d, op := .convert s t x, type := ty, pos := po, after := af, guard := gd } :: l) a w) : wpList P ops Q ({ dst := d, op := .convert s t x, type := ty, pos := po, after := af, guard := gd } :: l) a w := h
theorem at_bin {P : Program} {ops : Array Oper} {Q : Exit → Act → World → Prop} {l : List Oper} {a : Act} {w : World} {d po af gd ty o t x y u} (h : wpList P ops Q ({ dst := d, op := .binOp o t x y u, type := ty, pos := po, after := af, guard := gd } :: l) a w) : wpList P ops Q ({ dst := d, op := .binOp o t x y u, type := ty, pos := po, after := af, guard := gd } :: l) a w := h
end Go.Proofs.Ytgemjipbifgbgaa
/- The landed package extent: Right, Total. No statement of the seat is proved here. -/
namespace Go.Proofs.Ytgemjipbifgbgaa
open Go.RowKit Go.Maps Go.Sort
set_option linter.unusedVariables false
set_option linter.unusedSimpArgs false
set_option maxRecDepth 100000

theorem info_extZ : (Try.prog.info? 51).map (fun i => (i.zero, i.size)) = some (some (.agg rz), 35) := by kernel_rfl
theorem blk_33 {w : World} {b : Nat} {x : RowT} (h : Blk w b 51 (rcs x).toArray) (ho : x.Ok) : w.cell? ⟨b, 33, none⟩ = some (.int .i64 x.2.1) := by
  rw [h.cell 33]; simpa using rcs_33 ho
theorem blk_34 {w : World} {b : Nat} {x : RowT} (h : Blk w b 51 (rcs x).toArray) (ho : x.Ok) : w.cell? ⟨b, 34, none⟩ = some (.int .i64 x.2.2) := by
  rw [h.cell 34]; simpa using rcs_34 ho
set_option maxHeartbeats 4000000 in
theorem xright_any (A : Option Addr) (ls : List RowT) (k c : Nat) (hl : ls.length = k) (w : World) (hr : RdRw w w.heap.size A ls) :
    Calls Try.prog 12 #[.slice A k c] w fun e w' => e = .returned (.bool (rightE ls)) ∧ Below w.heap.size w w' := by
  obtain ⟨R, hR⟩ : ∃ R, rightE ls = R := ⟨_, rfl⟩
  rw [hR]
  by_cases hk : k ≤ 16384
  · have hk0 : ¬ (k : Int) > 16384 := by omega
    have HR := Lib.hid (show (∀ r ∈ ls, okE r = true) → R = true from fun h => by rw [← hR]; exact rightE_iff.2 ⟨by omega, h⟩)
    have HRN := Lib.hid (show ∀ r ∈ ls, okE r = false → R = false from fun r hr h => by
      rw [← hR, Bool.eq_false_iff]
      intro h2
      rw [(rightE_iff.1 h2).2 r hr] at h
      cases h)
    have HA := Lib.hid (show ∀ W, Below w.heap.size w W → RdRw W w.heap.size A ls from fun W hb => hr.below hb)
    have HPL := Lib.hid hl
    clear hR hr hl
    obtain ⟨fe, hfe⟩ := ext_desc
    have HF := Lib.hid hfe
    obtain ⟨iz, hiz, hzz, _⟩ := zero_parts info_extZ
    have HZ := Lib.hid (And.intro hiz hzz)
    clear hfe hiz hzz
    go_enter Try.func12, Try.ntmps12
    go_wp2_with fail
    go_loopw [10] (fun i wr => ∃ j : Nat, j ≤ k ∧ i = .int .i64 j ∧ Hid (∀ r ∈ ls.take j, okE r = true) ∧ Hid (Below w.heap.size w wr)) (fun i _ => k - (intOf i).toNat)
    case atStart => exact ⟨0, Nat.zero_le _, rfl, Lib.hid (by simp), Lib.hid (Below.refl _ _)⟩
    case round =>
      obtain ⟨j, hj, rfl, HST, HB⟩ := hrel
      by_cases hlt : j < k
      · have hjp : j < ls.length := by rw [HPL.out]; exact hlt
        obtain ⟨g, off, rfl, hg, hra, hokx⟩ := (HA.out _ HB.out).at_ hjp
        have HIN := Lib.hid (List.getElem_mem hjp)
        have HSN := Lib.hid (all_snoc hjp HST.out)
        obtain ⟨x, hx⟩ : ∃ x, ls[j] = x := ⟨_, rfl⟩
        rw [hx] at hra hokx HIN HSN
        have HOKE := Lib.hid (okE_iff (r := x))
        have HNO := Lib.hid (HRN.out x HIN.out)
        have HRA := Lib.hid hra
        have HOK := Lib.hid hokx
        have hi1 : (0 : Int) ≤ (j : Int) := by omega
        have hi2 : (j : Int) < (k : Int) := by omega
        clear hra hokx hx hjp hg
        have HKS := Lib.hid (show (Try.prog.info? 51).map (·.size) = some (rcs x).length by rw [rcs_length HOK.out]; exact ext_size)
        have HKS2 := Lib.hid (show (Try.prog.info? 51).map (·.size) = some (rcs x).toArray.size by rw [List.size_toArray]; exact HKS.out)
        have HOLD := Lib.hid (show (rz).size = (rcs x).toArray.size from rz_size.trans (by rw [List.size_toArray, rcs_length HOK.out]))
        have HONE := Lib.hid (rcs_one (r := x))
        have HBZ := Lib.hid (Blk.new wr 51 rz)
        obtain ⟨w2, hw2⟩ : ∃ W, wr.alloc (.cells (rcs x).toArray 51) = W := ⟨_, rfl⟩
        have hba : Below wr.heap.size wr w2 := hw2 ▸ (Below.refl wr.heap.size wr).alloc (Nat.le_refl _) _
        have HVB := Lib.hid (show Blk w2 wr.heap.size 51 (rcs x).toArray from hw2 ▸ Blk.new wr 51 (rcs x).toArray)
        have HBA := Lib.hid hba
        have HB2 := Lib.hid (HB.out.trans (hba.mono HB.out.size))
        have HW2 := Lib.hid hw2
        clear hw2 hba
        go_upto_region 6 with (first
          | ((with_reducible refine at_load ?_); refine wpList_load_mid rfl 51 (.tmp 12) rfl g (off + j * 35) rfl (rcs x) (.struct fe) HRA.out HF.out rfl HKS.out ?_)
          | ((with_reducible refine at_alloc ?_); refine wpList_alloc_z rfl 51 rfl iz _ HZ.out.1 HZ.out.2 ?_)
          | ((with_reducible refine at_store ?_); refine wpList_store_row rfl 51 (.tmp 4) (.tmp 13) rfl wr.heap.size (rcs x).toArray rfl rfl 51 rz HBZ.out HKS2.out HOLD.out HONE.out ?_; rw [setRow_alloc, HW2.out]))
        obtain ⟨vb, hvb⟩ : ∃ V, wr.heap.size = V := ⟨_, rfl⟩
        rw [hvb]
        rw [hvb] at HVB
        have HVW := Lib.hid hvb
        clear hvb HBZ HOLD HKS2 HW2
        have c33 := blk_33 HVB.out HOK.out
        have c34 := blk_34 HVB.out HOK.out
        have hs1 := HOK.out.shelf.1
        have hs2 := HOK.out.shelf.2
        have hn1 := HOK.out.slot.1
        have hn2 := HOK.out.slot.2
        obtain ⟨o, ho⟩ : ∃ o, x.2.1 = o := ⟨_, rfl⟩
        obtain ⟨n, hn⟩ : ∃ n, x.2.2 = n := ⟨_, rfl⟩
        rw [ho] at c33 HOKE hs1 hs2
        rw [hn] at c34 HOKE hn1 hn2
        clear ho hn
        by_cases d0 : o < 0
        · have e0 : decide (o < 0) = true := decide_eq_true d0
          obtain rfl : R = false := HNO.out (by
            rw [Bool.eq_false_iff]
            intro h
            have := HOKE.out.1 h
            omega)
          go_wp2_with fail
          go_ret
          exact ⟨rfl, HB2.out⟩
        have e0 : decide (o < 0) = false := decide_eq_false d0
        by_cases d1 : n < 1
        · have e1 : decide (n < 1) = true := decide_eq_true d1
          obtain rfl : R = false := HNO.out (by
            rw [Bool.eq_false_iff]
            intro h
            have := HOKE.out.1 h
            omega)
          go_wp2_with fail
          go_ret
          exact ⟨rfl, HB2.out⟩
        have e1 : decide (n < 1) = false := decide_eq_false d1
        by_cases d2 : n > 4096 - o
        · have e2 : decide (n > 4096 - o) = true := decide_eq_true d2
          obtain rfl : R = false := HNO.out (by
            rw [Bool.eq_false_iff]
            intro h
            have := HOKE.out.1 h
            omega)
          go_wp2_with fail
          go_ret
          exact ⟨rfl, HB2.out⟩
        have e2 : decide (n > 4096 - o) = false := decide_eq_false d2
        have HSX := Lib.hid (HSN.out (HOKE.out.2 (by omega)))
        go_wp2_with fail
        go_roundw
        case rel => exact ⟨j + 1, by omega, by go_num, HSX, HB2⟩
        case measure => simp [intOf]; omega
      · obtain rfl : j = k := by omega
        obtain rfl : R = true := HR.out (by
          have := HST.out
          rwa [List.take_of_length_le (by rw [HPL.out]; exact Nat.le_refl _)] at this)
        go_wp2_with fail
        go_ret
        exact ⟨rfl, HB.out⟩
  · have hk0 : (k : Int) > 16384 := by omega
    obtain rfl : R = false := by
      rw [← hR, Bool.eq_false_iff]
      intro h
      have := (rightE_iff.1 h).1
      omega
    clear hR hl hr
    go_enter Try.func12, Try.ntmps12
    go_wp2_with fail
    go_ret
    exact ⟨rfl, Below.refl _ _⟩
set_option maxHeartbeats 4000000 in
theorem xtotal_any (A : Option Addr) (ls : List RowT) (k c : Nat) (hl : ls.length = k) (w : World) (hr : RdRw w w.heap.size A ls) :
    Calls Try.prog 14 #[.slice A k c] w fun e w' => e = .returned (.int .i64 (totalE ls)) ∧ Below w.heap.size w w' := by
  have KR := Lib.hid (xright_any A ls k c hl w hr)
  have HR := Lib.hid hr
  have HPL := Lib.hid hl
  obtain ⟨R, hR⟩ : ∃ R, rightE ls = R := ⟨_, rfl⟩
  rw [hR] at KR
  have HQ := Lib.hid hR
  clear hR hr hl
  obtain ⟨fe, hfe⟩ := ext_desc
  have HF := Lib.hid hfe
  obtain ⟨iz, hiz, hzz, _⟩ := zero_parts info_extZ
  have HZ := Lib.hid (And.intro hiz hzz)
  clear hfe hiz hzz
  go_enter Try.func14, Try.ntmps14
  go_wp2_with fail
  refine KR.out.mono ?_
  rintro e w1 ⟨rfl, hb1⟩
  have HB1 := Lib.hid hb1
  clear KR hb1
  cases R with
  | false =>
    have HT := Lib.hid (show totalE ls = 0 by unfold totalE; rw [HQ.out]; rfl)
    go_wp2_with fail
    go_ret
    exact ⟨by rw [HT.out]; rfl, HB1.out⟩
  | true =>
    go_wp2_with fail
    go_loopw [3, 11] (fun t i wr => ∃ j : Nat, j ≤ k ∧ i = .int .i64 j ∧ t = .int .i64 (sumE (ls.take j)) ∧ Hid (Below w.heap.size w wr)) (fun _ i _ => k - (intOf i).toNat)
    case atStart => exact ⟨0, Nat.zero_le _, rfl, by simp [sumE], HB1⟩
    case round =>
      obtain ⟨j, hj, rfl, rfl, HB⟩ := hrel
      have hk : k ≤ 16384 := by have := (rightE_iff.1 HQ.out).1; have := HPL.out; omega
      by_cases hlt : j < k
      · have hjp : j < ls.length := by rw [HPL.out]; exact hlt
        obtain ⟨g, off, rfl, hg, hra, hokx⟩ := (HR.out.below HB.out).at_ hjp
        have HSN := Lib.hid (sum_snoc hjp)
        have hs1 := (right_sum (right_take HQ.out j)).1
        have hs2 := (right_sum (right_take HQ.out j)).2
        have hok := okE_iff.1 ((rightE_iff.1 HQ.out).2 _ (List.getElem_mem hjp))
        obtain ⟨x, hx⟩ : ∃ x, ls[j] = x := ⟨_, rfl⟩
        rw [hx] at hra hokx HSN hok
        have HRA := Lib.hid hra
        have HOK := Lib.hid hokx
        have HOKE := Lib.hid hok
        obtain ⟨S, hS⟩ : ∃ S, sumE (ls.take j) = S := ⟨_, rfl⟩
        rw [hS] at HSN hs1 hs2 ⊢
        have hi1 : (0 : Int) ≤ (j : Int) := by omega
        have hi2 : (j : Int) < (k : Int) := by omega
        clear hra hokx hx hjp hg hok hS
        have HKS := Lib.hid (show (Try.prog.info? 51).map (·.size) = some (rcs x).length by rw [rcs_length HOK.out]; exact ext_size)
        have HKS2 := Lib.hid (show (Try.prog.info? 51).map (·.size) = some (rcs x).toArray.size by rw [List.size_toArray]; exact HKS.out)
        have HOLD := Lib.hid (show (rz).size = (rcs x).toArray.size from rz_size.trans (by rw [List.size_toArray, rcs_length HOK.out]))
        have HONE := Lib.hid (rcs_one (r := x))
        have HBZ := Lib.hid (Blk.new wr 51 rz)
        obtain ⟨w2, hw2⟩ : ∃ W, wr.alloc (.cells (rcs x).toArray 51) = W := ⟨_, rfl⟩
        have hba : Below wr.heap.size wr w2 := hw2 ▸ (Below.refl wr.heap.size wr).alloc (Nat.le_refl _) _
        have HVB := Lib.hid (show Blk w2 wr.heap.size 51 (rcs x).toArray from hw2 ▸ Blk.new wr 51 (rcs x).toArray)
        have HBA := Lib.hid hba
        have HB2 := Lib.hid (HB.out.trans (hba.mono HB.out.size))
        have HW2 := Lib.hid hw2
        clear hw2 hba
        go_upto_region 7 with (first
          | ((with_reducible refine at_load ?_); refine wpList_load_mid rfl 51 (.tmp 13) rfl g (off + j * 35) rfl (rcs x) (.struct fe) HRA.out HF.out rfl HKS.out ?_)
          | ((with_reducible refine at_alloc ?_); refine wpList_alloc_z rfl 51 rfl iz _ HZ.out.1 HZ.out.2 ?_)
          | ((with_reducible refine at_store ?_); refine wpList_store_row rfl 51 (.tmp 5) (.tmp 14) rfl wr.heap.size (rcs x).toArray rfl rfl 51 rz HBZ.out HKS2.out HOLD.out HONE.out ?_; rw [setRow_alloc, HW2.out]))
        obtain ⟨vb, hvb⟩ : ∃ V, wr.heap.size = V := ⟨_, rfl⟩
        rw [hvb]
        rw [hvb] at HVB
        have HVW := Lib.hid hvb
        clear hvb HBZ HOLD HKS2 HW2
        have c34 := blk_34 HVB.out HOK.out
        have hok := HOKE.out
        obtain ⟨n, hn⟩ : ∃ n, x.2.2 = n := ⟨_, rfl⟩
        rw [hn] at c34 HSN hok
        have hn1 := hok.2.1
        have hn2 : n ≤ 4096 := by omega
        clear hn hok
        go_wp2_with fail
        go_roundw
        case rel => exact ⟨j + 1, by omega, by go_num, by rw [HSN.out], HB2⟩
        case measure => simp [intOf]; omega
      · obtain rfl : j = k := by omega
        have HT := Lib.hid (show totalE ls = sumE (ls.take j) by unfold totalE; rw [if_pos HQ.out, List.take_of_length_le (by rw [HPL.out]; exact Nat.le_refl _)])
        go_wp2_with fail
        go_ret
        exact ⟨by rw [HT.out]; rfl, HB.out⟩
end Go.Proofs.Ytgemjipbifgbgaa
