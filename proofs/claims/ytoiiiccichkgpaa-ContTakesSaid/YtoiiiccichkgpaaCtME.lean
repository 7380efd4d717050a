/- What the landed package cont does: head, row, Lay. No statement of the seat is proved here. -/
import Derived.Test.YtoiiiccichkgpaaCtMD
import Derived.Test.YtoiiiccichkgpaaCtRefD
import Derived.Test.YtoiiiccichkgpaaCtMC
import Derived.Test.YtoiiiccichkgpaaCtMG
import Derived.Test.YtoiiiccichkgpaaCtMB
import Derived.Test.YtoiiiccichkgpaaCtBuild
import Derived.Test.YtoiiiccichkgpaaAllocZ
import Derived.Test.YtoiiiccichkgpaaStRegion
import Derived.Test.YtoiiiccichkgpaaSetRow
import Derived.Test.YtoiiiccichkgpaaQuiet
import Derived.Test.YtoiiiccichkgpaaCtRowB
import Derived.Test.YtoiiiccichkgpaaKeyMap
import Derived.Test.YtoiiiccichkgpaaCtKit
import Derived.Test.YtoiiiccichkgpaaKeyRow
import Derived.StillTailTactics
import Derived.Deep.QuietTactic
import Derived.Deep.DeepCutAuto
import Derived.Deep.MidRow
import Derived.Deep.WholeRow
import Derived.BigQuiet
import Derived.Great.BuildSlice
import Derived.Laws.ResultCell
namespace Go.Proofs.Ytoiiiccichkgpaa
open Go.RowKit
set_option linter.unusedVariables false
set_option linter.unusedSimpArgs false

theorem own_made (w : World) (n : Nat) (hn : n ≤ maxLen) : (w.alloc (.cells (madeCells #[.int .u8 0] n) 5)).ownsRow w.heap.size 5 1 (.slice (some ⟨w.heap.size, 0, none⟩) 0 n) 0 (bv []) :=
  ⟨rfl, .inr ⟨w.heap.size, n, _, rfl, Nat.le_refl _, heap_alloc_new w _, Nat.zero_le _, hn, by simp [size_madeCells], by simp [bv]⟩⟩
set_option maxHeartbeats 1000000 in
theorem head_any (id n : Nat) (hid : id < 4294967296) (hn : n ≤ 3000) (w : World) : Calls Try.prog 23 #[.int .u32 id, .int .i64 n] w fun e w' => ∃ A c, e = .returned (.slice A 6 c) ∧ Own w' w.heap.size A c 6 (be 4 id ++ be 2 n) ∧ Below w.heap.size w w' := by
  have id64 : IntKind.u64.wrap (id : Int) = (id : Int) := by rw [IntKind.wrap_u64]; omega
  have n64 : IntKind.u64.wrap (n : Int) = (n : Int) := by rw [IntKind.wrap_u64]; omega
  have H1 := Lib.hid (put_sl none [] 0 0 id 4 4 (be 4 id) w rfl (Rd.nil _ _ _) (by decide) rfl rfl)
  go_enter Try.func23, Try.ntmps23
  go_wp2_with fail
  refine H1.out.mono ?_
  rintro e w1 ⟨A1, c1, rfl, ho1, hb1⟩
  have H2 := Lib.hid (put_sl A1 (be 4 id) c1 4 n 2 6 (be 4 id ++ be 2 n) w1 (be_length 4 _) ho1.rd (by rw [be_length]; decide) (by rw [be_length]; rfl) rfl)
  have HB := Lib.hid hb1
  clear ho1 hb1 H1
  go_wp2_with fail
  refine H2.out.mono ?_
  rintro e w2 ⟨A2, c2, rfl, ho2, hb2⟩
  have HX := Lib.hid (And.intro (ho2.base HB.out.size) (HB.out.trans (hb2.mono HB.out.size)))
  clear ho2 hb2 H2
  go_wp2_with fail
  go_ret
  exact ⟨_, _, rfl, HX.out.1, HX.out.2⟩
set_option maxRecDepth 100000 in
set_option maxHeartbeats 1000000 in
theorem row_any (x : PieceT) (hx : x.p.Ok) (hd : x.p.data.length < 65536) (w : World) : Calls Try.prog 24 #[.agg (pcs x).toArray] w fun e w' => ∃ A c, e = .returned (.slice A 38 c) ∧ Own w' w.heap.size A c 38 (rowC x.p) ∧ Below w.heap.size w w' := by
  obtain ⟨b, hb⟩ : ∃ b, w.heap.size = b := ⟨_, rfl⟩
  obtain ⟨w1, hw1⟩ : ∃ w1, w.alloc (.cells (pcs x).toArray 42) = w1 := ⟨_, rfl⟩
  have hb1 : Below w.heap.size w w1 := hw1 ▸ (Below.refl _ _).alloc (Nat.le_refl _) _
  have hB : Blk w1 b 42 (pcs x).toArray := by rw [← hw1, ← hb]; exact Blk.new w _ _
  have hl : b < w1.heap.size := hB.lt
  have hc32 : w1.cell? ⟨b, 32, none⟩ = some (.int .u32 x.p.n) := by rw [hB.cell, List.getElem?_toArray]; exact pcs_num hx
  have hc33 : ∀ W, Below w1.heap.size w1 W → W.cell? ⟨b, 33, none⟩ = some (.slice x.adr x.p.data.length x.cap) := fun W hW => by
    rw [hW.cell hl, hB.cell, List.getElem?_toArray]; exact pcs_data hx
  have hrd : Rd w1.drew w1.drew.heap.size (some ⟨b, 0, none⟩) x.p.s := fun _ => ⟨b, 0, rfl, hl, fun i hi => by
    show w1.cell? _ = _
    rw [hB.cell, Nat.zero_add, List.getElem?_toArray]; exact pcs_byte hi⟩
  have hs := hx.s
  obtain ⟨N, hN⟩ : ∃ N, x.p.n = N := ⟨_, rfl⟩
  obtain ⟨S, hS⟩ : ∃ S, x.p.s = S := ⟨_, rfl⟩
  obtain ⟨D, hD⟩ : ∃ D, x.p.data.length = D := ⟨_, rfl⟩
  obtain ⟨XA, hXA⟩ : ∃ XA, x.adr = XA := ⟨_, rfl⟩
  obtain ⟨XC, hXC⟩ : ∃ XC, x.cap = XC := ⟨_, rfl⟩
  have hN4 : N < 4294967296 := hN ▸ hx.n
  have HRC := Lib.hid (show rowC x.p = (S ++ be 4 N) ++ be 2 D by rw [← hN, ← hS, ← hD]; rfl)
  rw [hN] at hc32
  rw [hS] at hrd hs
  rw [hD, hXA, hXC] at hc33
  rw [hD] at hd
  rw [HRC.out]
  have hw64 : IntKind.u64.wrap (N : Int) = (N : Int) := by rw [IntKind.wrap_u64]; omega
  have hd64 : IntKind.u64.wrap (D : Int) = (D : Int) := by rw [IntKind.wrap_u64]; omega
  have H1 := Lib.hid (put_sl (some ⟨b, 0, none⟩) S 32 32 N 4 36 (S ++ be 4 N) w1.drew hs hrd (by rw [hs]; decide) (by rw [hs]; rfl) rfl)
  have HS := Lib.hid hs
  have HC := Lib.hid hc33
  have HW := Lib.hid (And.intro hw1 (And.intro hb hb1))
  obtain ⟨R, hR⟩ : ∃ R, (pcs x).toArray = R := ⟨_, rfl⟩
  rw [hR] at HW ⊢
  clear hw1 hb hb1 hB hl hc33 hrd hs hN hS hD hXA hXC hx hR HRC
  go_enter Try.func24, Try.ntmps24
  go_upto_region 1 with fail
  rw [HW.out.1, HW.out.2.1]
  go_still_tail 7, (by kernel_rfl)
  change wpList _ _ _ _ _ w1.drew
  go_wp2_with fail
  refine H1.out.mono ?_
  rintro e w2 ⟨A2, c2, rfl, ho2, hb2⟩
  have hb2' : Below w1.heap.size w1 w2 := (below_drew (Below.refl w1.heap.size w1)).trans hb2
  have H2 := Lib.hid (put_sl A2 (S ++ be 4 N) c2 36 D 2 38 ((S ++ be 4 N) ++ be 2 D) w2 (by rw [List.length_append, HS.out, be_length]) ho2.rd (by rw [List.length_append, HS.out, be_length]; decide) (by rw [List.length_append, HS.out, be_length]; rfl) rfl)
  have HB2 := Lib.hid (HW.out.2.2.trans (hb2'.mono HW.out.2.2.size))
  have hc2 := HC.out w2 hb2'
  clear ho2 hb2 hb2' H1
  go_wp2_with fail
  refine H2.out.mono ?_
  rintro e w3 ⟨A3, c3, rfl, ho3, hb3⟩
  have HX := Lib.hid (And.intro (ho3.base HB2.out.size) (HB2.out.trans (hb3.mono HB2.out.size)))
  clear ho3 hb3 H2
  go_wp2_with fail
  go_ret
  exact ⟨_, _, rfl, HX.out.1, HX.out.2⟩
set_option maxRecDepth 100000 in
set_option maxHeartbeats 2000000 in
theorem lay_no (A : Option Addr) (ls : List PieceT) (k c id R : Nat) (hl : ls.length = k) (hs : SmallC ls) (w : World) (hr : RdPc w w.heap.size A ls) (hR : refC (pds ls) = R) (h0 : R ≠ 0) :
    Calls Try.prog 11 #[.int .u32 id, .slice A k c] w fun e w' => e = .returned (.tuple #[.slice none 0 0, .int .i64 R]) ∧ Below w.heap.size w w' := by
  have HRF := Lib.hid (fault_any A ls k c hl hs w hr)
  rw [hR] at HRF
  have hne : ((R : Int) != 0) = true := by simp; omega
  clear hr hs hl hR h0
  go_enter Try.func11, Try.ntmps11
  go_wp2_with (go_at_call 22; refine HRF.out.mono ?_; rintro e w' ⟨rfl, hb⟩)
  go_ret2
  exact ⟨rfl, hb⟩
set_option maxRecDepth 100000 in
set_option maxHeartbeats 2000000 in
theorem lay_yes (A : Option Addr) (ls : List PieceT) (k c id : Nat) (hid : id < 4294967296) (hl : ls.length = k) (hs : SmallC ls) (w : World) (hr : RdPc w w.heap.size A ls) (hR : refC (pds ls) = 0) :
    Calls Try.prog 11 #[.int .u32 id, .slice A k c] w fun e w' => ∃ A' c', e = .returned (.tuple #[.slice A' (sizeC (pds ls)) c', .int .i64 0]) ∧ Own w' w.heap.size A' c' (sizeC (pds ls)) (layC id (pds ls)) ∧ Below w.heap.size w w' := by
  obtain ⟨i0, hi, hz0, hz1, hz2⟩ := info_parts info_u8
  have HI := Lib.hid (And.intro hi (And.intro hz0 (And.intro hz1 hz2)))
  obtain ⟨q1, q2, q3, _⟩ := refC_zero hR
  have HRF := Lib.hid (fault_any A ls k c hl hs w hr)
  rw [hR] at HRF
  obtain ⟨ps, hps⟩ : ∃ ps, pds ls = ps := ⟨_, rfl⟩
  have hpl : ps.length = k := by rw [← hps, pds_length, hl]
  have hk : k ≤ 1000 := by rw [pds_length, hl] at q2; exact q2
  have hok : ∀ p ∈ ps, p.Ok := hps ▸ pds_ok hr
  have HPS := Lib.hid (show ∀ (j : Nat) (hj : j < ls.length) (hj2 : j < ps.length), ps[j] = ls[j].p from fun j hj hj2 => by subst hps; exact pds_get hj)
  have HQ1 := Lib.hid (show ∀ (j : Nat) (hj : j < ls.length), ls[j].p.data.length ≤ 4096 from fun j hj => (q1 _ (List.mem_map.2 ⟨_, List.getElem_mem hj, rfl⟩)).2)
  have HSZ := Lib.hid (fun W (hb : Below w.heap.size w W) => size_any A ls k c hl hs W ((hr.below hb).more hb.size))
  obtain ⟨Z, hZ⟩ : ∃ Z, sizeC ps = Z := ⟨_, rfl⟩
  have hZ2 : Z ≤ 65536 := by rw [← hZ, ← hps]; exact q3
  rw [hps] at HSZ
  rw [hZ] at HSZ
  have HZZ := Lib.hid hZ
  have HOK := Lib.hid hok
  have HPL := Lib.hid hpl
  have HL := Lib.hid hl
  have HR := Lib.hid hr
  have HH := Lib.hid (fun W => head_any id k hid (by omega) W)
  have hmk := fun W => run_make (P := Try.prog) W 26 5 i0 (.int .u8 0) Try.underlying26 hi hz0 .i64 .i64 (0 : Int) (Z : Int) (by omega) (by omega) (by rw [hz2]; omega) (by omega)
  simp only [hz1, Nat.mul_one] at hmk
  obtain ⟨iz, hiz, hzz, _⟩ := info_parts info_piece
  have HZ := Lib.hid (And.intro hiz hzz)
  obtain ⟨fs, hfs⟩ := pc_desc
  have HF := Lib.hid hfs
  rw [hps, hZ]
  clear hi hz0 hz1 hz2 hl hs hr hR q1 q2 q3 hps hpl hok hZ hiz hzz hfs
  go_enter Try.func11, Try.ntmps11
  go_wp2_with (go_at_call 22; refine HRF.out.mono ?_; rintro e w1 ⟨rfl, hb⟩; have HB1 := Lib.hid hb; clear hb)
  refine (HSZ.out _ HB1.out).mono ?_
  rintro e w2 ⟨rfl, hb⟩
  have HB2 := Lib.hid (HB1.out.trans (hb.mono HB1.out.size))
  clear hb HB1 HRF HSZ
  go_upto_region 5 with fail
  obtain ⟨d, hd⟩ : ∃ d, w2.heap.size = d := ⟨_, rfl⟩
  obtain ⟨w3, hw3⟩ : ∃ w3, w2.alloc (.cells (madeCells #[.int .u8 0] Z) 5) = w3 := ⟨_, rfl⟩
  have H3 := Lib.hid (show Rw w w3 (some ⟨d, 0, none⟩) Z 0 [] from by
    subst hd hw3
    exact ⟨ownsRow_base (own_made w2 Z (by unfold maxLen; omega)) HB2.out.size, HB2.out.alloc HB2.out.size _⟩)
  rw [hd, hw3]
  clear hd hw3 hmk HB2
  go_wp2_with fail
  refine (HH.out w3).mono ?_
  rintro e w4 ⟨A4, k4, rfl, ho, hb⟩
  have H4 := Lib.hid (H3.out.on hb)
  have HR4 := Lib.hid ho.rd
  clear ho hb HH H3
  have l6 : (be 4 id ++ be 2 k).length = 6 := by rw [List.length_append, be_length, be_length]
  have HL6 := Lib.hid l6
  clear l6
  go_wp2_with (at_builtin; refine wpList_append_more _ rfl (.tmp 20) (.tmp 24) 26 rfl w.heap.size 5 i0 Try.underlying26 HI.out.1 HI.out.2.1 HI.out.2.2.1 HI.out.2.2.2 (.slice (some ⟨d, 0, none⟩) 0 Z) 0 (bv []) rfl H4.out.1 _ A4 k4 6 (be 4 id ++ be 2 k) rfl HL6.out HR4.out ?_ ?_ ?_)
  case _ => rw [HL6.out]; omega
  case _ => exact H4.out.2.size
  intro A5 k5 w5 ho hg
  have H5 := Lib.hid (show Rw w w5 A5 k5 6 (headC id ps 0) from by
    have := H4.out.app (b := be 4 id ++ be 2 k) ho hg
    rw [headC_zero, HPL.out]
    simpa using this)
  clear ho hg HR4 H4 HL6
  go_wp2_with fail
  go_loopw [7, 28] (fun v i wr => ∃ (j n : Nat) (X : Option Addr) (z : Nat), j ≤ k ∧ i = .int .i64 j ∧ v = .slice X n z ∧ n ≤ 40000 ∧ Hid (n = 6 + 38 * j) ∧ Hid (Rw w wr X z n (headC id ps j))) (fun _ i _ => k - (intOf i).toNat)
  case atStart => exact ⟨0, 6, A5, k5, Nat.zero_le _, rfl, rfl, by omega, Lib.hid rfl, H5⟩
  case round =>
    clear H5
    obtain ⟨j, n, X, z, hj, rfl, rfl, hn, HN, HW⟩ := hrel
    by_cases hlt : j < k
    · have hjl : j < ls.length := by rw [HL.out]; exact hlt
      have hjp : j < ps.length := by rw [HPL.out]; exact hlt
      have hps := HPS.out j hjl hjp
      have hst := headC_step (id := id) hjp
      rw [hps] at hst
      have HST := Lib.hid (show headC id ps (j + 1) = headC id ps j ++ rowC ls[j].p by rw [hst]; simp [rowC])
      obtain ⟨g, off, rfl, hg, hra, ho⟩ := (HR.out.below HW.out.2).at_ hjl
      have HRA := Lib.hid hra
      have HPV := Lib.hid (pv_of ho.ok)
      have HRW := Lib.hid (fun W => row_any ls[j] ho.ok (by have := HQ1.out j hjl; omega) W)
      have HRO := Lib.hid (rowC_length ho.ok)
      generalize (ls[j]'hjl) = x at *
      have HNB := Lib.hid (Blk.new wr 42 pz)
      have HXB := Lib.hid (Blk.new wr 42 (pcs x).toArray)
      have H6 := Lib.hid (HW.out.on ((Below.refl wr.heap.size wr).alloc (Nat.le_refl _) (.cells (pcs x).toArray 42)))
      have hi1 : (0 : Int) ≤ (j : Int) := by omega
      have hi2 : (j : Int) < (k : Int) := by omega
      clear hra ho hg hst hps hjp
      go_wp2_with (first
        | (refine wpList_load_mid rfl 42 (.tmp 30) rfl g (off + j * 34) rfl (pcs x) (.struct fs) HRA.out HF.out rfl HPV.out.ks ?_)
        | (refine wpList_alloc_z rfl 42 rfl iz _ HZ.out.1 HZ.out.2 ?_)
        | (refine wpList_store_row rfl 42 (.tmp 9) (.tmp 31) rfl wr.heap.size (pcs x).toArray rfl rfl 42 pz HNB.out HPV.out.ks2 HPV.out.old HPV.out.one ?_; rw [setRow_alloc])
        | (refine wpList_load_row rfl 42 (.tmp 9) rfl wr.heap.size rfl 42 (pcs x).toArray (0, 0) (.struct fs) HXB.out HF.out rfl HPV.out.ks2 ?_))
      refine (HRW.out _).mono ?_
      rintro e w6 ⟨A6, k6, rfl, ho, hb⟩
      have H7 := Lib.hid (H6.out.on hb)
      have HR7 := Lib.hid ho.rd
      clear ho hb HRW H6 HXB HNB
      go_wp2_with (at_builtin; refine wpList_append_more _ rfl (.tmp 32) (.tmp 34) 26 rfl w.heap.size 5 i0 Try.underlying26 HI.out.1 HI.out.2.1 HI.out.2.2.1 HI.out.2.2.2 (.slice X n z) n (bv (headC id ps j)) rfl H7.out.1 _ A6 k6 38 (rowC x.p) rfl HRO.out HR7.out ?_ ?_ ?_)
      case _ => rw [HRO.out]; omega
      case _ => exact H7.out.2.size
      intro A8 k8 w8 ho hg
      have H8 := Lib.hid (H7.out.app (b := rowC x.p) ho hg)
      rw [← HST.out] at H8
      clear ho hg HR7 H7
      go_wp2_with fail
      go_roundw
      case rel => exact ⟨j + 1, n + 38, A8, k8, by omega, by go_num, rfl, by have := HN.out; omega, Lib.hid (by have := HN.out; omega), H8⟩
      case measure => simp [intOf]; omega
    · obtain rfl : j = k := by omega
      have HW2 := Lib.hid (show Rw w wr X z n (tailC id ps 0) by rw [← headC_end, HPL.out]; exact HW.out)
      clear HW
      have HNN := Lib.hid (show n = (tailC id ps 0).length by have := HW2.out.1.1; rw [bv_length] at this; omega)
      go_wp2_with fail
      go_loopw [7, 39] (fun v i wq => ∃ (p m : Nat) (Y : Option Addr) (y : Nat), p ≤ j ∧ i = .int .i64 p ∧ v = .slice Y m y ∧ m ≤ 65536 ∧ Hid (m = (tailC id ps p).length) ∧ Hid (Rw w wq Y y m (tailC id ps p))) (fun _ i _ => j - (intOf i).toNat)
      case atStart => exact ⟨0, n, X, z, Nat.zero_le _, rfl, rfl, by omega, HNN, HW2⟩
      case round =>
        clear HNN HW2
        obtain ⟨p, m, Y, y, hp, rfl, rfl, hm, HM, HV⟩ := hrel
        by_cases hlp : p < j
        · have hpl : p < ls.length := by rw [HL.out]; exact hlp
          have hpp : p < ps.length := by rw [HPL.out]; exact hlp
          have hps := HPS.out p hpl hpp
          have hst := tailC_step (id := id) hpp
          rw [hps] at hst
          have HST := Lib.hid hst
          obtain ⟨g, off, rfl, hg, hra, ho⟩ := (HR.out.below HV.out.2).at_ hpl
          have HRA := Lib.hid hra
          have HPV := Lib.hid (pv_of ho.ok)
          have hbd : m + ls[p].p.data.length ≤ 65536 := by
            have h1 := tailC_length (id := id) (p + 1) HOK.out
            rw [HST.out, List.length_append, ← HM.out] at h1
            have := HZZ.out
            omega
          have HNX := Lib.hid (show m + ls[p].p.data.length = (tailC id ps (p + 1)).length by rw [HST.out, List.length_append, ← HM.out])
          have hcd := pv_data ho.ok wr
          have HRD := Lib.hid (((ho.rd.more HV.out.2.size).below ((Below.refl wr.heap.size wr).alloc (Nat.le_refl _) (.cells (pcs ls[p]).toArray 42))))
          have hd4 := HQ1.out p hpl
          generalize (ls[p]'hpl) = x at *
          have HNB := Lib.hid (Blk.new wr 42 pz)
          have H6 := Lib.hid (HV.out.on ((Below.refl wr.heap.size wr).alloc (Nat.le_refl _) (.cells (pcs x).toArray 42)))
          obtain ⟨dd, hdd⟩ : ∃ dd, x.p.data.length = dd := ⟨_, rfl⟩
          obtain ⟨B, hB⟩ : ∃ B, x.adr = B := ⟨_, rfl⟩
          obtain ⟨C, hC⟩ : ∃ C, x.cap = C := ⟨_, rfl⟩
          rw [hdd] at hcd hbd HNX hd4
          rw [hB, hC] at hcd
          rw [hB] at HRD
          have HDD := Lib.hid hdd
          have hi1 : (0 : Int) ≤ (p : Int) := by omega
          have hi2 : (p : Int) < (j : Int) := by omega
          clear hra ho hg hst hps hpp hdd hB hC HM
          go_wp2_with (first
            | (refine wpList_load_mid rfl 42 (.tmp 41) rfl g (off + p * 34) rfl (pcs x) (.struct fs) HRA.out HF.out rfl HPV.out.ks ?_)
            | (refine wpList_alloc_z rfl 42 rfl iz _ HZ.out.1 HZ.out.2 ?_)
            | (refine wpList_store_row rfl 42 (.tmp 11) (.tmp 42) rfl wr.heap.size (pcs x).toArray rfl rfl 42 pz HNB.out HPV.out.ks2 HPV.out.old HPV.out.one ?_; rw [setRow_alloc])
            | (at_builtin; refine wpList_append_more _ rfl (.tmp 43) (.tmp 45) 26 rfl w.heap.size 5 i0 Try.underlying26 HI.out.1 HI.out.2.1 HI.out.2.2.1 HI.out.2.2.2 (.slice Y m y) m (bv (tailC id ps p)) rfl H6.out.1 _ B C dd x.p.data rfl HDD.out HRD.out ?_ ?_ ?_))
          case _ => rw [HDD.out]; omega
          case _ => exact H6.out.2.size
          intro A8 k8 w8 ho hg
          have H8 := Lib.hid (H6.out.app (b := x.p.data) ho hg)
          rw [← HST.out] at H8
          clear ho hg HRD H6 HV hcd
          go_wp2_with fail
          go_roundw
          case rel => exact ⟨p + 1, m + dd, A8, k8, by omega, by go_num, rfl, hbd, HNX, H8⟩
          case measure => simp [intOf]; omega
        · obtain rfl : p = j := by omega
          have HV2 := Lib.hid (show Rw w wr Y y m (bodyC id ps) by rw [← tailC_end, HPL.out]; exact HV.out)
          have HLN := Lib.hid (show (bodyC id ps).length = m ∧ m + 4 = Z by
            have h1 : (bodyC id ps).length = m := by rw [HM.out, ← HPL.out, tailC_end]
            exact ⟨h1, by rw [← h1, ← HZZ.out]; exact bodyC_length HOK.out⟩)
          have HSL := Lib.hid (seal_any Y (bodyC id ps) y m wr HLN.out.1 (Rd.of_own HV2.out.1) (by rw [HLN.out.1]; omega))
          clear HV HM
          go_wp2_with fail
          refine HSL.out.mono ?_
          rintro e w9 ⟨A9, k9, rfl, ho, hb⟩
          have HX := Lib.hid (And.intro ho hb)
          clear ho hb
          go_wp2_with fail
          go_ret2
          refine ⟨A9, k9, by rw [← HLN.out.2]; rfl, ?_, HV2.out.2.trans (HX.out.2.mono HV2.out.2.size)⟩
          rw [← HLN.out.2]
          exact HX.out.1.base HV2.out.2.size
end Go.Proofs.Ytoiiiccichkgpaa
/- Plain mathematics for package cont: bytes that are just as many as their table says are laid again from their pieces. No statement of the seat is proved here; nothing of the program is imported. -/
namespace Go.Proofs.Ytoiiiccichkgpaa
open Go.RowKit
set_option linter.unusedVariables false

theorem be_val_n {l : List UInt8} {n : Nat} (h : l.length = n) : be n (val l) = l := by subst h; exact be_val l
theorem row_of {y : List UInt8} (h : 38 ≤ y.length) {m : Nat} (hm : m = val ((y.drop 36).take 2)) : y.take 32 ++ be 4 (val ((y.drop 32).take 4)) ++ be 2 m = y.take 38 := by
  subst hm
  rw [be_val_n (n := 4) (by rw [List.length_take, List.length_drop]; omega), be_val_n (n := 2) (by rw [List.length_take, List.length_drop]; omega)]
  have h1 : y.take 38 = y.take 36 ++ (y.drop 36).take 2 := by rw [← List.take_add]
  have h2 : y.take 36 = y.take 32 ++ (y.drop 32).take 4 := by rw [← List.take_add]
  rw [h1, h2]
theorem lay_pieces : ∀ (n : Nat) (y z : List UInt8), 38 * n ≤ y.length → ((rowsOf n y).map (·.2)).sum ≤ z.length →
    rowsC (piecesOf (rowsOf n y) z) = y.take (38 * n) ∧ datasC (piecesOf (rowsOf n y) z) = z.take ((rowsOf n y).map (·.2)).sum
  | 0, y, z, _, _ => by simp [rowsOf, piecesOf, rowsC, datasC]
  | n + 1, y, z, h1, h2 => by
    rw [rowsOf, List.map_cons, List.sum_cons] at h2
    simp only at h2
    obtain ⟨m, hm⟩ : ∃ m, val ((y.drop 36).take 2) = m := ⟨_, rfl⟩
    rw [hm] at h2
    obtain ⟨i1, i2⟩ := lay_pieces n (y.drop 38) (z.drop m) (by rw [List.length_drop]; omega) (by rw [List.length_drop]; omega)
    rw [rowsOf, List.map_cons, List.sum_cons]
    simp only [hm]
    rw [piecesOf]
    constructor
    · show rowC _ ++ rowsC _ = _
      rw [i1]
      have : rowC ⟨y.take 32, val ((y.drop 32).take 4), z.take m⟩ = y.take 38 := by
        show y.take 32 ++ be 4 _ ++ be 2 (z.take m).length = _
        exact row_of (by omega) (by rw [List.length_take, hm]; omega)
      rw [this, show 38 * (n + 1) = 38 + 38 * n by omega, List.take_add]
    · show z.take m ++ datasC _ = _
      rw [i2, List.take_add]
theorem body_fit {x : List UInt8} (h : Fit x) : bodyC (idC x) (listC x) = x := by
  have hl : 6 + 38 * manyC x ≤ x.length := by unfold Fit at h; omega
  have hs : ((tableC x).map (·.2)).sum = sumT (tableC x) (manyC x) := by
    unfold sumT
    rw [List.take_of_length_le (by rw [tableC_length]; exact Nat.le_refl _)]
  obtain ⟨r1, r2⟩ := lay_pieces (manyC x) (x.drop 6) (x.drop (6 + 38 * manyC x)) (by rw [List.length_drop]; omega) (by
    show ((tableC x).map (·.2)).sum ≤ _
    rw [hs, List.length_drop]; unfold Fit at h; omega)
  have hlen : (listC x).length = manyC x := by rw [listC_eq, piecesOf_length, tableC_length]
  have hr2 : datasC (listC x) = x.drop (6 + 38 * manyC x) := by
    have : datasC (listC x) = (x.drop (6 + 38 * manyC x)).take ((tableC x).map (·.2)).sum := r2
    rw [this, hs, List.take_of_length_le (by rw [List.length_drop]; unfold Fit at h; omega)]
  have hr1 : rowsC (listC x) = (x.drop 6).take (38 * manyC x) := r1
  unfold bodyC
  rw [hlen, hr1, hr2]
  unfold idC
  have e2 : be 2 (manyC x) = (x.drop 4).take 2 := be_val_n (by rw [List.length_take, List.length_drop]; omega)
  rw [be_val_n (n := 4) (by rw [List.length_take]; omega), e2, ← List.take_add, List.append_assoc, ← List.drop_drop, List.take_append_drop, show 4 + 2 = 6 by rfl, List.take_append_drop]
/-- What is taken of sealed bytes. -/
theorem take_fit {b : List UInt8} {n : Nat} (hl : b.length = n + 4) (hb : b = sealB (b.take n)) (hf : Fit (b.take n)) : takeC b = if refC (listC (b.take n)) = 0 then (idC (b.take n), listC (b.take n), 0) else (0, [], 110) := by
  have e : layC (idC (b.take n)) (listC (b.take n)) = b := by rw [lay_seal, body_fit hf, ← hb]
  unfold takeC
  rw [show b.length - 4 = n by omega]
  simp only [e, and_true]
theorem take_unfit' {b : List UInt8} {n : Nat} (hl : b.length = n + 4) (h : ¬ Fit (b.take n)) : takeC b = (0, [], 110) := take_unfit (by rwa [show b.length - 4 = n by omega])
/-- The table's rows are proper ones. -/
theorem rowsOf_get : ∀ (n : Nat) (y : List UInt8) (i : Nat) (h : i < n), (rowsOf n y)[i]'(by rw [rowsOf_length]; exact h) = rowAt (y.drop (38 * i))
  | n + 1, y, 0, _ => rfl
  | n + 1, y, i + 1, h => by
    have := rowsOf_get n (y.drop 38) i (by omega)
    rw [List.drop_drop] at this
    simp only [rowsOf, List.getElem_cons_succ]
    rw [this, show 38 + 38 * i = 38 * (i + 1) by omega]
theorem row_ok {y : List UInt8} (h : 32 ≤ y.length) : (rowAt y).1.1.length = 32 ∧ (rowAt y).1.2 < 4294967296 ∧ (rowAt y).2 < 65536 :=
  ⟨by simp only [rowAt, List.length_take]; omega, Nat.lt_of_lt_of_le (val_lt _) (show 256 ^ ((y.drop 32).take 4).length ≤ 256 ^ 4 from Nat.pow_le_pow_right (by omega) (by rw [List.length_take]; omega)), Nat.lt_of_lt_of_le (val_lt _) (show 256 ^ ((y.drop 36).take 2).length ≤ 256 ^ 2 from Nat.pow_le_pow_right (by omega) (by rw [List.length_take]; omega))⟩
end Go.Proofs.Ytoiiiccichkgpaa
/- What the landed package cont does: split, entry. No statement of the seat is proved here. -/
namespace Go.Proofs.Ytoiiiccichkgpaa
open Go.RowKit
set_option linter.unusedVariables false
set_option linter.unusedSimpArgs false

theorem split_no (A : Option Addr) (n c m : Nat) (h : n < m) (w : World) : Calls Try.prog 46 #[.slice A n c, .int .i64 m] w fun e w' => e = .returned (.tuple #[.slice none 0 0, .slice none 0 0, .bool false]) ∧ w = w' := by
  have h1 : (n : Int) < (m : Int) := by omega
  go_enter Try.func46, Try.ntmps46
  go_wp2_with fail
  go_ret3
  exact ⟨rfl, rfl⟩
set_option maxHeartbeats 1000000 in
theorem split_yes (g o n c m : Nat) (h : m ≤ n) (hc : n ≤ c) (hm : c ≤ maxLen) (w : World) : Calls Try.prog 46 #[.slice (some ⟨g, o, none⟩) n c, .int .i64 m] w fun e w' =>
    ∃ o', e = .returned (.tuple #[.slice (some ⟨g, o, none⟩) m m, .slice (some ⟨g, o', none⟩) (n - m : Nat) (c - m : Nat), .bool true]) ∧ (c ≠ m → o' = o + m) ∧ Below w.heap.size w w' := by
  have h1 : ¬ (n : Int) < (m : Int) := by omega
  have h2 : (m : Int) ≤ (n : Int) := by omega
  have h3 : (m : Int) ≤ (c : Int) := by omega
  have h4 : (n : Int) ≤ (c : Int) := by omega
  have hm' : (c : Int) ≤ 9223372036854775807 := by unfold maxLen at hm; omega
  clear hm
  by_cases e : c = m
  · go_enter Try.func46, Try.ntmps46
    go_wp2_with fail
    go_quiet (fail)
    go_wp2_with fail
    go_ret3
    exact ⟨o, by rw [show c - m = 0 by omega]; rfl, fun h => absurd e h, below_drewN (Below.refl _ _) _⟩
  · go_enter Try.func46, Try.ntmps46
    go_wp2_with fail
    go_quiet (fail)
    go_wp2_with fail
    go_ret3
    exact ⟨o + m, rfl, fun _ => rfl, below_drewN (Below.refl _ _) _⟩
theorem res_row_tmp {P : Program} {fn : Func} {p u : Tmp} {ty : TypeId} (h : fn.results = #[.cell p ty, .tmp u]) (tmps : Array Value) (w : World) (g : Nat) (t : TypeId) (cs : Array Value) (fr : Nat × Nat) (d : TypeDesc)
    (hp : tmps.getD p undef = .pointer (some ⟨g, 0, none⟩)) (hg : w.heap[g]? = some (.cells cs t fr))
    (hu : P.underlying ty = some d) (hd : (match d with | .struct _ | .array _ _ => true | _ => false) = true) (hi : (P.info? ty).map (·.size) = some cs.size) (x : Value) (hx : tmps.getD u undef = x) :
    (results fn tmps).run P w = .ok (.tuple #[.agg cs, x]) w := by
  rw [results_cell_tmp h, hp, hx]
  simp [asAddr, Result.andThen, run_loadVar_row w g t ty cs fr d hg hu hd hi]
theorem yields_build {P : Program} {ops : Array Oper} {S : World → Prop} {op : Oper} {a : Act} (hw : Region.wanted op (yielded ops a.tmps) = true) (t : TypeId) (parts : Array (Nat × Operand)) (ho : op.op = .build t parts)
    (cells : Array Value) (hc : P.built t (parts.map fun (i, x) => (i, a.eval x)).toList = some cells) : YieldsIf P ops S op (.agg cells) a :=
  .inl ⟨hw, fun w hw' => by
    unfold execOp
    simp only [ho, Sem.run_bind, run_build w t _ cells hc, Result.andThen_ok, Sem.run_pure]⟩
theorem built_two {P : Program} {t : TypeId} {it : TypeInfo} {fields : Array Field} {z : Value} {places : List (Nat × Nat)} {v1 v2 : Value} {n1 o2 n2 : Nat} (r1 : Array Value) (hi : P.info? t = some it) (hu : P.underlying t = some (.struct fields)) (hz : it.zero = some z)
    (hp : fields.toList.mapM (fun f => (P.info? f.type).map fun i => (f.offset, i.size)) = some places) (h0 : places.toArray[0]? = some (0, n1)) (h1 : places.toArray[1]? = some (o2, n2)) (hv1 : v1.cells.size = n1) (hv2 : v2.cells.size = n2) (hn1 : n1 ≤ z.cells.size)
    (hr : v1.cells.zipIdx.foldl (fun cs (c, j) => cs.setIfInBounds (0 + j) c) z.cells = r1) (hn2 : o2 + n2 ≤ r1.size) :
    P.built t [(0, v1), (1, v2)] = some (v2.cells.zipIdx.foldl (fun cs (c, j) => cs.setIfInBounds (o2 + j) c) r1) := by
  unfold Program.built
  rw [hi, hu]
  simp only [hz, hp]
  unfold Instr.fill
  rw [h0]
  simp only [hv1]
  rw [if_neg (by simp; omega)]
  have hr' : v1.cells.zipIdx.foldl (fun cs (x : Value × Nat) => cs.setIfInBounds (0 + x.2) x.1) z.cells = r1 := hr
  unfold Instr.fill
  rw [h1]
  simp only [hv2]
  rw [hr', if_neg (by simp; omega)]
  rfl
theorem key_fold {s : List UInt8} (hs : s.length = 32) : ((bv s).toArray.zipIdx.foldl (fun cs (c, j) => cs.setIfInBounds (0 + j) c) (kz 0)) = (kcs (s, 0)).toArray := by
  have := fold_head (bv s) [] (bv (List.replicate 32 0)) [.int .u32 0] (by rw [bv_length, bv_length, hs, List.length_replicate])
  rw [← Array.foldl_toList, Array.toList_zipIdx]
  exact this
theorem built_key2 {s : List UInt8} {n : Nat} (hs : s.length = 32) : Try.prog.built 40 [(0, .agg (bv s).toArray), (1, .int .u32 n)] = some (kcs (s, n)).toArray := by
  obtain ⟨i0, hi, hz0, hz1, hz2⟩ := info_parts info_key
  have hu := Try.underlying40
  have hp : ∃ fields, Try.prog.underlying 40 = some (.struct fields) ∧ fields.toList.mapM (fun f => (Try.prog.info? f.type).map fun i => (f.offset, i.size)) = some [(0, 32), (32, 1)] := ⟨_, hu, by kernel_rfl⟩
  obtain ⟨fields, hf, hm⟩ := hp
  rw [built_two (v1 := .agg (bv s).toArray) (v2 := .int .u32 n) (n1 := 32) (o2 := 32) (n2 := 1) (kcs (s, 0)).toArray hi hf hz0 hm rfl rfl (by show (bv s).toArray.size = 32; simp [bv_length, hs]) rfl (by show 32 ≤ (kz 0).size; decide) (key_fold hs) (by simp [kcs, bv_length, hs])]
  congr 1
  show (kcs (s, 0)).toArray.setIfInBounds (32 + 0) (.int .u32 n) = _
  rw [List.setIfInBounds_toArray]
  congr 1
  show (bv s ++ [Value.int .u32 (0 : Nat)]).set 32 _ = bv s ++ [Value.int .u32 n]
  rw [List.set_append_right _ _ (by rw [bv_length, hs]; exact Nat.le_refl _), bv_length, hs]
  rfl
theorem built_piece2 {k : KeyT} (hk : k.Ok) (a : Option Addr) (c : Nat) (d : List UInt8) {n : Nat} (hn : d.length = n) : Try.prog.built 42 [(0, .agg (kcs k).toArray), (1, .slice a n c)] = some (pcs ⟨a, c, ⟨k.1, k.2, d⟩⟩).toArray := by
  subst hn
  obtain ⟨i0, hi, hz0, hz1, hz2⟩ := info_parts info_piece
  obtain ⟨fields, hf, hm⟩ := piece_places
  have hfold : ((kcs k).toArray.zipIdx.foldl (fun cs (c, j) => cs.setIfInBounds (0 + j) c) pz) = (pcs (PieceT.bare k)).toArray := by
    have := fold_head (kcs k) [] (bv (List.replicate 32 0) ++ [.int .u32 0]) [.slice none 0 0] (by rw [kcs_length hk]; rfl)
    rw [← Array.foldl_toList, Array.toList_zipIdx]
    exact this
  rw [built_two (v1 := .agg (kcs k).toArray) (v2 := .slice a d.length c) (n1 := 33) (o2 := 33) (n2 := 1) (pcs (PieceT.bare k)).toArray hi hf hz0 hm rfl rfl (by show (kcs k).toArray.size = 33; simp [kcs_length hk]) rfl (by show 33 ≤ pz.size; decide) hfold (by rw [List.size_toArray, pcs_length (bare_ok hk)]; decide)]
  congr 1
  show (pcs (PieceT.bare k)).toArray.setIfInBounds (33 + 0) (.slice a d.length c) = _
  rw [List.setIfInBounds_toArray]
  congr 1
  exact (pcs_with (bare_ok hk) a c d).symm
theorem sum_at (A : Option Addr) (c : Nat) (w : World) : (Instr.arrayAt 38 (.slice A 32 c)).run Try.prog w = .ok (.pointer A) w := by
  unfold Instr.arrayAt
  simp [run_underlying Try.underlying38]
theorem sum_desc : ∃ n e, Try.prog.underlying 38 = some (.array n e) := ⟨_, _, Try.underlying38⟩
theorem sum_size : (Try.prog.info? 38).map (·.size) = some 32 := by kernel_rfl
theorem below_set {w W : World} {d : Nat} {cs : Array Value} (h : Below w.heap.size w W) (hd : w.heap.size ≤ d) : Below w.heap.size w (W.setRow d cs) :=
  h.grown (row := some d) ⟨rfl, rfl, rfl, by simp [World.setRow], fun k hk hn => setRow_other _ _ _ _ fun e => hn (by rw [e])⟩ h.size fun k hk => by injection hk with hk; omega
/-- What the two Gets behind the Sum give. -/
theorem gets_row {y : List UInt8} (hl : y.length = 38) : ∃ (V1 : Nat) (L1 : List UInt8) (F1 : Int) (V2 : Nat) (L2 : List UInt8) (F2 : Int), (getV (y.drop 32) 0 4 = V1 ∧ getL (y.drop 32) 0 4 = L1 ∧ getF (y.drop 32) 0 4 = F1) ∧ (getV L1 F1 2 = V2 ∧ getL L1 F1 2 = L2 ∧ getF L1 F1 2 = F2) ∧
    V1 < 4294967296 ∧ V2 < 65536 ∧ rowAt y = ((y.take 32, V1), V2) := by
  have h6 : (y.drop 32).length = 6 := by rw [List.length_drop, hl]
  have h2 : ((y.drop 32).drop 4).length = 2 := by rw [List.length_drop, h6]
  have e1 : getV (y.drop 32) 0 4 = val ((y.drop 32).take 4) := by rw [getV, if_pos (by omega)]; rfl
  have e2 : getL (y.drop 32) 0 4 = (y.drop 32).drop 4 := by rw [getL, if_pos (by omega)]; rfl
  have e3 : getF (y.drop 32) 0 4 = 0 := by rw [getF, if_pos rfl, if_neg (by omega), if_neg (by omega)]
  have e4 : getV ((y.drop 32).drop 4) 0 2 = val (((y.drop 32).drop 4).take 2) := by rw [getV, if_pos (by omega)]; rfl
  refine ⟨_, _, _, _, _, _, ⟨e1, e2, e3⟩, ⟨e4, rfl, rfl⟩, ?_, ?_, ?_⟩
  · exact (row_ok (y := y) (by omega)).2.1
  · have := (row_ok (y := y) (by omega)).2.2
    rw [List.drop_drop]
    exact this
  · rw [List.drop_drop]; rfl
set_option maxRecDepth 100000 in
set_option maxHeartbeats 1000000 in
theorem entry_any (ga off c : Nat) (y : List UInt8) (hl : y.length = 38) (hc : 38 ≤ c) (hm : c ≤ maxLen) (w : World) (hr : Rd w w.heap.size (some ⟨ga, off, none⟩) y) : Calls Try.prog 47 #[.slice (some ⟨ga, off, none⟩) 38 c] w fun e w' =>
    e = .returned (.tuple #[.agg (kcs (rowAt y).1).toArray, .int .i64 (rowAt y).2]) ∧ Below w.heap.size w w' := by
  have hm' : (c : Int) ≤ 9223372036854775807 := by unfold maxLen at hm; omega
  have h38 : (38 : Int) ≤ (c : Int) := by omega
  have hne : ¬ c = 32 := by omega
  have h32 : ¬ (c : Int) < 32 := by omega
  obtain ⟨d, hd⟩ : ∃ d, w.heap.size = d := ⟨_, rfl⟩
  obtain ⟨w1, hw1⟩ : ∃ w1, w.alloc (.cells (kz 0) 40) = w1 := ⟨_, rfl⟩
  have hb1 : Below w.heap.size w w1 := hw1 ▸ (Below.refl _ _).alloc (Nat.le_refl _) _
  have hB : Blk w1 d 40 (kz 0) := by rw [← hw1, ← hd]; exact Blk.new w _ _
  obtain ⟨iz, hiz, hzz, _⟩ := info_parts info_key
  have HZ := Lib.hid (And.intro hiz hzz)
  have hd32 : Rd w w.heap.size (some ⟨ga, off + 32, none⟩) (y.drop 32) := by
    have := hr.drop (k := 32) (c := c) (by omega)
    rw [if_neg (by omega)] at this
    simpa [Addr.add_lit] using this
  have HN := Lib.hid (new_sl (some ⟨ga, off + 32, none⟩) (y.drop 32) (c - 32) 6 w1 (by rw [List.length_drop, hl]) ((hd32.below hb1).more hb1.size) (by rw [List.length_drop, hl]; decide))
  have HW := Lib.hid (And.intro hw1 (And.intro hd hb1))
  obtain ⟨V1, L1, F1, V2, L2, F2, G1, G2, hV1, hV2, hrow⟩ := gets_row hl
  rw [hrow]
  have HG2 := Lib.hid (fun g0 W (h : Rdr W g0 L1 F1) => get_lit g0 L1 F1 2 V2 L2 F2 W h G2.1 G2.2.1 G2.2.2)
  have ht : (y.take 32).length = 32 := by rw [List.length_take]; omega
  have HBK := Lib.hid (built_key2 (s := y.take 32) (n := V1) ht)
  have HKO1 := Lib.hid (show KeyT.Ok (y.take 32, V1) from ⟨ht, hV1⟩)
  have SX := Lib.hid (show ∀ W, Below w.heap.size w W → W.rangeAt ga off (bv (y.take 32)) from fun W hW => by
    obtain ⟨g2, off2, e2, hg2, hc2⟩ := (hr.take 32) (by omega)
    injection e2 with e2
    injection e2 with e3 e4 _
    subst e3 e4
    intro j v hv
    have hj : j < (y.take 32).length := by have := (List.getElem?_eq_some_iff.1 hv).1; rwa [bv_length] at this
    rw [hW.cell (p := ⟨ga, off + j, none⟩) hg2, hc2 j hj, ← hv, bv_get hj])
  have hSB : (Try.prog.info? 38).map (·.size) = some (bv (y.take 32)).length := by rw [bv_length, ht]; exact sum_size
  obtain ⟨sn, se, hsd⟩ := sum_desc
  have HSB := Lib.hid (And.intro hSB hsd)
  obtain ⟨M, hM⟩ : ∃ M, bv (y.take 32) = M := ⟨_, rfl⟩
  obtain ⟨KC, hKC⟩ : ∃ KC, kcs (y.take 32, V1) = KC := ⟨_, rfl⟩
  rw [hM] at SX HBK HSB
  rw [hKC] at HBK ⊢
  have HKS := Lib.hid (show (Try.prog.info? 40).map (·.size) = some KC.toArray.size by rw [List.size_toArray, ← hKC, kcs_length HKO1.out]; exact key_size)
  have HKO := Lib.hid (show (kz 0).size = KC.toArray.size from (show (kz 0).size = 33 from rfl).trans (by rw [List.size_toArray, ← hKC, kcs_length HKO1.out]))
  have HK1 := Lib.hid (show KC.toArray.all (·.oneCell') = true by rw [← hKC]; exact kcs_one)
  have cV1 : IntKind.u32.wrap (V1 : Int) = (V1 : Int) := by rw [IntKind.wrap_u32']; omega
  have cV2 : IntKind.i64.wrap (V2 : Int) = (V2 : Int) := by rw [IntKind.wrap_i64]; omega
  clear hiz hzz hd32 hw1 hb1 hm hrow ht hSB hsd hM hKC G2
  go_enter Try.func47, Try.ntmps47
  go_upto_region 1 with (refine wpList_alloc_z rfl 40 rfl iz _ HZ.out.1 HZ.out.2 ?_)
  rw [HW.out.1]
  clear hd
  go_wp2_with fail
  refine HN.out.mono ?_
  rintro e w2 ⟨g, rfl, hg, hr2, hb2⟩
  have HB := Lib.hid (show Blk w2.drew d 40 (kz 0) from hB.below (below_drew hb2) hB.lt)
  have HG1 := Lib.hid (get_lit g (y.drop 32) 0 4 V1 L1 F1 w2.drew hr2 G1.1 G1.2.1 G1.2.2)
  have HG := Lib.hid (show w.heap.size ≤ g from by have := HW.out.2.2.size; omega)
  have HGD := Lib.hid (show d < g from by have := hB.lt; omega)
  have HB2 := Lib.hid (HW.out.2.2.trans (hb2.mono HW.out.2.2.size))
  have HD := Lib.hid (show w.heap.size ≤ d by have := HW.out.2.1; omega)
  clear hg hr2 hb2 hB G1 HN
  go_upto_region 2 with fail
  have hb0 : Below w.heap.size w w2.drew := below_drew HB2.out
  refine wp_region_held_drew (S := fun W => W.rangeAt ga off M) (by kernel_rfl) (SX.out _ hb0) (fun hHeld => ?_)
  refine wpAnyH_take (i := 0) (oi := _) (v := .slice (some ⟨ga, off, none⟩) 38 c) rfl (by kernel_rfl) (by kernel_rfl) (by kernel_rfl) (fun _ _ _ h => h) (Or.inl ⟨by rfl, by intro w hSw; go_simp⟩) (SX.out _ hb0) ?_
  simp only [List.getElem_toArray, List.getElem_cons_zero, List.getElem_cons_succ, Act.put, List.setIfInBounds_toArray, List.set_cons_zero, List.set_cons_succ]
  refine wpAnyH_take (i := 1) (oi := _) (v := .slice (some ⟨ga, off, none⟩) 32 c) rfl (by kernel_rfl) (by kernel_rfl) (by kernel_rfl) (fun _ _ _ h => h) (Or.inl ⟨by rfl, by intro w hSw; go_simp⟩) (SX.out _ hb0) ?_
  simp only [List.getElem_toArray, List.getElem_cons_zero, List.getElem_cons_succ, Act.put, List.setIfInBounds_toArray, List.set_cons_zero, List.set_cons_succ]
  refine wpAnyH_take (i := 2) (oi := _) (v := .pointer (some ⟨ga, off, none⟩)) rfl (by kernel_rfl) (by kernel_rfl) (by kernel_rfl) (fun _ _ _ h => h) (Or.inl ⟨by rfl, by intro w hSw; have ha := sum_at (some ⟨ga, off, none⟩) c w; go_simp⟩) (SX.out _ hb0) ?_
  simp only [List.getElem_toArray, List.getElem_cons_zero, List.getElem_cons_succ, Act.put, List.setIfInBounds_toArray, List.set_cons_zero, List.set_cons_succ]
  refine wpAnyH_take (i := 3) (oi := _) (v := .agg M.toArray) rfl (by kernel_rfl) (by kernel_rfl) (by kernel_rfl) (fun _ _ _ h => h) (yieldsIf_load_mid (by rfl) 38 (.tmp 10) rfl ga off rfl M (.array sn se) (fun w h => h) HSB.out.2 rfl HSB.out.1) (SX.out _ hb0) ?_
  simp only [List.getElem_toArray, List.getElem_cons_zero, List.getElem_cons_succ, Act.put, List.setIfInBounds_toArray, List.set_cons_zero, List.set_cons_succ]
  refine wpAnyH_take (i := 4) (oi := _) (v := .pointer (some ⟨g, 0, none⟩)) rfl (by kernel_rfl) (by kernel_rfl) (by kernel_rfl) (fun _ _ _ h => h) (Or.inl ⟨by rfl, by intro w hSw; go_simp⟩) (SX.out _ hb0) ?_
  simp only [List.getElem_toArray, List.getElem_cons_zero, List.getElem_cons_succ, Act.put, List.setIfInBounds_toArray, List.set_cons_zero, List.set_cons_succ]
  refine wpAnyH_take (i := 8) (oi := _) (v := .pointer (some ⟨g, 0, none⟩)) rfl (by kernel_rfl) (by kernel_rfl) (by kernel_rfl) (fun _ _ _ h => h) (Or.inl ⟨by rfl, by intro w hSw; go_simp⟩) (SX.out _ hb0) ?_
  simp only [List.getElem_toArray, List.getElem_cons_zero, List.getElem_cons_succ, Act.put, List.setIfInBounds_toArray, List.set_cons_zero, List.set_cons_succ]
  refine wpAnyH_ready (rs := [5]) (by kernel_rfl) (by simp) ?_
  refine AllReadyH.cons rfl (fun K hK => ?_) AllReadyH.nil
  go_simp
  (go_at_call 45; (with_reducible refine HG1.out.mono ?_))
  rintro e w3 ⟨rfl, hr3, hg3⟩
  have H3 := Lib.hid (show Rdr w3 g L1 F1 ∧ Below w.heap.size w w3 from ⟨hr3, hb0.grown hg3 hb0.size fun k hk => by injection hk with hk; have := HG.out; omega⟩)
  have HG3 := Lib.hid hg3
  clear hr3 hg3
  go_wp2_with fail
  refine hK.out _ _ (SX.out _ H3.out.2) (fun _ => ?_)
  clear hK K
  try simp only [List.getElem_toArray, List.getElem_cons_zero, List.getElem_cons_succ, Act.put, List.setIfInBounds_toArray, List.set_cons_zero, List.set_cons_succ]
  refine wpAnyH_take (i := 6) (oi := _) (v := .int .u32 V1) rfl (by kernel_rfl) (by kernel_rfl) (by kernel_rfl) (fun _ _ _ h => h) (Or.inl ⟨by rfl, by intro w hSw; go_simp⟩) (SX.out _ H3.out.2) ?_
  simp only [List.getElem_toArray, List.getElem_cons_zero, List.getElem_cons_succ, Act.put, List.setIfInBounds_toArray, List.set_cons_zero, List.set_cons_succ]
  refine wpAnyH_take (i := 7) (oi := _) (v := .agg KC.toArray) rfl (by kernel_rfl) (by kernel_rfl) (by kernel_rfl) (fun _ _ _ h => h) (yields_build (by rfl) 40 #[(0, Operand.tmp 11), (1, Operand.tmp 14)] rfl KC.toArray (by simp only [List.map_toArray, List.map_cons, List.map_nil]; exact HBK.out)) (SX.out _ H3.out.2) ?_
  simp only [List.getElem_toArray, List.getElem_cons_zero, List.getElem_cons_succ, Act.put, List.setIfInBounds_toArray, List.set_cons_zero, List.set_cons_succ]
  refine wpAnyH_ready (rs := [9]) (by kernel_rfl) (by simp) ?_
  refine AllReadyH.cons rfl (fun K hK => ?_) AllReadyH.nil
  go_simp
  (go_at_call 45; (with_reducible refine (HG2.out _ _ H3.out.1).mono ?_))
  rintro e w4 ⟨rfl, hr4, hg4⟩
  have H4 := Lib.hid (show Below w.heap.size w w4 from H3.out.2.grown hg4 H3.out.2.size fun k hk => by injection hk with hk; have := HG.out; omega)
  have HBD := Lib.hid (show Blk w4 d 40 (kz 0) from (HB.out.same (HG3.out.block _ HB.out.lt (by have := HGD.out; simp; omega))).same (hg4.block _ (by have := HG3.out.size; have := HB.out.lt; show d < w3.heap.size; omega) (by have := HGD.out; simp; omega)))
  clear hr4 hg4
  go_wp2_with fail
  refine hK.out _ _ (SX.out _ H4.out) (fun _ => ?_)
  clear hK K
  try simp only [List.getElem_toArray, List.getElem_cons_zero, List.getElem_cons_succ, Act.put, List.setIfInBounds_toArray, List.set_cons_zero, List.set_cons_succ]
  refine wpAnyH_take (i := 10) (oi := _) (v := .int .i64 V2) rfl (by kernel_rfl) (by kernel_rfl) (by kernel_rfl) (fun _ _ _ h => h) (Or.inl ⟨by rfl, by intro w hSw; go_simp⟩) (SX.out _ H4.out) ?_
  simp only [List.getElem_toArray, List.getElem_cons_zero, List.getElem_cons_succ, Act.put, List.setIfInBounds_toArray, List.set_cons_zero, List.set_cons_succ]
  refine wpAnyH_ready (rs := [11]) (by kernel_rfl) (by simp) ?_
  refine AllReadyH.cons rfl (fun K hK => ?_) AllReadyH.nil
  refine wp_store_row 40 (.tmp 2) (.tmp 15) rfl d KC.toArray rfl rfl 40 (kz 0) HBD.out HKS.out HKO.out HK1.out ?_
  have H5 := Lib.hid (show Below w.heap.size w (w4.setRow d KC.toArray) from below_set H4.out HD.out)
  refine hK.out _ _ (SX.out _ H5.out) (fun _ => ?_)
  clear hK K
  try simp only [List.getElem_toArray, List.getElem_cons_zero, List.getElem_cons_succ, Act.put, List.setIfInBounds_toArray, List.set_cons_zero, List.set_cons_succ]
  refine wpAnyH_take (i := 12) (oi := _) (v := .int .i64 V2) rfl (by kernel_rfl) (by kernel_rfl) (by kernel_rfl) (fun _ _ _ h => h) (Or.inl ⟨by rfl, by intro w hSw; go_simp⟩) (SX.out _ H5.out) ?_
  simp only [List.getElem_toArray, List.getElem_cons_zero, List.getElem_cons_succ, Act.put, List.setIfInBounds_toArray, List.set_cons_zero, List.set_cons_succ]
  refine wpAnyH_done (by kernel_rfl) ?_ _
  have HF := Lib.hid (show Blk (w4.setRow d KC.toArray) d 40 KC.toArray from setRow_heap _ _ _ _ _ _ HBD.out)
  clear hHeld hb0
  go_wp2_with fail
  obtain ⟨fs, hfs⟩ := key_desc
  (try simp only [Exit.inBlock, Exit.then])
  refine bodyPost_ret (v := .tuple #[.agg KC.toArray, .int .i64 V2]) ?_ rfl ⟨rfl, H5.out⟩
  exact res_row_tmp rfl _ _ d 40 _ (0, 0) _ rfl HF.out hfs rfl HKS.out _ rfl
end Go.Proofs.Ytoiiiccichkgpaa
/- What the landed package cont does: the state of each's walk, the closure that is passed each piece. No statement of the seat is proved here. -/
namespace Go.Proofs.Ytoiiiccichkgpaa
open Go.RowKit
set_option linter.unusedVariables false
set_option linter.unusedSimpArgs false

/-! ### Open -/
theorem seal_iffB (n : Nat) (l : List UInt8) (h : l.length = n + 4) : val (l.drop n) = (sumOf (l.take n)).toNat ↔ l = sealB (l.take n) := by
  constructor
  · intro e
    have h4 : (l.drop n).length = 4 := by rw [List.length_drop]; omega
    have hb := be_val (l.drop n)
    rw [h4, e] at hb
    unfold sealB
    rw [hb, List.take_append_drop]
  · intro e
    have hn : (l.take n).length = n := by rw [List.length_take]; omega
    have e2 := congrArg (List.drop n) e
    have e3 : (sealB (l.take n)).drop n = be 4 (sumOf (l.take n)).toNat := by unfold sealB; exact List.drop_left' hn
    rw [e3] at e2
    rw [e2, val_be_of_lt (sumOf (l.take n)).isLt]
def Sealed (b : List UInt8) (n : Nat) : Prop := b.length = n + 4 ∧ b = sealB (b.take n)
theorem open_c (A : Option Addr) (k c : Nat) (b : List UInt8) (hl : b.length = k) (hk : k ≤ c) (hc : c ≤ maxLen) (hk1 : k ≤ 100000) (w : World) (hr : Rd w w.heap.size A b) :
    Calls Try.prog 43 #[.slice A k c] w fun e w' => ((∀ n, ¬ Sealed b n) → e = .returned (.tuple #[.slice none 0 0, .bool false])) ∧
      (∀ n, Sealed b n → ∃ A' c', e = .returned (.tuple #[.slice A' n c', .bool true]) ∧ Own w' w.heap.size A' c' n (b.take n)) ∧ Below w.heap.size w w' := by
  by_cases h4 : k < 4
  · exact (open_short A k c w h4).mono fun e w' ⟨he, hw⟩ => ⟨fun _ => he, fun n hn => absurd hn.1 (by omega), by rw [← hw]; exact Below.refl _ _⟩
  · obtain ⟨n, rfl⟩ : ∃ n, k = n + 4 := ⟨k - 4, by omega⟩
    obtain ⟨g, off, rfl, _⟩ := hr (by omega)
    refine (open_long g off n c b w hl hk hc hr (by omega)).mono fun e w' ⟨h1, h2, h3⟩ => ⟨fun hno => h2 fun hv => hno n ⟨hl, (seal_iffB n b hl).1 hv⟩, fun m hm => ?_, h3⟩
    obtain rfl : m = n := by have := hm.1; omega
    exact h1 ((seal_iffB m b hl).2 hm.2)
theorem unsealed_take {b : List UInt8} (h : ∀ n, ¬ Sealed b n) : takeC b = (0, [], 110) := by
  by_cases h4 : b.length < 4
  · exact take_short h4
  · exact take_unsealed (n := b.length - 4) (by omega) fun e => h _ ⟨by omega, e⟩

/-! ### What is read -/
def tz (x : List UInt8) (j : Nat) : (List UInt8 × Nat) × Nat := (tableC x).getD j default
def baseC (x : List UInt8) : Nat := 6 + 38 * manyC x
def pieceAt (x : List UInt8) (j : Nat) : PcD := ⟨(tz x j).1.1, (tz x j).1.2, (x.drop (baseC x + sumT (tableC x) j)).take (tz x j).2⟩
theorem tz_get {x : List UInt8} {j : Nat} (h : j < manyC x) : (tableC x)[j]'(by rw [tableC_length]; exact h) = tz x j := by
  unfold tz
  rw [List.getD_eq_getElem?_getD, List.getElem?_eq_getElem (by rw [tableC_length]; exact h)]
  rfl
theorem tz_row {x : List UInt8} {j : Nat} (h : j < manyC x) : tz x j = rowAt (x.drop (6 + 38 * j)) := by
  rw [← tz_get h]
  have := rowsOf_get (manyC x) (x.drop 6) j h
  rw [List.drop_drop] at this
  exact this
theorem rowAt_take (y : List UInt8) : rowAt (y.take 38) = rowAt y := by
  unfold rowAt
  simp only [List.take_take, List.drop_take]
  rfl
theorem sumT_tz {x : List UInt8} {j : Nat} (h : j < manyC x) : sumT (tableC x) (j + 1) = sumT (tableC x) j + (tz x j).2 := by
  rw [sumT_succ (by rw [tableC_length]; exact h), tz_get h]
theorem listC_get {x : List UInt8} {j : Nat} (h : j < manyC x) : (listC x)[j]'(by rw [listC_eq, piecesOf_length, tableC_length]; exact h) = pieceAt x j := by
  have := piecesOf_get (tableC x) (x.drop (6 + 38 * manyC x)) j (by rw [tableC_length]; exact h)
  rw [List.drop_drop, tz_get h] at this
  exact this
theorem listC_len (x : List UInt8) : (listC x).length = manyC x := by rw [listC_eq, piecesOf_length, tableC_length]
/-- The pieces that were passed, in the bytes x that lie in block ga. -/
structure Fl (x : List UInt8) (ga i : Nat) (ls : List PieceT) : Prop where
  n : ls.length = i
  p : ∀ j (h : j < ls.length), ls[j].p = pieceAt x j ∧ ls[j].p.data.length = (tz x j).2 ∧ ls[j].p.Ok ∧ baseC x + sumT (tableC x) j + (tz x j).2 ≤ x.length
  at_ : ∀ j (h : j < ls.length), ∃ o, ls[j].adr = some ⟨ga, o, none⟩ ∧ ls[j].cap = ls[j].p.data.length ∧ (0 < ls[j].p.data.length → o = baseC x + sumT (tableC x) j)
theorem Fl.nil (x : List UInt8) (ga : Nat) : Fl x ga 0 [] := ⟨rfl, fun j h => absurd h (Nat.not_lt_zero _), fun j h => absurd h (Nat.not_lt_zero _)⟩
theorem Fl.next {x : List UInt8} {ga j : Nat} {ls : List PieceT} (h : Fl x ga j ls) {m : Nat} (hj : j < manyC x) (ho : 6 + 38 * manyC x ≤ x.length) (hm : (tz x j).2 = m) (hfit : baseC x + sumT (tableC x) j + m ≤ x.length) (o : Nat) (hoo : 0 < m → o = baseC x + sumT (tableC x) j) :
    Fl x ga (j + 1) (ls ++ [⟨some ⟨ga, o, none⟩, m, pieceAt x j⟩]) := by
  subst hm
  have hok := row_ok (y := x.drop (6 + 38 * j)) (by rw [List.length_drop]; omega)
  rw [← tz_row hj] at hok
  have hlen : (pieceAt x j).data.length = (tz x j).2 := by
    show ((x.drop _).take _).length = _
    rw [List.length_take, List.length_drop]; omega
  refine ⟨by rw [List.length_append, h.n]; rfl, fun i hi => ?_, fun i hi => ?_⟩
  · by_cases hij : i < ls.length
    · rw [List.getElem_append_left hij]; exact h.p i hij
    · obtain rfl : i = ls.length := by rw [List.length_append] at hi; simp at hi; omega
      rw [List.getElem_append_right (Nat.le_refl _)]
      simp only [Nat.sub_self, List.getElem_cons_zero]
      rw [h.n]
      exact ⟨rfl, hlen, ⟨hok.1, hok.2.1⟩, hfit⟩
  · by_cases hij : i < ls.length
    · rw [List.getElem_append_left hij]; exact h.at_ i hij
    · obtain rfl : i = ls.length := by rw [List.length_append] at hi; simp at hi; omega
      rw [List.getElem_append_right (Nat.le_refl _)]
      simp only [Nat.sub_self, List.getElem_cons_zero]
      rw [h.n]
      exact ⟨o, rfl, hlen.symm, fun h0 => hoo (by rw [hlen] at h0; exact h0)⟩
theorem Fl.all {x : List UInt8} {ga : Nat} {ls : List PieceT} (h : Fl x ga (manyC x) ls) : pds ls = listC x := by
  apply List.ext_getElem (by rw [pds_length, h.n, listC_len])
  intro j h1 h2
  have hj : j < ls.length := by rw [pds_length] at h1; exact h1
  rw [pds_get hj, (h.p j hj).1, listC_get (by rw [listC_len] at h2; exact h2)]
/-- The body's bytes in their block. -/
structure Bd (x : List UInt8) (cur : Array Value) : Prop where
  le : x.length ≤ cur.size
  max : cur.size ≤ maxLen
  at_ : ∀ j (h : j < x.length), cur[j]? = some (.int .u8 x[j].toNat)
theorem own_body {w : World} {B c n : Nat} {A : Option Addr} {x : List UInt8} (h : Own w B A c n x) (h0 : 0 < n) : ∃ ga cur, A = some ⟨ga, 0, none⟩ ∧ B ≤ ga ∧ Blk w ga 5 cur ∧ cur.size = c ∧ n ≤ c ∧ Bd x cur := by
  obtain ⟨hl, ho⟩ := h
  rcases ho.2 with ⟨_, h1⟩ | ⟨g, cap, cur, hv, hb, hh, hnc, hm, hcs, ht⟩
  · omega
  · injection hv with hA _ hC
    subst hA hC
    have hcs' : cur.size = c := by simpa using hcs
    refine ⟨g, cur, rfl, hb, hh, hcs', hnc, ⟨by omega, by omega, fun j hj => ?_⟩⟩
    have h1 : (bv x)[j]? = some (.int .u8 x[j].toNat) := bv_get hj
    rw [← ht, List.getElem?_take] at h1
    split at h1
    · simpa using h1
    · cases h1
theorem Bd.rd {x : List UInt8} {cur : Array Value} (h : Bd x cur) {w : World} {ga : Nat} (hB : Blk w ga 5 cur) (o m : Nat) (ho : o + m ≤ x.length) : Rd w w.heap.size (some ⟨ga, o, none⟩) ((x.drop o).take m) := fun _ => by
  refine ⟨ga, o, rfl, hB.lt, fun j hj => ?_⟩
  rw [List.length_take, List.length_drop] at hj
  rw [hB.cell, h.at_ (o + j) (by omega)]
  simp [List.getElem_take, List.getElem_drop]

/-! ### The state -/
/-- The state of each's walk: at g the variable with what was passed; in block ga the body. -/
structure EC (w0 w : World) (g : Nat) (P : Option Addr) (pc np : Nat) (ls : List PieceT) (ga : Nat) (cur : Array Value) : Prop where
  var : Blk w g 23 #[.slice P np pc]
  own : OwnP w (g + 1) P pc np ls
  body : Blk w ga 5 cur
  bel : Below w0.heap.size w0 w
  lg : w0.heap.size ≤ g
  la : w0.heap.size ≤ ga
section
variable {w0 w w' : World} {g pc np ga : Nat} {P : Option Addr} {ls : List PieceT} {cur : Array Value}
theorem EC.on (h : EC w0 w g P pc np ls ga cur) (hb : Below w.heap.size w w') : EC w0 w' g P pc np ls ga cur :=
  ⟨h.var.below hb h.var.lt, ownsRow_below h.own hb, h.body.below hb h.body.lt, h.bel.trans (hb.mono h.bel.size), h.lg, h.la⟩
theorem blk_types {k : Nat} {t u : TypeId} {cs ds : Array Value} (h : Blk w k t cs) (h2 : Blk w k u ds) : t = u := by
  unfold Blk at h h2
  rw [h] at h2
  injection h2 with h2
  injection h2
theorem own_piece_blk (h : OwnP w (g + 1) P pc np ls) {k : Nat} (hk : (Value.slice P np pc).ownBlock = some k) : ∃ ds, Blk w k 42 ds := by
  rcases h.2 with ⟨hv, _⟩ | ⟨k', cap, ds, hv, _, hh, _⟩
  · rw [hv] at hk; cases hk
  · rw [hv] at hk
    have e1 : k' = k := by simpa [Value.ownBlock] using hk
    subst e1
    exact ⟨ds, hh⟩
/-- A piece more. -/
theorem EC.push (h : EC w0 w g P pc np ls ga cur) {w2 : World} {P' : Option Addr} {pc' np' : Nat} {ls' : List PieceT} (hg : w.grownBy w2 (Value.slice P np pc).ownBlock) (ho : OwnP w2 (g + 1) P' pc' np' ls') :
    EC w0 (w2.setCell ⟨g, 0, none⟩ (.slice P' np' pc')) g P' pc' np' ls' ga cur := by
  have hgo : ∀ k, (Value.slice P np pc).ownBlock = some k → k ≠ g ∧ k ≠ ga := fun k hk => by
    obtain ⟨ds, hd⟩ := own_piece_blk h.own hk
    exact ⟨fun e => absurd (blk_types hd (e ▸ h.var)) (by decide), fun e => absurd (blk_types hd (e ▸ h.body)) (by decide)⟩
  have hv2 : Blk w2 g 23 #[.slice P np pc] := h.var.same (hg.block _ h.var.lt fun e => (hgo g e.symm).1 rfl)
  have hb2 : Blk w2 ga 5 cur := h.body.same (hg.block _ h.body.lt fun e => (hgo ga e.symm).2 rfl)
  have hga : ga ≠ g := fun e => absurd (blk_types hb2 (e ▸ hv2)) (by decide)
  refine ⟨?_, ?_, ?_, ?_, h.lg, h.la⟩
  · have := hv2.set_ 0 (.slice P' np' pc')
    simpa using this
  · exact ownsRow_grown ho (setCell_grown (World.grownBy.refl _ _)) fun k e e2 => by injection e with e; have := (ho.lt k e2).1; omega
  · exact hb2.same (setCell_block hga)
  · have h1 : Below w0.heap.size w0 w2 := h.bel.grown hg h.bel.size fun k hk => by have := (h.own.lt k hk).1; have := h.lg; omega
    exact h1.grown (setCell_grown (World.grownBy.refl w2 (some g))) h1.size fun k hk => by injection hk with hk; have := h.lg; omega
set_option maxRecDepth 100000 in
set_option maxHeartbeats 1000000 in
theorem pass_any (x : PieceT) (hx : x.p.Ok) (h : EC w0 w g P pc np ls ga cur) (hn : np + 1 ≤ 100000) : Calls Try.prog 30 #[.agg (pcs x).toArray, .pointer (some ⟨g, 0, none⟩)] w fun e w' =>
    e = .returned (.tuple #[]) ∧ ∃ P' pc', EC w0 w' g P' pc' (np + 1) (ls ++ [x]) ga cur := by
  obtain ⟨i0, hi, hz0, hz1, hz2⟩ := info_parts info_piece
  have HI := Lib.hid (And.intro hi (And.intro hz0 (And.intro hz1 hz2)))
  obtain ⟨fs, hfs⟩ := pc_desc
  have HF := Lib.hid hfs
  obtain ⟨b, hb⟩ : ∃ b, w.heap.size = b := ⟨_, rfl⟩
  obtain ⟨w1, hw1⟩ : ∃ w1, w.alloc (.cells (pcs x).toArray 42) = w1 := ⟨_, rfl⟩
  have H1 := Lib.hid (show EC w0 w1 g P pc np ls ga cur from h.on (hw1 ▸ (Below.refl _ _).alloc (Nat.le_refl _) _))
  have HB1 := Lib.hid (show Blk w1 b 42 (pcs x).toArray by rw [← hw1, ← hb]; exact Blk.new w _ _)
  have H2 := Lib.hid (H1.out.on ((Below.refl w1.heap.size w1).alloc (Nat.le_refl _) (.cells (pcs x).toArray 42)))
  have HB2 := Lib.hid (Blk.new w1 42 (pcs x).toArray)
  have HX := Lib.hid hx
  have HPV := Lib.hid (pv_of hx)
  have hc0 := H1.out.var.cell 0
  have HGS := Lib.hid (show g + 1 ≤ (w1.alloc (.cells (pcs x).toArray 42)).heap.size by have := H1.out.var.lt; rw [World.size_alloc]; omega)
  have HW := Lib.hid (And.intro hw1 hb)
  clear hi hz0 hz1 hz2 hfs hb hw1 h hx
  go_enter Try.func30, Try.ntmps30
  go_upto_region 1 with fail
  rw [HW.out.1, HW.out.2]
  go_wp2_with (first
    | (refine wpList_load_row rfl 42 (.tmp 2) rfl b rfl 42 (pcs x).toArray (0, 0) (.struct fs) HB1.out HF.out rfl HPV.out.ks2 ?_)
    | (refine wpList_buildPiece rfl (.tmp 4) rfl HX.out rfl ?_)
    | (at_builtin; refine wpList_append_piece rfl (.tmp 3) (.tmp 5) rfl (g + 1) i0 HI.out.1 HI.out.2.1 HI.out.2.2.1 HI.out.2.2.2 P pc np ls rfl H2.out.own w1.heap.size 1 x rfl HX.out HB2.out ?_ HGS.out ?_))
  case _ => omega
  intro P' pc' w3 ho3 hg3
  have H3 := Lib.hid (H2.out.push hg3 ho3)
  have hv3 : Blk w3 g 23 #[.slice P np pc] := H2.out.var.same (hg3.block _ H2.out.var.lt fun e => by
    obtain ⟨ds, hd⟩ := own_piece_blk H2.out.own e.symm
    exact absurd (blk_types hd H2.out.var) (by decide))
  have hc3 := hv3.cell 0
  have hf3 := hv3.frozen 0
  clear ho3 hg3 hv3 hc0
  go_wp2_with fail
  go_end0
  exact ⟨rfl, P', pc', H3.out⟩
end
end Go.Proofs.Ytoiiiccichkgpaa
/- What the landed package cont does: each. No statement of the seat is proved here. -/
namespace Go.Proofs.Ytoiiiccichkgpaa
open Go.RowKit
set_option linter.unusedVariables false
set_option linter.unusedSimpArgs false

theorem gets_head {x : List UInt8} (h : 6 ≤ x.length) : ∃ (L1 : List UInt8) (L2 : List UInt8) (F2 : Int), (getV (x.take 6) 0 4 = idC x ∧ getL (x.take 6) 0 4 = L1 ∧ getF (x.take 6) 0 4 = 0) ∧ (getV L1 0 2 = manyC x ∧ getL L1 0 2 = L2 ∧ getF L1 0 2 = F2) := by
  have h6 : (x.take 6).length = 6 := by rw [List.length_take]; omega
  have h2 : ((x.take 6).drop 4).length = 2 := by rw [List.length_drop, h6]
  refine ⟨(x.take 6).drop 4, _, _, ⟨?_, ?_, ?_⟩, ?_, rfl, rfl⟩
  · rw [getV, if_pos (by omega)]
    show val ((x.take 6).take 4) = val (x.take 4)
    rw [List.take_take]; rfl
  · rw [getL, if_pos (by omega)]; rfl
  · rw [getF, if_pos rfl, if_neg (by omega), if_neg (by omega)]
  · rw [getV, if_pos (by omega)]
    show val (((x.take 6).drop 4).take 2) = val ((x.drop 4).take 2)
    rw [List.drop_take, List.take_take]; rfl
theorem Fit.le {x : List UInt8} (h : Fit x) : 6 + 38 * manyC x ≤ x.length := by unfold Fit at h; omega
theorem Fit.sum {x : List UInt8} (h : Fit x) (j : Nat) (hj : j ≤ manyC x) : baseC x + sumT (tableC x) j ≤ x.length := by
  have := sumT_le (tableC x) hj
  unfold Fit at h; unfold baseC; omega
/-- What each gives. -/
def Each (w0 : World) (g : Nat) (b : List UInt8) (e : Ending) (w' : World) : Prop :=
  ∃ (I : Nat) (ft : Bool), e = .returned (.tuple #[.int .u32 I, .bool ft]) ∧
    (ft = true → ∃ n P pc np ls ga cur, Sealed b n ∧ Fit (b.take n) ∧ I = idC (b.take n) ∧ np = manyC (b.take n) ∧ EC w0 w' g P pc np ls ga cur ∧ Bd (b.take n) cur ∧ Fl (b.take n) ga np ls) ∧
    (ft = false → takeC b = (0, [], 110) ∧ Below w0.heap.size w0 w')
theorem Each.no {w0 w' : World} {g : Nat} {b : List UInt8} (h : takeC b = (0, [], 110)) (hb : Below w0.heap.size w0 w') (I : Nat) : Each w0 g b (.returned (.tuple #[.int .u32 I, .bool false])) w' :=
  ⟨I, false, rfl, fun h => absurd h (by decide), fun _ => ⟨h, hb⟩⟩
set_option maxRecDepth 100000 in
set_option maxHeartbeats 8000000 in
theorem each_any (A : Option Addr) (k c : Nat) (b : List UInt8) (hl : b.length = k) (hk : k ≤ c) (hc : c ≤ maxLen) (hk1 : k ≤ 100000) (w0 w : World) (g : Nat) (hv : Blk w g 23 #[.slice none 0 0]) (hb : Below w0.heap.size w0 w) (hg : w0.heap.size ≤ g) (hr : Rd w w.heap.size A b) :
    Calls Try.prog 29 #[.slice A k c, .func (.func 30) #[] #[.pointer (some ⟨g, 0, none⟩)]] w (Each w0 g b) := by
  have HO := Lib.hid (open_c A k c b hl hk hc hk1 w hr)
  have HV := Lib.hid (And.intro hv (And.intro hb hg))
  have HL := Lib.hid (And.intro hl hk1)
  clear hl hk hc hr hv hb hg hk1
  obtain ⟨iz, hiz, hzz, _⟩ := info_parts info_key
  have HZ := Lib.hid (And.intro hiz hzz)
  obtain ⟨fs, hfs⟩ := key_desc
  have HF := Lib.hid hfs
  clear hiz hzz hfs
  go_enter Try.func29, Try.ntmps29
  go_wp2_with fail
  refine HO.out.mono ?_
  rintro e w1 ⟨no1, yes1, hb1⟩
  have HB1 := Lib.hid (HV.out.2.1.trans (hb1.mono HV.out.2.1.size))
  by_cases hse : ∃ n, Sealed b n
  · obtain ⟨n, hse⟩ := hse
    obtain ⟨A1, c1, rfl, ho1⟩ := yes1 n hse
    have HSE := Lib.hid hse
    have HO1 := Lib.hid ho1
    have HV1 := Lib.hid (HV.out.1.below hb1 HV.out.1.lt)
    have HS1 := Lib.hid hb1.size
    have hn : n ≤ 100000 := by have := hse.1; have := HL.out; omega
    clear yes1 no1 hb1 hse ho1 HO
    by_cases h6 : n < 6
    · have HT := Lib.hid (show takeC b = (0, [], 110) from take_unfit' HSE.out.1 fun hf => by have := hf.le; rw [List.length_take] at this; omega)
      have h6i : (n : Int) < 6 := by omega
      go_wp2_with fail
      go_ret2
      exact Each.no HT.out HB1.out 0
    · have h6i : ¬ (n : Int) < 6 := by omega
      obtain ⟨x, hx⟩ : ∃ x, b.take n = x := ⟨_, rfl⟩
      have hxl : x.length = n := by rw [← hx, List.length_take]; have := HSE.out.1; omega
      rw [hx] at HO1
      obtain ⟨ga, cur, rfl, hga, hbl, hcs, hnc, hbd⟩ := own_body HO1.out (by omega)
      have HX := Lib.hid hx
      have HXL := Lib.hid hxl
      have HBD := Lib.hid hbd
      have HE1 := Lib.hid (show EC w0 w1 g none 0 0 [] ga cur from ⟨HV1.out, World.ownsRow_nil _ _ _ _, hbl, HB1.out, HV.out.2.2, Nat.le_trans HV.out.2.1.size hga⟩)
      have hcm : c1 ≤ maxLen := by have := hbd.max; omega
      have hcm' : (c1 : Int) ≤ 9223372036854775807 := by unfold maxLen at hcm; omega
      have hnc' : (n : Int) ≤ (c1 : Int) := by omega
      have h6n : (6 : Int) ≤ (n : Int) := by omega
      have h6c : (6 : Int) ≤ (c1 : Int) := by omega
      have HCM := Lib.hid hcm
      obtain ⟨L1, L2, F2, G1, G2⟩ := gets_head (x := x) (by omega)
      obtain ⟨V, hV⟩ : ∃ V, idC x = V := ⟨_, rfl⟩
      obtain ⟨U, hU⟩ : ∃ U, manyC x = U := ⟨_, rfl⟩
      rw [hV] at G1
      rw [hU] at G2
      have hV4 : V < 4294967296 := hV ▸ idC_lt x
      have hU4 : U < 65536 := hU ▸ manyC_lt x
      have cV : IntKind.u32.wrap (V : Int) = (V : Int) := by rw [IntKind.wrap_u32']; omega
      have cU : IntKind.i64.wrap (U : Int) = (U : Int) := by rw [IntKind.wrap_i64]; omega
      have HN := Lib.hid (new_sl (some ⟨ga, 0, none⟩) (x.take 6) c1 6 w1 (by rw [List.length_take]; omega) (by have := hbd.rd hbl 0 6 (by omega); simpa using this) (by rw [List.length_take]; omega))
      have HG1 := Lib.hid (fun g0 W (h : Rdr W g0 (x.take 6) 0) => get_lit g0 (x.take 6) 0 4 V L1 0 W h G1.1 G1.2.1 G1.2.2)
      have HG2 := Lib.hid (fun g0 W (h : Rdr W g0 L1 0) => get_lit g0 L1 0 2 U L2 F2 W h G2.1 G2.2.1 G2.2.2)
      have HUV := Lib.hid (And.intro hU hV)
      clear hx hxl hbd hga hbl hcs hcm G1 G2 hV hU HO1 HV1 HV
      go_wp2_with fail
      refine HN.out.mono ?_
      rintro e w2 ⟨g2, rfl, hg2, hr2, hb2⟩
      have H2 := Lib.hid (And.intro hr2 (And.intro hg2 hb2))
      clear hg2 hr2 hb2 HN
      go_wp2_with fail
      refine (HG1.out _ _ H2.out.1).mono ?_
      rintro e w3 ⟨rfl, hr3, hg3⟩
      have H3 := Lib.hid (show Rdr w3 g2 L1 0 ∧ Below w1.heap.size w1 w3 from ⟨hr3, H2.out.2.2.grown hg3 H2.out.2.2.size fun q hq => by injection hq with hq; have := H2.out.2.1; omega⟩)
      clear hr3 hg3
      go_wp2_with fail
      refine (HG2.out _ _ H3.out.1).mono ?_
      rintro e w4 ⟨rfl, hr4, hg4⟩
      have HE4 := Lib.hid (HE1.out.on (show Below w1.heap.size w1 w4 from H3.out.2.grown hg4 H3.out.2.size fun q hq => by injection hq with hq; have := H2.out.2.1; omega))
      clear hr4 hg4 HG1 HG2 H2 H3 HE1
      obtain ⟨tl, htl⟩ : ∃ tl, 38 * U = tl := ⟨_, rfl⟩
      have hU38 : (U : Int) * 38 = (tl : Int) := by omega
      have htl2 : tl ≤ 3000000 := by omega
      obtain ⟨n6, hn6⟩ : ∃ n6, n - 6 = n6 := ⟨_, rfl⟩
      obtain ⟨c6, hc6⟩ : ∃ c6, c1 - 6 = c6 := ⟨_, rfl⟩
      obtain ⟨o6, ho6⟩ : ∃ o6, (if c1 = 6 then 0 else 6) = o6 := ⟨_, rfl⟩
      have hA : (if c1 = 6 then some (⟨ga, 0, none⟩ : Addr) else some ⟨ga, 6, none⟩) = some ⟨ga, o6, none⟩ := by
        subst ho6
        split <;> rfl
      have HO6 := Lib.hid (show c1 ≠ 6 → o6 = 6 from fun h => by rw [← ho6, if_neg h])
      have HTL := Lib.hid (And.intro htl (And.intro hn6 hc6))
      clear ho6 htl
      by_cases hfit : n6 < tl
      · have HT := Lib.hid (show takeC b = (0, [], 110) from take_unfit' HSE.out.1 fun hf => by
          have := hf.le
          rw [HX.out, HXL.out, HUV.out.1] at this
          have := HTL.out
          omega)
        have HSP := Lib.hid (split_no (some ⟨ga, o6, none⟩) n6 c6 tl hfit w4)
        go_wp2_with fail
        refine HSP.out.mono ?_
        rintro e w5 ⟨rfl, rfl⟩
        clear hA HSP
        have h0U : (0 : Int) < (U : Int) := by omega
        go_wp2_with fail
        go_loopw [12, 13, 14] (fun d f i wr => d = .slice none 0 0 ∧ f = .bool false ∧ i = .int .i64 0 ∧ w4 = wr) (fun _ _ _ _ => 0)
        case atStart => first | exact ⟨rfl, rfl, rfl, rfl⟩ | trivial
        case round =>
          obtain ⟨rfl, rfl, rfl, rfl⟩ := hrel
          go_wp2_with fail
          go_ret2
          exact Each.no HT.out HE4.out.bel V
      · have HSP := Lib.hid (split_yes ga o6 n6 c6 tl (by omega) (by omega) (by have := HCM.out; omega) w4)
        go_wp2_with fail
        refine HSP.out.mono ?_
        rintro e w5 ⟨o7, rfl, ho7, hb5⟩
        have HE5 := Lib.hid (HE4.out.on hb5)
        obtain ⟨q0, hq0⟩ : ∃ q0, n6 - tl = q0 := ⟨_, rfl⟩
        obtain ⟨z0, hz0⟩ : ∃ z0, c6 - tl = z0 := ⟨_, rfl⟩
        rw [hq0, hz0]
        have hbase : baseC x = 6 + tl := by unfold baseC; rw [HUV.out.1, HTL.out.1]
        have H0 := Lib.hid (show q0 ≤ z0 ∧ z0 ≤ maxLen ∧ baseC x + sumT (tableC x) 0 + q0 = n ∧ (0 < q0 → o7 = baseC x + sumT (tableC x) 0) by
          have h1 := HTL.out
          have h2 := HCM.out
          rw [hbase, sumT_zero]
          refine ⟨by omega, by omega, by omega, fun h0 => ?_⟩
          have h3 := ho7 (by omega)
          have h4 := HO6.out (by omega)
          omega)
        have hq05 : q0 ≤ 100000 := by omega
        have HBS := Lib.hid hbase
        clear hA HSP ho7 hb5 hq0 hz0 hbase HE4
        go_wp2_with fail
        go_loopw [12, 13, 14] (fun d f i wr => ∃ (j q z : Nat) (D : Option Addr) (ft : Bool), j ≤ U ∧ i = .int .i64 j ∧ d = .slice D q z ∧ f = .bool ft ∧ q ≤ 100000 ∧ Hid (q ≤ z ∧ z ≤ maxLen) ∧
          Hid (ft = true → ∃ o P pc ls, D = some ⟨ga, o, none⟩ ∧ baseC x + sumT (tableC x) j + q = n ∧ (0 < q → o = baseC x + sumT (tableC x) j) ∧ EC w0 wr g P pc j ls ga cur ∧ Fl x ga j ls) ∧ Hid (ft = false → takeC b = (0, [], 110) ∧ Below w0.heap.size w0 wr)) (fun _ _ i _ => U - (intOf i).toNat)
        case atStart => exact ⟨0, q0, z0, _, true, Nat.zero_le _, rfl, rfl, rfl, hq05, Lib.hid ⟨H0.out.1, H0.out.2.1⟩, Lib.hid (fun _ => ⟨o7, none, 0, [], rfl, H0.out.2.2.1, H0.out.2.2.2, HE5.out, Fl.nil _ _⟩), Lib.hid (fun h => absurd h (by decide))⟩
        case round =>
          clear H0 HE5
          obtain ⟨j, q, z, D, ft, hj, rfl, rfl, rfl, hq, HQZ, HY, HNO⟩ := hrel
          cases ft with
          | false =>
            have hNO := Lib.hid (HNO.out rfl)
            clear HY HNO
            have hjU : ((j : Int) < (U : Int)) ∨ ¬ ((j : Int) < (U : Int)) := by omega
            rcases hjU with hjU | hjU
            · go_wp2_with fail
              go_ret2
              exact Each.no hNO.out.1 hNO.out.2 V
            · go_wp2_with fail
              go_ret2
              exact Each.no hNO.out.1 hNO.out.2 V
          | true =>
            obtain ⟨o, P, pc, ls, rfl, hsum, hoo, hE, hF⟩ := HY.out rfl
            have HE := Lib.hid hE
            have HFL := Lib.hid hF
            have HOO := Lib.hid hoo
            have HSM := Lib.hid hsum
            clear HY HNO hE hF hoo hsum
            by_cases hlt : j < U
            · have h38 : 38 * j + 38 ≤ tl := by have := HTL.out.1; omega
              obtain rfl : o6 = 6 := HO6.out (by have := HTL.out; omega)
              obtain ⟨r, hr⟩ : ∃ r, 38 * j = r := ⟨_, rfl⟩
              obtain ⟨tr, htr⟩ : ∃ tr, tl - r = tr := ⟨_, rfl⟩
              have hr38 : (j : Int) * 38 = (r : Int) := by omega
              have hrt : (r : Int) ≤ (tl : Int) := by omega
              have hne : ¬ tl = r := by omega
              have htr38 : (38 : Int) ≤ (tr : Int) := by omega
              have hlx : 6 + r + 38 ≤ x.length := by rw [HXL.out]; have := HTL.out; omega
              have hyl : ((x.drop (6 + r)).take 38).length = 38 := by rw [List.length_take, List.length_drop]; omega
              have hrow : rowAt ((x.drop (6 + r)).take 38) = tz x j := by rw [rowAt_take, ← hr]; exact (tz_row (by rw [HUV.out.1]; exact hlt)).symm
              have hen := entry_any ga (6 + r) tr ((x.drop (6 + r)).take 38) hyl (by omega) (by unfold maxLen; omega) wr (HBD.out.rd HE.out.body (6 + r) 38 hlx)
              rw [hrow] at hen
              have hok := row_ok (y := x.drop (6 + 38 * j)) (by rw [List.length_drop]; omega)
              rw [← tz_row (by rw [HUV.out.1]; exact hlt)] at hok
              obtain ⟨kk, hkk⟩ : ∃ kk, (tz x j).1 = kk := ⟨_, rfl⟩
              obtain ⟨m, hm⟩ : ∃ m, (tz x j).2 = m := ⟨_, rfl⟩
              rw [hkk, hm] at hen
              rw [hkk, hm] at hok
              have HK := Lib.hid (show KeyT.Ok kk from ⟨hok.1, hok.2.1⟩)
              have hm6 : m < 65536 := hok.2.2
              have HEN := Lib.hid hen
              have HTM := Lib.hid (And.intro hkk hm)
              have HLT := Lib.hid hlt
              have HRJ := Lib.hid hr
              clear hen hok hkk hm hrow hyl hlx h38 hr
              go_wp2_with fail
              refine HEN.out.mono ?_
              rintro e w6 ⟨rfl, hb6⟩
              have HE6 := Lib.hid (HE.out.on hb6)
              obtain ⟨p, hp⟩ : ∃ p, w6.heap.size = p := ⟨_, rfl⟩
              obtain ⟨w7, hw7⟩ : ∃ w7, w6.alloc (.cells (kcs kk).toArray 40) = w7 := ⟨_, rfl⟩
              have HE7 := Lib.hid (HE6.out.on (show Below w6.heap.size w6 w7 from hw7 ▸ (Below.refl _ _).alloc (Nat.le_refl _) _))
              have HK7 := Lib.hid (show Blk w7 p 40 (kcs kk).toArray by rw [← hw7, ← hp]; exact Blk.new w6 _ _)
              have HKZ := Lib.hid (Blk.new w6 40 (kz 0))
              have HKS := Lib.hid (show (Try.prog.info? 40).map (·.size) = some (kcs kk).toArray.size by rw [List.size_toArray, kcs_length HK.out]; exact key_size)
              have HKO := Lib.hid (show (kz 0).size = (kcs kk).toArray.size from (show (kz 0).size = 33 from rfl).trans (by rw [List.size_toArray, kcs_length HK.out]))
              have HK1 := Lib.hid (kcs_one (k := kk))
              have HW7 := Lib.hid (And.intro hw7 hp)
              clear hb6 hw7 hp HEN HE
              go_upto_region 10 with (first
                | (refine wpList_alloc_z rfl 40 rfl iz _ HZ.out.1 HZ.out.2 ?_)
                | (refine wpList_store_row rfl 40 (.tmp 15) (.tmp 63) rfl w6.heap.size (kcs kk).toArray rfl rfl 40 (kz 0) HKZ.out HKS.out HKO.out HK1.out ?_; rw [setRow_alloc]))
              rw [HW7.out.1, HW7.out.2]
              clear HKZ HKO HW7 HE6
              by_cases hqm : q < m
              · have HT := Lib.hid (show takeC b = (0, [], 110) from take_unfit' HSE.out.1 fun hf => by
                  rw [HX.out] at hf
                  have h1 := hf.sum (j + 1) (by rw [HUV.out.1]; have := HLT.out; omega)
                  rw [sumT_tz (by rw [HUV.out.1]; exact HLT.out), HTM.out.2, HXL.out] at h1
                  have := HSM.out
                  omega)
                refine (split_no (some ⟨ga, o, none⟩) q z m hqm w7).mono ?_
                rintro e w8 ⟨rfl, rfl⟩
                clear hne hrt hr38 htr htr38
                go_wp2_with fail
                go_roundw
                case rel => exact ⟨j + 1, 0, 0, none, false, by have := HLT.out; omega, by go_num, rfl, rfl, by omega, Lib.hid ⟨Nat.le_refl _, Nat.zero_le _⟩, Lib.hid (fun h => absurd h (by decide)), Lib.hid (fun _ => ⟨HT.out, HE7.out.bel⟩)⟩
                case measure => have := HLT.out; simp [intOf]; omega
              · refine (split_yes ga o q z m (by omega) HQZ.out.1 HQZ.out.2 w7).mono ?_
                rintro e w8 ⟨o', rfl, ho', hb8⟩
                have HE8 := Lib.hid (HE7.out.on hb8)
                have HK8 := Lib.hid (HK7.out.below hb8 HK7.out.lt)
                have hjm : j < manyC x := by rw [HUV.out.1]; exact HLT.out
                have HFN := Lib.hid (HFL.out.next (m := m) hjm (by have := HSM.out; have h2 := HXL.out; unfold baseC at this; omega) HTM.out.2 (by have := HSM.out; have h2 := HXL.out; omega) o (fun h0 => HOO.out (by omega)))
                have hpx : pieceAt x j = ⟨kk.1, kk.2, (x.drop (baseC x + sumT (tableC x) j)).take m⟩ := by
                  unfold pieceAt
                  rw [HTM.out.1, HTM.out.2]
                have hpl : ((x.drop (baseC x + sumT (tableC x) j)).take m).length = m := by rw [List.length_take, List.length_drop]; have := HSM.out; have h2 := HXL.out; omega
                have hbp := built_piece2 HK.out (some ⟨ga, o, none⟩) m ((x.drop (baseC x + sumT (tableC x) j)).take m) hpl
                rw [← hpx] at hbp
                obtain ⟨X, hX⟩ : ∃ X : PieceT, (⟨some ⟨ga, o, none⟩, m, pieceAt x j⟩ : PieceT) = X := ⟨_, rfl⟩
                rw [hX] at hbp HFN
                have hxo : X.p.Ok := by
                  have h1 := HFN.out.p j (by rw [HFN.out.n]; omega)
                  have h2 : (ls ++ [X])[j]'(by rw [HFN.out.n]; omega) = X := by
                    have := HFL.out.n
                    subst this
                    simp
                  rw [h2] at h1
                  exact h1.2.2.1
                have HBP := Lib.hid hbp
                have HPA := Lib.hid (pass_any X hxo HE8.out (by have := HLT.out; omega))
                have HQN := Lib.hid (show baseC x + sumT (tableC x) (j + 1) + (q - m) = n ∧ (0 < q - m → o' = baseC x + sumT (tableC x) (j + 1)) ∧ q - m ≤ z - m ∧ z - m ≤ maxLen by
                  rw [sumT_tz hjm, HTM.out.2]
                  have h1 := HSM.out
                  have h2 := HQZ.out
                  refine ⟨by omega, fun h0 => ?_, by omega, by omega⟩
                  have h3 := ho' (by omega)
                  have h4 := HOO.out (by omega)
                  omega)
                obtain ⟨q', hq'⟩ : ∃ q', q - m = q' := ⟨_, rfl⟩
                obtain ⟨z', hz'⟩ : ∃ z', z - m = z' := ⟨_, rfl⟩
                rw [hq', hz'] at HQN
                rw [hq', hz']
                have hqq : q' ≤ 100000 := by omega
                clear hbp hxo hX hpx hpl hjm hb8 ho' hq' hz' HE7 HK7 hne hrt hr38 htr htr38
                go_wp2_with (first
                  | (refine wpList_load_row rfl 40 (.tmp 15) rfl p rfl 40 (kcs kk).toArray (0, 0) (.struct fs) HK8.out HF.out rfl HKS.out ?_)
                  | (refine wpList_buildTo rfl 42 #[(0, Operand.tmp 74), (1, Operand.tmp 75)] rfl (some 76) rfl (pcs X).toArray (by simp only [List.map_toArray, List.map_cons, List.map_nil]; exact HBP.out) ?_))
                refine HPA.out.mono ?_
                rintro e w9 ⟨rfl, P', pc', hE9⟩
                have HE9 := Lib.hid hE9
                clear hE9 HPA HBP HK8 HE8
                go_wp2_with fail
                go_roundw
                case rel => exact ⟨j + 1, q', z', _, true, by have := HLT.out; omega, by go_num, rfl, rfl, hqq, Lib.hid ⟨HQN.out.2.2.1, HQN.out.2.2.2⟩, Lib.hid (fun _ => ⟨o', P', pc', _, rfl, HQN.out.1, HQN.out.2.1, HE9.out, HFN.out⟩), Lib.hid (fun h => absurd h (by decide))⟩
                case measure => have := HLT.out; simp [intOf]; omega
            · obtain rfl : j = U := by omega
              have hjj : ¬ ((j : Int) < (j : Int)) := by omega
              by_cases hq0 : q = 0
              · subst hq0
                have HFT := Lib.hid (show Fit x by
                  unfold Fit
                  have := HSM.out
                  have h2 := HXL.out
                  unfold baseC at this
                  rw [HUV.out.1] at this ⊢
                  omega)
                go_wp2_with fail
                go_ret2
                refine ⟨V, true, rfl, fun _ => ⟨n, P, pc, j, ls, ga, cur, HSE.out, ?_, ?_, ?_, HE.out, ?_, ?_⟩, fun h => absurd h (by decide)⟩
                · rw [HX.out]; exact HFT.out
                · rw [HX.out]; exact HUV.out.2.symm
                · rw [HX.out]; exact HUV.out.1.symm
                · rw [HX.out]; exact HBD.out
                · rw [HX.out]; exact HFL.out
              · have HT := Lib.hid (show takeC b = (0, [], 110) from take_unfit' HSE.out.1 fun hf => by
                  rw [HX.out] at hf
                  have := HSM.out
                  have h2 := HXL.out
                  unfold Fit at hf
                  unfold baseC at this
                  rw [HUV.out.1] at this hf
                  omega)
                have hqe : ((q : Int) == 0) = false := by simp; omega
                have hq1 : ¬ (q : Int) = 0 := by omega
                go_wp2_with fail
                go_ret2
                exact Each.no HT.out HE.out.bel V
  · have hno := no1 fun n hn => hse ⟨n, hn⟩
    subst hno
    have HT := Lib.hid (unsealed_take fun n hn => hse ⟨n, hn⟩)
    clear yes1 no1 hb1 hse HO
    go_wp2_with fail
    go_ret2
    exact Each.no HT.out HB1.out 0
end Go.Proofs.Ytoiiiccichkgpaa
/- What the landed package cont does: Take, Keys, One; all its contracts. No statement of the seat is proved here. -/
namespace Go.Proofs.Ytoiiiccichkgpaa
open Go.RowKit
set_option linter.unusedVariables false
set_option linter.unusedSimpArgs false

section
variable {w0 w : World} {g pc np ga : Nat} {P : Option Addr} {ls : List PieceT} {cur : Array Value} {x : List UInt8}
theorem owns_cap {A : Option Addr} {B c n : Nat} {ls : List PieceT} (h : OwnP w B A c n ls) : n ≤ c ∧ c ≤ maxLen := by
  rcases h.2 with ⟨hv, h0⟩ | ⟨_, _, _, hv, _, _, h1, h2, _⟩
  · injection hv with _ _ hv
    subst hv h0
    exact ⟨Nat.le_refl _, Nat.zero_le _⟩
  · injection hv with _ _ hv
    subst hv
    exact ⟨h1, h2⟩
theorem ec_each (h : EC w0 w g P pc np ls ga cur) (hb : Bd x cur) (hf : Fl x ga np ls) : ∀ y ∈ ls, y.Ok w w.heap.size := fun y hy => by
  obtain ⟨j, hj, rfl⟩ := List.getElem_of_mem hy
  obtain ⟨p1, p2, p3, p4⟩ := hf.p j hj
  obtain ⟨o, a1, a2, a3⟩ := hf.at_ j hj
  refine ⟨p3, fun h0 => ?_, by rw [a2]; exact Nat.le_refl _, ?_⟩
  · have ho := a3 h0
    rw [a1]
    have hr := hb.rd h.body o (tz x j).2 (by omega)
    have e : (x.drop o).take (tz x j).2 = ls[j].p.data := by rw [p1, ho]; rfl
    rw [e] at hr
    exact hr h0
  · rw [a2, p2]
    have h1 := hb.le
    have h2 := hb.max
    omega
theorem ec_rd (h : EC w0 w g P pc np ls ga cur) (hb : Bd x cur) (hf : Fl x ga np ls) : RdPc w w.heap.size P ls := by
  have ho := h.own
  rw [← hf.n] at ho
  exact OwnP.rd ho (ec_each h hb hf)
theorem ec_apart (h : EC w0 w g P pc np ls ga cur) (hb : Bd x cur) (hf : Fl x ga np ls) (hnp : np ≤ manyC x) (hne : ∀ p ∈ pds ls, p.data ≠ []) : Apart w w0.heap.size ls := by
  have hpos : ∀ j (hj : j < ls.length), 0 < ls[j].p.data.length := fun j hj => List.length_pos_iff.2 (hne _ (List.mem_map.2 ⟨_, List.getElem_mem hj, rfl⟩))
  refine ⟨fun y hy => ?_, fun i j hi hj hij q o q' o' e1 e2 => ?_⟩
  · obtain ⟨j, hj, rfl⟩ := List.getElem_of_mem hy
    obtain ⟨p1, p2, p3, p4⟩ := hf.p j hj
    obtain ⟨o, a1, a2, a3⟩ := hf.at_ j hj
    have ho := a3 (hpos j hj)
    have h1 := hb.le
    have h2 := hb.max
    refine ⟨ga, o, cur, 5, a1, h.la, h.body, by decide, by omega, by omega, by omega, fun i hi => ?_⟩
    rw [hb.at_ (o + i) (by omega)]
    have e : ls[j].p.data = (x.drop o).take (tz x j).2 := by rw [p1, ho]; rfl
    have e2 : ls[j].p.data[i]? = some (x[o + i]'(by omega)) := by
      rw [e, List.getElem?_take_of_lt (by omega), List.getElem?_drop, List.getElem?_eq_getElem (by omega)]
    rw [List.getElem?_eq_getElem hi] at e2
    injection e2 with e2
    rw [e2]
  · obtain ⟨o1, a1, a2, a3⟩ := hf.at_ i hi
    obtain ⟨o2, b1, b2, b3⟩ := hf.at_ j hj
    rw [a1] at e1
    rw [b1] at e2
    injection e1 with e1
    injection e1 with _ e1 _
    injection e2 with e2
    injection e2 with _ e2 _
    have ho1 := a3 (hpos i hi)
    have ho2 := b3 (hpos j hj)
    obtain ⟨_, p2, _, _⟩ := hf.p i hi
    have h1 := sumT_le (tableC x) (show i + 1 ≤ j by omega)
    rw [sumT_tz (by have := hf.n; omega)] at h1
    exact .inr (.inl (by omega))
theorem ec_small (hx : x.length ≤ 100000) (hfit : Fit x) (hf : Fl x ga (manyC x) ls) : SmallC ls := by
  have hle := hfit.le
  have hn := hf.n
  refine ⟨by omega, ?_⟩
  have hok : ∀ p ∈ listC x, p.Ok := fun p hp => by
    rw [← hf.all] at hp
    obtain ⟨y, hy, rfl⟩ := List.mem_map.1 hp
    obtain ⟨j, hj, rfl⟩ := List.getElem_of_mem hy
    exact (hf.p j hj).2.2.1
  have := bodyC_length (id := idC x) hok
  rw [body_fit hfit] at this
  rw [hf.all]
  omega
end
set_option maxRecDepth 100000 in
set_option maxHeartbeats 4000000 in
theorem take_any (A : Option Addr) (k c : Nat) (b : List UInt8) (w : World) (hl : b.length = k) (hk : k ≤ c) (hc : c ≤ maxLen) (hk1 : k ≤ 100000) (hr : Rd w w.heap.size A b) :
    Calls Try.prog 15 #[.slice A k c] w (CTook w b) := by
  obtain ⟨g, hg⟩ : ∃ g, w.heap.size = g := ⟨_, rfl⟩
  obtain ⟨w1, hw1⟩ : ∃ w1, w.alloc (.cells #[.slice none 0 0] 23) = w1 := ⟨_, rfl⟩
  have hb1 : Below w.heap.size w w1 := hw1 ▸ (Below.refl _ _).alloc (Nat.le_refl _) _
  have hv1 : Blk w1 g 23 #[.slice none 0 0] := by rw [← hw1, ← hg]; exact Blk.new w _ _
  have HE := Lib.hid (each_any A k c b hl hk hc hk1 w w1 g hv1 hb1 (by omega) ((hr.below hb1).more hb1.size))
  have HW := Lib.hid (And.intro hw1 (And.intro hg hb1))
  have hmf : ∀ (fn : Fn) (first cap : Array Value) (w : World), (Instr.makeFunc fn first cap).run Try.prog w = .ok (.func fn first cap) w := fun _ _ _ _ => rfl
  have HLK := Lib.hid (And.intro hl hk1)
  clear hl hk hc hr hw1 hb1 hv1 hk1
  go_enter Try.func15, Try.ntmps15
  go_upto_region 2 with fail
  rw [HW.out.1]
  clear hg
  go_wp2_with fail
  refine HE.out.mono ?_
  rintro e w2 ⟨I, ft, rfl, yes, no⟩
  cases ft with
  | false =>
    have HNO := Lib.hid (no rfl)
    clear yes no HE
    go_wp2_with fail
    go_ret3
    refine ⟨fun _ => ⟨none, 0, rfl⟩, fun id l h => ?_, HNO.out.2⟩
    rw [HNO.out.1] at h
    injection h with _ h
    injection h with _ h
    cases h
  | true =>
    obtain ⟨n, P, pc, np, ls, ga, cur, hse, hfit, rfl, rfl, hE, hbd, hfl⟩ := yes rfl
    obtain ⟨x, hx⟩ : ∃ x, b.take n = x := ⟨_, rfl⟩
    have ht := take_fit hse.1 hse.2 hfit
    rw [hx] at hfit hbd hfl ht hE
    have hxl : x.length ≤ 100000 := by rw [← hx, List.length_take]; have := hse.1; have := HLK.out; omega
    have hsm := ec_small hxl hfit hfl
    have hrd := ec_rd hE hbd hfl
    have hcap := owns_cap hE.own
    have HFA := Lib.hid (fault_any P ls (manyC x) pc hfl.n hsm w2 hrd)
    rw [hfl.all] at HFA
    have hap : refC (listC x) = 0 → Apart w2 w.heap.size ls := fun h => ec_apart hE hbd hfl (Nat.le_refl _) fun p hp => ((refC_zero h).1 p (by rw [← hfl.all]; exact hp)).1
    obtain ⟨R, hR⟩ : ∃ R, refC (listC x) = R := ⟨_, rfl⟩
    rw [hR] at HFA ht hap
    have HEC := Lib.hid hE
    have HAP := Lib.hid hap
    have HFL := Lib.hid hfl
    have HT := Lib.hid ht
    have HCP := Lib.hid hcap
    rw [hx]
    obtain ⟨M, hM⟩ : ∃ M, manyC x = M := ⟨_, rfl⟩
    obtain ⟨J, hJ⟩ : ∃ J, idC x = J := ⟨_, rfl⟩
    rw [hM] at HFA HEC HCP
    rw [hJ] at HT ⊢
    have hc0 := HEC.out.var.cell 0
    have HM := Lib.hid hM
    clear yes no HE hse hfit hx ht hbd hfl hE hxl hsm hrd hcap hap hR hM hJ
    by_cases hR0 : R = 0
    · subst hR0
      go_wp2_with fail
      refine HFA.out.mono ?_
      rintro e w3 ⟨rfl, hb3⟩
      have HE3 := Lib.hid (HEC.out.on hb3)
      have HA3 := Lib.hid ((HAP.out (by trivial)).below hb3)
      have hc3 := HE3.out.var.cell 0
      clear hb3 hc0
      go_wp2_with fail
      go_quiet (fail)
      go_wp2_with fail
      go_ret3
      have HE4 := HE3.out.on (below_drewN (Below.refl _ _) nq)
      have HA4 := HA3.out.below (below_drewN (Below.refl _ _) nq)
      have hT := HT.out
      rw [if_pos (by trivial)] at hT
      refine ⟨fun h => ?_, fun id l h => ?_, HE4.bel⟩
      · rw [hT] at h
        injection h with _ h
        injection h with _ h
        cases h
      · rw [hT] at h
        injection h with h1 h
        injection h with h2 _
        subst h1 h2
        have hlen : (listC x).length = M := by rw [listC_len, HM.out]
        have hM2 := HM.out
        subst hM2
        refine ⟨P, pc, ls, HFL.out.all, by rw [hlen]; rfl, ?_, by rw [hlen]; exact HCP.out.1, HCP.out.2, HA4⟩
        rw [hlen]
        exact ownsRow_base HE4.own (by have := HE4.lg; omega)
    · have hRi : ¬ (R : Int) = 0 := by omega
      have hRb : ((R : Int) != 0) = true := by simp; omega
      go_wp2_with fail
      refine HFA.out.mono ?_
      rintro e w3 ⟨rfl, hb3⟩
      have HB3 := Lib.hid (HEC.out.on hb3).bel
      clear hb3 hc0
      go_wp2_with fail
      go_ret3
      have hT := HT.out
      rw [if_neg hR0] at hT
      refine ⟨fun _ => ⟨none, 0, rfl⟩, fun id l h => ?_, HB3.out⟩
      rw [hT] at h
      injection h with _ h
      injection h with _ h
      cases h
theorem rdk_new (w : World) {x : KeyT} (hx : x.Ok) : RdK (w.alloc (.cells (kcs x).toArray 40)) (w.alloc (.cells (kcs x).toArray 40)).heap.size (some ⟨w.heap.size, 0, none⟩) [x] := by
  refine ⟨fun _ => ⟨w.heap.size, 0, rfl, by simp, fun j hj i v hv => ?_⟩, by simpa using hx⟩
  obtain rfl : j = 0 := by simpa using hj
  rw [(Blk.new w 40 (kcs x).toArray).cell, List.getElem?_toArray]
  simpa using hv
/-- Take's answer, one way or the other. -/
theorem took_cases {w w' : World} {b : List UInt8} {e : Ending} (h : CTook w b e w') : ∃ (I R k : Nat) (A' : Option Addr) (c' : Nat) (ls : List PieceT), e = .returned (.tuple #[.int .u32 I, .slice A' k c', .int .i64 R]) ∧ ls.length = k ∧ k ≤ 1000 ∧ RdPc w' w'.heap.size A' ls ∧ k ≤ c' ∧
    ((takeC b = (0, [], 110) ∧ I = 0 ∧ R = 110 ∧ ls = []) ∨ (takeC b = (I, pds ls, 0) ∧ R = 0 ∧ Apart w' w.heap.size ls)) ∧ Below w.heap.size w w' := by
  rcases takeC_cases b with ⟨id, l, ht, hR, _⟩ | ht
  · obtain ⟨A', c', ls, rfl, he, ho, h1, h2, ha⟩ := h.2.1 id l ht
    have hpl := pds_length ls
    rw [hpl] at he ho h1
    have hq := (refC_zero hR).2.1
    rw [hpl] at hq
    exact ⟨id, 0, ls.length, A', c', ls, he, rfl, hq, OwnP.rd ho (ha.ok fun y hy => (takeC_ok ht).2.1 _ (List.mem_map.2 ⟨y, hy, rfl⟩)), h1, .inr ⟨ht, rfl, ha⟩, h.2.2⟩
  · obtain ⟨A', c', he⟩ := h.1 ht
    exact ⟨0, 110, 0, A', c', [], he, rfl, by omega, RdPc.nil _ _ _, Nat.zero_le _, .inl ⟨ht, rfl, rfl, rfl⟩, h.2.2⟩
set_option maxRecDepth 100000 in
set_option maxHeartbeats 4000000 in
theorem keys_any (A : Option Addr) (k c : Nat) (b : List UInt8) (w : World) (hl : b.length = k) (hk : k ≤ c) (hc : c ≤ maxLen) (hk1 : k ≤ 100000) (hr : Rd w w.heap.size A b) :
    Calls Try.prog 17 #[.slice A k c] w fun e w' =>
    (takeC b = (0, [], 110) → ∃ A' c', e = .returned (.tuple #[.int .u32 0, .slice A' 0 c', .int .i64 110])) ∧
    (∀ id l, takeC b = (id, l, 0) → ∃ A' c', e = .returned (.tuple #[.int .u32 id, .slice A' l.length c', .int .i64 0]) ∧ RdK w' w'.heap.size A' (l.map PcD.key)) ∧ Below w.heap.size w w' := by
  have HT := Lib.hid (take_any A k c b w hl hk hc hk1 hr)
  obtain ⟨i0, hi, hz0, hz1, hz2⟩ := info_parts info_key
  have HI := Lib.hid (And.intro hi (And.intro hz0 (And.intro hz1 hz2)))
  obtain ⟨iz, hiz, hzz, _⟩ := info_parts info_piece
  have HZ := Lib.hid (And.intro hiz hzz)
  obtain ⟨fk, hfk⟩ := key_desc
  obtain ⟨fs, hfs⟩ := pc_desc
  have HF := Lib.hid (And.intro hfs hfk)
  clear hl hk hc hk1 hr hi hz0 hz1 hz2 hiz hzz hfk hfs
  go_enter Try.func17, Try.ntmps17
  go_wp2_with fail
  refine HT.out.mono ?_
  rintro e w1 ht
  obtain ⟨I, R, n, A1, c1, ls, rfl, hln, hn, hrd, hnc, hcase, hb1⟩ := took_cases ht
  have HLS := Lib.hid (And.intro hln hrd)
  have HC := Lib.hid hcase
  have HB1 := Lib.hid hb1
  clear ht hln hrd hcase hb1 HT
  go_wp2_with fail
  go_loopw [8, 19] (fun v i wr => ∃ (j : Nat) (X : Option Addr) (z : Nat), j ≤ n ∧ i = .int .i64 j ∧ v = .slice X j z ∧ Hid (OwnK wr w1.heap.size X z (((pds ls).map PcD.key).take j)) ∧ Hid (Below w1.heap.size w1 wr)) (fun _ i _ => n - (intOf i).toNat)
  case atStart => exact ⟨0, none, 0, Nat.zero_le _, rfl, rfl, Lib.hid (World.ownsRow_nil _ _ _ _), Lib.hid (Below.refl _ _)⟩
  case round =>
    obtain ⟨j, X, z, hj, rfl, rfl, HO, HB⟩ := hrel
    by_cases hlt : j < n
    · have hjl : j < ls.length := by rw [HLS.out.1]; exact hlt
      obtain ⟨g, off, rfl, hg, hra, ho⟩ := (HLS.out.2.below HB.out).at_ hjl
      have HPV := Lib.hid (pv_of ho.ok)
      have HRA := Lib.hid hra
      have HRK := Lib.hid (pv_key ho.ok wr)
      have HOK := Lib.hid ho.ok.key
      have HTK := Lib.hid (show ((pds ls).map PcD.key).take (j + 1) = ((pds ls).map PcD.key).take j ++ [ls[j].p.key] by
        rw [List.take_succ_eq_append_getElem (by rw [List.length_map, pds_length]; exact hjl), List.getElem_map, pds_get hjl])
      have HLN := Lib.hid (show (((pds ls).map PcD.key).take j).length = j by rw [List.length_take, List.length_map, pds_length, HLS.out.1]; omega)
      generalize (ls[j]'hjl) = x at *
      have HKS := Lib.hid (show (Try.prog.info? 40).map (·.size) = some (kcs x.p.key).length by rw [kcs_length HOK.out]; exact key_size)
      have HNB := Lib.hid (Blk.new wr 42 pz)
      obtain ⟨w2, hw2⟩ : ∃ w2, wr.alloc (.cells (pcs x).toArray 42) = w2 := ⟨_, rfl⟩
      obtain ⟨p, hp⟩ : ∃ p, wr.heap.size = p := ⟨_, rfl⟩
      have hb2 : Below wr.heap.size wr w2 := hw2 ▸ (Below.refl _ _).alloc (Nat.le_refl _) _
      have HRK2 := Lib.hid (show w2.rangeAt p 0 (kcs x.p.key) by rw [← hw2, ← hp]; exact HRK.out)
      have hb3 : Below w2.heap.size w2 (w2.alloc (.cells (kcs x.p.key).toArray 40)) := (Below.refl _ _).alloc (Nat.le_refl _) _
      have HOA := Lib.hid (show OwnK (w2.alloc (.cells (kcs x.p.key).toArray 40)) w1.heap.size X z (((pds ls).map PcD.key).take j) from ownsRow_below (ownsRow_below HO.out hb2) hb3)
      have HBA := Lib.hid ((HB.out.trans (hb2.mono HB.out.size)).trans (hb3.mono (Nat.le_trans HB.out.size hb2.size)))
      have HNK := Lib.hid (rdk_new w2 HOK.out)
      have HW2 := Lib.hid (And.intro hw2 hp)
      have hi1 : (0 : Int) ≤ (j : Int) := by omega
      have hi2 : (j : Int) < (n : Int) := by omega
      clear hra ho hg HO HB HRK hw2 hp hb2 hb3
      go_wp2_with (first
        | (refine wpList_load_mid rfl 42 (.tmp 21) rfl g (off + j * 34) rfl (pcs x) (.struct fs) HRA.out HF.out.1 rfl HPV.out.ks ?_)
        | (refine wpList_alloc_z rfl 42 rfl iz _ HZ.out.1 HZ.out.2 ?_)
        | (refine wpList_store_row rfl 42 (.tmp 10) (.tmp 22) rfl wr.heap.size (pcs x).toArray rfl rfl 42 pz HNB.out HPV.out.ks2 HPV.out.old HPV.out.one ?_; rw [setRow_alloc, HW2.out.1, HW2.out.2])
        | (refine wpList_load_mid rfl 40 (.tmp 24) rfl p 0 rfl (kcs x.p.key) (.struct fk) HRK2.out HF.out.2 rfl HKS.out ?_)
        | (refine wpList_buildKey rfl (.tmp 25) rfl HOK.out rfl ?_)
        | (at_builtin; refine wpList_append_keys _ rfl (.tmp 23) (.tmp 26) rfl w1.heap.size i0 HI.out.1 HI.out.2.1 HI.out.2.2.1 HI.out.2.2.2 X z j (((pds ls).map PcD.key).take j) HLN.out rfl HOA.out _ (some ⟨w2.heap.size, 0, none⟩) 1 1 [x.p.key] rfl rfl HNK.out ?_ ?_ ?_))
      case _ => omega
      case _ => exact HBA.out.size
      intro A4 k4 w5 ho hg
      have H4 := Lib.hid (show OwnK w5 w1.heap.size A4 k4 (((pds ls).map PcD.key).take (j + 1)) ∧ Below w1.heap.size w1 w5 from ⟨by rw [HTK.out]; exact ho, HBA.out.grown hg HBA.out.size fun q hq => by
        have := HOA.out
        unfold OwnK at this
        rw [HLN.out] at this
        exact (this.lt q hq).1⟩)
      clear ho hg HNK HOA HBA HRA
      go_wp2_with fail
      go_roundw
      case rel => exact ⟨j + 1, A4, k4, by omega, by go_num, rfl, Lib.hid H4.out.1, Lib.hid H4.out.2⟩
      case measure => simp [intOf]; omega
    · obtain rfl : j = n := by omega
      have HE := Lib.hid (show ((pds ls).map PcD.key).take j = (pds ls).map PcD.key from List.take_of_length_le (by rw [List.length_map, pds_length, HLS.out.1]; exact Nat.le_refl _))
      go_wp2_with fail
      go_ret3
      have hbb := HB1.out.trans (HB.out.mono HB1.out.size)
      have hown := HO.out
      rw [HE.out] at hown
      rcases HC.out with ⟨h1, h2, h3, h4⟩ | ⟨h1, h3, _⟩
      · subst h2 h3 h4
        obtain rfl : j = 0 := HLS.out.1.symm
        refine ⟨fun _ => ⟨X, z, rfl⟩, fun id l h => ?_, hbb⟩
        rw [h1] at h
        injection h with _ h
        injection h with _ h
        cases h
      · subst h3
        refine ⟨fun h => ?_, fun id l h => ?_, hbb⟩
        · rw [h1] at h
          injection h with _ h
          injection h with _ h
          cases h
        · rw [h1] at h
          injection h with h5 h
          injection h with h6 _
          subst h5 h6
          refine ⟨X, z, by rw [pds_length, HLS.out.1]; rfl, OwnK.rd hown fun y hy => ?_⟩
          obtain ⟨q, hq, rfl⟩ := List.mem_map.1 hy
          exact ((takeC_ok h1).2.1 q hq).key
theorem built_none : Try.prog.built 42 [] = some pz := by
  obtain ⟨i0, hi, hz0, hz1, hz2⟩ := info_parts info_piece
  obtain ⟨fields, hf, hm⟩ := piece_places
  unfold Program.built
  rw [hi, hf]
  simp only [hz0, hm]
  rfl
theorem zero_pieceL (w : World) (B : Nat) : (PieceT.bare (List.replicate 32 0, 0)).Ok w B ∧ (PieceT.bare (List.replicate 32 0, 0)).p = zeroC :=
  ⟨⟨⟨by simp [PieceT.bare], by simp [PieceT.bare]⟩, Rd.nil _ _ _, Nat.zero_le _, Nat.zero_le _⟩, rfl⟩
theorem Apart.set_row {w : World} {B d : Nat} {ls : List PieceT} {cs : Array Value} (h : Apart w B ls) (hd : d < B) : Apart (w.setRow d cs) B ls :=
  ⟨fun x hx => by
    obtain ⟨g, o, cur, t, h1, h2, h3, h4⟩ := h.each x hx
    exact ⟨g, o, cur, t, h1, h2, h3.same (setRow_other _ _ _ _ (by omega)), h4⟩, h.two⟩
set_option maxRecDepth 100000 in
set_option maxHeartbeats 4000000 in
theorem one_any (A : Option Addr) (k c : Nat) (b : List UInt8) (at_ : Int) (w : World) (hl : b.length = k) (hk : k ≤ c) (hc : c ≤ maxLen) (hk1 : k ≤ 100000) (hat : In64 at_) (hr : Rd w w.heap.size A b) :
    Calls Try.prog 18 #[.slice A k c, .int .i64 at_] w fun e w' => ∃ (x : PieceT) (E : Nat),
    e = .returned (.tuple #[.agg (pcs x).toArray, .int .i64 E]) ∧ x.Ok w' w'.heap.size ∧ (takeC b = (0, [], 110) → x.p = zeroC ∧ E = 110) ∧
    (∀ id l, takeC b = (id, l, 0) → ((at_ < 0 ∨ (l.length : Int) ≤ at_) → x.p = zeroC ∧ E = 2) ∧ ∀ (j : Nat) (h : j < l.length), at_ = j → x.p = l[j] ∧ E = 0) ∧ Below w.heap.size w w' := by
  obtain ⟨d, hd⟩ : ∃ d, w.heap.size = d := ⟨_, rfl⟩
  obtain ⟨w1, hw1⟩ : ∃ w1, w.alloc (.cells pz 42) = w1 := ⟨_, rfl⟩
  have hb1 : Below w.heap.size w w1 := hw1 ▸ (Below.refl _ _).alloc (Nat.le_refl _) _
  have hB1 : Blk w1 d 42 pz := by rw [← hw1, ← hd]; exact Blk.new w _ _
  have HT := Lib.hid (take_any A k c b w1 hl hk hc hk1 ((hr.below hb1).more hb1.size))
  have HW := Lib.hid (And.intro hw1 (And.intro hd hb1))
  have HB1 := Lib.hid hB1
  obtain ⟨iz, hiz, hzz, _⟩ := info_parts info_piece
  have HZ := Lib.hid (And.intro hiz hzz)
  obtain ⟨fs, hfs⟩ := pc_desc
  have HF := Lib.hid hfs
  obtain ⟨at1, at2⟩ := hat
  clear hl hk hc hk1 hr hiz hzz hfs hw1 hb1 hB1
  have ZP := fun (W : World) => zero_pieceL W W.heap.size
  have HZV := Lib.hid (pv_of (ZP w).1.ok)
  go_enter Try.func18, Try.ntmps18
  go_upto_region 1 with (refine wpList_alloc_z rfl 42 rfl iz _ HZ.out.1 HZ.out.2 ?_)
  rw [HW.out.1]
  clear hd
  go_wp2_with fail
  refine HT.out.mono ?_
  rintro e w2 ht
  obtain ⟨I, R, n, A2, c2, ls, rfl, hln, hn, hrd, hnc, hcase, hb2⟩ := took_cases ht
  have HLS := Lib.hid (And.intro hln hrd)
  have HB2 := Lib.hid (HW.out.2.2.trans (hb2.mono HW.out.2.2.size))
  have HD2 := Lib.hid (show Blk w2 d 42 pz from HB1.out.below hb2 HB1.out.lt)
  have HDW := Lib.hid (show w.heap.size ≤ d by have := HW.out.2.1; omega)
  have HDL := Lib.hid HB1.out.lt
  have HC := Lib.hid hcase
  clear ht hln hrd hb2 HT HB1 hcase
  by_cases hR : R = 0
  · subst hR
    have ht : takeC b = (I, pds ls, 0) ∧ Apart w2 w1.heap.size ls := by
      rcases HC.out with ⟨_, _, h, _⟩ | ⟨h, _, h2⟩
      · cases h
      · exact ⟨h, h2⟩
    have HTK := Lib.hid ht.1
    have HAP := Lib.hid ht.2
    clear ht HC
    by_cases hin : 0 ≤ at_ ∧ at_ < (n : Int)
    · obtain ⟨j, rfl⟩ : ∃ j : Nat, at_ = j := ⟨at_.toNat, by omega⟩
      have hjl : j < ls.length := by rw [HLS.out.1]; omega
      obtain ⟨g, off, rfl, hg, hra, ho⟩ := HLS.out.2.at_ hjl
      have hpj := pds_get hjl
      have HPV := Lib.hid (pv_of ho.ok)
      have HRA := Lib.hid hra
      have HO := Lib.hid ho
      have HJL := Lib.hid (And.intro hjl hpj)
      obtain ⟨x, hx⟩ : ∃ x, ls[j] = x := ⟨_, rfl⟩
      have HX := Lib.hid hx
      rw [hx] at HPV HRA HO
      have h1 : ¬ (j : Int) < 0 := by omega
      have h2 : ¬ (n : Int) ≤ (j : Int) := by omega
      have h2b : decide ((n : Int) ≤ (j : Int)) = false := decide_eq_false h2
      have hi1 : (0 : Int) ≤ (j : Int) := by omega
      have hi2 : (j : Int) < (n : Int) := hin.2
      have HWD := Lib.hid (show Blk (w2.setRow d (pcs x).toArray) d 42 (pcs x).toArray from setRow_heap _ _ _ _ _ _ HD2.out)
      have HBF := Lib.hid (below_set (cs := (pcs x).toArray) HB2.out HDW.out)
      have HOF := Lib.hid (show x.Ok (w2.setRow d (pcs x).toArray) (w2.setRow d (pcs x).toArray).heap.size from by
        have h1 := (HAP.out.set_row (cs := (pcs x).toArray) HDL.out).ok (fun y hy => (HLS.out.2.each y hy).ok) x (by rw [← hx]; exact List.getElem_mem hjl)
        exact h1)
      clear hra ho hx hpj hin hg ZP HAP
      go_wp2_with (first
        | (refine wpList_load_mid rfl 42 (.tmp 32) rfl g (off + j * 34) rfl (pcs x) (.struct fs) HRA.out HF.out rfl HPV.out.ks ?_)
        | (refine wpList_store_row rfl 42 (.tmp 4) (.tmp 33) rfl d (pcs x).toArray rfl rfl 42 pz HD2.out HPV.out.ks2 HPV.out.old HPV.out.one ?_))
      (try simp only [Exit.inBlock, Exit.then])
      refine bodyPost_ret (v := .tuple #[.agg (pcs x).toArray, .int .i64 0]) ?_ rfl ?_
      · exact res_row_tmp rfl _ _ d 42 _ (0, 0) _ rfl HWD.out HF.out rfl HPV.out.ks2 _ rfl
      refine ⟨x, 0, rfl, HOF.out, fun h => ?_, fun id l h => ?_, HBF.out⟩
      · rw [HTK.out] at h
        injection h with _ h
        injection h with _ h
        cases h
      · rw [HTK.out] at h
        injection h with _ h
        injection h with h3 _
        subst h3
        refine ⟨fun h => ?_, fun q hq hjq => ?_⟩
        · rw [pds_length, HLS.out.1] at h
          omega
        · obtain rfl : j = q := by omega
          exact ⟨by rw [HJL.out.2, HX.out], rfl⟩
    · by_cases h0 : at_ < 0
      · have HWD := Lib.hid (show Blk (w2.setRow d pz) d 42 pz from setRow_heap _ _ _ _ _ _ HD2.out)
        have HBF := Lib.hid (below_set (cs := pz) HB2.out HDW.out)
        clear ZP
        go_wp2_with (first
          | (refine wpList_buildTo rfl 42 #[] rfl (some 29) rfl pz built_none ?_)
          | (refine wpList_store_row rfl 42 (.tmp 4) (.tmp 29) rfl d pz rfl rfl 42 pz HD2.out HZV.out.ks2 rfl HZV.out.one ?_))
        (try simp only [Exit.inBlock, Exit.then])
        refine bodyPost_ret (v := .tuple #[.agg pz, .int .i64 2]) ?_ rfl ?_
        · exact res_row_tmp rfl _ _ d 42 _ (0, 0) _ rfl HWD.out HF.out rfl HZV.out.ks2 _ rfl
        refine ⟨PieceT.bare (List.replicate 32 0, 0), 2, rfl, (zero_pieceL _ _).1, fun h => ?_, fun id l h => ⟨fun _ => ⟨rfl, rfl⟩, fun q hq hjq => ?_⟩, HBF.out⟩
        · rw [HTK.out] at h
          injection h with _ h
          injection h with _ h
          cases h
        · rw [HTK.out] at h
          injection h with _ h
          injection h with h3 _
          subst h3
          rw [pds_length, HLS.out.1] at hq
          omega
      · have h2 : (n : Int) ≤ at_ := by omega
        have h2b : decide ((n : Int) ≤ at_) = true := decide_eq_true h2
        have HWD := Lib.hid (show Blk (w2.setRow d pz) d 42 pz from setRow_heap _ _ _ _ _ _ HD2.out)
        have HBF := Lib.hid (below_set (cs := pz) HB2.out HDW.out)
        clear ZP
        go_wp2_with (first
          | (refine wpList_buildTo rfl 42 #[] rfl (some 29) rfl pz built_none ?_)
          | (refine wpList_store_row rfl 42 (.tmp 4) (.tmp 29) rfl d pz rfl rfl 42 pz HD2.out HZV.out.ks2 rfl HZV.out.one ?_))
        (try simp only [Exit.inBlock, Exit.then])
        refine bodyPost_ret (v := .tuple #[.agg pz, .int .i64 2]) ?_ rfl ?_
        · exact res_row_tmp rfl _ _ d 42 _ (0, 0) _ rfl HWD.out HF.out rfl HZV.out.ks2 _ rfl
        refine ⟨PieceT.bare (List.replicate 32 0, 0), 2, rfl, (zero_pieceL _ _).1, fun h => ?_, fun id l h => ⟨fun _ => ⟨rfl, rfl⟩, fun q hq hjq => ?_⟩, HBF.out⟩
        · rw [HTK.out] at h
          injection h with _ h
          injection h with _ h
          cases h
        · rw [HTK.out] at h
          injection h with _ h
          injection h with h3 _
          subst h3
          rw [pds_length, HLS.out.1] at hq
          omega
  · have hR2 : takeC b = (0, [], 110) ∧ R = 110 := by
      rcases HC.out with ⟨h1, _, h3, _⟩ | ⟨_, h, _⟩
      · exact ⟨h1, h3⟩
      · exact absurd h hR
    have HNO := Lib.hid hR2.1
    obtain rfl : R = 110 := hR2.2
    clear hR2 HC hR
    have HWD := Lib.hid (show Blk (w2.setRow d pz) d 42 pz from setRow_heap _ _ _ _ _ _ HD2.out)
    have HBF := Lib.hid (below_set (cs := pz) HB2.out HDW.out)
    clear ZP
    go_wp2_with (first
      | (refine wpList_buildTo rfl 42 #[] rfl (some 18) rfl pz built_none ?_)
      | (refine wpList_store_row rfl 42 (.tmp 4) (.tmp 18) rfl d pz rfl rfl 42 pz HD2.out HZV.out.ks2 rfl HZV.out.one ?_))
    (try simp only [Exit.inBlock, Exit.then])
    refine bodyPost_ret (v := .tuple #[.agg pz, .int .i64 110]) ?_ rfl ?_
    · exact res_row_tmp rfl _ _ d 42 _ (0, 0) _ rfl HWD.out HF.out rfl HZV.out.ks2 _ rfl
    refine ⟨PieceT.bare (List.replicate 32 0, 0), 110, rfl, (zero_pieceL _ _).1, fun _ => ⟨rfl, rfl⟩, fun id l h => ?_, HBF.out⟩
    rw [HNO.out] at h
    injection h with _ h
    injection h with _ h
    cases h
theorem contsOk : ContsOk where
  size A ls k c w hl hs hr := size_any A ls k c hl hs w hr
  lay A ls k c id w hid hl hk hc hs hr := by
    by_cases h0 : refC (pds ls) = 0
    · refine (lay_yes A ls k c id hid hl hs w hr h0).mono fun e w' ⟨A', c', he, ho, hb⟩ => ⟨fun _ => ⟨A', c', 5, he, ho.2, by decide⟩, fun R hR hn => absurd (hR ▸ h0) hn, hb⟩
    · exact (lay_no A ls k c id _ hl hs w hr rfl h0).mono fun e w' ⟨he, hb⟩ => ⟨fun h => absurd h h0, fun R hR _ => ⟨none, 0, by rw [he, hR]⟩, hb⟩
  take A k c b w hl hk hc hk1 hr := take_any A k c b w hl hk hc hk1 hr
  keys A k c b w hl hk hc hk1 hr := keys_any A k c b w hl hk hc hk1 hr
  one A k c b at_ w hl hk hc hk1 hat hr := one_any A k c b at_ w hl hk hc hk1 hat hr
end Go.Proofs.Ytoiiiccichkgpaa
