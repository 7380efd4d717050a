/- TreeKept's walk, told from what the package does. No statement of the seat is proved here. -/
import Derived.Test.YtiomfkhblmmdoaaTrOrder
import Derived.Test.YtiomfkhblmmdoaaGbyF
namespace Go.Proofs.Ytiomfkhblmmdoaa
open Go.RowKit
set_option linter.unusedVariables false
set_option linter.unusedSimpArgs false
set_option maxRecDepth 100000

/-- Cells of a block are written: it is the block still. -/
theorem Blk.cells18 {g : Nat} {t : TypeId} : ∀ (vs : List Value) (o : Nat) (w : World) (cs : Array Value), Blk w g t cs → ∃ cs', Blk (w.setCells g o vs) g t cs' ∧ cs'.size = cs.size
  | [], _, _, cs, h => ⟨cs, h, rfl⟩
  | v :: vs, o, w, cs, h => by
    obtain ⟨cs', h1, h2⟩ := Blk.cells18 vs (o + 1) _ _ (h.set_ o v)
    exact ⟨cs', h1, by rw [h2]; simp⟩
theorem grown_cells18 (g : Nat) : ∀ (vs : List Value) (o : Nat) (w : World), w.grownBy (w.setCells g o vs) (some g)
  | [], _, w => World.grownBy.refl w _
  | v :: vs, o, w => gby_transF (grownBy_cellF w g o v) (grown_cells18 g vs (o + 1) _)
theorem OwnG.blk18 {w : World} {B c : Nat} {A : Option Addr} {L : List PT} (h : OwnG 30 2 pcs w B A c L) (hn : 0 < L.length) : ∃ g cs, A = some ⟨g, 0, none⟩ ∧ B ≤ g ∧ Blk w g 30 cs ∧ L.length * 2 ≤ cs.size := by
  have h1 : w.ownsRow B 30 2 (.slice A L.length c) L.length (L.flatMap pcs) := h
  rcases h1.2 with ⟨_, h0⟩ | ⟨g, cp, cur, hv, hb, hh, hnc, hcm, hsz, ht⟩
  · omega
  · injection hv with hA _ hc
    have hc2 : L.length ≤ cp := hnc
    exact ⟨g, cur, hA, hb, hh, by have h2 : cur.size = cp * 2 := hsz; omega⟩
section
variable {St : World → Value → List PT → Nat → Prop} {Nu : World → Value → Value → Prop}
set_option maxHeartbeats 2000000 in
theorem kept_walk (K : TreesOk St Nu) (A : Option Addr) (ls : List AT18) (k c : Nat) (A' : Option Addr) (ms : List AT18) (k' c' : Nat) (hl : ls.length = k) (hc : k ≤ c) (hcm : c ≤ maxLen) (hl' : ms.length = k') (hc' : k' ≤ c') (hcm' : c' ≤ maxLen) (w : World) (hr : RdQ w w.heap.size A ls) (hr' : RdQ w w.heap.size A' ms) :
    Calls Try.prog 5 #[.slice A k c, .slice A' k' c'] w fun e w' => e = .returned (.bool true) ∧ Below w.heap.size w w' := by
  have KS := Lib.hid (shown_any K w)
  have KF := Lib.hid (fun W hW => few_any A ls k c hl hc hcm W (hr.on hW))
  have KG := Lib.hid (fun W hW => few_any A' ms k' c' hl' hc' hcm' W (hr'.on hW))
  have HR := Lib.hid (show ∀ W, Below w.heap.size w W → RdQ W W.heap.size A ls ∧ RdQ W W.heap.size A' ms from fun W hW => ⟨hr.on hW, hr'.on hW⟩)
  have HPL := Lib.hid (And.intro hl hl')
  unfold maxLen at hcm hcm'
  obtain ⟨fs, hfs⟩ := act18_desc
  have HF := Lib.hid hfs
  clear hl hr hfs hl' hr'
  go_enter Try.func5, Try.ntmps5
  go_wp2_with fail
  refine KS.out.mono ?_
  rintro e w1 ⟨rfl, hb1⟩
  have KF1 := Lib.hid (KF.out w1 hb1)
  have HB1 := Lib.hid hb1
  clear hb1 KS KF
  go_wp2_with fail
  refine KF1.out.mono ?_
  rintro e w2 ⟨m, hm, hm2, hs, rfl, hb2⟩
  have HS := Lib.hid hs
  have HB2 := Lib.hid (HB1.out.trans (hb2.mono HB1.out.size))
  have KG1 := Lib.hid (KG.out w2 HB2.out)
  clear hs hb2 KF1 KG
  go_wp2_with fail
  refine KG1.out.mono ?_
  rintro e w3 ⟨n, hn, hn2, hs, rfl, hb3⟩
  have HS' := Lib.hid hs
  have HB3 := Lib.hid (HB2.out.trans (hb3.mono HB2.out.size))
  clear hs hb3 KG1
  obtain ⟨mm, hmm⟩ : ∃ mm, min m 60 = mm := ⟨_, rfl⟩
  have hmi : min (m : Int) 60 = (mm : Int) := by omega
  have z1 : (mm : Int) ≤ (m : Int) := by omega
  have z2 : (mm : Int) ≤ (c : Int) := by omega
  have z3 : (c : Int) ≤ 9223372036854775807 := by omega
  obtain ⟨nn, hnn⟩ : ∃ nn, min n 20 = nn := ⟨_, rfl⟩
  have hni : min (n : Int) 20 = (nn : Int) := by omega
  have z4 : (nn : Int) ≤ (n : Int) := by omega
  have z5 : (nn : Int) ≤ (c' : Int) := by omega
  have z6 : (c' : Int) ≤ 9223372036854775807 := by omega
  have z7 : mm ≤ m := by omega
  have z8 : mm ≤ 60 := by omega
  have z9 : nn ≤ n := by omega
  have z10 : nn ≤ 20 := by omega
  clear hmm hnn
  go_wp2_with fail
  go_loopw [6, 29] (fun t i wr => ∃ (j : Nat) (v : Value) (L : List PT) (h : Nat), j ≤ mm ∧ i = .int .i64 (j : Nat) ∧ v = t ∧ Hid (St wr v L h ∧ L.length ≤ j) ∧ Hid (Below w.heap.size w wr)) (fun _ i _ => mm - (intOf i).toNat)
  case atStart => exact ⟨0, _, [], 0, Nat.zero_le _, rfl, rfl, Lib.hid ⟨K.nil _, Nat.le_refl _⟩, HB3⟩
  case round =>
    obtain ⟨j, v, L, h, hj, rfl, rfl, HT, HB⟩ := hrel
    by_cases hlt : j < mm
    · have hjp : j < ls.length := by rw [HPL.out.1]; omega
      have hLj := HT.out.2
      obtain ⟨g, off, e1, hg, hra⟩ := (HR.out _ HB.out).1.row hjp
      have hsx := HS.out (ls[j]) (by rw [List.mem_take_iff_getElem]; exact ⟨j, by omega, rfl⟩)
      obtain ⟨x, hx⟩ : ∃ x, ls[j] = x := ⟨_, rfl⟩
      rw [hx] at hra hsx
      subst e1
      obtain ⟨wb, d, hd, hwb, hbb, hkb⟩ := act_box (w := wr) (x := x)
      have HW := Lib.hid (And.intro hd hwb)
      have HKB := Lib.hid hkb
      have HBB := Lib.hid hbb
      have HSX := Lib.hid hsx
      have HRA := Lib.hid (show wr.rangeAt g (off + j * 3) [.bool x.1, .string (st x.2.1), .string (st x.2.2)] from hra)
      have hi1 : (0 : Int) ≤ (j : Int) := by omega
      have hi2 : (j : Int) < (mm : Int) := by omega
      have HTB := Lib.hid (show ∀ W, Below wb.heap.size wb W → St W _ L h from fun W hW => K.keep HT.out.1 (hbb.trans (hW.mono hbb.size)))
      have HBW := Lib.hid (HB.out.trans (hbb.mono HB.out.size))
      have KA := Lib.hid (K.pairs _ L h [] 4611686018427387904 wb (HTB.out wb (Below.refl _ _)) (by omega) (Nat.zero_le _) (by decide) (by decide))
      rw [from_all L (by omega)] at KA
      obtain ⟨a, ha⟩ : ∃ a, L.length = a := ⟨_, rfl⟩
      have HA := Lib.hid ha
      rw [ha] at KA hLj
      clear hx hjp hg hra hd hwb hbb hkb hsx ha
      go_upto_region 7 with (first | (refine wpList_load_mid rfl 32 (.tmp 31) rfl g (off + j * 3) rfl [.bool x.1, .string (st x.2.1), .string (st x.2.2)] (.struct fs) HRA.out HF.out rfl act18_size ?_) | fail)
      rw [HW.out.1, HW.out.2]
      go_wp2_with fail
      refine KA.out.mono ?_
      rintro e w4 ⟨A4, c4, rfl, r4, o4, -, -, b4⟩
      have HB4 := Lib.hid b4
      have HO4 := Lib.hid o4
      have HRP := Lib.hid (show ∀ W, Below w4.heap.size w4 W → RdP W W.heap.size A4 L ∧ OwnG 30 2 pcs W wb.heap.size A4 c4 L from fun W hW => ⟨r4.on hW, o4.on hW⟩)
      have KL := Lib.hid (fun W (hW : Below wb.heap.size wb W) => K.len _ L h W (HTB.out W hW) (by rw [HA.out]; omega))
      have KH := Lib.hid (fun W (hW : Below wb.heap.size wb W) => K.height _ L h W (HTB.out W hW) (by rw [HA.out]; omega))
      rw [HA.out] at KL
      clear r4 o4 b4 KA
      go_wp2_with fail
      refine (KL.out w4 HB4.out).mono ?_
      rintro e w5 ⟨rfl, b5⟩
      have H45 := Lib.hid b5
      have HB5 := Lib.hid (HB4.out.trans (b5.mono HB4.out.size))
      clear b5
      go_wp2_with fail
      refine (KH.out w5 HB5.out).mono ?_
      rintro e w6 ⟨rfl, b6⟩
      have H46 := Lib.hid (H45.out.trans (b6.mono H45.out.size))
      have HB6 := Lib.hid (HB5.out.trans (b6.mono HB5.out.size))
      clear b6 H45 HB5
      go_wp2_with fail
      go_loopw [14, 46] (fun t i wr => ∃ (p : Nat) (u : Value) (U : List PT) (hu : Nat), p ≤ nn ∧ i = .int .i64 (p : Nat) ∧ u = t ∧ Hid (St wr u U hu ∧ U.length ≤ a + p) ∧ Hid (Below w6.heap.size w6 wr)) (fun _ i _ => nn - (intOf i).toNat)
      case atStart => exact ⟨0, _, L, h, Nat.zero_le _, rfl, rfl, Lib.hid ⟨HTB.out _ HB6.out, Nat.le_of_eq HA.out⟩, Lib.hid (Below.refl _ _)⟩
      case round =>
        obtain ⟨p, u, U, hu, hp, rfl, rfl, HU, HBQ⟩ := hrel
        have HBX := Lib.hid (HBW.out.trans ((HB6.out.trans (HBQ.out.mono HB6.out.size)).mono HBW.out.size))
        by_cases hpn : p < nn
        · have hjp : p < ms.length := by rw [HPL.out.2]; omega
          have hUp := HU.out.2
          obtain ⟨g', off', e1, hg, hra⟩ := (HR.out _ HBX.out).2.row hjp
          have hsx := HS'.out (ms[p]) (by rw [List.mem_take_iff_getElem]; exact ⟨p, by omega, rfl⟩)
          obtain ⟨y, hy⟩ : ∃ y, ms[p] = y := ⟨_, rfl⟩
          rw [hy] at hra hsx
          subst e1
          obtain ⟨wy, d', hd, hwb, hbb, hkb⟩ := act_box (w := wr) (x := y)
          have HW' := Lib.hid (And.intro hd hwb)
          have HKB' := Lib.hid hkb
          have HBB' := Lib.hid hbb
          have KD := Lib.hid (does_any K _ U hu y wy (K.keep HU.out.1 hbb) (by omega) (by have := hsx.1; unfold maxLen; omega) (by have := hsx.2; unfold maxLen; omega))
          have HRA' := Lib.hid (show wr.rangeAt g' (off' + p * 3) [.bool y.1, .string (st y.2.1), .string (st y.2.2)] from hra)
          have hi3 : (0 : Int) ≤ (p : Int) := by omega
          have hi4 : (p : Int) < (nn : Int) := by omega
          clear hy hjp hg hra hd hwb hbb hkb hsx
          go_upto_region 13 with (first | (refine wpList_load_mid rfl 32 (.tmp 48) rfl g' (off' + p * 3) rfl [.bool y.1, .string (st y.2.1), .string (st y.2.2)] (.struct fs) HRA'.out HF.out rfl act18_size ?_) | fail)
          rw [HW'.out.1, HW'.out.2]
          have hkd := HKB'.out
          have c0 : wy.cell? ⟨d', 0, none⟩ = some (.bool y.1) := hkd.cell 0
          have c1 : wy.cell? ⟨d', 1, none⟩ = some (.string (st y.2.1)) := hkd.cell 1
          have c2 : wy.cell? ⟨d', 2, none⟩ = some (.string (st y.2.2)) := hkd.cell 2
          clear hkd
          go_wp2_with fail
          refine KD.out.mono ?_
          rintro e w7 ⟨u', hu', rfl, q1, -, q3⟩
          have HQ := Lib.hid (And.intro q1 (show (doL U y).length ≤ a + (p + 1) from do_size U y HU.out.2))
          have HB7 := Lib.hid (HBQ.out.trans (HBB'.out.mono HBQ.out.size |>.trans (q3.mono (Nat.le_trans HBQ.out.size HBB'.out.size))))
          clear q1 q3 c0 c1 c2
          go_wp2_with fail
          go_roundw
          case rel => exact ⟨p + 1, u', doL U y, hu', by omega, by go_num, rfl, HQ, HB7⟩
          case measure => simp [intOf]; omega
        · obtain rfl : p = nn := by omega
          obtain ⟨wm, hwm⟩ : ∃ W, W = wr := ⟨_, rfl⟩
          subst hwm
          have HBM := Lib.hid (HB6.out.trans (HBQ.out.mono HB6.out.size))
          have H4M := Lib.hid (H46.out.trans (HBQ.out.mono H46.out.size))
          have KD := Lib.hid (does_any K _ L h x wm (HTB.out wm HBM.out) (by rw [HA.out]; omega) (by have := HSX.out.1; unfold maxLen; omega) (by have := HSX.out.2; unfold maxLen; omega))
          have HXL := Lib.hid (show (doL L x).length ≤ j + 1 from do_size L x (by rw [HA.out]; exact hLj))
          have hkd := HKB.out.below HBM.out HKB.out.lt
          have c0 : wm.cell? ⟨d, 0, none⟩ = some (.bool x.1) := hkd.cell 0
          have c1 : wm.cell? ⟨d, 1, none⟩ = some (.string (st x.2.1)) := hkd.cell 1
          have c2 : wm.cell? ⟨d, 2, none⟩ = some (.string (st x.2.2)) := hkd.cell 2
          clear hkd HU HBQ HBX HB6 H46
          go_wp2_with fail
          refine KD.out.mono ?_
          rintro e w8 ⟨u', hu', rfl, q1, -, q3⟩
          have HQ := Lib.hid q1
          have HB8 := Lib.hid (HBM.out.trans (q3.mono HBM.out.size))
          have H48 := Lib.hid (H4M.out.trans (q3.mono H4M.out.size))
          have KA := Lib.hid (K.pairs _ L h [] 4611686018427387904 w8 (HTB.out w8 HB8.out) (by rw [HA.out]; omega) (Nat.zero_le _) (by decide) (by decide))
          rw [from_all L (by rw [HA.out]; omega), HA.out] at KA
          clear q1 q3 c0 c1 c2 KD HBM H4M
          go_wp2_with fail
          refine KA.out.mono ?_
          rintro e w9 ⟨A9, c9, rfl, r9, -, -, -, b9⟩
          have H89 := Lib.hid b9
          have HB9 := Lib.hid (HB8.out.trans (b9.mono HB8.out.size))
          have H49 := Lib.hid (H48.out.trans (b9.mono H48.out.size))
          have KP := Lib.hid (rsamepairs_any A9 L a c9 A4 L a c4 HA.out HA.out (by omega) w9 r9 (HRP.out w9 H49.out).1)
          rw [decide_eq_true rfl] at KP
          clear r9 b9 KA
          go_wp2_with fail
          refine KP.out.mono ?_
          rintro e wa ⟨rfl, ba⟩
          have H8A := Lib.hid (H89.out.trans (ba.mono H89.out.size))
          have HBA := Lib.hid (HB9.out.trans (ba.mono HB9.out.size))
          have haa : ((a : Int) != (a : Int)) = false := by simp
          have hhh : ((h : Int) != (h : Int)) = false := by simp
          clear ba KP H89 HB9 H49
          go_wp2_with fail
          refine (KL.out wa HBA.out).mono ?_
          rintro e wc ⟨rfl, bc⟩
          have H8C := Lib.hid (H8A.out.trans (bc.mono H8A.out.size))
          have HBC := Lib.hid (HBA.out.trans (bc.mono HBA.out.size))
          clear bc
          go_wp2_with fail
          refine (KH.out wc HBC.out).mono ?_
          rintro e we ⟨rfl, be⟩
          have H8E := Lib.hid (H8C.out.trans (be.mono H8C.out.size))
          have HBE := Lib.hid (HBC.out.trans (be.mono HBC.out.size))
          clear be
          have HOE := Lib.hid (HRP.out we (H48.out.trans (H8E.out.mono H48.out.size))).2
          have HSU := Lib.hid (K.keep HQ.out H8E.out)
          have HBT := Lib.hid (HBW.out.trans (HBE.out.mono HBW.out.size))
          clear KL KH HTB HRP H8A H8C HBA HBC HQ H48 HO4 HB4 HB8
          obtain ⟨gx, csx, hq⟩ : ∃ gx csx, 0 < a → A4 = some ⟨gx, 0, none⟩ ∧ wb.heap.size ≤ gx ∧ Blk we gx 30 csx ∧ a * 2 ≤ csx.size := by
            by_cases h0 : 0 < a
            · obtain ⟨g0, cs, q1, q2, q3, q4⟩ := HOE.out.blk18 (by rw [HA.out]; exact h0)
              exact ⟨g0, cs, fun _ => ⟨q1, q2, q3, by rw [HA.out] at q4; exact q4⟩⟩
            · exact ⟨0, #[], fun q => absurd q h0⟩
          have HQX := Lib.hid hq
          have hws : w.heap.size ≤ wb.heap.size := HBW.out.size
          have HWS := Lib.hid hws
          clear hq hws HOE
          go_wp2_with fail
          go_loopw [82] (fun i wr => ∃ z : Nat, z ≤ a ∧ i = .int .i64 (z : Nat) ∧ Hid (z = 0 → wr = we) ∧ Hid (0 < a → ∃ cs, Blk wr gx 30 cs ∧ a * 2 ≤ cs.size) ∧ Hid (we.grownBy wr (some gx))) (fun i _ => a - (intOf i).toNat)
          case atStart => exact ⟨0, Nat.zero_le _, rfl, Lib.hid (fun _ => rfl), Lib.hid (fun h0 => ⟨csx, (HQX.out h0).2.2.1, (HQX.out h0).2.2.2⟩), Lib.hid (World.grownBy.refl we _)⟩
          case round =>
            obtain ⟨z, hz, rfl, HZ0, HZB, HZG⟩ := hrel
            by_cases hza : z < a
            · obtain ⟨cs, hk, hcs⟩ := HZB.out (by omega)
              obtain ⟨eA, -, -, -⟩ := HQX.out (by omega)
              have HTH := Lib.hid (show wr.there gx (z * 2) 2 from fun i hi => ⟨by rw [hk.cell, Array.getElem?_eq_getElem (by omega)]; rfl, hk.frozen _⟩)
              have HK2 := Lib.hid (fun vs => Blk.cells18 vs (z * 2) wr cs hk)
              have HG2 := Lib.hid (fun vs => gby_transF HZG.out (grown_cells18 gx vs (z * 2) wr))
              have HCS := Lib.hid hcs
              have hi3 : (0 : Int) ≤ (z : Int) := by omega
              have hi4 : (z : Int) < (a : Int) := by omega
              subst eA
              obtain ⟨x0, hx0⟩ := Option.isSome_iff_exists.1 (HTH.out 0 (by decide)).1
              obtain ⟨x1, hx1⟩ := Option.isSome_iff_exists.1 (HTH.out 1 (by decide)).1
              have hf0 := (HTH.out 0 (by decide)).2
              have hf1 := (HTH.out 1 (by decide)).2
              rw [Nat.add_zero] at hx0 hf0
              clear hk hcs
              go_wp2_with fail
              obtain ⟨cs2, hk2, hcs2⟩ := HK2.out [.string { data := #[111, 116, 104, 101, 114] }, .string { data := #[] }]
              have hg2 := HG2.out [.string { data := #[111, 116, 104, 101, 114] }, .string { data := #[] }]
              go_roundw
              case rel => exact ⟨z + 1, by omega, by go_num, Lib.hid (fun q => absurd q (by omega)), Lib.hid (fun _ => ⟨cs2, hk2, by rw [hcs2]; exact HCS.out⟩), Lib.hid hg2⟩
              case measure => simp [intOf]; omega
            · obtain rfl : z = a := by omega
              have hst : St wr u' (doL L x) hu' := by
                by_cases h0 : z = 0
                · rw [HZ0.out h0]; exact HSU.out
                · exact K.rows (.inl rfl) HSU.out (HQX.out (by omega)).2.2.1 HZG.out
              have hbe : Below w.heap.size w wr := by
                by_cases h0 : z = 0
                · rw [HZ0.out h0]; exact HBT.out
                · exact HBT.out.grown HZG.out HBT.out.size fun r hr => by
                    injection hr with hr
                    rw [← hr]
                    exact Nat.le_trans HWS.out (HQX.out (by omega)).2.1
              have HST := Lib.hid hst
              have HBF := Lib.hid hbe
              clear hst hbe
              go_wp2_with fail
              go_roundw
              case rel => exact ⟨j + 1, u', doL L x, hu', by omega, by go_num, rfl, Lib.hid ⟨HST.out, HXL.out⟩, HBF⟩
              case measure => simp [intOf]; omega
    · obtain rfl : j = mm := by omega
      go_wp2_with fail
      go_ret
      exact ⟨rfl, HB.out⟩
end
end Go.Proofs.Ytiomfkhblmmdoaa
