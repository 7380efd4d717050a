/- The landed package extent: next. No statement of the seat is proved here. -/
import Derived.Test.YtgemjipbifgbgaaZXAJ
import Derived.Test.YtgemjipbifgbgaaZXAP
import Derived.Test.YtgemjipbifgbgaaZXAN
import Derived.Test.YtgemjipbifgbgaaExShown
import Derived.Test.YtgemjipbifgbgaaZXAK
import Derived.Test.YtgemjipbifgbgaaZXAL
import Derived.Test.YtgemjipbifgbgaaZXAM
import Derived.Test.YtgemjipbifgbgaaZXAO
import Derived.Laws.ResultCell
import Derived.Laws.Tables
namespace Go.Proofs.Ytgemjipbifgbgaa
open Go.RowKit
set_option linter.unusedVariables false
set_option linter.unusedSimpArgs false
set_option maxRecDepth 100000

/-- What a read of k bytes leaves of the bytes, and of the fault. -/
def MovedL (l : List UInt8) (f : Int) (k : Nat) (l' : List UInt8) (f' : Int) : Prop := ((f = 0 ∧ k ≤ l.length) → l' = l.drop k ∧ f' = 0) ∧ (¬ (f = 0 ∧ k ≤ l.length) → f' ≠ 0)
theorem MovedL.trans {l l1 l2 : List UInt8} {f f1 f2 : Int} {n m : Nat} (h : MovedL l f n l1 f1) (h2 : MovedL l1 f1 m l2 f2) : MovedL l f (n + m) l2 f2 := by
  by_cases h0 : f = 0 ∧ n ≤ l.length
  · obtain ⟨rfl, rfl⟩ := h.1 h0
    refine ⟨fun hc => ?_, fun hc => h2.2 fun hd => hc ⟨h0.1, by have := hd.2; rw [List.length_drop] at this; omega⟩⟩
    obtain ⟨e1, e2⟩ := h2.1 ⟨rfl, by rw [List.length_drop]; omega⟩
    exact ⟨by rw [e1, List.drop_drop], e2⟩
  · have h3 := h.2 h0
    exact ⟨fun hc => absurd ⟨hc.1, by omega⟩ h0, fun _ => h2.2 fun hd => h3 hd.1⟩
theorem MovedL.refl (l : List UInt8) (f : Int) : MovedL l f 0 l f := ⟨fun hc => ⟨rfl, hc.1⟩, fun hc e => hc ⟨e, Nat.zero_le _⟩⟩
theorem xget_any {g : Nat} {l : List UInt8} {f : Int} {w : World} (h : Rdr w g l f) (k : Nat) (hk : k ≤ 8) :
    Calls Try.prog 33 #[.pointer (some ⟨g, 0, none⟩), .int .i64 k] w fun e w' => w.grownBy w' (some g) ∧ ∃ (V : Nat) (l' : List UInt8) (f' : Int), e = .returned (.int .u64 V) ∧ V < 256 ^ k ∧ Rdr w' g l' f' ∧ MovedL l f k l' f' ∧ ((f = 0 ∧ k ≤ l.length) → V = val (l.take k)) := by
  refine (get_any g l f k w h).mono ?_
  rintro e w' ⟨rfl, hr, hg⟩
  by_cases hc : f = 0 ∧ k ≤ l.length
  · have e1 : getV l f k = val (l.take k) := by unfold getV; rw [if_pos ⟨hc.1, by omega, by omega, by omega⟩, Int.toNat_natCast]
    have e2 : getL l f k = l.drop k := by unfold getL; rw [if_pos ⟨hc.1, by omega, by omega, by omega⟩, Int.toNat_natCast]
    have e3 : getF l f k = 0 := by unfold getF; rw [if_pos hc.1, if_neg (by omega), if_neg (by omega)]
    exact ⟨hg, _, _, _, rfl, getV_lt _ _ _, hr, ⟨fun _ => ⟨e2, e3⟩, fun h2 => absurd hc h2⟩, fun _ => e1⟩
  · refine ⟨hg, _, _, _, rfl, getV_lt _ _ _, hr, ⟨fun h2 => absurd h2 hc, fun _ => ?_⟩, fun h2 => absurd h2 hc⟩
    unfold getF
    by_cases hf : f = 0
    · rw [if_pos hf, if_neg (by omega), if_pos (by omega)]
      decide
    · rw [if_neg hf]
      exact hf
theorem Rdr.ne {w : World} {g xb : Nat} {l : List UInt8} {f : Int} {cs : Array Value} (h : Rdr w g l f) (hx : Blk w xb 51 cs) : g ≠ xb := by
  rintro rfl
  obtain ⟨A, c, h1, _⟩ := h
  exact blk_other h1 hx (by decide) rfl
/-- A reader stays while a block of extents is written. -/
theorem Rdr.box {w w' : World} {g xb : Nat} {l : List UInt8} {f : Int} {cs : Array Value} (h : Rdr w g l f) (hx : Blk w xb 51 cs) (hg : w.grownBy w' (some xb)) : Rdr w' g l f := by
  obtain ⟨A, c, h1, h2, h3, h4⟩ := h
  refine ⟨A, c, h1.same (hg.block g h1.lt ?_), h2, h3, fun hn => ?_⟩
  · rintro ⟨⟩
    exact blk_other h1 hx (by decide) rfl
  obtain ⟨gb, off, cur, e, hc, hr⟩ := h4 hn
  refine ⟨gb, off, cur, e, hc.same (hg.block gb hc.lt ?_), hr⟩
  rintro ⟨⟩
  exact blk_other hc hx (by decide) rfl
set_option maxHeartbeats 8000000 in
theorem xnext_any (g : Nat) (l : List UInt8) (f : Int) (w : World) (h : Rdr w g l f) :
    Calls Try.prog 34 #[.pointer (some ⟨g, 0, none⟩)] w fun e w' => ∃ (v : RowT) (l' : List UInt8) (f' : Int), e = .returned (.agg (rcs v).toArray) ∧ v.Ok ∧ w.grownBy w' (some g) ∧ Rdr w' g l' f' ∧ MovedL l f 40 l' f' ∧ ((f = 0 ∧ 40 ≤ l.length) → v = rowD l) := by
  obtain ⟨fe, hfe⟩ := ext_desc
  have HF := Lib.hid hfe
  obtain ⟨iz, hiz, hzz, _⟩ := zero_parts info_extZ
  have HZ := Lib.hid (And.intro hiz hzz)
  obtain ⟨zb, hzb⟩ : ∃ zb, w.heap.size = zb := ⟨_, rfl⟩
  obtain ⟨wa, hwa⟩ : ∃ wa, w.alloc (.cells rz 51) = wa := ⟨_, rfl⟩
  have hsa : wa.heap.size = zb + 1 := by rw [← hwa, ← hzb]; simp
  obtain ⟨w0, hw0⟩ : ∃ w0, wa.alloc (.cells rz 51) = w0 := ⟨_, rfl⟩
  obtain ⟨xb, hxb⟩ : ∃ xb, wa.heap.size = xb := ⟨_, rfl⟩
  have hba : Below w.heap.size w wa := hwa ▸ (Below.refl _ _).alloc (Nat.le_refl _) _
  have hb0 : Below wa.heap.size wa w0 := hw0 ▸ (Below.refl _ _).alloc (Nat.le_refl _) _
  have hbw := hba.trans (hb0.mono hba.size)
  have hzk : Blk wa zb 51 rz := by rw [← hwa, ← hzb]; exact Blk.new w _ _
  have HZB := Lib.hid (hzk.below hb0 hzk.lt)
  have HXB := Lib.hid (show Blk w0 xb 51 (exJ []) from by rw [← hw0, ← hxb, ← exJ_nil]; exact Blk.new wa _ _)
  have HR := Lib.hid (h.below hbw)
  have HG := Lib.hid (show w.grownBy w0 (some g) from ⟨hbw.os, hbw.tape, hbw.output, hbw.size, fun k hk _ => hbw.block k hk⟩)
  have HNE := Lib.hid (show w.heap.size ≤ zb ∧ w.heap.size ≤ xb ∧ zb ≠ xb ∧ g < w.heap.size from ⟨by omega, by omega, by omega, h.lt⟩)
  have HW := Lib.hid (And.intro (And.intro hwa hzb) (And.intro hw0 hxb))
  clear hfe hiz hzz h hzb hwa hsa hw0 hxb hba hb0 hbw hzk
  go_enter Try.func34, Try.ntmps34
  go_upto_region 2 with (refine wpList_alloc_z rfl 51 rfl iz _ HZ.out.1 HZ.out.2 ?_)
  rw [HW.out.1.1, HW.out.1.2, HW.out.2.1, HW.out.2.2]
  go_wp2_with fail
  go_loopw [5] (fun q wr => ∃ (k : Nat) (s l2 : List UInt8) (f2 : Int), k ≤ 32 ∧ q = .int .i64 (k : Nat) ∧ Hid (s.length = k) ∧ Hid (Rdr wr g l2 f2) ∧ Hid (Blk wr xb 51 (exJ s)) ∧ Hid (Blk wr zb 51 rz) ∧ Hid (w.grownBy wr (some g)) ∧ Hid (MovedL l f k l2 f2 ∧ ((f = 0 ∧ k ≤ l.length) → s = l.take k))) (fun q _ => 32 - (intOf q).toNat)
  case atStart => exact ⟨0, [], l, f, Nat.zero_le _, rfl, Lib.hid rfl, HR, HXB, HZB, HG, Lib.hid ⟨MovedL.refl l f, fun _ => rfl⟩⟩
  case round =>
    clear HR HXB HZB HG
    obtain ⟨k, s, l2, f2, hk, rfl, HS, HR, HXB, HZB, HG, HMV⟩ := hrel
    by_cases hlt : k < 32
    · go_wp2_with fail
      refine (xget_any HR.out 1 (by omega)).mono ?_
      rintro e w5 ⟨hg5, V, l3, f3, rfl, hV, hr5, hm5, hv5⟩
      have hV2 : V < 256 := hV
      obtain ⟨x, hx⟩ : ∃ x : UInt8, V = x.toNat := ⟨UInt8.ofNat V, by rw [UInt8.toNat_ofNat']; omega⟩
      subst hx
      have cv : IntKind.u8.wrap (x.toNat : Int) = (x.toNat : Int) := by have := x.toNat_lt; rw [IntKind.wrap_u8']; omega
      have hD5 : Blk w5 xb 51 (exJ s) := HXB.out.same (hg5.block _ HXB.out.lt fun e => HR.out.ne HXB.out (by injection e with e; exact e.symm))
      have hZ5 : Blk w5 zb 51 rz := HZB.out.same (hg5.block _ HZB.out.lt fun e => HR.out.ne HZB.out (by injection e with e; exact e.symm))
      have HX6 := Lib.hid (show Blk (w5.setCell ⟨xb, k, none⟩ (.int .u8 x.toNat)) xb 51 (exJ (s ++ [x])) by
        have := hD5.set_ k (.int .u8 x.toNat)
        rwa [← HS.out, exJ_set (by rw [HS.out]; exact hlt), HS.out] at this)
      have HZ6 := Lib.hid (show Blk (w5.setCell ⟨xb, k, none⟩ (.int .u8 x.toNat)) zb 51 rz from hZ5.same (setCell_block HNE.out.2.2.1))
      have HR6 := Lib.hid (hr5.box hD5 (setCell_grown (g := xb) (i := k) (v := .int .u8 x.toNat) (World.grownBy.refl w5 _)))
      have HG6 := Lib.hid (gby_setCell (i := k) (v := .int .u8 x.toNat) (gby_trans HG.out hg5) HNE.out.2.1)
      have HM6 := Lib.hid (show MovedL l f (k + 1) l3 f3 ∧ ((f = 0 ∧ k + 1 ≤ l.length) → s ++ [x] = l.take (k + 1)) by
        refine ⟨HMV.out.1.trans hm5, fun hc => ?_⟩
        obtain ⟨e1, e2⟩ := HMV.out.1.1 ⟨hc.1, by omega⟩
        have e3 := hv5 ⟨e2, by rw [e1, List.length_drop]; omega⟩
        have hlen : k < l.length := by omega
        rw [e1] at e3
        rw [List.take_succ_eq_append_getElem hlen, HMV.out.2 ⟨hc.1, by omega⟩]
        congr 2
        have e4 : (l.drop k).take 1 = [l[k]] := by
          rw [List.drop_eq_getElem_cons hlen]
          rfl
        rw [e4] at e3
        refine UInt8.toNat_inj.1 ?_
        rw [e3]
        simp [val])
      have HS6 := Lib.hid (show (s ++ [x]).length = k + 1 by rw [List.length_append, HS.out]; rfl)
      have cd := hD5.cell k
      have fd := hD5.frozen k
      obtain ⟨u2, hu2⟩ : ∃ u, w5.cell? ⟨xb, k, none⟩ = some u := by
        rw [cd]
        exact ⟨_, Array.getElem?_eq_getElem (by rw [exJ_size (by rw [HS.out]; omega)]; omega)⟩
      have hi1 : (0 : Int) ≤ (k : Int) := by omega
      have hi2 : (k : Int) < 32 := by omega
      clear cd hg5 hV hr5 hm5 hv5 hD5 hZ5 HS HR HXB HZB HG HMV
      go_wp2_with fail
      go_roundw
      case rel => exact ⟨k + 1, s ++ [x], l3, f3, by omega, by go_num, HS6, HR6, HX6, HZ6, HG6, HM6⟩
      case measure => simp [intOf]; omega
    · obtain rfl : k = 32 := by omega
      have HD1 := Lib.hid (show Blk wr xb 51 (rcs ((s, 0), (0, 0))).toArray from by rw [← exJ_full HS.out]; exact HXB.out)
      clear HXB
      go_wp2_with fail
      refine (xget_any HR.out 4 (by omega)).mono ?_
      rintro e x1 ⟨hg1, V1, l1, f1, rfl, hV1, hr1, hm1, hv1⟩
      have hV1' : V1 < 4294967296 := hV1
      have cv1 : IntKind.u32.wrap (V1 : Int) = (V1 : Int) := by rw [IntKind.wrap_u32']; omega
      have hrb := HR.out
      have hD1 := HD1.out.same (hg1.block _ HD1.out.lt fun e => hrb.ne HD1.out (by injection e with e; exact e.symm))
      have hZ1 := HZB.out.same (hg1.block _ HZB.out.lt fun e => hrb.ne HZB.out (by injection e with e; exact e.symm))
      have HDp1 := Lib.hid (show Blk (x1.setCell ⟨xb, 32, none⟩ (.int .u32 V1)) xb 51 (rcs ((s, V1), (0, 0))).toArray from by
        have := hD1.set_ 32 (.int .u32 V1)
        rwa [rcs_n HS.out] at this)
      have HZp1 := Lib.hid (show Blk (x1.setCell ⟨xb, 32, none⟩ (.int .u32 V1)) zb 51 rz from hZ1.same (setCell_block HNE.out.2.2.1))
      have HRp1 := Lib.hid (hr1.box hD1 (setCell_grown (g := xb) (i := 32) (v := .int .u32 V1) (World.grownBy.refl _ _)))
      have HGp1 := Lib.hid (gby_setCell (i := 32) (v := .int .u32 V1) (gby_trans HG.out hg1) HNE.out.2.1)
      have HMp1 := Lib.hid (And.intro hm1 hv1)
      have cd1 : x1.cell? ⟨xb, 32, none⟩ = some (.int .u32 0) := by rw [hD1.cell 32]; simp [rcs, kcs, bv_length, HS.out, pvs]
      have fd1 := hD1.frozen 32
      clear hg1 hV1 hr1 hm1 hv1 hD1 hZ1 hrb HR HG HD1 HZB
      go_upto_region 8 with fail
      obtain ⟨y1, hy1⟩ : ∃ y, x1.setCell ⟨xb, 32, none⟩ (.int .u32 V1) = y := ⟨_, rfl⟩
      rw [hy1] at HDp1 HZp1 HRp1 HGp1 ⊢
      clear hy1 cd1 fd1
      go_wp2_with fail
      refine (xget_any HRp1.out 2 (by omega)).mono ?_
      rintro e x2 ⟨hg2, V2, l2', f2', rfl, hV2, hr2, hm2, hv2⟩
      have hV2' : V2 < 65536 := hV2
      have cv2 : IntKind.i64.wrap (V2 : Int) = (V2 : Int) := by rw [IntKind.wrap_i64]; omega
      have hrb := HRp1.out
      have HD2 := Lib.hid (HDp1.out.same (hg2.block _ HDp1.out.lt fun e => hrb.ne HDp1.out (by injection e with e; exact e.symm)))
      have HZ2 := Lib.hid (HZp1.out.same (hg2.block _ HZp1.out.lt fun e => hrb.ne HZp1.out (by injection e with e; exact e.symm)))
      have HR2 := Lib.hid hr2
      have HG2 := Lib.hid (gby_trans HGp1.out hg2)
      have HMp2 := Lib.hid (And.intro hm2 hv2)
      clear hg2 hV2 hr2 hm2 hv2 hrb HRp1 HGp1 HDp1 HZp1
      go_wp2_with fail
      refine (xget_any HR2.out 2 (by omega)).mono ?_
      rintro e x3 ⟨hg3, V3, l3, f3, rfl, hV3, hr3, hm3, hv3⟩
      have hV3' : V3 < 65536 := hV3
      have cv3 : IntKind.i64.wrap (V3 : Int) = (V3 : Int) := by rw [IntKind.wrap_i64]; omega
      have hrb := HR2.out
      have hD3 := HD2.out.same (hg3.block _ HD2.out.lt fun e => hrb.ne HD2.out (by injection e with e; exact e.symm))
      have hZ3 := HZ2.out.same (hg3.block _ HZ2.out.lt fun e => hrb.ne HZ2.out (by injection e with e; exact e.symm))
      obtain ⟨v, hv⟩ : ∃ v : RowT, ((s, V1), ((V2 : Int), (V3 : Int))) = v := ⟨_, rfl⟩
      obtain ⟨y3, hy3⟩ : ∃ y, (x3.setCell ⟨xb, 33, none⟩ (.int .i64 V2)).setCell ⟨xb, 34, none⟩ (.int .i64 V3) = y := ⟨_, rfl⟩
      have HD4 := Lib.hid (show Blk y3 xb 51 (rcs v).toArray from by
        have := (hD3.set_ 33 (.int .i64 V2)).set_ 34 (.int .i64 V3)
        rwa [rcs_o HS.out, rcs_l HS.out, hv, hy3] at this)
      have HZ4 := Lib.hid (show Blk y3 zb 51 rz from hy3 ▸ (hZ3.same (setCell_block HNE.out.2.2.1)).same (setCell_block HNE.out.2.2.1))
      have HR4 := Lib.hid (show Rdr y3 g l3 f3 from hy3 ▸ (hr3.box hD3 (setCell_grown (g := xb) (i := 33) (v := .int .i64 V2) (World.grownBy.refl _ _))).box (hD3.set_ 33 (.int .i64 V2)) (setCell_grown (g := xb) (i := 34) (v := .int .i64 V3) (World.grownBy.refl _ _)))
      have HG4 := Lib.hid (show w.grownBy y3 (some g) from hy3 ▸ gby_setCell (i := 34) (v := .int .i64 V3) (gby_setCell (i := 33) (v := .int .i64 V2) (gby_trans HG2.out hg3) HNE.out.2.1) HNE.out.2.1)
      have HMp3 := Lib.hid (And.intro hm3 hv3)
      have HFIN := Lib.hid (show MovedL l f 40 l3 f3 ∧ ((f = 0 ∧ 40 ≤ l.length) → v = rowD l) ∧ v.Ok from by
        refine ⟨((HMV.out.1.trans HMp1.out.1).trans HMp2.out.1).trans HMp3.out.1, fun hc => ?_, ?_⟩
        · obtain ⟨a1, a2⟩ := HMV.out.1.1 ⟨hc.1, by omega⟩
          obtain ⟨b1, b2⟩ := HMp1.out.1.1 ⟨a2, by rw [a1, List.length_drop]; omega⟩
          rw [a1, List.drop_drop] at b1
          obtain ⟨c1, c2⟩ := HMp2.out.1.1 ⟨b2, by rw [b1, List.length_drop]; omega⟩
          rw [b1, List.drop_drop] at c1
          have v1 := HMp1.out.2 ⟨a2, by rw [a1, List.length_drop]; omega⟩
          have v2 := HMp2.out.2 ⟨b2, by rw [b1, List.length_drop]; omega⟩
          have v3 := HMp3.out.2 ⟨c2, by rw [c1, List.length_drop]; omega⟩
          rw [a1] at v1
          rw [b1] at v2
          rw [c1] at v3
          rw [← hv, HMV.out.2 ⟨hc.1, by omega⟩, v1, v2, v3]
          rfl
        · rw [← hv]
          exact ⟨⟨HS.out, hV1'⟩, by constructor <;> simp only <;> omega, by constructor <;> simp only <;> omega⟩)
      have cd3 : x3.cell? ⟨xb, 33, none⟩ = some (.int .i64 0) := by rw [hD3.cell 33]; simp [rcs, kcs, bv_length, HS.out, pvs]
      have fd3 := hD3.frozen 33
      have cd4 : (x3.setCell ⟨xb, 33, none⟩ (.int .i64 V2)).cell? ⟨xb, 34, none⟩ = some (.int .i64 0) := by rw [(hD3.set_ 33 (.int .i64 V2)).cell 34]; simp [rcs, kcs, bv_length, HS.out, pvs]
      have fd4 := (hD3.set_ 33 (.int .i64 V2)).frozen 34
      have HY3 := Lib.hid hy3
      clear hg3 hV3 hr3 hm3 hv3 hD3 hZ3 hrb HR2 HG2 HD2 HZ2 hv hy3 HMp1 HMp2 HMp3 HMV
      go_upto_region 9 with fail
      rw [HY3.out]
      clear cd3 fd3 cd4 fd4
      have HRV := Lib.hid (range_of_blk HD4.out)
      have HKS := Lib.hid (show (Try.prog.info? 51).map (·.size) = some (rcs v).length by rw [rcs_length HFIN.out.2.2]; exact ext_size)
      have HKS2 := Lib.hid (show (Try.prog.info? 51).map (·.size) = some (rcs v).toArray.size by rw [List.size_toArray]; exact HKS.out)
      have HOLD := Lib.hid (show (rz).size = (rcs v).toArray.size from rz_size.trans (by rw [List.size_toArray, rcs_length HFIN.out.2.2]))
      have HONE := Lib.hid (rcs_one (r := v))
      go_wp2_with (first
        | ((with_reducible refine at_load ?_); refine wpList_load_mid rfl 51 (.tmp 3) rfl xb 0 rfl (rcs v) (.struct fe) HRV.out HF.out rfl HKS.out ?_)
        | ((with_reducible refine at_store ?_); refine wpList_store_row rfl 51 (.tmp 2) (.tmp 29) rfl zb (rcs v).toArray rfl rfl 51 rz HZ4.out HKS2.out HOLD.out HONE.out ?_))
      (try simp only [Exit.inBlock, Exit.then])
      refine bodyPost_ret (v := .agg (rcs v).toArray) ?_ rfl ⟨v, l3, f3, rfl, HFIN.out.2.2, gby_setRow HG4.out HNE.out.1, ?_, HFIN.out.1, HFIN.out.2.1⟩
      · exact results_cell_row rfl _ _ zb 51 _ (0, 0) _ rfl (setRow_heap _ _ _ _ _ _ HZ4.out) HF.out rfl HKS2.out
      · exact HR4.out.box HZ4.out ⟨rfl, rfl, rfl, by simp, fun k hk hn => setRow_other _ _ _ _ fun e => hn (by rw [e])⟩
end Go.Proofs.Ytgemjipbifgbgaa
/- The landed package extent: Take. No statement of the seat is proved here. -/
namespace Go.Proofs.Ytgemjipbifgbgaa
open Go.RowKit
set_option linter.unusedVariables false
set_option linter.unusedSimpArgs false
set_option maxRecDepth 100000

/-- What was read, j extents. -/
def StL (b : List UInt8) (n j : Nat) (l : List UInt8) (f : Int) (ls : List RowT) : Prop := (f = 0 → 4 + 40 * j ≤ n ∧ l = b.drop (4 + 40 * j) ∧ ls = rowsE j (b.drop 4)) ∧ (f ≠ 0 → n < 4 + 40 * j)
theorem StL.next {b l l2 : List UInt8} {n j : Nat} {f f2 : Int} {ls : List RowT} {v : RowT} (h : StL b n j l f ls) (hl : b.length = n) (hm : MovedL l f 40 l2 f2) (hv : (f = 0 ∧ 40 ≤ l.length) → v = rowD l) : StL b n (j + 1) l2 f2 (ls ++ [v]) := by
  by_cases hf : f = 0
  · obtain ⟨h1, h2, h3⟩ := h.1 hf
    have hll : l.length = n - (4 + 40 * j) := by rw [h2, List.length_drop, hl]
    by_cases hc : 40 ≤ l.length
    · obtain ⟨e1, e2⟩ := hm.1 ⟨hf, hc⟩
      refine ⟨fun _ => ⟨by omega, ?_, ?_⟩, fun hx => absurd e2 hx⟩
      · rw [e1, h2, List.drop_drop]
        congr 1
      · rw [rowsE_snoc, h3, hv ⟨hf, hc⟩, h2, List.drop_drop]
    · have e1 := hm.2 fun hd => hc hd.2
      exact ⟨fun hx => absurd hx e1, fun _ => by omega⟩
  · have e1 := hm.2 fun hd => hf hd.1
    have := h.2 hf
    exact ⟨fun hx => absurd hx e1, fun _ => by omega⟩
theorem StL.fin {b l : List UInt8} {n j : Nat} {f : Int} {ls : List RowT} (h : StL b n j l f ls) (hl : b.length = n) (hN : 4 ≤ n → j = manyE b) :
    (endOf l f = 0 → takeOk b = rightE ls ∧ (takeOk b = true → takeE b = ls)) ∧ (endOf l f ≠ 0 → takeOk b = false) := by
  constructor
  · intro he
    unfold endOf at he
    split at he
    · cases he
    · rename_i hc
      obtain ⟨h1, h2, h3⟩ := h.1 he
      have hl0 : ¬ 0 < l.length := fun h => hc ⟨he, h⟩
      have hll : l.length = n - (4 + 40 * j) := by rw [h2, List.length_drop, hl]
      have e := hN (by omega)
      have e2 : rowsE (manyE b) (b.drop 4) = ls := by rw [← e, h3]
      refine ⟨?_, fun ht => ?_⟩
      · unfold takeOk
        rw [e2, decide_eq_true (by rw [← e]; omega)]
        rfl
      · unfold takeE
        rw [if_pos ht, e2]
  · intro he
    rw [Bool.eq_false_iff]
    intro ht
    unfold takeOk at ht
    simp only [Bool.and_eq_true, decide_eq_true_eq] at ht
    have e := hN (by omega)
    apply he
    by_cases hf : f = 0
    · obtain ⟨h1, h2, h3⟩ := h.1 hf
      have hll : l.length = n - (4 + 40 * j) := by rw [h2, List.length_drop, hl]
      unfold endOf
      rw [if_neg (by rintro ⟨_, h4⟩; rw [← e] at ht; omega)]
      exact hf
    · have := h.2 hf
      rw [← e] at ht
      omega
theorem take_long {b : List UInt8} (h : 16384 < manyE b) : takeOk b = false := by
  unfold takeOk
  rw [Bool.and_eq_false_iff]
  right
  rw [Bool.eq_false_iff]
  intro h2
  have := (rightE_iff.1 h2).1
  rw [rowsE_length] at this
  omega
theorem take_short {b : List UInt8} (h : b.length < 4) : takeOk b = false := by
  unfold takeOk
  rw [Bool.and_eq_false_iff]
  left
  exact decide_eq_false (by omega)
set_option maxHeartbeats 8000000 in
theorem xtake_any {A : Option Addr} {b : List UInt8} {n c : Nat} {w : World} (hl : b.length = n) (hn : n ≤ 100000) (hr : Rd w w.heap.size A b) :
    Calls Try.prog 26 #[.slice A n c] w fun e w' => ∃ P pc, e = .returned (.tuple #[.slice P (takeE b).length pc, .int .i64 (if takeOk b = true then 0 else 160)]) ∧ OwnG 51 35 rcs w' w.heap.size P pc (takeE b) ∧ Below w.heap.size w w' := by
  have HX := Lib.hid (And.intro hl hn)
  have KN := Lib.hid (new_sl A b c n w hl hr (by omega))
  obtain ⟨T, hT⟩ : ∃ T, takeE b = T := ⟨_, rfl⟩
  obtain ⟨E, hE⟩ : ∃ E : Int, (if takeOk b = true then (0 : Int) else 160) = E := ⟨_, rfl⟩
  rw [hT, hE]
  have HTE := Lib.hid (And.intro hT hE)
  have HNO := Lib.hid (show takeOk b = false → T = [] ∧ E = 160 from fun h => ⟨by rw [← hT, takeE_no h], by rw [← hE, h]; rfl⟩)
  clear hl hn hr hT hE
  go_enter Try.func26, Try.ntmps26
  go_wp2_with fail
  refine KN.out.mono ?_
  rintro e w1 ⟨g, rfl, hg, hr1, hb1⟩
  have HR1 := Lib.hid hr1
  have HB1 := Lib.hid hb1
  have HGW := Lib.hid hg
  clear KN hg hr1 hb1
  go_wp2_with fail
  refine (xget_any HR1.out 4 (by omega)).mono ?_
  rintro e w2 ⟨hg2, N, l1, f1, rfl, hN, hr2, hm2, hv2⟩
  have hN2 : N < 4294967296 := hN
  have HR2 := Lib.hid hr2
  have HB2 := Lib.hid (show Below w.heap.size w w2 from HB1.out.grown hg2 HB1.out.size fun k hk => by injection hk with hk; rw [← hk]; exact HGW.out)
  have HNM := Lib.hid (show 4 ≤ n → N = manyE b from fun h4 => hv2 ⟨rfl, by rw [HX.out.1]; exact h4⟩)
  have HS0 := Lib.hid (show StL b n 0 l1 f1 [] from by
    by_cases h4 : 4 ≤ n
    · obtain ⟨e1, e2⟩ := hm2.1 ⟨rfl, by rw [HX.out.1]; exact h4⟩
      exact ⟨fun _ => ⟨by omega, e1, rfl⟩, fun hf => absurd e2 hf⟩
    · have e1 := hm2.2 fun hd => h4 (by have := hd.2; rw [HX.out.1] at this; exact this)
      exact ⟨fun hf => absurd hf e1, fun _ => by omega⟩)
  clear hg2 hN hr2 hm2 hv2 HR1 HB1
  by_cases hbig : (N : Int) > 16384
  · have hbe : decide ((N : Int) > 16384) = true := decide_eq_true hbig
    have HZ := Lib.hid (HNO.out (by
      by_cases h4 : 4 ≤ n
      · have := HNM.out h4
        exact take_long (by omega)
      · exact take_short (by rw [HX.out.1]; omega)))
    go_wp2_with fail
    go_ret2
    rw [HZ.out.1, HZ.out.2]
    exact ⟨none, 0, rfl, OwnG.nil _ _, HB2.out⟩
  · have hbe : decide ((N : Int) > 16384) = false := decide_eq_false hbig
    go_wp2_with fail
    go_loopw [6, 14] (fun v i wr => ∃ (j : Nat) (l2 : List UInt8) (f2 : Int) (P : Option Addr) (pc : Nat) (ls : List RowT), j ≤ N ∧ i = .int .u64 j ∧ v = .slice P j pc ∧ Hid (ls.length = j) ∧ Hid (Rdr wr g l2 f2) ∧ Hid (OwnG 51 35 rcs wr w.heap.size P pc ls ∧ ∀ r ∈ ls, r.Ok) ∧ Hid (Below w.heap.size w wr) ∧ Hid (StL b n j l2 f2 ls)) (fun _ i _ => N - (intOf i).toNat)
    case atStart => exact ⟨0, l1, f1, none, 0, [], Nat.zero_le _, rfl, rfl, Lib.hid rfl, HR2, Lib.hid ⟨OwnG.nil _ _, by simp⟩, HB2, HS0⟩
    case round =>
      clear HR2 HB2 HS0
      obtain ⟨j, l2, f2, P, pc, ls, hj, rfl, rfl, HL, HR, HO, HB, HST⟩ := hrel
      by_cases hlt : j < N
      · go_wp2_with fail
        refine (xnext_any g l2 f2 wr HR.out).mono ?_
        rintro e w3 ⟨v, l3, f3, rfl, hov, hg3, hr3, hm3, hv3⟩
        have hne : ∀ k, (Value.slice P ls.length pc).ownBlock = some k → k ≠ g := fun k hk e => by
          subst e
          obtain ⟨cur, hb⟩ := HO.out.1.kind hk
          exact HR.out.ne hb rfl
        have ho3 := HO.out.1.grown hg3 fun k hk e => hne k e (by injection hk with hk; exact hk.symm)
        have hb3 : Below w.heap.size w w3 := HB.out.grown hg3 HB.out.size fun k hk => by injection hk with hk; rw [← hk]; exact HGW.out
        have hax : Below w3.heap.size w3 (w3.alloc (.cells (rcs v).toArray 51)) := (Below.refl _ _).alloc (Nat.le_refl _) _
        have HOA := Lib.hid (ho3.on hax)
        have HBA := Lib.hid (hb3.trans (hax.mono hb3.size))
        have HRA := Lib.hid (hr3.below hax)
        have HR1 := Lib.hid (rds_one w3 v 51 35 rcs)
        have HOV := Lib.hid hov
        have HSTN := Lib.hid (HST.out.next HX.out.1 hm3 hv3)
        clear hov hg3 hr3 hm3 hv3 hne ho3 hb3 hax
        go_wp2_with (first
          | ((with_reducible refine at_buildSlice ?_); refine wpList_buildOne extE rfl (.tmp 18) rfl HOV.out rfl ?_)
          | (at_builtin; refine wpList_append_g extE rfl (.tmp 16) (.tmp 19) rfl w.heap.size P pc j ls HL.out rfl HOA.out _ (some ⟨w3.heap.size, 0, none⟩) 1 1 [v] rfl rfl HR1.out (by intro y hy; rw [List.mem_singleton.1 hy]; exact HOV.out) ?_ ?_ ?_))
        case _ => omega
        case _ => exact HBA.out.size
        intro A9 c9 w9 ho9 hg9
        have HO9 := Lib.hid (show OwnG 51 35 rcs w9 w.heap.size A9 c9 (ls ++ [v]) ∧ ∀ r ∈ ls ++ [v], r.Ok from ⟨ho9, fun y hy => by
          rcases List.mem_append.1 hy with hy | hy
          · exact HO.out.2 y hy
          · rw [List.mem_singleton.1 hy]; exact HOV.out⟩)
        have HB9 := Lib.hid (show Below w.heap.size w w9 from HBA.out.grown hg9 HBA.out.size fun r hr => (HOA.out.lt (by rw [HL.out]; exact hr)).1)
        have HR9 := Lib.hid (show Rdr w9 g l3 f3 from by
          cases hw : (Value.slice P j pc).ownBlock with
          | none =>
            rw [hw] at hg9
            obtain ⟨A', c', q1, q2, q3, q4⟩ := HRA.out
            refine ⟨A', c', q1.same (hg9.block g q1.lt (by simp)), q2, q3, fun hn => ?_⟩
            obtain ⟨gb, off, cur, e, hc, hr⟩ := q4 hn
            exact ⟨gb, off, cur, e, hc.same (hg9.block gb hc.lt (by simp)), hr⟩
          | some xb =>
            rw [hw] at hg9
            obtain ⟨cur, hb⟩ := HOA.out.kind (k := xb) (by rw [HL.out]; exact hw)
            exact HRA.out.box hb hg9)
        have HL9 := Lib.hid (show (ls ++ [v]).length = j + 1 by rw [List.length_append, HL.out]; rfl)
        clear ho9 hg9 HR1
        go_wp2_with fail
        go_roundw
        case rel => exact ⟨j + 1, l3, f3, A9, c9, ls ++ [v], by omega, by go_num, rfl, HL9, HR9, HO9, HB9, HSTN⟩
        case measure => simp [intOf]; omega
      · obtain rfl : j = N := by omega
        have HFIN := Lib.hid (HST.out.fin HX.out.1 HNM.out)
        obtain ⟨r, hr⟩ : ∃ r, endOf l2 f2 = r := ⟨_, rfl⟩
        have KE := Lib.hid (hr ▸ end_any g l2 f2 wr HR.out)
        rw [hr] at HFIN
        clear hr
        by_cases hr0 : r = 0
        · have hrb : (r != 0) = false := by simpa using hr0
          have HFX := Lib.hid (HFIN.out.1 hr0)
          obtain ⟨B, hB⟩ : ∃ B, rightE ls = B := ⟨_, rfl⟩
          have KR := Lib.hid (xright_any P ls j pc HL.out wr ⟨HO.out.1.rd extE HO.out.2, HO.out.2⟩)
          rw [hB] at KR HFX
          clear hB hr0
          cases B with
          | true =>
            go_wp2_with (first
              | (go_at_call 35; refine KE.out.mono ?_; rintro e w5 ⟨rfl, rfl⟩)
              | (go_at_call 12; refine KR.out.mono ?_; rintro e w6 ⟨rfl, hb6⟩; have HB6 := Lib.hid hb6; clear hb6))
            go_ret2
            have t1 : T = ls := by rw [← HTE.out.1]; exact HFX.out.2 HFX.out.1
            have t2 : E = 0 := by rw [← HTE.out.2, HFX.out.1]; rfl
            rw [t1, t2]
            exact ⟨P, pc, by rw [HL.out]; rfl, HO.out.1.on HB6.out, HB.out.trans (HB6.out.mono HB.out.size)⟩
          | false =>
            go_wp2_with (first
              | (go_at_call 35; refine KE.out.mono ?_; rintro e w5 ⟨rfl, rfl⟩)
              | (go_at_call 12; refine KR.out.mono ?_; rintro e w6 ⟨rfl, hb6⟩; have HB6 := Lib.hid hb6; clear hb6))
            go_ret2
            obtain ⟨t1, t2⟩ := HNO.out HFX.out.1
            rw [t1, t2]
            exact ⟨none, 0, rfl, OwnG.nil _ _, HB.out.trans (HB6.out.mono HB.out.size)⟩
        · have hrb : (r != 0) = true := by simpa using hr0
          have HFX := Lib.hid (HFIN.out.2 hr0)
          clear hr0
          go_wp2_with (go_at_call 35; refine KE.out.mono ?_; rintro e w5 ⟨rfl, rfl⟩)
          go_ret2
          obtain ⟨t1, t2⟩ := HNO.out HFX.out
          rw [t1, t2]
          exact ⟨none, 0, rfl, OwnG.nil _ _, HB.out⟩
end Go.Proofs.Ytgemjipbifgbgaa
/- What the landed package extent does. No statement of the seat is proved here. -/
namespace Go.Proofs.Ytgemjipbifgbgaa
open Go.RowKit
set_option linter.unusedVariables false

theorem ext_of_take {b : List UInt8} (r : RowT) (h : r ∈ takeE b) : r.Ok := by
  obtain ⟨h1, h2⟩ := takeE_ok r h
  have h3 := okE_iff.1 h2
  exact ⟨h1, by constructor <;> omega, by constructor <;> omega⟩
theorem extentsOk : ExtentsOk where
  right h := xright_any _ _ _ _ h.len _ h.rd
  total h := xtotal_any _ _ _ _ h.len _ h.rd
  slice h _ _ ho hn := (xslice_any _ _ _ _ h.len (Nat.le_trans h.small (by decide)) _ _ ho hn _ h.rd).mono fun _ _ h => h.read
  keys h := (xkeys_any _ _ _ _ h.len (Nat.le_trans h.small (by decide)) _ h.rd).mono fun _ _ ⟨A, c, h1, h2, h3, h4⟩ => ⟨A, c, h1, ⟨h2.rd keyE h3, h3⟩, h4⟩
  lay {A ls k c w} h := by
    unfold layX
    cases hR : rightE ls with
    | false => exact (xlay_no A ls k c h.len w h.rd hR).mono fun _ _ ⟨h1, h2⟩ => ⟨none, 0, h1, Nat.le_refl _, Nat.zero_le _, Rd.nil _ _ _, h2⟩
    | true =>
      refine (xlay_yes A ls k c h.len w h.rd hR).mono ?_
      rintro e w' ⟨A', c', h1, h2⟩
      obtain ⟨_, _, e2, q1, q2⟩ := ownsRow_form h2.1
      injection e2 with _ _ e2
      subst e2
      exact ⟨A', c', h1, q1, q2, Rd.of_own h2.1, h2.2⟩
  take hl _ _ hn hr := (xtake_any hl hn hr).mono fun _ _ ⟨A, c, h1, h2, h3⟩ => ⟨A, c, h1, h2.cap.1, h2.cap.2, ⟨h2.rd extE fun r hr => ext_of_take r hr, fun r hr => ext_of_take r hr⟩, h3⟩
  join hl hk hr := (xjoin_any _ _ _ _ hl hk _ hr).mono fun _ _ h => h.read
theorem shownE : ShownE := shown_any extentsOk
end Go.Proofs.Ytgemjipbifgbgaa
