/- TreePlays' walk, told from what the package does. No statement of the seat is proved here. -/
import Derived.Test.YtiomfkhblmmdoaaTrOrder
import Derived.Test.YtiomfkhblmmdoaaTrRefD
import Derived.Test.YtiomfkhblmmdoaaTrRefC
import Derived.Test.YtiomfkhblmmdoaaGbyF
import Derived.Test.YtiomfkhblmmdoaaStRegion
namespace Go.Proofs.Ytiomfkhblmmdoaa
open Go.RowKit
set_option linter.unusedVariables false
set_option linter.unusedSimpArgs false
set_option maxRecDepth 100000

/-- A row of pairs is none of a map's box. -/
theorem RdP.box18 {w : World} {B bm : Nat} {A X : Option Addr} {y z : Nat} {ls : List PT} {e : TypeId} (h : RdP w B A ls) (hk : Blk w bm e #[.slice X y z]) (u : Value) : RdP (w.setCell ⟨bm, 0, none⟩ u) B A ls := fun hn => by
  obtain ⟨g, off, e1, hg, hc⟩ := h hn
  have hne : g ≠ bm := by
    rintro rfl
    have hn' : 0 < ls.length := by simpa using hn
    have h1 := hc 0 hn 0 (.string (st ls[0].1)) (by simp [pcs])
    rw [hk.cell] at h1
    rcases Nat.eq_zero_or_pos (off + 0 * 2 + 0) with h0 | h0
    · rw [h0] at h1
      injection h1 with h1
      cases h1
    · rw [Array.getElem?_eq_none (by simp; omega)] at h1
      cases h1
  refine ⟨g, off, e1, hg, fun j hj i v hv => ?_⟩
  rw [World.cell?_setCell_far w ⟨bm, 0, none⟩ _ u (Ne.symm hne)]
  exact hc j hj i v hv
section
variable {St : World → Value → List PT → Nat → Prop} {Nu : World → Value → Value → Prop}
/-- What the loop keeps. -/
def PlI (St : World → Value → List PT → Nat → Prop) (w : World) (bm : Nat) (wr : World) (v : Value) (L : List PT) (h : Nat) (A : Option Addr) (c : Nat) : Prop :=
  St wr v L h ∧ RdP wr wr.heap.size A L ∧ L.length ≤ c ∧ c ≤ maxLen ∧ Blk wr bm 27 #[.slice A L.length c] ∧ Below w.heap.size w wr
theorem PlI.on (K : TreesOk St Nu) {w wr W : World} {bm h c : Nat} {v : Value} {L : List PT} {A : Option Addr} (hp : PlI St w bm wr v L h A c) (hb : Below wr.heap.size wr W) : PlI St w bm W v L h A c := by
  obtain ⟨p1, p2, p3, p4, p5, p6⟩ := hp
  exact ⟨K.keep p1 hb, p2.on hb, p3, p4, p5.below hb p5.lt, p6.trans (hb.mono p6.size)⟩
/-- The map's box is written. -/
theorem PlI.set (K : TreesOk St Nu) {w wr : World} {bm h c y z : Nat} {v : Value} {L : List PT} {A X : Option Addr} (hs : St wr v L h) (hr : RdP wr wr.heap.size A L) (h1 : L.length ≤ c) (h2 : c ≤ maxLen) (hk : Blk wr bm 27 #[.slice X y z]) (hb : Below w.heap.size w wr) (hwb : w.heap.size ≤ bm) :
    PlI St w bm (wr.setCell ⟨bm, 0, none⟩ (.slice A L.length c)) v L h A c :=
  ⟨K.rows (.inr rfl) hs hk (grownBy_cellF wr bm 0 _), (RdP.box18 hr hk _).more (by rw [setCell_size]; exact Nat.le_refl _), h1, h2, hk.set_ 0 _, hb.setCell hwb _⟩
set_option maxHeartbeats 4000000 in
theorem plays18_walk (K : TreesOk St Nu) (A : Option Addr) (ls : List AT18) (k c : Nat) (key : List UInt8) (n : Int) (hkey : key.length ≤ maxLen) (hn1 : -9223372036854775808 ≤ n) (hn2 : n ≤ 9223372036854775807) (hl : ls.length = k) (hc : k ≤ c) (hcm : c ≤ maxLen) (w : World) (hr : RdQ w w.heap.size A ls) :
    Calls Try.prog 3 #[.slice A k c, .string (st key), .int .i64 n] w fun e w' => e = .returned (.bool true) ∧ Below w.heap.size w w' := by
  have KS := Lib.hid (shown_any K w)
  have KF := Lib.hid (fun W hW => few_any A ls k c hl hc hcm W (hr.on hW))
  have HR := Lib.hid (show ∀ W, Below w.heap.size w W → RdQ W W.heap.size A ls from fun W hW => hr.on hW)
  have HPL := Lib.hid hl
  obtain ⟨fs, hfs⟩ := act18_desc
  have HF := Lib.hid hfs
  clear hl hr hfs
  go_enter Try.func3, Try.ntmps3
  go_wp2_with fail
  refine KS.out.mono ?_
  rintro e w1 ⟨rfl, hb1⟩
  have HB1 := Lib.hid hb1
  obtain ⟨wm, bm, hbm, hwm, hb2, hkm⟩ : ∃ wm bm, w1.heap.size = bm ∧ w1.alloc (.cells #[.slice none 0 0] 27) = wm ∧ Below w1.heap.size w1 wm ∧ Blk wm bm 27 #[.slice none 0 0] := ⟨_, _, rfl, rfl, (Below.refl w1.heap.size w1).alloc (Nat.le_refl _) _, Blk.new w1 _ _⟩
  have HBM := Lib.hid (hb1.trans (hb2.mono hb1.size))
  have HKM := Lib.hid hkm
  have HWM := Lib.hid (And.intro hbm hwm)
  have HMB := Lib.hid (show w.heap.size ≤ bm from hbm ▸ hb1.size)
  have KF1 := Lib.hid (KF.out wm HBM.out)
  clear hb1 hb2 hkm hbm hwm KS KF
  go_upto_region 4 with fail
  rw [HWM.out.1, HWM.out.2]
  go_wp2_with fail
  refine KF1.out.mono ?_
  rintro e w2 ⟨m, hm, hm2, hs, rfl, hb2⟩
  have HS := Lib.hid hs
  have HP0 := Lib.hid (show PlI St w bm w2 (.pointer none) [] 0 none 0 from ⟨K.nil _, RdP.nil _ _ _, Nat.le_refl _, by decide, HKM.out.below hb2 HKM.out.lt, HBM.out.trans (hb2.mono HBM.out.size)⟩)
  clear hs hb2 KF1 HBM HKM HWM HB1
  go_wp2_with fail
  go_loopw [8, 28] (fun t i wr => ∃ (j : Nat) (v : Value) (L : List PT) (h : Nat) (B : Option Addr) (b : Nat), j ≤ m ∧ i = .int .i64 (j : Nat) ∧ v = t ∧ L.length ≤ j ∧ Hid (PlI St w bm wr v L h B b)) (fun _ i _ => m - (intOf i).toNat)
  case atStart => exact ⟨0, _, [], 0, none, 0, Nat.zero_le _, rfl, rfl, Nat.le_refl _, HP0⟩
  case round =>
    obtain ⟨j, v, L, h, B, b, hj, rfl, rfl, hLj, HP⟩ := hrel
    have HB := Lib.hid HP.out.2.2.2.2.2
    by_cases hlt : j < m
    · have hjp : j < ls.length := by rw [HPL.out]; omega
      obtain ⟨g, off, e1, hg, hra⟩ := (HR.out _ HB.out).row hjp
      have hsx := HS.out (ls[j]) (by rw [List.mem_take_iff_getElem]; exact ⟨j, by omega, rfl⟩)
      obtain ⟨x, hx⟩ : ∃ x, ls[j] = x := ⟨_, rfl⟩
      rw [hx] at hra hsx
      subst e1
      obtain ⟨wb, d, hd, hwb, hbb, hkb⟩ := act_box (w := wr) (x := x)
      have HW := Lib.hid (And.intro hd hwb)
      have HKB := Lib.hid hkb
      have HBB := Lib.hid hbb
      have HSX := Lib.hid (show x.2.1.length ≤ maxLen ∧ x.2.2.length ≤ maxLen from ⟨by have := hsx.1; unfold maxLen; omega, by have := hsx.2; unfold maxLen; omega⟩)
      have HRA := Lib.hid (show wr.rangeAt g (off + j * 3) [.bool x.1, .string (st x.2.1), .string (st x.2.2)] from hra)
      have hi1 : (0 : Int) ≤ (j : Int) := by omega
      have hi2 : (j : Int) < (m : Int) := by omega
      obtain ⟨a, ha⟩ : ∃ a, L.length = a := ⟨_, rfl⟩
      have HA := Lib.hid ha
      have haj : a ≤ j := by rw [← ha]; exact hLj
      have hdb : bm < d := by rw [← hd]; exact HP.out.2.2.2.2.1.lt
      have HDB := Lib.hid (show bm ≠ d from by omega)
      have HPB := Lib.hid (show ∀ W, Below wb.heap.size wb W → PlI St w bm W _ L h B b from fun W hW => by
        obtain ⟨p1, p2, p3, p4, p5, p6⟩ := HP.out
        have hx := hbb.trans (hW.mono hbb.size)
        exact ⟨K.keep p1 hx, p2.on hx, p3, p4, p5.below hx p5.lt, p6.trans (hx.mono p6.size)⟩)
      obtain ⟨gx, hgx⟩ : ∃ gx, x.1 = gx := ⟨_, rfl⟩
      have c0 : wb.cell? ⟨d, 0, none⟩ = some (.bool x.1) := hkb.cell 0
      rw [hgx] at HRA HW c0
      have HGX := Lib.hid hgx
      clear hx hjp hg hra hd hwb hbb hkb hsx ha hdb hgx
      go_upto_region 7 with (first | (refine wpList_load_mid rfl 32 (.tmp 30) rfl g (off + j * 3) rfl [.bool gx, .string (st x.2.1), .string (st x.2.2)] (.struct fs) HRA.out HF.out rfl act18_size ?_) | fail)
      rw [HW.out.1, HW.out.2]
      go_upto_if 33 with fail
      clear c0
      go_cut [8, 12, 13, 14, 15] from 34 to 70 (fun t xa xb xc xd wx => ∃ (v' : Value) (h' : Nat) (B' : Option Addr) (b' : Nat), v' = t ∧ Hid (PlI St w bm wx v' (doL L x) h' B' b') ∧ Hid (Blk wx d 32 (acs18 x).toArray))
      case first =>
        have hx1 := HGX.out
        cases gx with
        | true =>
          have HDO := Lib.hid (show doL L x = dropL L x.2.1 from by unfold doL; rw [hx1]; rfl)
          clear hx1
          obtain ⟨D, hD⟩ : ∃ D, dropL L x.2.1 = D := ⟨_, rfl⟩
          obtain ⟨R, hR⟩ : ∃ R, isL L x.2.1 = R := ⟨_, rfl⟩
          have C1 := Lib.hid (K.drop _ L h x.2.1 wb (HPB.out wb (Below.refl _ _)).1 (by rw [HA.out]; omega) HSX.out.1)
          have C2 := Lib.hid (fun W (hW : Below wb.heap.size wb W) => rdrop_any B L a b x.2.1 HA.out (by omega) (by have := (HPB.out W hW).2.2.1; rw [HA.out] at this; exact this) (HPB.out W hW).2.2.2.1 W (HPB.out W hW).2.1)
          rw [hD, hR] at C1
          simp only [hD, hR] at C2
          have HDX := Lib.hid (show doL L x = D from HDO.out.trans hD)
          have hlD : D.length ≤ 200 := by rw [← hD]; exact Nat.le_trans (drop_len L _) (by rw [HA.out]; omega)
          clear hD hR HDO
          have hkd := HKB.out
          have c1 : wb.cell? ⟨d, 1, none⟩ = some (.string (st x.2.1)) := hkd.cell 1
          clear hkd
          go_wp2_with fail
          refine C1.out.mono ?_
          rintro e w3 ⟨v', h', rfl, q1, -, q3⟩
          have H3 := Lib.hid (HPB.out w3 q3)
          have HQ1 := Lib.hid q1
          have HB3 := Lib.hid q3
          have hk3 := H3.out.2.2.2.2.1
          rw [HA.out] at hk3
          have cm : w3.cell? ⟨bm, 0, none⟩ = some (.slice B a b) := hk3.cell 0
          have ck : w3.cell? ⟨d, 1, none⟩ = some (.string (st x.2.1)) := (HKB.out.below q3 HKB.out.lt).cell 1
          have D1 := Lib.hid (C2.out w3 q3)
          clear c1 hk3 q1 q3 C1 C2
          go_wp2_with fail
          refine D1.out.mono ?_
          rintro e w4 ⟨B', b', rfl, r4, l4, m4, b4⟩
          have HR4 := Lib.hid r4
          have HL4 := Lib.hid (And.intro l4 m4)
          have HB4 := Lib.hid (HB3.out.trans (b4.mono HB3.out.size))
          have HQ4 := Lib.hid (K.keep HQ1.out b4)
          have hrr : (R != R) = false := by simp
          clear r4 l4 m4 b4 cm ck D1
          go_upto_region 12 with fail
          obtain ⟨w5, d5, hd5, hw5, hb5, hk5⟩ : ∃ w5 d5, w4.heap.size = d5 ∧ w4.alloc (.cells #[.slice B' D.length b'] 27) = w5 ∧ Below w4.heap.size w4 w5 ∧ Blk w5 d5 27 #[.slice B' D.length b'] := ⟨_, _, rfl, rfl, (Below.refl w4.heap.size w4).alloc (Nat.le_refl _) _, Blk.new w4 _ _⟩
          rw [hd5, hw5]
          have H5 := Lib.hid (HPB.out w5 (HB4.out.trans (hb5.mono HB4.out.size)))
          have HB5 := Lib.hid (HB4.out.trans (hb5.mono HB4.out.size))
          have HQ5 := Lib.hid (K.keep HQ4.out hb5)
          have HR5 := Lib.hid (HR4.out.on hb5)
          have hkm := H5.out.2.2.2.2.1
          have cm : w5.cell? ⟨bm, 0, none⟩ = some (.slice B L.length b) := hkm.cell 0
          have fm : w5.frozen? ⟨bm, 0, none⟩ = false := hkm.frozen 0
          have c5 : w5.cell? ⟨d5, 0, none⟩ = some (.slice B' D.length b') := hk5.cell 0
          have HKM := Lib.hid hkm
          clear hd5 hw5 hb5 hk5 hkm HB4 HQ4 HR4 H3 HQ1 HB3
          go_region
          all_goals (
            go_wp2_with fail
            go_meet
            refine ⟨v', h', B', b', rfl, Lib.hid ?_, Lib.hid ?_⟩
            · rw [HDX.out]
              exact (PlI.set K HQ5.out HR5.out HL4.out.1 HL4.out.2 HKM.out H5.out.2.2.2.2.2 HMB.out).on K (below_drewN (Below.refl _ _) 1)
            · have hx : Blk (w5.setCell ⟨bm, 0, none⟩ (.slice B' D.length b')) d 32 (acs18 x).toArray := (HKB.out.below HB5.out HKB.out.lt).same (setCell_block (Ne.symm HDB.out))
              exact hx.below (below_drewN (Below.refl _ _) 1) hx.lt)
        | false =>
          have HDO := Lib.hid (show doL L x = putL L x.2.1 x.2.2 from by unfold doL; rw [hx1]; rfl)
          clear hx1
          obtain ⟨D, hD⟩ : ∃ D, putL L x.2.1 x.2.2 = D := ⟨_, rfl⟩
          have P1 := Lib.hid (fun W (hW : Below wb.heap.size wb W) => K.put _ L h x.2.1 x.2.2 W (HPB.out W hW).1 (by rw [HA.out]; omega) HSX.out.1 HSX.out.2)
          have P2 := Lib.hid (fun W (hW : Below wb.heap.size wb W) => rput_any B L a b x.2.1 x.2.2 HA.out (by omega) (by have := (HPB.out W hW).2.2.1; rw [HA.out] at this; exact this) (HPB.out W hW).2.2.2.1 W (HPB.out W hW).2.1)
          simp only [hD] at P1 P2
          have HDX := Lib.hid (show doL L x = D from HDO.out.trans hD)
          clear hD HDO
          go_upto_region 13 with fail
          have hbz : Below wb.heap.size wb wb.drew := below_drewN (Below.refl wb.heap.size wb) 1
          refine wp_region_held_drew (S := fun W => Blk W d 32 (acs18 x).toArray) (by kernel_rfl) (HKB.out.below hbz HKB.out.lt) (fun hHeld => ?_)
          generalize wb.drew = wz at *
          refine wpAnyH_take (i := 0) (oi := _) (v := v) rfl (by kernel_rfl) (by kernel_rfl) (by kernel_rfl) (fun _ _ _ h => h) (Or.inl ⟨by rfl, by intro w hSw; go_simp⟩) hHeld ?_
          simp only [List.getElem_toArray, List.getElem_cons_zero, List.getElem_cons_succ, Act.put, List.setIfInBounds_toArray, List.set_cons_zero, List.set_cons_succ]
          refine wpAnyH_take (i := 1) (oi := _) (v := .pointer (some ⟨d, 1, none⟩)) rfl (by kernel_rfl) (by kernel_rfl) (by kernel_rfl) (fun _ _ _ h => h) (Or.inl ⟨by rfl, by intro w hSw; go_simp⟩) hHeld ?_
          simp only [List.getElem_toArray, List.getElem_cons_zero, List.getElem_cons_succ, Act.put, List.setIfInBounds_toArray, List.set_cons_zero, List.set_cons_succ]
          refine wpAnyH_take (i := 2) (oi := _) (v := .pointer (some ⟨d, 1, none⟩)) rfl (by kernel_rfl) (by kernel_rfl) (by kernel_rfl) (fun _ _ _ h => h) (Or.inl ⟨by rfl, by intro w hSw; go_simp⟩) hHeld ?_
          simp only [List.getElem_toArray, List.getElem_cons_zero, List.getElem_cons_succ, Act.put, List.setIfInBounds_toArray, List.set_cons_zero, List.set_cons_succ]
          refine wpAnyH_take (i := 3) (oi := _) (v := .string (st x.2.1)) rfl (by kernel_rfl) (by kernel_rfl) (by kernel_rfl) (fun _ _ _ h => h) (Or.inl ⟨by rfl, by intro w hSw; have hcc : w.cell? ⟨d, 1, none⟩ = some (.string (st x.2.1)) := hSw.cell 1; go_simp⟩) hHeld ?_
          simp only [List.getElem_toArray, List.getElem_cons_zero, List.getElem_cons_succ, Act.put, List.setIfInBounds_toArray, List.set_cons_zero, List.set_cons_succ]
          refine wpAnyH_take (i := 4) (oi := _) (v := .pointer (some ⟨d, 1, none⟩)) rfl (by kernel_rfl) (by kernel_rfl) (by kernel_rfl) (fun _ _ _ h => h) (Or.inl ⟨by rfl, by intro w hSw; go_simp⟩) hHeld ?_
          simp only [List.getElem_toArray, List.getElem_cons_zero, List.getElem_cons_succ, Act.put, List.setIfInBounds_toArray, List.set_cons_zero, List.set_cons_succ]
          refine wpAnyH_take (i := 5) (oi := _) (v := .pointer (some ⟨d, 2, none⟩)) rfl (by kernel_rfl) (by kernel_rfl) (by kernel_rfl) (fun _ _ _ h => h) (Or.inl ⟨by rfl, by intro w hSw; go_simp⟩) hHeld ?_
          simp only [List.getElem_toArray, List.getElem_cons_zero, List.getElem_cons_succ, Act.put, List.setIfInBounds_toArray, List.set_cons_zero, List.set_cons_succ]
          refine wpAnyH_take (i := 6) (oi := _) (v := .string (st x.2.2)) rfl (by kernel_rfl) (by kernel_rfl) (by kernel_rfl) (fun _ _ _ h => h) (Or.inl ⟨by rfl, by intro w hSw; have hcc : w.cell? ⟨d, 2, none⟩ = some (.string (st x.2.2)) := hSw.cell 2; go_simp⟩) hHeld ?_
          simp only [List.getElem_toArray, List.getElem_cons_zero, List.getElem_cons_succ, Act.put, List.setIfInBounds_toArray, List.set_cons_zero, List.set_cons_succ]
          refine wpAnyH_take (i := 9) (oi := _) (v := .pointer (some ⟨d, 1, none⟩)) rfl (by kernel_rfl) (by kernel_rfl) (by kernel_rfl) (fun _ _ _ h => h) (Or.inl ⟨by rfl, by intro w hSw; go_simp⟩) hHeld ?_
          simp only [List.getElem_toArray, List.getElem_cons_zero, List.getElem_cons_succ, Act.put, List.setIfInBounds_toArray, List.set_cons_zero, List.set_cons_succ]
          refine wpAnyH_take (i := 10) (oi := _) (v := .pointer (some ⟨d, 1, none⟩)) rfl (by kernel_rfl) (by kernel_rfl) (by kernel_rfl) (fun _ _ _ h => h) (Or.inl ⟨by rfl, by intro w hSw; go_simp⟩) hHeld ?_
          simp only [List.getElem_toArray, List.getElem_cons_zero, List.getElem_cons_succ, Act.put, List.setIfInBounds_toArray, List.set_cons_zero, List.set_cons_succ]
          refine wpAnyH_take (i := 11) (oi := _) (v := .string (st x.2.1)) rfl (by kernel_rfl) (by kernel_rfl) (by kernel_rfl) (fun _ _ _ h => h) (Or.inl ⟨by rfl, by intro w hSw; have hcc : w.cell? ⟨d, 1, none⟩ = some (.string (st x.2.1)) := hSw.cell 1; go_simp⟩) hHeld ?_
          simp only [List.getElem_toArray, List.getElem_cons_zero, List.getElem_cons_succ, Act.put, List.setIfInBounds_toArray, List.set_cons_zero, List.set_cons_succ]
          refine wpAnyH_take (i := 12) (oi := _) (v := .pointer (some ⟨d, 1, none⟩)) rfl (by kernel_rfl) (by kernel_rfl) (by kernel_rfl) (fun _ _ _ h => h) (Or.inl ⟨by rfl, by intro w hSw; go_simp⟩) hHeld ?_
          simp only [List.getElem_toArray, List.getElem_cons_zero, List.getElem_cons_succ, Act.put, List.setIfInBounds_toArray, List.set_cons_zero, List.set_cons_succ]
          refine wpAnyH_take (i := 13) (oi := _) (v := .pointer (some ⟨d, 2, none⟩)) rfl (by kernel_rfl) (by kernel_rfl) (by kernel_rfl) (fun _ _ _ h => h) (Or.inl ⟨by rfl, by intro w hSw; go_simp⟩) hHeld ?_
          simp only [List.getElem_toArray, List.getElem_cons_zero, List.getElem_cons_succ, Act.put, List.setIfInBounds_toArray, List.set_cons_zero, List.set_cons_succ]
          refine wpAnyH_take (i := 14) (oi := _) (v := .string (st x.2.2)) rfl (by kernel_rfl) (by kernel_rfl) (by kernel_rfl) (fun _ _ _ h => h) (Or.inl ⟨by rfl, by intro w hSw; have hcc : w.cell? ⟨d, 2, none⟩ = some (.string (st x.2.2)) := hSw.cell 2; go_simp⟩) hHeld ?_
          simp only [List.getElem_toArray, List.getElem_cons_zero, List.getElem_cons_succ, Act.put, List.setIfInBounds_toArray, List.set_cons_zero, List.set_cons_succ]
          refine wpAnyH_ready (rs := [7, 8]) (by kernel_rfl) (by simp) ?_
          refine AllReadyH.cons rfl (fun K' hK => ?_) (AllReadyH.cons rfl (fun K' hK => ?_) AllReadyH.nil)
          · go_simp
            (with_reducible refine (P1.out wz hbz).mono ?_)
            rintro e wa ⟨v', h', rfl, q1, -, q3⟩
            have hba := hbz.trans (q3.mono hbz.size)
            go_wp2_with fail
            refine hK.out _ _ (HKB.out.below hba HKB.out.lt) (fun _ => ?_)
            clear hK K'
            try simp only [List.getElem_toArray, List.getElem_cons_zero, List.getElem_cons_succ, Act.put, List.setIfInBounds_toArray, List.set_cons_zero, List.set_cons_succ]
            refine wpAnyH_ready (rs := [8]) (by kernel_rfl) (by simp) ?_
            refine AllReadyH.cons rfl (fun K' hK => ?_) AllReadyH.nil
            have cm : wa.cell? ⟨bm, 0, none⟩ = some (.slice B a b) := by
              have hk := (HPB.out wa hba).2.2.2.2.1
              rw [HA.out] at hk
              exact hk.cell 0
            go_simp
            clear cm
            refine hK.out _ _ (HKB.out.below hba HKB.out.lt) (fun _ => ?_)
            clear hK K'
            try simp only [List.getElem_toArray, List.getElem_cons_zero, List.getElem_cons_succ, Act.put, List.setIfInBounds_toArray, List.set_cons_zero, List.set_cons_succ]
            refine wpAnyH_ready (rs := [15]) (by kernel_rfl) (by simp) ?_
            refine AllReadyH.cons rfl (fun K' hK => ?_) AllReadyH.nil
            go_simp
            (with_reducible refine (P2.out wa hba).mono ?_)
            rintro e wc ⟨B', b', rfl, o4, b4⟩
            have hbc := hba.trans (b4.mono hba.size)
            go_wp2_with fail
            refine hK.out _ _ (HKB.out.below hbc HKB.out.lt) (fun _ => ?_)
            clear hK K'
            try simp only [List.getElem_toArray, List.getElem_cons_zero, List.getElem_cons_succ, Act.put, List.setIfInBounds_toArray, List.set_cons_zero, List.set_cons_succ]
            refine wpAnyH_take (i := 16) (oi := _) (v := v') rfl (by kernel_rfl) (by kernel_rfl) (by kernel_rfl) (fun _ _ _ h => h) (Or.inl ⟨by rfl, by intro w hSw; go_simp⟩) (HKB.out.below hbc HKB.out.lt) ?_
            simp only [List.getElem_toArray, List.getElem_cons_zero, List.getElem_cons_succ, Act.put, List.setIfInBounds_toArray, List.set_cons_zero, List.set_cons_succ]
            refine wpAnyH_ready (rs := [17]) (by kernel_rfl) (by simp) ?_
            refine AllReadyH.cons rfl (fun K' hK => ?_) AllReadyH.nil
            have hkm := (HPB.out wc hbc).2.2.2.2.1
            have hst := K.keep q1 b4
            have hrd := RdP.own o4
            have hcap := o4.cap
            have cm : wc.cell? ⟨bm, 0, none⟩ = some (.slice B L.length b) := hkm.cell 0
            have fm : wc.frozen? ⟨bm, 0, none⟩ = false := hkm.frozen 0
            go_simp
            refine hK.out _ _ ((HKB.out.below hbc HKB.out.lt).same (setCell_block (Ne.symm HDB.out))) (fun _ => ?_)
            clear hK K'
            try simp only [List.getElem_toArray, List.getElem_cons_zero, List.getElem_cons_succ, Act.put, List.setIfInBounds_toArray, List.set_cons_zero, List.set_cons_succ]
            refine wpAnyH_done (by kernel_rfl) ?_ _
            go_wp2_with fail
            go_meet
            refine ⟨v', h', B', b', rfl, Lib.hid ?_, Lib.hid ?_⟩
            · rw [HDX.out]
              exact PlI.set K hst hrd hcap.1 hcap.2 hkm (HPB.out wc hbc).2.2.2.2.2 HMB.out
            · exact (HKB.out.below hbc HKB.out.lt).same (setCell_block (Ne.symm HDB.out))
          · have cm : wz.cell? ⟨bm, 0, none⟩ = some (.slice B a b) := by
              have hk := (HPB.out wz hbz).2.2.2.2.1
              rw [HA.out] at hk
              exact hk.cell 0
            go_simp
            clear cm
            refine hK.out _ _ (HKB.out.below hbz HKB.out.lt) (fun _ => ?_)
            clear hK K'
            try simp only [List.getElem_toArray, List.getElem_cons_zero, List.getElem_cons_succ, Act.put, List.setIfInBounds_toArray, List.set_cons_zero, List.set_cons_succ]
            refine wpAnyH_ready (rs := [7]) (by kernel_rfl) (by simp) ?_
            refine AllReadyH.cons rfl (fun K' hK => ?_) AllReadyH.nil
            go_simp
            (with_reducible refine (P1.out wz hbz).mono ?_)
            rintro e wa ⟨v', h', rfl, q1, -, q3⟩
            have hba := hbz.trans (q3.mono hbz.size)
            go_wp2_with fail
            refine hK.out _ _ (HKB.out.below hba HKB.out.lt) (fun _ => ?_)
            clear hK K'
            try simp only [List.getElem_toArray, List.getElem_cons_zero, List.getElem_cons_succ, Act.put, List.setIfInBounds_toArray, List.set_cons_zero, List.set_cons_succ]
            refine wpAnyH_ready (rs := [15]) (by kernel_rfl) (by simp) ?_
            refine AllReadyH.cons rfl (fun K' hK => ?_) AllReadyH.nil
            go_simp
            (with_reducible refine (P2.out wa hba).mono ?_)
            rintro e wc ⟨B', b', rfl, o4, b4⟩
            have hbc := hba.trans (b4.mono hba.size)
            go_wp2_with fail
            refine hK.out _ _ (HKB.out.below hbc HKB.out.lt) (fun _ => ?_)
            clear hK K'
            try simp only [List.getElem_toArray, List.getElem_cons_zero, List.getElem_cons_succ, Act.put, List.setIfInBounds_toArray, List.set_cons_zero, List.set_cons_succ]
            refine wpAnyH_take (i := 16) (oi := _) (v := v') rfl (by kernel_rfl) (by kernel_rfl) (by kernel_rfl) (fun _ _ _ h => h) (Or.inl ⟨by rfl, by intro w hSw; go_simp⟩) (HKB.out.below hbc HKB.out.lt) ?_
            simp only [List.getElem_toArray, List.getElem_cons_zero, List.getElem_cons_succ, Act.put, List.setIfInBounds_toArray, List.set_cons_zero, List.set_cons_succ]
            refine wpAnyH_ready (rs := [17]) (by kernel_rfl) (by simp) ?_
            refine AllReadyH.cons rfl (fun K' hK => ?_) AllReadyH.nil
            have hkm := (HPB.out wc hbc).2.2.2.2.1
            have hst := K.keep q1 b4
            have hrd := RdP.own o4
            have hcap := o4.cap
            have cm : wc.cell? ⟨bm, 0, none⟩ = some (.slice B L.length b) := hkm.cell 0
            have fm : wc.frozen? ⟨bm, 0, none⟩ = false := hkm.frozen 0
            go_simp
            refine hK.out _ _ ((HKB.out.below hbc HKB.out.lt).same (setCell_block (Ne.symm HDB.out))) (fun _ => ?_)
            clear hK K'
            try simp only [List.getElem_toArray, List.getElem_cons_zero, List.getElem_cons_succ, Act.put, List.setIfInBounds_toArray, List.set_cons_zero, List.set_cons_succ]
            refine wpAnyH_done (by kernel_rfl) ?_ _
            go_wp2_with fail
            go_meet
            refine ⟨v', h', B', b', rfl, Lib.hid ?_, Lib.hid ?_⟩
            · rw [HDX.out]
              exact PlI.set K hst hrd hcap.1 hcap.2 hkm (HPB.out wc hbc).2.2.2.2.2 HMB.out
            · exact (HKB.out.below hbc HKB.out.lt).same (setCell_block (Ne.symm HDB.out))
      case rest =>
        obtain ⟨v', h', B', b', rfl, HP2, HK2⟩ := hcut
        have hsz : (doL L x).length ≤ j + 1 := do_size L x hLj
        obtain ⟨D, hD⟩ : ∃ D, doL L x = D := ⟨_, rfl⟩
        rw [hD] at HP2 hsz
        have HDE := Lib.hid hD
        obtain ⟨dn, hdn⟩ : ∃ dn, D.length = dn := ⟨_, rfl⟩
        have HDN := Lib.hid hdn
        rw [hdn] at hsz
        have HP3 := Lib.hid (show ∀ W, Below wc.heap.size wc W → PlI St w bm W v' D h' B' b' from fun W hW => PlI.on K HP2.out hW)
        have SM := Lib.hid (show ∀ W, Below wc.heap.size wc W → W.cell? ⟨bm, 0, none⟩ = some (.slice B' dn b') from fun W hW => by have hk := (HP3.out W hW).2.2.2.2.1; rw [hdn] at hk; exact hk.cell 0)
        have SK := Lib.hid (show ∀ W, Below wc.heap.size wc W → W.cell? ⟨d, 1, none⟩ = some (.string (st x.2.1)) from fun W hW => (HK2.out.below hW HK2.out.lt).cell 1)
        have G1 := Lib.hid (K.get v' D h' x.2.1 wc (HP3.out wc (Below.refl _ _)).1 (by rw [hdn]; omega) HSX.out.1)
        have G2 := Lib.hid (fun W (hW : Below wc.heap.size wc W) => rget_any B' D dn b' x.2.1 hdn (by omega) W (HP3.out W hW).2.1)
        have G3 := Lib.hid (fun W (hW : Below wc.heap.size wc W) => K.len v' D h' W (HP3.out W hW).1 (by rw [hdn]; omega))
        rw [hdn] at G3
        obtain ⟨X, hX⟩ : ∃ X, (getE D x.2.1).1 = X := ⟨_, rfl⟩
        obtain ⟨R, hR⟩ : ∃ R, (getE D x.2.1).2 = R := ⟨_, rfl⟩
        simp only [hX, hR] at G1 G2
        have ck := SK.out wc (Below.refl _ _)
        clear hX hR hD hdn
        go_wp2_with fail
        refine G1.out.mono ?_
        rintro e w3 ⟨rfl, b3⟩
        have HB3 := Lib.hid b3
        have cm := SM.out w3 b3
        have ck3 := SK.out w3 b3
        clear ck b3 G1
        go_wp2_with fail
        refine (G2.out w3 HB3.out).mono ?_
        rintro e w4 ⟨rfl, b4⟩
        have HB4 := Lib.hid (HB3.out.trans (b4.mono HB3.out.size))
        have hXX : (X != X) = false := by simp
        have hRR : (R != R) = false := by simp
        have hnn : ((dn : Int) != (dn : Int)) = false := by simp
        have cm4 := SM.out w4 HB4.out
        have hbw : Below wc.heap.size wc w4.drew := below_drewN HB4.out 1
        clear b4 cm ck3 G2
        go_upto_region 16 with fail
        (go_region_held3 (fun W => W.cell? ⟨bm, 0, none⟩ = some (.slice B' dn b')) (exact SM.out _ (by assumption)) ((go_at_call 17; (with_reducible refine (G3.out _ (by assumption)).mono ?_); rintro e w5 ⟨rfl, b5⟩; have hb5 := Below.trans (by assumption : Below wc.heap.size wc _) (b5.mono (Below.size (by assumption))))))
        all_goals (
          go_wp2_with fail
          go_roundw
          case rel => exact ⟨j + 1, v', doL L x, h', B', b', by omega, by go_num, rfl, by rw [HDE.out, HDN.out]; exact hsz, Lib.hid (by rw [HDE.out]; exact HP3.out _ hb5)⟩
          case measure => simp [intOf]; omega)
    · obtain rfl : j = m := by omega
      have HAX := Lib.hid (show ∀ W, Below wr.heap.size wr W → PlI St w bm W _ L h B b from fun W hW => PlI.on K HP.out hW)
      obtain ⟨a, ha⟩ : ∃ a, L.length = a := ⟨_, rfl⟩
      have HA := Lib.hid ha
      have haj : a ≤ j := by rw [← ha]; exact hLj
      have SM := Lib.hid (show ∀ W, Below wr.heap.size wr W → W.cell? ⟨bm, 0, none⟩ = some (.slice B a b) from fun W hW => by have hk := (HAX.out W hW).2.2.2.2.1; rw [ha] at hk; exact hk.cell 0)
      have G1 := Lib.hid (K.get _ L h key wr (HAX.out wr (Below.refl _ _)).1 (by rw [ha]; omega) hkey)
      have G2 := Lib.hid (fun W (hW : Below wr.heap.size wr W) => rget_any B L a b key ha (by omega) W (HAX.out W hW).2.1)
      obtain ⟨X, hX⟩ : ∃ X, (getE L key).1 = X := ⟨_, rfl⟩
      obtain ⟨R, hR⟩ : ∃ R, (getE L key).2 = R := ⟨_, rfl⟩
      simp only [hX, hR] at G1 G2
      obtain ⟨F, hF⟩ : ∃ F, fromL L key n = F := ⟨_, rfl⟩
      obtain ⟨f, hf⟩ : ∃ f, F.length = f := ⟨_, rfl⟩
      have HFF := Lib.hid hf
      have hf2 : f ≤ 200 := by
        rw [← hf, ← hF]
        unfold fromL
        rw [List.length_take, List.length_drop]
        omega
      have C1 := Lib.hid (fun W (hW : Below wr.heap.size wr W) => K.pairs _ L h key n W (HAX.out W hW).1 (by rw [ha]; omega) hkey hn1 hn2)
      have C2 := Lib.hid (fun W (hW : Below wr.heap.size wr W) => rfrom_any B L a b key n ha (by omega) (by have h9 := (HAX.out W hW).2.2.1; rw [ha] at h9; exact h9) W (HAX.out W hW).2.1)
      have C4 := Lib.hid (fun W (hW : Below wr.heap.size wr W) => K.pairs _ L h [] 4611686018427387904 W (HAX.out W hW).1 (by rw [ha]; omega) (Nat.zero_le _) (by decide) (by decide))
      have hall : fromL L [] 4611686018427387904 = L := from_all L (by rw [ha]; omega)
      simp only [hF, hf] at C1 C2
      simp only [hall, ha] at C4
      have HRB := Lib.hid (show ∀ W, Below wr.heap.size wr W → RdP W W.heap.size B L from fun W hW => (HAX.out W hW).2.1)
      clear hX hR hF hf hall ha
      go_wp2_with fail
      refine G1.out.mono ?_
      rintro e w3 ⟨rfl, b3⟩
      have HB3 := Lib.hid b3
      have cm := SM.out w3 b3
      clear b3 G1
      go_wp2_with fail
      refine (G2.out w3 HB3.out).mono ?_
      rintro e w4 ⟨rfl, b4⟩
      have HB4 := Lib.hid (HB3.out.trans (b4.mono HB3.out.size))
      have hXX : (X == X) = true := by simp
      have hRR : (R == R) = true := by simp
      have hbw : Below wr.heap.size wr w4.drew := below_drewN HB4.out 1
      clear b4 cm G2
      go_upto_region 21 with fail
      (go_region_held3 (fun W => W.cell? ⟨bm, 0, none⟩ = some (.slice B a b)) (exact SM.out _ (by assumption)) (first
        | (go_at_call 19; (with_reducible refine (C1.out _ (by assumption)).mono ?_); rintro e w5 ⟨A5, c5, rfl, r5, -, -, -, b5⟩; have hb5 := Below.trans (by assumption : Below wr.heap.size wr _) (b5.mono (Below.size (by assumption))))
        | (go_at_call 20; (with_reducible refine (C2.out _ (by assumption)).mono ?_); rintro e w6 ⟨A6, c6, rfl, r6, b6⟩; have hb6 := Below.trans (by assumption : Below wr.heap.size wr _) (b6.mono (Below.size (by assumption))))
        | (go_at_call 18; with_reducible refine (rsamepairs_any A5 F f c5 A6 F f c6 HFF.out HFF.out (by omega) _ (r5.on b6) r6).mono ?_; rintro e w7 ⟨rfl, b7⟩; have hb7 := hb6.trans (b7.mono hb6.size); rw [decide_eq_true rfl])
        | (go_at_call 19; (with_reducible refine (C4.out _ (by assumption)).mono ?_); rintro e w8 ⟨A8, c8, rfl, r8, -, -, -, b8⟩; have hb8 := Below.trans (by assumption : Below wr.heap.size wr _) (b8.mono (Below.size (by assumption))))
        | (go_at_call 18; with_reducible refine (rsamepairs_any A8 L a c8 B L a b HA.out HA.out (by omega) _ r8 (HRB.out _ hb8)).mono ?_; rintro e w9 ⟨rfl, b9⟩; have hb9 := hb8.trans (b9.mono hb8.size); rw [decide_eq_true rfl])))
      all_goals (go_wp2_with fail; go_ret; exact ⟨rfl, HB.out.trans (hb9.mono HB.out.size)⟩)
end
end Go.Proofs.Ytiomfkhblmmdoaa
