/- The walk of DiskNil, told from what the package's disks do. No statement of the seat is proved here. -/
import Derived.Test.YtdnconakpajdgaaDskRow
import Derived.Deep.QuietTactic
namespace Go.Proofs.Ytdnconakpajdgaa
open Go.RowKit Go.ChangeShapes Go.WideShapes Go.ChangeAt Go.Deep
set_option linter.unusedVariables false

def nilE (a : DActT) : Nat := if a.kind % 5 < 2 then 2 else 0
set_option maxRecDepth 100000 in
set_option maxHeartbeats 2000000 in
theorem does_nil (K : NilOk) (w : World) (a : DActT) (ha : a.Ok w w.heap.size) (hbl : a.b.length ≤ 140737488355328) :
    Calls Try.prog 16 #[.pointer none, .agg (dcs a).toArray] w fun e w' => e = .returned (.int .i64 (nilE a : Nat)) ∧ Below w.heap.size w w' := by
  obtain ⟨w1, ab, hw1, hab, hb1, hbx⟩ := act_box w a
  have hk0 : w1.cell? ⟨ab, 0, none⟩ = some (.int .u8 a.kind) := hbx.cell 0
  have hk1 : w1.cell? ⟨ab, 1, none⟩ = some (.int .i64 a.at_) := hbx.cell 1
  have hk2 : w1.cell? ⟨ab, 2, none⟩ = some (.int .i64 a.num) := hbx.cell 2
  have hk3 : w1.cell? ⟨ab, 3, none⟩ = some (.slice a.adr a.b.length a.cap) := hbx.cell 3
  have hk4 : w1.cell? ⟨ab, 4, none⟩ = some (.slice a.fadr a.fates.length a.fcap) := hbx.cell 4
  have HW := Lib.hid hw1
  have HAB := Lib.hid hab
  have HB1 := Lib.hid hb1
  have HBX := Lib.hid hbx
  have hkd := ha.kind
  have HA := Lib.hid ha
  have hace : nilE a = if a.kind % 5 < 2 then 2 else 0 := rfl
  clear hbx hw1 hab hb1
  generalize hkk : a.kind = kd at *
  obtain ⟨r, hr⟩ : ∃ r, kd % 5 = r := ⟨_, rfl⟩
  have hri : (kd : Int) % 5 = (r : Int) := by omega
  have hr3 : r < 5 := by omega
  rw [hr] at hace
  have HE := Lib.hid hace
  clear hkk hr hace
  have hcase : r = 0 ∨ r = 1 ∨ r = 2 ∨ r = 3 ∨ r = 4 := by omega
  rcases hcase with rfl | rfl | rfl | rfl | rfl
  · have hri : (kd : Int) % 5 = 0 := hri
    rw [if_pos (by omega)] at HE
    rw [HE.out]
    obtain ⟨i0, hi, hz0, hz1, hz2⟩ := info_parts info_u8
    have HI := Lib.hid (And.intro hi (And.intro hz0 (And.intro hz1 hz2)))
    have hbe : Below w1.heap.size w1 (w1.drew.alloc (.cells #[] 5)) := ((show Below w1.heap.size w1 w1.drew from ⟨rfl, rfl, rfl, Nat.le_refl _, fun _ _ => rfl⟩)).alloc (Nat.le_refl _) _
    have HBE := Lib.hid hbe
    have HOE := Lib.hid (show (w1.drew.alloc (.cells #[] 5)).ownsRow w1.heap.size 5 1 (.slice (some ⟨w1.heap.size, 0, none⟩) 0 0) 0 [] from World.ownsRow_lit w1.drew #[] 0 (Nat.le_refl _) (by simp [maxLen]) rfl)
    have HRA := Lib.hid (show ∀ W, Below w1.heap.size w1 W → Rd W w.heap.size a.adr a.b from fun W hb => (HA.out.rd.below HB1.out).below (hb.mono HB1.out.size))
    have HN := Lib.hid hbl
    have HC1 := Lib.hid (show ∀ W, Below w1.heap.size w1 W → W.cell? ⟨ab, 1, none⟩ = some (.int .i64 a.at_) ∧ W.cell? ⟨ab, 3, none⟩ = some (.slice a.adr a.b.length a.cap) from fun W hb => ⟨(hb.cell (p := ⟨ab, 1, none⟩) HBX.out.lt).trans hk1, (hb.cell (p := ⟨ab, 3, none⟩) HBX.out.lt).trans hk3⟩)
    clear hi hz0 hz1 hz2 hbe hbl
    go_enter Try.func16, Try.ntmps16
    go_upto_region 1 with fail
    rw [HW.out, HAB.out]
    go_wp2_with fail
    have hs1 : w1.drew.cell? ⟨ab, 1, none⟩ = some (.int .i64 a.at_) ∧ w1.drew.cell? ⟨ab, 3, none⟩ = some (.slice a.adr a.b.length a.cap) := ⟨hk1, hk3⟩
    have hs2 := HC1.out _ HBE.out
    clear hk0 hk1 hk2 hk3 hk4
    first | (go_region_held3 (fun W => W.cell? ⟨ab, 1, none⟩ = some (.int .i64 a.at_) ∧ W.cell? ⟨ab, 3, none⟩ = some (.slice a.adr a.b.length a.cap)) (first | exact hs1 | exact hs2 | exact hs6 | exact hs7) (first
      | (refine step_append_first _ (by rfl) (.tmp 13) (.tmp 15) 32 (by rfl) w1.heap.size 5 i0 Try.underlying32 HI.out.1 HI.out.2.1 HI.out.2.2.1 HI.out.2.2.2 (.slice (some ⟨w1.heap.size, 0, none⟩) 0 0) (by rfl) HOE.out w.heap.size a.adr a.cap a.b.length a.b (by rfl) rfl (HRA.out _ HBE.out) HN.out HBE.out.size ?_; intro A6 c6 w6 ho6 hg6; have hb6 : Below w1.heap.size w1 w6 := HBE.out.grown hg6 HBE.out.size (fun g hg => (HOE.out.lt g hg).1); have hs6 := HC1.out _ hb6)
      | (go_at_call 15; (with_reducible refine (K.write a.at_ A6 a.b.length c6 w6).mono ?_); rintro e w7 ⟨rfl, ht7⟩; have hs7 := HC1.out _ (hb6.trans (ht7.mono hb6.size))))) | fail
    have H7 := Lib.hid (HB1.out.trans ((hb6.trans (ht7.mono hb6.size)).mono HB1.out.size))
    clear hs1 hs2 hs6 hs7 ho6 hg6 hb6 ht7
    go_wp2_with fail
    go_ret
    exact ⟨rfl, H7.out⟩
  · have hri : (kd : Int) % 5 = 1 := hri
    rw [if_pos (by omega)] at HE
    rw [HE.out]
    have KC := Lib.hid (K.flush w1)
    go_enter Try.func16, Try.ntmps16
    go_upto_region 1 with fail
    rw [HW.out, HAB.out]
    go_wp2_with fail
    (with_reducible refine KC.out.mono ?_)
    rintro e w2 ⟨rfl, h2⟩
    have H2 := Lib.hid (HB1.out.trans (h2.mono HB1.out.size))
    clear h2
    go_wp2_with fail
    go_ret
    exact ⟨rfl, H2.out⟩
  · have hri : (kd : Int) % 5 = 2 := hri
    rw [if_neg (by omega)] at HE
    rw [HE.out]
    have KC := Lib.hid (K.cut a.num w1)
    go_enter Try.func16, Try.ntmps16
    go_upto_region 1 with fail
    rw [HW.out, HAB.out]
    go_wp2_with fail
    (with_reducible refine KC.out.mono ?_)
    rintro e w2 ⟨rfl, h2⟩
    have H2 := Lib.hid (HB1.out.trans (h2.mono HB1.out.size))
    clear h2
    go_wp2_with fail
    go_ret
    exact ⟨rfl, H2.out⟩
  · have hri : (kd : Int) % 5 = 3 := hri
    rw [if_neg (by omega)] at HE
    rw [HE.out]
    have KC := Lib.hid (K.crash a.fadr a.fates.length a.fcap w1)
    go_enter Try.func16, Try.ntmps16
    go_upto_region 1 with fail
    rw [HW.out, HAB.out]
    go_wp2_with fail
    (with_reducible refine KC.out.mono ?_)
    rintro e w2 ⟨rfl, h2⟩
    have H2 := Lib.hid (HB1.out.trans (h2.mono HB1.out.size))
    clear h2
    go_wp2_with fail
    go_ret
    exact ⟨rfl, H2.out⟩
  · have hri : (kd : Int) % 5 = 4 := hri
    rw [if_neg (by omega)] at HE
    rw [HE.out]
    go_enter Try.func16, Try.ntmps16
    go_upto_region 1 with fail
    rw [HW.out, HAB.out]
    go_wp2_with fail
    go_ret
    exact ⟨rfl, HB1.out⟩
section
variable {St : World → Addr → (Nat → Prop) → DS → Prop}
set_option maxRecDepth 100000 in
set_option maxHeartbeats 2000000 in
theorem nil_walk (K : DisksOk St) (NK : NilOk) (a : DActT) (w : World) (ha : a.Ok w w.heap.size) (hbl : a.b.length ≤ 140737488355328) :
    Calls Try.prog 7 #[.agg (dcs a).toArray] w fun e w' => e = .returned (.bool true) ∧ Below w.heap.size w w' := by
  obtain ⟨fs, hfs⟩ := act_desc
  have HF := Lib.hid hfs
  have HKS2 := Lib.hid (show (Try.prog.info? 35).map (·.size) = some (dcs a).toArray.size from act_size)
  obtain ⟨w1, ab, hw1, hab, hb1, hbx⟩ := act_box w a
  have HW := Lib.hid hw1
  have HAB := Lib.hid hab
  have HB1 := Lib.hid hb1
  have HBX := Lib.hid hbx
  have KD := Lib.hid (does_nil NK w1 a ((ha.below hb1).more hb1.size) hbl)
  clear hfs hw1 hab hb1 hbx ha hbl
  go_enter Try.func7, Try.ntmps7
  go_upto_region 1 with fail
  rw [HW.out, HAB.out]
  go_wp2_with (refine wpList_load_row rfl 35 (.tmp 1) rfl ab rfl 35 (dcs a).toArray (0, 0) (.struct fs) HBX.out HF.out rfl HKS2.out ?_)
  (with_reducible refine KD.out.mono ?_)
  rintro e w2 ⟨rfl, hb2⟩
  have hbk := HBX.out.below hb2 HBX.out.lt
  have HB2 := Lib.hid (HB1.out.trans (hb2.mono HB1.out.size))
  have hk1 : w2.cell? ⟨ab, 1, none⟩ = some (.int .i64 a.at_) := hbk.cell 1
  have HBK := Lib.hid hbk
  clear hb2 hbk KD
  go_wp2_with fail
  refine (NK.read a.at_ w2).mono ?_
  rintro e w3 ⟨⟨A3, c3, rfl⟩, hb3⟩
  have hbk := HBK.out.below hb3 HBK.out.lt
  have HB3 := Lib.hid (HB2.out.trans (hb3.mono HB2.out.size))
  have hk2 : w3.cell? ⟨ab, 2, none⟩ = some (.int .i64 a.num) := hbk.cell 2
  have HBK3 := Lib.hid hbk
  clear hb3 hbk hk1
  go_wp2_with fail
  refine (NK.cut a.num w3).mono ?_
  rintro e w4 ⟨rfl, hb4⟩
  have hbk := HBK3.out.below hb4 HBK3.out.lt
  have HB4 := Lib.hid (HB3.out.trans (hb4.mono HB3.out.size))
  have hk4 : w4.cell? ⟨ab, 4, none⟩ = some (.slice a.fadr a.fates.length a.fcap) := hbk.cell 4
  have HBK4 := Lib.hid hbk
  clear hb4 hbk hk2
  go_wp2_with fail
  refine (NK.crash a.fadr a.fates.length a.fcap w4).mono ?_
  rintro e w5 ⟨rfl, hb5⟩
  have hbk := HBK4.out.below hb5 HBK4.out.lt
  have HB5 := Lib.hid (HB4.out.trans (hb5.mono HB4.out.size))
  have HBK5 := Lib.hid hbk
  clear hb5 hbk hk4
  go_wp2_with fail
  refine (shown_any K w5).mono ?_
  rintro e w6 ⟨rfl, hb6⟩
  have hbk := HBK5.out.below hb6 HBK5.out.lt
  have HB6 := Lib.hid (HB5.out.trans (hb6.mono HB5.out.size))
  have hk0 : w6.cell? ⟨ab, 0, none⟩ = some (.int .u8 a.kind) := hbk.cell 0
  obtain ⟨r, hr⟩ : ∃ r, a.kind % 5 = r := ⟨_, rfl⟩
  have hri : (a.kind : Int) % 5 = (r : Int) := by omega
  have hnl : nilE a = if r < 2 then 2 else 0 := by rw [← hr]; rfl
  rw [hnl]
  clear hb6 hbk hr hnl
  generalize a.kind = kd at *
  by_cases h2 : r < 2
  · rw [if_pos h2]
    have hr2 : (r : Int) < 2 := by omega
    go_wp2_with fail
    refine (NK.size w6).mono ?_
    rintro e w7 ⟨rfl, hb7⟩
    have HB7 := Lib.hid (HB6.out.trans (hb7.mono HB6.out.size))
    clear hb7
    go_wp2_with fail
    refine (NK.pending w7).mono ?_
    rintro e w8 ⟨rfl, hb8⟩
    have HB8 := Lib.hid (HB7.out.trans (hb8.mono HB7.out.size))
    clear hb8
    go_wp2_with fail
    refine (NK.dead w8).mono ?_
    rintro e w9 ⟨rfl, hb9⟩
    have HB9 := Lib.hid (HB8.out.trans (hb9.mono HB8.out.size))
    clear hb9
    go_wp2_with fail
    refine (NK.count w9).mono ?_
    rintro e w10 ⟨rfl, hb10⟩
    have HB10 := Lib.hid (HB9.out.trans (hb10.mono HB9.out.size))
    clear hb10
    go_wp2_with fail
    refine (NK.copy w10).mono ?_
    rintro e w11 ⟨rfl, hb11⟩
    have HB11 := Lib.hid (HB10.out.trans (hb11.mono HB10.out.size))
    clear hb11
    go_wp2_with fail
    go_ret
    exact ⟨rfl, HB11.out⟩
  · rw [if_neg h2]
    have hr2 : decide ((r : Int) < 2) = false := decide_eq_false (by omega)
    go_wp2_with fail
    refine (NK.size w6).mono ?_
    rintro e w7 ⟨rfl, hb7⟩
    have HB7 := Lib.hid (HB6.out.trans (hb7.mono HB6.out.size))
    clear hb7
    go_wp2_with fail
    refine (NK.pending w7).mono ?_
    rintro e w8 ⟨rfl, hb8⟩
    have HB8 := Lib.hid (HB7.out.trans (hb8.mono HB7.out.size))
    clear hb8
    go_wp2_with fail
    refine (NK.dead w8).mono ?_
    rintro e w9 ⟨rfl, hb9⟩
    have HB9 := Lib.hid (HB8.out.trans (hb9.mono HB8.out.size))
    clear hb9
    go_wp2_with fail
    refine (NK.count w9).mono ?_
    rintro e w10 ⟨rfl, hb10⟩
    have HB10 := Lib.hid (HB9.out.trans (hb10.mono HB9.out.size))
    clear hb10
    go_wp2_with fail
    refine (NK.copy w10).mono ?_
    rintro e w11 ⟨rfl, hb11⟩
    have HB11 := Lib.hid (HB10.out.trans (hb11.mono HB10.out.size))
    clear hb11
    go_wp2_with fail
    go_ret
    exact ⟨rfl, HB11.out⟩
end
end Go.Proofs.Ytdnconakpajdgaa
