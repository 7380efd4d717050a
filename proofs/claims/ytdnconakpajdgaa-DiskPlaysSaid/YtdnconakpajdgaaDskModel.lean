/- What an act makes of the reference's disk. No statement of the seat is proved here. -/
import Derived.Test.YtdnconakpajdgaaDskRefK
import Derived.Test.YtdnconakpajdgaaDskDo
namespace Go.Proofs.Ytdnconakpajdgaa
open Go.RowKit
set_option linter.unusedVariables false
section
variable {w0 w : World} {s : Addr} {N : Nat → Prop} {S : DS}
set_option maxRecDepth 100000 in
set_option maxHeartbeats 2000000 in
theorem model_any (h : Turned Rst w0 s N w S) (hf : Few S) (a : DActT) (ha : a.Ok w0 w0.heap.size) (ho1 : Out N a.adr a.b.length) (ho2 : Out N a.fadr a.fates.length) :
    Calls Try.prog 17 #[.pointer (some s), .agg (dcs a).toArray] w fun e w' => e = .returned (.int .i64 (doE S a : Nat)) ∧ Turned Rst w0 s N w' (doS S a) := by
  have hb1 : Below w.heap.size w (w.alloc (.cells (dcs a).toArray 35)) := (Below.refl w.heap.size w).alloc (Nat.le_refl _) _
  have hbx := Blk.new w 35 (dcs a).toArray
  have h1 := rst_on h hb1
  obtain ⟨w1, hw1⟩ : ∃ w1, w.alloc (.cells (dcs a).toArray 35) = w1 := ⟨_, rfl⟩
  obtain ⟨ab, hab⟩ : ∃ ab, w.heap.size = ab := ⟨_, rfl⟩
  rw [hw1] at h1 hbx
  rw [hab] at hbx
  have hk0 : w1.cell? ⟨ab, 0, none⟩ = some (.int .u8 a.kind) := hbx.cell 0
  have hk1 : w1.cell? ⟨ab, 1, none⟩ = some (.int .i64 a.at_) := hbx.cell 1
  have hk2 : w1.cell? ⟨ab, 2, none⟩ = some (.int .i64 a.num) := hbx.cell 2
  have hk3 : w1.cell? ⟨ab, 3, none⟩ = some (.slice a.adr a.b.length a.cap) := hbx.cell 3
  have hk4 : w1.cell? ⟨ab, 4, none⟩ = some (.slice a.fadr a.fates.length a.fcap) := hbx.cell 4
  have HW := Lib.hid hw1
  have HAB := Lib.hid hab
  have HD := Lib.hid h1
  have hkd := ha.kind
  have HA := Lib.hid ha
  have hact : doS S a = if a.kind % 5 = 0 then writeS S a.at_ a.b else if a.kind % 5 = 1 then flushS S else if a.kind % 5 = 2 then cutS S a.num else if a.kind % 5 = 3 then crashS S a.fates else S := rfl
  have hace : doE S a = if a.kind % 5 = 0 then writeE S a.at_ a.b.length else if a.kind % 5 = 1 then flushE S else 0 := rfl
  clear h1 hbx hw1 hab hb1 h
  generalize hkk : a.kind = kd at *
  obtain ⟨r, hr⟩ : ∃ r, kd % 5 = r := ⟨_, rfl⟩
  have hri : (kd : Int) % 5 = (r : Int) := by omega
  have hr3 : r < 5 := by omega
  rw [hr] at hact hace
  have HS := Lib.hid hact
  have HE := Lib.hid hace
  clear hkk hr hact hace
  have hcase : r = 0 ∨ r = 1 ∨ r = 2 ∨ r = 3 ∨ r = 4 := by omega
  rcases hcase with rfl | rfl | rfl | rfl | rfl
  · have hri : (kd : Int) % 5 = 0 := hri
    rw [if_pos rfl] at HS HE
    rw [HS.out, HE.out]
    have KC := Lib.hid (rst_write HD.out hf a.at_ a.b a.b.length rfl)
    have hcv : (convert 32 9 (.slice a.adr a.b.length a.cap)).run Try.prog w1 = .ok (.string ⟨a.b.toArray⟩) w1 := conv_own rfl (rd_only HD.out.only HA.out.rd ho1)
    generalize (⟨a.b.toArray⟩ : ByteArray) = sb at *
    go_enter Try.func17, Try.ntmps17
    go_upto_region 1 with fail
    rw [HW.out, HAB.out]
    go_wp2_with fail
    (with_reducible refine KC.out.mono ?_)
    rintro e w2 ⟨rfl, h2⟩
    have H2 := Lib.hid h2
    clear h2
    go_wp2_with fail
    go_ret
    exact ⟨rfl, H2.out⟩
  · have hri : (kd : Int) % 5 = 1 := hri
    rw [if_neg (by omega), if_pos rfl] at HS HE
    rw [HS.out, HE.out]
    have KC := Lib.hid (rst_flush HD.out hf)
    go_enter Try.func17, Try.ntmps17
    go_upto_region 1 with fail
    rw [HW.out, HAB.out]
    go_wp2_with fail
    (with_reducible refine KC.out.mono ?_)
    rintro e w2 ⟨rfl, h2⟩
    have H2 := Lib.hid h2
    clear h2
    go_wp2_with fail
    go_ret
    exact ⟨rfl, H2.out⟩
  · have hri : (kd : Int) % 5 = 2 := hri
    rw [if_neg (by omega), if_neg (by omega), if_pos rfl] at HS
    rw [if_neg (by omega), if_neg (by omega)] at HE
    rw [HS.out, HE.out]
    have KC := Lib.hid (rst_cut HD.out a.num HA.out.num)
    go_enter Try.func17, Try.ntmps17
    go_upto_region 1 with fail
    rw [HW.out, HAB.out]
    go_wp2_with fail
    (with_reducible refine KC.out.mono ?_)
    rintro e w2 ⟨rfl, h2⟩
    have H2 := Lib.hid h2
    clear h2
    go_wp2_with fail
    go_ret
    exact ⟨rfl, H2.out⟩
  · have hri : (kd : Int) % 5 = 3 := hri
    rw [if_neg (by omega), if_neg (by omega), if_neg (by omega), if_pos rfl] at HS
    rw [if_neg (by omega), if_neg (by omega)] at HE
    rw [HS.out, HE.out]
    have KC := Lib.hid (rst_crash HD.out hf a.fadr a.fates.length a.fcap a.fates rfl HA.out.fle HA.out.fmax HA.out.frd HA.out.fin ho2)
    go_enter Try.func17, Try.ntmps17
    go_upto_region 1 with fail
    rw [HW.out, HAB.out]
    go_wp2_with fail
    (with_reducible refine KC.out.mono ?_)
    rintro e w2 ⟨rfl, h2⟩
    have H2 := Lib.hid h2
    clear h2
    go_wp2_with fail
    go_ret
    exact ⟨rfl, H2.out⟩
  · have hri : (kd : Int) % 5 = 4 := hri
    rw [if_neg (by omega), if_neg (by omega), if_neg (by omega), if_neg (by omega)] at HS
    rw [if_neg (by omega), if_neg (by omega)] at HE
    rw [HS.out, HE.out]
    go_enter Try.func17, Try.ntmps17
    go_upto_region 1 with fail
    rw [HW.out, HAB.out]
    go_wp2_with fail
    go_ret
    exact ⟨rfl, HD.out⟩
end
end Go.Proofs.Ytdnconakpajdgaa
