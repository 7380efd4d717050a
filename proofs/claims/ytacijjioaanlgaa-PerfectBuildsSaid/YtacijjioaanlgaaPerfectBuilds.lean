/-
  PerfectBuilds (P7.2, P7.3): for any list of keys and any key, the map that the program builds of the first 400 keys and the reference's one are refused alike or tell the same place of each of these keys and of that key, the same number of keys and of spilled ones. No conditions.
-/
import Derived.Test.YtacijjioaanlgaaRows
import Derived.Test.YtacijjioaanlgaaOpen
import Derived.Test.YtacijjioaanlgaaPerfRefB
import Derived.Test.YtacijjioaanlgaaPerfUn
import Derived.WalkKit
import Derived.ProofKit
import Derived.OpenShut
import Derived.ShutString
import Derived.ChangeOld
import Derived.Below
namespace Go.Proofs.Ytacijjioaanlgaa.perfectBuilds
open Go.ChangeShapes Go.WideShapes Go.ChangeAt Go.RowKit
open Go.ChangeMaps (open_string shut_string)
set_option linter.unusedVariables false

theorem own : ownKnob Try.prog.godebug = none := by kernel_rfl
theorem laidOut : laidOutB Try.prog = true := by kernel_rfl

set_option maxRecDepth 100000 in
set_option maxHeartbeats 1000000 in
theorem builds_twice (A : Option Addr) (ks : List KeyT) (n c m : Nat) (hm : min n 400 = m) (hl : ks.length = n) (hc : n ≤ c) (hmx : c ≤ maxLen) (hd : ¬ (ks.take m).Nodup) (kc : Array Value) (w : World) (hr : RdK w w.heap.size A ks) :
    Calls Try.prog 4 #[.slice A n c, .agg kc] w fun e w' => e = .returned (.bool true) ∧ Below w.heap.size w w' := by
  have hml : (ks.take m).length = m := by rw [List.length_take]; omega
  have hb0 := (Below.refl w.heap.size w).alloc (Nat.le_refl _) (.cells kc 27)
  have HB0 := Lib.hid hb0
  have KF := Lib.hid (fun W => few_any A n c m hm W hc)
  have KB := Lib.hid (fun W (h : Below w.heap.size w W) => build_twice A (ks.take m) m c hml (by omega) hmx (by omega) hd W (((hr.take m).below h).more h.size))
  have KR := Lib.hid (fun W (h : Below w.heap.size w W) => rbuild_twice A (ks.take m) m c hml (by omega) (by omega) hd W (((hr.take m).below h).more h.size))
  clear hb0 hr hl hm hc hmx hd hml
  go_enter Try.func4, Try.ntmps4
  go_wp2_with fail
  refine (shown_any _).mono ?_
  rintro e w1 ⟨rfl, hb1⟩
  have HB1 := Lib.hid (HB0.out.trans (hb1.mono HB0.out.size))
  clear hb1
  go_wp2_with fail
  (with_reducible refine (KF.out _).mono ?_)
  rintro e w' ⟨rfl, rfl⟩
  go_wp2_with fail
  (with_reducible refine (KB.out _ HB1.out).mono ?_)
  rintro e w2 ⟨rfl, hb2⟩
  have HB2 := Lib.hid (HB1.out.trans (hb2.mono HB1.out.size))
  clear hb2
  go_wp2_with fail
  (with_reducible refine (KF.out _).mono ?_)
  rintro e w' ⟨rfl, rfl⟩
  go_wp2_with fail
  (with_reducible refine (KR.out _ HB2.out).mono ?_)
  rintro e w3 ⟨rfl, hb3⟩
  have HB3 := Lib.hid (HB2.out.trans (hb3.mono HB2.out.size))
  have HB4 := Lib.hid (HB3.out.alloc HB3.out.size (.cells #[.int .i64 0, .slice none 0 0, .slice none 0 0, .slice none 0 0] 40))
  clear hb3
  go_wp2_with fail
  go_ret
  exact ⟨rfl, HB4.out⟩
set_option maxRecDepth 100000 in
set_option maxHeartbeats 1000000 in
theorem builds_walk (A : Option Addr) (ks : List KeyT) (n c m : Nat) (hm : min n 400 = m) (hl : ks.length = n) (hc : n ≤ c) (hmx : c ≤ maxLen) (hd : (ks.take m).Nodup) (k : KeyT) (hk : k.Ok) (w : World) (hr : RdK w w.heap.size A ks) :
    Calls Try.prog 4 #[.slice A n c, .agg (kcs k).toArray] w fun e w' => e = .returned (.bool true) ∧ Below w.heap.size w w' := by
  have hml : (ks.take m).length = m := by rw [List.length_take]; omega
  have hm4 : m ≤ 400 := by omega
  obtain ⟨fs, hfs⟩ := key_desc
  have HF := Lib.hid hfs
  obtain ⟨gs, hgs⟩ := map_desc
  have HG := Lib.hid hgs
  obtain ⟨wb, hwb⟩ : ∃ wb, w.alloc (.cells (kcs k).toArray 27) = wb := ⟨_, rfl⟩
  obtain ⟨qb, hqb⟩ : ∃ qb, w.heap.size = qb := ⟨_, rfl⟩
  have hb0 : Below w.heap.size w wb := hwb ▸ (Below.refl w.heap.size w).alloc (Nat.le_refl _) _
  have HKB := Lib.hid (show Blk wb qb 27 (kcs k).toArray by rw [← hwb, ← hqb]; exact Blk.new w _ _)
  have HR := Lib.hid (((hr.take m).below hb0).more hb0.size)
  obtain ⟨us, hus⟩ : ∃ us, ks.take m = us := ⟨_, rfl⟩
  rw [hus] at HR hd hml
  obtain ⟨G, hG⟩ : ∃ G, m / 4 + 1 = G := ⟨_, rfl⟩
  have HB0 := Lib.hid hb0
  have HL := Lib.hid hml
  have HWB := Lib.hid hwb
  have HQB := Lib.hid hqb
  have KF := Lib.hid (fun W => few_any A n c m hm W hc)
  have KB := Lib.hid (fun W (h : Below wb.heap.size wb W) => build_any A us m c G hml (by omega) hmx (by omega) hG hd W ((HR.out.below h).more h.size))
  have KR := Lib.hid (fun W (h : Below wb.heap.size wb W) => rbuild_any A us m c G hml (by omega) hmx (by omega) hG hd W ((HR.out.below h).more h.size))
  have HBB := Lib.hid (Below.refl wb.heap.size wb)
  have HOK := Lib.hid hk
  clear hb0 hr hl hm hc hmx hd hml hwb hqb hus hfs hgs hk hG
  go_enter Try.func4, Try.ntmps4
  go_wp2_with fail
  rw [HWB.out, HQB.out]
  refine (shown_any _).mono ?_
  rintro e w1 ⟨rfl, hb1⟩
  have HB1 := Lib.hid (HBB.out.trans (hb1.mono HBB.out.size))
  clear hb1
  go_wp2_with fail
  (with_reducible refine (KF.out _).mono ?_)
  rintro e w' ⟨rfl, rfl⟩
  go_wp2_with fail
  (with_reducible refine (KB.out _ HB1.out).mono ?_)
  rintro e w2 ⟨mb, O, rfl, hko, hbu, hb2⟩
  have HKO := Lib.hid hko
  have HBU := Lib.hid hbu
  have HB2 := Lib.hid (HB1.out.trans (hb2.mono HB1.out.size))
  clear hb2 hko hbu
  go_wp2_with fail
  (with_reducible refine (KF.out _).mono ?_)
  rintro e w' ⟨rfl, rfl⟩
  go_wp2_with fail
  (with_reducible refine (KR.out _ HB2.out).mono ?_)
  rintro e w3 ⟨db, cd, As, cs, Aa, ca, B, O2, rfl, hko2, hrm, hb3⟩
  obtain rfl : O2 = O := hko2.ord.unique HKO.out.ord
  have HB3 := Lib.hid (HB2.out.trans (hb3.mono HB2.out.size))
  obtain ⟨ll, hle⟩ : ∃ ll, (fB m G us O2).left.length = ll := ⟨_, rfl⟩
  rw [hle]
  obtain ⟨w4, hw4⟩ : ∃ w4, w3.alloc (.cells (rmc m G ll db cd As cs Aa ca) 40) = w4 := ⟨_, rfl⟩
  obtain ⟨xb, hxb⟩ : ∃ xb, w3.heap.size = xb := ⟨_, rfl⟩
  have hb4 : Below w3.heap.size w3 w4 := hw4 ▸ (Below.refl _ _).alloc (Nat.le_refl _) _
  have HXB := Lib.hid (show Blk w4 xb 40 (rmc m G ll db cd As cs Aa ca) by rw [← hw4, ← hxb]; exact Blk.new w3 _ _)
  have HRM := Lib.hid (hrm.on hb4)
  have HBU4 := Lib.hid ((HBU.out.on hb3).on hb4)
  have HB4 := Lib.hid (HB3.out.trans (hb4.mono HB3.out.size))
  have HLL := Lib.hid hle
  have HW4 := Lib.hid hw4
  have HXE := Lib.hid hxb
  clear hb3 hb4 hrm hko2 HBU hle hw4 hxb
  go_wp2_with fail
  rw [HW4.out, HXE.out]
  (with_reducible refine (KF.out _).mono ?_)
  rintro e w' ⟨rfl, rfl⟩
  go_wp2_with fail
  have hm63 : m ≤ 9223372036854775807 := by omega
  have HMS := Lib.hid (show (Try.prog.info? 40).map (·.size) = some (rmc m G ll db cd As cs Aa ca).toList.length from map_size4)
  clear KB KR KF
  go_loopw [41] (fun i wr => ∃ j : Nat, j ≤ m ∧ i = .int .i64 j ∧ Below w4.heap.size w4 wr) (fun i _ => m - (intOf i).toNat)
  case atStart => exact ⟨0, Nat.zero_le _, rfl, Below.refl _ _⟩
  case round =>
    obtain ⟨j, hj, rfl, hbel⟩ := hrel
    by_cases hlt : j < m
    · have hjU : j < us.length := by rw [HL.out]; exact hlt
      obtain ⟨g, off, rfl, hg, hra, hok⟩ := (HR.out.below (HB4.out.trans (hbel.mono HB4.out.size))).at_ hjU
      obtain ⟨x, hx⟩ : ∃ x, us[j] = x := ⟨_, rfl⟩
      rw [hx] at hra hok
      have HKS := Lib.hid (show (Try.prog.info? 27).map (·.size) = some (kcs x).length by rw [kcs_length hok]; exact key_size)
      have HKS2 := Lib.hid (show (Try.prog.info? 27).map (·.size) = some (kcs x).toArray.size by rw [List.size_toArray]; exact HKS.out)
      have HOLD := Lib.hid (show (kz 0).size = (kcs x).toArray.size from (show (kz 0).size = 33 from rfl).trans (by rw [List.size_toArray, kcs_length hok]))
      have HRA := Lib.hid hra
      have HBZ := Lib.hid (Blk.new wr 27 (kz 0))
      have HONE := Lib.hid (kcs_one (k := x))
      have hbx : Below wr.heap.size wr (wr.alloc (.cells (kcs x).toArray 27)) := (Below.refl wr.heap.size wr).alloc (Nat.le_refl _) (.cells (kcs x).toArray 27)
      have hkb := Blk.new wr 27 (kcs x).toArray
      obtain ⟨w6, hw6⟩ : ∃ w6, wr.alloc (.cells (kcs x).toArray 27) = w6 := ⟨_, rfl⟩
      obtain ⟨kb, hkbe⟩ : ∃ kb, wr.heap.size = kb := ⟨_, rfl⟩
      rw [hw6] at hbx hkb
      have hbel6 := hbel.trans (hbx.mono hbel.size)
      obtain ⟨r, hre⟩ : ∃ r, placeB m G (fB m G us O2) x = r := ⟨_, rfl⟩
      have P1 := fun dd os => Lib.hid (told_base (w := w6) (f := 14) (args := #[.pointer (some ⟨mb, 0, none⟩), .agg (kcs x).toArray]) (v := .int .i64 r) (fun W hW => by rw [← hre]; exact place_any HKO.out x hok (HBU4.out.on (hbel6.trans (hW.mono hbel6.size)))) dd os)
      have P2 := fun dd os => Lib.hid (told_base (w := w6) (f := 15) (args := #[.agg (rmc m G ll db cd As cs Aa ca), .agg (kcs x).toArray]) (v := .int .i64 r) (fun W hW => by rw [← hre]; exact rplace_any HKO.out x hok ll db cd As cs Aa ca B W HLL.out (HRM.out.on (hbel6.trans (hW.mono hbel6.size)))) dd os)
      rw [hkbe] at hkb
      have R1 := Lib.hid (range_base (w := w6) (b := kb) (off := 0) (cs := kcs x) fun W hW => range_of_blk (hkb.below hW hkb.lt))
      have hxb6 := HXB.out.below hbel6 HXB.out.lt
      have R2 := Lib.hid (range_base (w := w6) (b := xb) (off := 0) (cs := (rmc m G ll db cd As cs Aa ca).toList) fun W hW => range_of_blk (hxb6.below hW hxb6.lt))
      have HBEL6 := Lib.hid hbel6
      have HW6 := Lib.hid hw6
      have HKBE := Lib.hid hkbe
      have hi1 : (0 : Int) ≤ (j : Int) := by omega
      have hi2 : (j : Int) < (m : Int) := by omega
      clear hra hok hx hbel hbx hkb hw6 hkbe hjU hre hbel6 hxb6
      go_wp2_with (first
        | refine wpList_load_mid rfl 27 (.tmp 43) rfl g (off + j * 33) rfl (kcs x) (.struct fs) HRA.out HF.out rfl HKS.out ?_
        | (refine wpList_store_row rfl 27 (.tmp 11) (.tmp 44) rfl wr.heap.size (kcs x).toArray rfl rfl 27 (kz 0) HBZ.out HKS2.out HOLD.out HONE.out ?_; rw [setRow_alloc, HW6.out, HKBE.out]))
      refine wp_region_quiet_below (by kernel_rfl) (by kernel_rfl) ?_
      repeat (first
        | (go_big_quiet_want; refine quiet_load_mid 27 (.tmp 11) rfl kb 0 rfl (kcs x) (.struct fs) R1.out HF.out rfl HKS.out (by simp only [Act.put, List.setIfInBounds_toArray, List.set_cons_succ, List.set_cons_zero]; rfl) ?_; go_big_quiet_on)
        | (go_big_quiet_want; refine quiet_load_mid 40 (.tmp 8) rfl xb 0 rfl (rmc m G ll db cd As cs Aa ca).toList (.struct gs) R2.out HG.out rfl HMS.out (by simp only [Act.put, List.setIfInBounds_toArray, List.set_cons_succ, List.set_cons_zero]; rfl) ?_; go_big_quiet_on)
        | go_big_quiet_step (first | (go_at_call 14; with_reducible exact (P1 _ _).out) | (go_at_call 15; exact (P2 _ _).out)))
      refine wpQuiet_nil ?_
      intro _ hw'
      obtain ⟨⟨dq, osq⟩, hw''⟩ := hw'
      subst hw''
      have hbq := below_regrown w6 dq osq
      have HBQ := Lib.hid (HBEL6.out.trans (hbq.mono HBEL6.out.size))
      clear hbq P1 P2 R1 R2
      go_wp2_with fail
      go_roundw
      case rel => exact ⟨j + 1, by omega, by go_num, HBQ.out⟩
      case measure => simp [intOf]; omega
    · obtain rfl : m = j := by omega
      have hkb := HKB.out.below (HB4.out.trans (hbel.mono HB4.out.size)) HKB.out.lt
      have hxb := HXB.out.below hbel HXB.out.lt
      have hbu := HBU4.out.on hbel
      obtain ⟨r, hre⟩ : ∃ r, placeB m G (fB m G us O2) k = r := ⟨_, rfl⟩
      have P1 := fun dd os => Lib.hid (told_base (w := wr) (f := 14) (args := #[.pointer (some ⟨mb, 0, none⟩), .agg (kcs k).toArray]) (v := .int .i64 r) (fun W hW => by rw [← hre]; exact place_any HKO.out k HOK.out (hbu.on hW)) dd os)
      have P2 := fun dd os => Lib.hid (told_base (w := wr) (f := 15) (args := #[.agg (rmc m G ll db cd As cs Aa ca), .agg (kcs k).toArray]) (v := .int .i64 r) (fun W hW => by rw [← hre]; exact rplace_any HKO.out k HOK.out ll db cd As cs Aa ca B W HLL.out (HRM.out.on (hbel.trans (hW.mono hbel.size)))) dd os)
      have P3 := fun dd os => Lib.hid (told_base (w := wr) (f := 16) (args := #[.pointer (some ⟨mb, 0, none⟩)]) (v := .int .i64 m) (fun W hW => (built_len (hbu.on hW)).mono fun e w' ⟨h1, h2⟩ => ⟨h1, h2 ▸ Below.refl _ _⟩) dd os)
      have P4 := fun dd os => Lib.hid (told_base (w := wr) (f := 17) (args := #[.pointer (some ⟨mb, 0, none⟩)]) (v := .int .i64 ll) (fun W hW => (built_spilled HKO.out (hbu.on hW)).mono fun e w' ⟨h1, h2⟩ => ⟨by rw [h1, HLL.out], h2 ▸ Below.refl _ _⟩) dd os)
      have R1 := Lib.hid (range_base (w := wr) (b := qb) (off := 0) (cs := kcs k) fun W hW => range_of_blk (hkb.below hW hkb.lt))
      have R2 := Lib.hid (range_base (w := wr) (b := xb) (off := 0) (cs := (rmc m G ll db cd As cs Aa ca).toList) fun W hW => range_of_blk (hxb.below hW hxb.lt))
      have d0 : ∀ q os, (Go.Sort.grow (redrawn wr q) os).cell? ⟨xb, 0, none⟩ = some (.int .i64 m) := fun q os => cell_regrown (hxb.cell 0) q os
      have d2 : ∀ q os, (Go.Sort.grow (redrawn wr q) os).cell? ⟨xb, 2, none⟩ = some (.slice As ll cs) := fun q os => cell_regrown (hxb.cell 2) q os
      have HKS := Lib.hid (show (Try.prog.info? 27).map (·.size) = some (kcs k).length by rw [kcs_length HOK.out]; exact key_size)
      have HBEL := Lib.hid hbel
      clear hbel hkb hxb hbu hre
      go_wp2_with fail
      refine wp_region_quiet_below (by kernel_rfl) (by kernel_rfl) ?_
      repeat (first
        | (go_big_quiet_want; refine quiet_load_mid 27 (.tmp 3) rfl qb 0 rfl (kcs k) (.struct fs) R1.out HF.out rfl HKS.out (by simp only [Act.put, List.setIfInBounds_toArray, List.set_cons_succ, List.set_cons_zero]; rfl) ?_; go_big_quiet_on)
        | (go_big_quiet_want; refine quiet_load_mid 40 (.tmp 8) rfl xb 0 rfl (rmc m G ll db cd As cs Aa ca).toList (.struct gs) R2.out HG.out rfl HMS.out (by simp only [Act.put, List.setIfInBounds_toArray, List.set_cons_succ, List.set_cons_zero]; rfl) ?_; go_big_quiet_on)
        | go_big_quiet_step (first | (go_at_call 14; with_reducible exact (P1 _ _).out) | (go_at_call 15; exact (P2 _ _).out) | (go_at_call 16; with_reducible exact (P3 _ _).out) | (go_at_call 17; with_reducible exact (P4 _ _).out)))
      refine wpQuiet_nil ?_
      intro _ hw'
      obtain ⟨⟨dq, osq⟩, hw''⟩ := hw'
      subst hw''
      have hbq := below_regrown wr dq osq
      have HBQ := Lib.hid (HB0.out.trans ((HB4.out.trans ((HBEL.out.trans (hbq.mono HBEL.out.size)).mono HB4.out.size)).mono HB0.out.size))
      clear hbq P1 P2 P3 P4 R1 R2 d0 d2
      go_wp2_with fail
      go_ret
      exact ⟨rfl, HBQ.out⟩
theorem walk (A0 : Option Addr) (c0 : Nat) (z0 : List KeyT) (ky1 : KeyT) (w : World) (hr0 : RdK w w.heap.size A0 z0) (hc0 : z0.length ≤ c0) (hm0 : c0 ≤ maxLen) (_ : True) (hy1 : ky1.Ok) :
    Calls Try.prog 4 #[.slice A0 z0.length c0, .agg (kcs ky1).toArray] w fun e w' => e = .returned (.bool true) ∧ Below w.heap.size w w' := by
  by_cases hd : (z0.take (min z0.length 400)).Nodup
  · exact builds_walk A0 z0 _ c0 _ rfl rfl hc0 hm0 hd ky1 hy1 w hr0
  · exact builds_twice A0 z0 _ c0 _ rfl rfl hc0 hm0 hd _ w hr0

set_option maxRecDepth 100000 in
theorem lifted (os : Os) (started : os.Started) (H : Type) (enc : TypeId × Value → H) :
    ReturnsInHanded {} Try.checked os 4 .any (Rows.perfectBuildsSpec.pre6 enc Try.prog Try.f4 Rows.perfectBuildsRow.domain false) (Rows.perfectBuildsSpec.post enc Try.prog Try.f4 false true false false) := by
  refine returnsInHanded_of_change (C := Try.checked) own started (by kernel_rfl) Try.func4
    (ChangeSpec.witness6 (enc := enc) (C := Try.checked) false ⟨#[], #[.slice none 0 0, .agg #[.int .u8 0, .int .u8 0, .int .u8 0, .int .u8 0, .int .u8 0, .int .u8 0, .int .u8 0, .int .u8 0, .int .u8 0, .int .u8 0, .int .u8 0, .int .u8 0, .int .u8 0, .int .u8 0, .int .u8 0, .int .u8 0, .int .u8 0, .int .u8 0, .int .u8 0, .int .u8 0, .int .u8 0, .int .u8 0, .int .u8 0, .int .u8 0, .int .u8 0, .int .u8 0, .int .u8 0, .int .u8 0, .int .u8 0, .int .u8 0, .int .u8 0, .int .u8 0, .int .u32 0]], []⟩ 8 (by kernel_rfl) (by kernel_rfl) (by kernel_rfl) (by kernel_rfl)) ?_
  intro W base args ds gs before hval0 hW hcnd _
  have hval : ∀ (j : Nat) t v, Try.f4.params[j]? = some t → args[j]? = some v → Value.okWide Try.prog W .any base t v := hval0
  have hW' := hW
  obtain ⟨p, q, hA0, hV, rfl, hfz, hnd⟩ := hW
  have hA : DataW.TrodAll enc Try.prog W 0 (fun _ => true) true Try.f4.params.toList args.toList ds p := hA0
  rw [Try.params4] at hA hval
  obtain ⟨v0, vs0, d0, ds0, p0, q0, hargs, rfl, rfl, h0, r0⟩ := trodAll_cons hA
  obtain ⟨v1, vs1, d1, ds1, p1, q1, rfl, rfl, rfl, h1, r1⟩ := trodAll_cons r0
  obtain ⟨rfl, rfl, rfl⟩ := trodAll_nil r1
  obtain rfl : args = #[v0, v1] := by cases args; simp_all
  obtain ⟨rfl, rfl⟩ := trodVars_none hV
  obtain ⟨A0, n0, c0, rfl⟩ := okWide_slice Try.underlying31 (hval 0 31 v0 rfl rfl)
  have k0 := h0
  have lt0 : ∀ x ∈ p0, x.block < W.heap.size := by obtain ⟨m, hm⟩ := k0; exact DataW.trod_lt m _ _ _ hm
  obtain ⟨fuel0, hf0⟩ := h0
  obtain ⟨z0, rfl, hr0, hc0, hm0, hw0⟩ := open_keys_arg hf0
  have k1 := h1
  have lt1 : ∀ x ∈ p1, x.block < W.heap.size := by obtain ⟨m, hm⟩ := k1; exact DataW.trod_lt m _ _ _ hm
  obtain ⟨ky1, rfl, hy1⟩ := open_key2 (hval 1 27 v1 rfl rfl) h1
  clear hA0 hval0
  simp only [List.append_nil] at hW'
  refine (walk A0 c0 z0 ky1 W hr0 hc0 hm0 hw0 hy1).mono fun e W' ⟨he, bel⟩ => ?_
  subst he
  exact ⟨_, rfl, _, _, _, [], _, [], hW', trodAll_mk1 (shut_bool Try.underlying4 _), (trodAll_cons_mk (Below.trod laidOut (by kernel_rfl) (of_decide_eq_true (by kernel_rfl)) k0 bel lt0) (trodAll_cons_mk (Below.trod laidOut (by kernel_rfl) (of_decide_eq_true (by kernel_rfl)) k1 bel lt1) trodAll_mk0)), rfl, bel.frame _, fun h => by cases h⟩

theorem over : Rows.perfectBuildsRow.holds Try.pinned (OpenSpec.ofChange Rows.perfectBuildsSpec) :=
  OpenClaim.holds_of_wide 4 Try.f4 rfl rfl rfl rfl rfl rfl rfl ⟨rfl, rfl, rfl, rfl, rfl⟩ rfl rfl rfl rfl rfl (by kernel_rfl) Try.func4 (by kernel_rfl)
    (of_decide_eq_true (by kernel_rfl)) (by unfold Func.isWrapper; first | (rw [if_pos (by decide +kernel)]; kernel_rfl) | (rw [if_neg (by decide +kernel)]; exact ⟨rfl, rfl⟩))
    (fun os started H enc _ => lifted os started H enc)

theorem proved : Rows.PerfectBuildsSaid := over
#print axioms proved
end Go.Proofs.Ytacijjioaanlgaa.perfectBuilds
