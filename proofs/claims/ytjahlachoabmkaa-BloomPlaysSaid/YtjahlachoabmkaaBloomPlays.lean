/-
  Whatever is added to a filter, combined with it, or cleared, its bytes and what may be there are the document's, and too many bits or probes are refused: for all numbers, all acts (as many as the law takes), all keys. No conditions.
-/
import Derived.Test.YtjahlachoabmkaaRows
import Derived.Test.YtjahlachoabmkaaOpen
import Derived.Test.YtjahlachoabmkaaBloomPl
import Derived.WalkKit
import Derived.ProofKit
import Derived.OpenShut
import Derived.ShutString
import Derived.ChangeOld
import Derived.Below
namespace Go.Proofs.Ytjahlachoabmkaa.bloomPlays
open Go.ChangeShapes Go.WideShapes Go.ChangeAt Go.RowKit
open Go.ChangeMaps (open_string shut_string)
set_option linter.unusedVariables false

theorem own : ownKnob Try.prog.godebug = none := by kernel_rfl
theorem laidOut : laidOutB Try.prog = true := by kernel_rfl

set_option maxRecDepth 100000 in
set_option maxHeartbeats 1000000 in
theorem plays_bad (bits probes : Int) (h : bits < 0 ∨ 1048576 < bits ∨ probes < 0 ∨ 30 < probes) (A2 : Option Addr) (n2 c2 : Nat) (kc : Array Value) (w : World) :
    Calls Try.prog 3 #[.int .i64 bits, .int .i64 probes, .slice A2 n2 c2, .agg kc] w fun e w' => e = .returned (.bool true) ∧ Below w.heap.size w w' := by
  have hb1 := (Below.refl w.heap.size w).alloc (Nat.le_refl _) (.cells kc 27)
  have HB1 := Lib.hid hb1
  have K1 := Lib.hid (fun W => new_bad bits probes h W)
  have K2 := Lib.hid (fun W => refnew_bad bits probes h W)
  clear hb1 h
  go_enter Try.func3, Try.ntmps3
  go_wp2_with fail
  refine (shown_any _).mono ?_
  rintro e w1 ⟨rfl, hb1⟩
  have H := Lib.hid (HB1.out.trans (hb1.mono HB1.out.size))
  clear hb1
  go_wp2_with fail
  (with_reducible refine (K1.out _).mono ?_)
  rintro e w' ⟨rfl, rfl⟩
  go_wp2_with fail
  (with_reducible refine (K2.out _).mono ?_)
  rintro e w' ⟨rfl, rfl⟩
  go_wp2_with fail
  go_ret
  exact ⟨rfl, H.out⟩
set_option maxRecDepth 100000 in
set_option maxHeartbeats 4000000 in
theorem plays_walk (n p : Nat) (hn : n ≤ 1048576) (hp : p ≤ 30) (A2 : Option Addr) (n2 c2 : Nat) (ls : List ActT) (hl2 : ls.length = n2) (hc2 : n2 ≤ c2) (hm2 : c2 ≤ maxLen) (kk : KeyT) (hkk : kk.Ok) (w : World) (hr2 : RdA w w.heap.size A2 ls) :
    Calls Try.prog 3 #[.int .i64 n, .int .i64 p, .slice A2 n2 c2, .agg (kcs kk).toArray] w fun e w' => e = .returned (.bool true) ∧ Below w.heap.size w w' := by
  obtain ⟨fs, hfs⟩ := key_desc
  obtain ⟨fa, hfa⟩ := act_desc
  obtain ⟨ib, hib, hzb0, hzb1, hzb2⟩ := info_parts info_bool
  have hb1 := (Below.refl w.heap.size w).alloc (Nat.le_refl _) (.cells (kcs kk).toArray 27)
  have hbk := Blk.new w 27 (kcs kk).toArray
  obtain ⟨bk, hbkE⟩ : ∃ bk, bk = w.heap.size := ⟨_, rfl⟩
  rw [← hbkE] at hbk
  have HF := Lib.hid hfs
  have HFA := Lib.hid hfa
  have K1 := Lib.hid (fun W => new_ok n p hn hp W)
  have K2 := Lib.hid (fun W => refnew_ok n p hn hp W)
  have HL2 := Lib.hid hl2
  have HR2 := Lib.hid ((hr2.below hb1).more hb1.size)
  have HC2 := Lib.hid (And.intro hc2 hm2)
  have HKK := Lib.hid hkk
  have HKK33 := Lib.hid (show (Try.prog.info? 27).map (·.size) = some (kcs kk).length by rw [kcs_length hkk]; exact key_size)
  have HBW1 := Lib.hid hb1
  have HBK := Lib.hid hbk
  have HBE := Lib.hid hbkE
  clear hfs hfa hl2 hr2 hc2 hm2 hkk hb1 hbk hbkE
  go_enter Try.func3, Try.ntmps3
  go_wp2_with fail
  rw [← HBE.out]
  generalize w.alloc (.cells (kcs kk).toArray 27) = w1 at *
  refine (shown_any _).mono ?_
  rintro e wa ⟨rfl, hba⟩
  go_wp2_with fail
  (with_reducible refine (K1.out _).mono ?_)
  rintro e wb ⟨v, g, rfl, hv2, hg2, h2, hbb⟩
  have HXB := Lib.hid (hba.trans (hbb.mono hba.size))
  have HG2 := Lib.hid (Nat.le_trans hba.size hg2)
  have H2 := Lib.hid h2
  clear hba hbb h2 hv2 hg2
  go_wp2_with fail
  (with_reducible refine (K2.out _).mono ?_)
  rintro e wc ⟨r, gr, rfl, hrr, hgr, hR, hbc⟩
  have HXC := Lib.hid (HXB.out.trans (hbc.mono HXB.out.size))
  have HRR := Lib.hid (Nat.le_trans HXB.out.size hrr)
  have HGR0 := Lib.hid (Nat.le_trans HXB.out.size hgr)
  have HV2 := Lib.hid (H2.out.on hbc)
  have HR20 := Lib.hid hR
  clear hbc hR hrr hgr H2 HXB
  go_wp2_with fail
  (with_reducible refine (few_any A2 n2 c2 ls HL2.out HC2.out.1 HC2.out.2 wc ((HR2.out.below HXC.out).more HXC.out.size)).mono ?_)
  rintro e w' ⟨k2, hk2, rfl, rfl⟩
  obtain ⟨ys, hys⟩ : ∃ ys, ls.take k2 = ys := ⟨_, rfl⟩
  have HRA2 := Lib.hid (show RdA w1 w1.heap.size A2 ys from hys ▸ HR2.out.take k2)
  have HAL := Lib.hid (show ys.length = k2 by rw [← hys, List.length_take, HL2.out]; omega)
  have hk2c : (k2 : Int) ≤ (c2 : Int) := by have := HC2.out.1; omega
  have hk63 : k2 ≤ 9223372036854775807 := by have h1 := HC2.out.1; have h2 := HC2.out.2; unfold maxLen at h2; omega
  clear hk2 hys
  go_wp2_with fail
  go_loopw [51] (fun i wz => ∃ j : Nat, j ≤ k2 ∧ i = .int .i64 j ∧ ∃ S gr, Vec wz v g n p S ∧ Ref wz r gr n p S ∧ w1.heap.size ≤ gr ∧ Below w1.heap.size w1 wz) (fun i _ => k2 - (intOf i).toNat)
  case atStart => exact ⟨0, Nat.zero_le _, rfl, _, _, HV2.out, HR20.out, HGR0.out, HXC.out⟩
  case round =>
    clear HV2 HR20 HGR0 HXC gr
    obtain ⟨j, hj, rfl, S, gr, hv, href, hgr, hbel⟩ := hrel
    by_cases hlt : j < k2
    · have hjx : j < ys.length := by rw [HAL.out]; exact hlt
      obtain ⟨g3, off, rfl, hgl, hra, hok⟩ := (HRA2.out.below hbel).at_ hjx
      generalize ys[j] = a at *
      have hks : (Try.prog.info? 39).map (·.size) = some (acs a).length := by rw [acs_length hok.key]; exact act_size
      have hks2 : (Try.prog.info? 39).map (·.size) = some (acs a).toArray.size := by rw [List.size_toArray]; exact hks
      have hold : az.size = (acs a).toArray.size := (show az.size = 35 from rfl).trans (by rw [List.size_toArray, acs_length hok.key])
      have hb0 := Blk.new wr 39 az
      have hb1 := Blk.new wr 39 (acs a).toArray
      have hbx := (Below.refl wr.heap.size wr).alloc (Nat.le_refl _) (.cells (acs a).toArray 39)
      have kd := does_ok v g n p w1.heap.size S a _ (hv.on hbx) (hok.below (hbx.mono hbel.size)) HG2.out (Nat.le_trans hbel.size hbx.size)
      have HOKX := Lib.hid (hok.below (hbx.mono hbel.size))
      have hkd := hok.kind
      have hmx := hok.max
      have HAK := Lib.hid hok.key
      have HAK33 := Lib.hid (show (Try.prog.info? 27).map (·.size) = some (kcs a.key).length by rw [kcs_length hok.key]; exact key_size)
      have HRA := Lib.hid hra
      have HKS := Lib.hid hks
      have HKS2 := Lib.hid hks2
      have HOLD := Lib.hid hold
      have HB0 := Lib.hid hb0
      have HB1 := Lib.hid hb1
      have HBXX := Lib.hid (hbel.trans (hbx.mono hbel.size))
      have HRX0 := Lib.hid (href.on hbx)
      have HVW := Lib.hid (hv.on hbx)
      have KD := Lib.hid kd
      have HONE := Lib.hid (acs_one (a := a))
      have HGR := Lib.hid hgr
      have hi1 : (0 : Int) ≤ (j : Int) := by omega
      have hi2 : (j : Int) < (k2 : Int) := by omega
      clear hra hks hks2 hold hb0 hbx kd hv hbel hok href hgr hb1
      go_wp2_with (first
  | refine wpList_load_mid rfl 39 (.tmp 53) rfl g3 (off + j * 35) rfl (acs a) (.struct fa) HRA.out HFA.out rfl HKS.out ?_
  | (refine wpList_store_row rfl 39 (.tmp 15) (.tmp 54) rfl wr.heap.size (acs a).toArray rfl rfl 39 az HB0.out HKS2.out HOLD.out HONE.out ?_; rw [setRow_alloc])
  | refine wpList_load_row rfl 39 (.tmp 15) rfl wr.heap.size rfl 39 (acs a).toArray (0, 0) (.struct fa) HB1.out HFA.out rfl HKS2.out ?_)
      (with_reducible refine KD.out.mono ?_)
      rintro e w3 ⟨⟨x3, rfl⟩, h3, hg3⟩
      have hr3 := HRX0.out.grown hg3 (HRX0.out.rb.other HVW.out.gb (by decide)) (HRX0.out.gb.other HVW.out.gb (by decide))
      have hx3 := HBXX.out.grown hg3 HBXX.out.size (fun k e => by injection e with e; have := HG2.out; omega)
      have ha3 := HB1.out.same (hg3.block wr.heap.size HB1.out.lt (fun e => HB1.out.other HVW.out.gb (by decide) (by injection e)))
      obtain ⟨ab, hab⟩ : ∃ ab, ab = wr.heap.size := ⟨_, rfl⟩
      rw [← hab] at ha3 ⊢
      have HR3 := Lib.hid hr3
      have HV3 := Lib.hid h3
      have HA3 := Lib.hid ha3
      have HX3 := Lib.hid hx3
      have hck := ha3.cell 0
      rw [List.getElem?_toArray, acs_kind] at hck
      have hcb := ha3.cell 34
      rw [List.getElem?_toArray, acs_bytes HAK.out] at hcb
      have hrd := HOKX.out.rd
      have hble := HOKX.out.le
      have KREFOR := Lib.hid (refor_ok r gr n p S w3 hr3 a.adr a.b a.b.length a.cap rfl (by unfold maxLen at hmx; omega) (fun W hW => ((hrd.grown hg3 HG2.out HBXX.out.size).grown hW HGR.out (Nat.le_trans HBXX.out.size hg3.size)).more (Nat.le_trans (Nat.le_trans HBXX.out.size hg3.size) hW.size)))
      have HRKK := Lib.hid (show w3.rangeAt ab 1 (kcs a.key) from fun j u hu => by rw [ha3.cell, List.getElem?_toArray]; exact acs_key hu)
      have hact := show actS n p S a = if a.kind % 3 = 0 then putL S (spotsN n p (keyA a.key.1 a.key.2) (keyB a.key.1)) else if a.kind % 3 = 1 then orS S a.b else fun _ => false from rfl
      obtain ⟨q, hq⟩ : ∃ q, a.kind = q := ⟨_, rfl⟩
      obtain ⟨rr, hrr⟩ : ∃ rr, q % 3 = rr := ⟨_, rfl⟩
      have hri : (q : Int) % 3 = (rr : Int) := by omega
      rw [hq] at hck hkd hact
      rw [hrr] at hact
      have HACT := Lib.hid (show (rr = 0 → actS n p S a = putL S (spk n p a.key)) ∧ (rr = 1 → actS n p S a = orS S a.b) ∧ (rr = 2 → actS n p S a = fun _ => false) from
        ⟨fun e => by rw [hact, if_pos e]; rfl, fun e => by rw [hact, if_neg (by omega), if_pos e], fun e => by rw [hact, if_neg (by omega), if_neg (by omega)]⟩)
      have hr3 : rr < 3 := by omega
      have hcase : rr = 0 ∨ rr = 1 ∨ rr = 2 := by omega
      have HBOTH := Lib.hid (show BothP w1 w3 v g r gr n p ab a (actS n p S a) S from ⟨h3, HR3.out, HA3.out, HX3.out, HG2.out, HRR.out, HGR.out⟩)
      clear hact hr3 hrr hq hrd hble h3 hg3 hx3 ha3 KD HRX0 HOKX HB1 HB0 HRA HKS HKS2 HOLD HONE HBXX hab HA3 HX3 HV3 HVW hi1 hi2
      rcases hcase with rfl | rfl | rfl
      · have hri : (q : Int) % 3 = 0 := hri
        go_wp2_with (first
          | refine wpList_load_mid rfl 27 (.tmp 73) rfl ab 1 rfl (kcs a.key) (.struct fs) HRKK.out HF.out rfl HAK33.out ?_
          | fail)
        (with_reducible refine (refadd_ok r gr n p S a.key HAK.out _ HR3.out).mono ?_)
        rintro e wx ⟨⟨y4, rfl⟩, hrx, hgx⟩
        have hbo := HBOTH.out.grownG hgx
        obtain ⟨S2, hS2⟩ : ∃ S2, actS n p S a = S2 := ⟨_, rfl⟩
        have hse := HACT.out.1 (by simp)
        have hrx := show Ref wx r gr n p S2 from by rw [← hS2, hse]; exact hrx
        have HVX := Lib.hid (show Vec wx v g n p S2 from hS2 ▸ hbo.1)
        have HAX := Lib.hid hbo.2.1
        have HBX := Lib.hid hbo.2.2
        have HRX := Lib.hid hrx
        have HGRX := Lib.hid HGR.out
        clear hbo hrx hgx hse hS2
        go_wp2_with fail
        have hbkx := HBK.out.below HBX.out HBK.out.lt
        have CM1 := Lib.hid (show ∀ W, Below wx.heap.size wx W → _ from fun W hW => told_may HVX.out HKK.out hW)
        have CR1 := Lib.hid (show ∀ W, Below wx.heap.size wx W → _ from fun W hW => told_refmay HRX.out HKK.out hW)
        have CM2 := Lib.hid (show ∀ W, Below wx.heap.size wx W → _ from fun W hW => told_may HVX.out HAK.out hW)
        have CR2 := Lib.hid (show ∀ W, Below wx.heap.size wx W → _ from fun W hW => told_refmay HRX.out HAK.out hW)
        obtain ⟨b1, hb1⟩ : ∃ b1, (spk n p kk).all S2 = b1 := ⟨_, rfl⟩
        obtain ⟨b2, hb2⟩ : ∃ b2, (spk n p a.key).all S2 = b2 := ⟨_, rfl⟩
        rw [hb1] at CM1 CR1
        rw [hb2] at CM2 CR2
        have HS := Lib.hid (show ∀ W, Below wx.heap.size wx W → W.rangeAt bk 0 (kcs kk) ∧ W.rangeAt ab 1 (kcs a.key) from fun W hW =>
          ⟨fun j u hu => by rw [Nat.zero_add, (hbkx.below hW hbkx.lt).cell, List.getElem?_toArray]; exact hu,
           fun j u hu => by rw [(HAX.out.below hW HAX.out.lt).cell, List.getElem?_toArray]; exact acs_key hu⟩)
        have R1 := Lib.hid (range_base fun W hW => (HS.out W hW).1)
        have R2 := Lib.hid (range_base fun W hW => (HS.out W hW).2)
        have KM1 := fun d os => Lib.hid (told_base CM1.out d os)
        have KR1 := fun d os => Lib.hid (told_base CR1.out d os)
        have KM2 := fun d os => Lib.hid (told_base CM2.out d os)
        have KR2 := fun d os => Lib.hid (told_base CR2.out d os)
        have hbb : (b1 != b1) = false := by cases b1 <;> rfl
        have hbb2 : (b2 != b2) = false := by cases b2 <;> rfl
        clear hb1 hb2 hbkx CM1 CR1 CM2 CR2
        refine wp_region_quiet_below (by kernel_rfl) (by kernel_rfl) ?_
        repeat (first
          | (go_big_quiet_want; refine quiet_load_mid 27 (.tmp 7) rfl bk 0 rfl (kcs kk) (.struct fs) R1.out HF.out rfl HKK33.out (by simp only [Act.put, List.setIfInBounds_toArray, List.set_cons_succ, List.set_cons_zero]; rfl) ?_; go_big_quiet_on)
          | (go_big_quiet_want; refine quiet_load_mid 27 (.tmp 91) rfl ab 1 rfl (kcs a.key) (.struct fs) R2.out HF.out rfl HAK33.out (by simp only [Act.put, List.setIfInBounds_toArray, List.set_cons_succ, List.set_cons_zero]; rfl) ?_; go_big_quiet_on)
          | (go_big_quiet_want; refine quiet_load_mid 27 (.tmp 95) rfl ab 1 rfl (kcs a.key) (.struct fs) R2.out HF.out rfl HAK33.out (by simp only [Act.put, List.setIfInBounds_toArray, List.set_cons_succ, List.set_cons_zero]; rfl) ?_; go_big_quiet_on)
          | go_big_quiet_step (first | (go_at_call 15; with_reducible exact (KM1 _ _).out) | (go_at_call 15; with_reducible exact (KM2 _ _).out) | (go_at_call 16; with_reducible exact (KR1 _ _).out) | (go_at_call 16; with_reducible exact (KR2 _ _).out)))
        refine wpQuiet_nil ?_
        intro _ hw'
        obtain ⟨⟨dq, osq⟩, hw''⟩ := hw'
        subst hw''
        have hbq := regrown_bel wx dq osq
        go_wp2_with fail
        go_roundw
        case rel =>
          exact ⟨j + 1, by omega, by go_num, S2, _, HVX.out.on hbq, HRX.out.on hbq, HGRX.out, HBX.out.trans (hbq.mono HBX.out.size)⟩
        case measure => simp [intOf]; omega
      · have hri : (q : Int) % 3 = 1 := hri
        go_wp2_with fail
        (with_reducible refine KREFOR.out.mono ?_)
        rintro e wx ⟨⟨y4, rfl⟩, ⟨T, hrx, hT⟩, hgx⟩
        have hbo := HBOTH.out.grownG hgx
        obtain ⟨S2, hS2⟩ : ∃ S2, actS n p S a = S2 := ⟨_, rfl⟩
        have hse := HACT.out.2.1 (by simp)
        have hrx := show Ref wx r gr n p S2 from by rw [← hS2, hse]; exact hrx.congr hT
        have HVX := Lib.hid (show Vec wx v g n p S2 from hS2 ▸ hbo.1)
        have HAX := Lib.hid hbo.2.1
        have HBX := Lib.hid hbo.2.2
        have HRX := Lib.hid hrx
        have HGRX := Lib.hid HGR.out
        clear hbo hrx hgx hse hS2 hT
        go_wp2_with fail
        have hbkx := HBK.out.below HBX.out HBK.out.lt
        have CM1 := Lib.hid (show ∀ W, Below wx.heap.size wx W → _ from fun W hW => told_may HVX.out HKK.out hW)
        have CR1 := Lib.hid (show ∀ W, Below wx.heap.size wx W → _ from fun W hW => told_refmay HRX.out HKK.out hW)
        have CM2 := Lib.hid (show ∀ W, Below wx.heap.size wx W → _ from fun W hW => told_may HVX.out HAK.out hW)
        have CR2 := Lib.hid (show ∀ W, Below wx.heap.size wx W → _ from fun W hW => told_refmay HRX.out HAK.out hW)
        obtain ⟨b1, hb1⟩ : ∃ b1, (spk n p kk).all S2 = b1 := ⟨_, rfl⟩
        obtain ⟨b2, hb2⟩ : ∃ b2, (spk n p a.key).all S2 = b2 := ⟨_, rfl⟩
        rw [hb1] at CM1 CR1
        rw [hb2] at CM2 CR2
        have HS := Lib.hid (show ∀ W, Below wx.heap.size wx W → W.rangeAt bk 0 (kcs kk) ∧ W.rangeAt ab 1 (kcs a.key) from fun W hW =>
          ⟨fun j u hu => by rw [Nat.zero_add, (hbkx.below hW hbkx.lt).cell, List.getElem?_toArray]; exact hu,
           fun j u hu => by rw [(HAX.out.below hW HAX.out.lt).cell, List.getElem?_toArray]; exact acs_key hu⟩)
        have R1 := Lib.hid (range_base fun W hW => (HS.out W hW).1)
        have R2 := Lib.hid (range_base fun W hW => (HS.out W hW).2)
        have KM1 := fun d os => Lib.hid (told_base CM1.out d os)
        have KR1 := fun d os => Lib.hid (told_base CR1.out d os)
        have KM2 := fun d os => Lib.hid (told_base CM2.out d os)
        have KR2 := fun d os => Lib.hid (told_base CR2.out d os)
        have hbb : (b1 != b1) = false := by cases b1 <;> rfl
        have hbb2 : (b2 != b2) = false := by cases b2 <;> rfl
        clear hb1 hb2 hbkx CM1 CR1 CM2 CR2
        refine wp_region_quiet_below (by kernel_rfl) (by kernel_rfl) ?_
        repeat (first
          | (go_big_quiet_want; refine quiet_load_mid 27 (.tmp 7) rfl bk 0 rfl (kcs kk) (.struct fs) R1.out HF.out rfl HKK33.out (by simp only [Act.put, List.setIfInBounds_toArray, List.set_cons_succ, List.set_cons_zero]; rfl) ?_; go_big_quiet_on)
          | (go_big_quiet_want; refine quiet_load_mid 27 (.tmp 91) rfl ab 1 rfl (kcs a.key) (.struct fs) R2.out HF.out rfl HAK33.out (by simp only [Act.put, List.setIfInBounds_toArray, List.set_cons_succ, List.set_cons_zero]; rfl) ?_; go_big_quiet_on)
          | (go_big_quiet_want; refine quiet_load_mid 27 (.tmp 95) rfl ab 1 rfl (kcs a.key) (.struct fs) R2.out HF.out rfl HAK33.out (by simp only [Act.put, List.setIfInBounds_toArray, List.set_cons_succ, List.set_cons_zero]; rfl) ?_; go_big_quiet_on)
          | go_big_quiet_step (first | (go_at_call 15; with_reducible exact (KM1 _ _).out) | (go_at_call 15; with_reducible exact (KM2 _ _).out) | (go_at_call 16; with_reducible exact (KR1 _ _).out) | (go_at_call 16; with_reducible exact (KR2 _ _).out)))
        refine wpQuiet_nil ?_
        intro _ hw'
        obtain ⟨⟨dq, osq⟩, hw''⟩ := hw'
        subst hw''
        have hbq := regrown_bel wx dq osq
        go_wp2_with fail
        go_roundw
        case rel =>
          exact ⟨j + 1, by omega, by go_num, S2, _, HVX.out.on hbq, HRX.out.on hbq, HGRX.out, HBX.out.trans (hbq.mono HBX.out.size)⟩
        case measure => simp [intOf]; omega
      · have hri : (q : Int) % 3 = 2 := hri
        obtain ⟨hcr0, _⟩ := HR3.out.cells
        have hfr0 := HR3.out.rb.frozen 0
        have hmk := run_make (P := Try.prog) w3 43 4 ib (.bool false) Try.underlying43 hib hzb0 .i64 .i64 (n : Int) (n : Int) (by omega) (by omega) (by rw [hzb2]; omega) (by omega)
        have hal := (Below.refl w3.heap.size w3).alloc (Nat.le_refl _) (.cells (madeCells #[Value.bool false] n) 4)
        have hrm := Blk.new w3 4 (madeCells #[Value.bool false] n)
        have hrba0 := HR3.out.rb.below hal HR3.out.rb.lt
        have hcr1 := hrba0.cell 0
        have hfr1 := hrba0.frozen 0
        rw [made_bool] at hrm hal
        have hrba := HR3.out.rb.below hal HR3.out.rb.lt
        have hset := hrba.set_ 0 (.slice (some ⟨w3.heap.size, 0, none⟩) n n)
        have hgs := grownBy_cell (w3.alloc (.cells (bcs n fun _ => false).toArray 4)) r 0 (.slice (some ⟨w3.heap.size, 0, none⟩) n n)
        have hgw3 := gby_trans (below_grown hal r) hgs
        have hse := HACT.out.2.2 (by simp)
        obtain ⟨S2, hS2⟩ : ∃ S2, actS n p S a = S2 := ⟨_, rfl⟩
        have hnb := HBOTH.out
        have hrlt := hnb.ref.rb.lt
        have HVX' := Lib.hid (show Vec ((w3.alloc (.cells (bcs n fun _ => false).toArray 4)).setCell ⟨r, 0, none⟩ (.slice (some ⟨w3.heap.size, 0, none⟩) n n)) v g n p S2 from
          hS2 ▸ hnb.vec.grown hgw3 (hnb.vec.vb.other hnb.ref.rb (by decide)) (hnb.vec.gb.other hnb.ref.rb (by decide)))
        have HAX' := Lib.hid (show Blk ((w3.alloc (.cells (bcs n fun _ => false).toArray 4)).setCell ⟨r, 0, none⟩ (.slice (some ⟨w3.heap.size, 0, none⟩) n n)) ab 39 (acs a).toArray from
          hnb.act.same (hgw3.block ab hnb.act.lt (fun e => hnb.act.other hnb.ref.rb (by decide) (by injection e))))
        have HBX' := Lib.hid (hnb.bel.grown hgw3 hnb.bel.size (fun k e => by injection e with e; have := hnb.hr; omega))
        have HRX' := Lib.hid (show Ref ((w3.alloc (.cells (bcs n fun _ => false).toArray 4)).setCell ⟨r, 0, none⟩ (.slice (some ⟨w3.heap.size, 0, none⟩) n n)) r w3.heap.size n p S2 from
          ⟨hset, by rw [← hS2, hse]; exact hrm.same (hgs.block w3.heap.size (by rw [World.size_alloc]; omega) (fun e => by injection e with e; omega)), hnb.ref.hn, hnb.ref.hp⟩)
        have HGRX := Lib.hid (show w1.heap.size ≤ w3.heap.size from hnb.bel.size)
        clear hset hgs hgw3 hse hS2 hnb hrm hal hrba hrlt hrba0
        go_wp2_with fail
        rw [made_bool]
        generalize ((w3.alloc (.cells (bcs n fun _ => false).toArray 4)).setCell ⟨r, 0, none⟩ (.slice (some ⟨w3.heap.size, 0, none⟩) n n)) = wx at *
        have HVX := Lib.hid HVX'.out
        have HAX := Lib.hid HAX'.out
        have HBX := Lib.hid HBX'.out
        have HRX := Lib.hid HRX'.out
        have hbkx := HBK.out.below HBX.out HBK.out.lt
        have CM1 := Lib.hid (show ∀ W, Below wx.heap.size wx W → _ from fun W hW => told_may HVX.out HKK.out hW)
        have CR1 := Lib.hid (show ∀ W, Below wx.heap.size wx W → _ from fun W hW => told_refmay HRX.out HKK.out hW)
        have CM2 := Lib.hid (show ∀ W, Below wx.heap.size wx W → _ from fun W hW => told_may HVX.out HAK.out hW)
        have CR2 := Lib.hid (show ∀ W, Below wx.heap.size wx W → _ from fun W hW => told_refmay HRX.out HAK.out hW)
        obtain ⟨b1, hb1⟩ : ∃ b1, (spk n p kk).all S2 = b1 := ⟨_, rfl⟩
        obtain ⟨b2, hb2⟩ : ∃ b2, (spk n p a.key).all S2 = b2 := ⟨_, rfl⟩
        rw [hb1] at CM1 CR1
        rw [hb2] at CM2 CR2
        have HS := Lib.hid (show ∀ W, Below wx.heap.size wx W → W.rangeAt bk 0 (kcs kk) ∧ W.rangeAt ab 1 (kcs a.key) from fun W hW =>
          ⟨fun j u hu => by rw [Nat.zero_add, (hbkx.below hW hbkx.lt).cell, List.getElem?_toArray]; exact hu,
           fun j u hu => by rw [(HAX.out.below hW HAX.out.lt).cell, List.getElem?_toArray]; exact acs_key hu⟩)
        have R1 := Lib.hid (range_base fun W hW => (HS.out W hW).1)
        have R2 := Lib.hid (range_base fun W hW => (HS.out W hW).2)
        have KM1 := fun d os => Lib.hid (told_base CM1.out d os)
        have KR1 := fun d os => Lib.hid (told_base CR1.out d os)
        have KM2 := fun d os => Lib.hid (told_base CM2.out d os)
        have KR2 := fun d os => Lib.hid (told_base CR2.out d os)
        have hbb : (b1 != b1) = false := by cases b1 <;> rfl
        have hbb2 : (b2 != b2) = false := by cases b2 <;> rfl
        clear hb1 hb2 hbkx CM1 CR1 CM2 CR2
        refine wp_region_quiet_below (by kernel_rfl) (by kernel_rfl) ?_
        repeat (first
          | (go_big_quiet_want; refine quiet_load_mid 27 (.tmp 7) rfl bk 0 rfl (kcs kk) (.struct fs) R1.out HF.out rfl HKK33.out (by simp only [Act.put, List.setIfInBounds_toArray, List.set_cons_succ, List.set_cons_zero]; rfl) ?_; go_big_quiet_on)
          | (go_big_quiet_want; refine quiet_load_mid 27 (.tmp 91) rfl ab 1 rfl (kcs a.key) (.struct fs) R2.out HF.out rfl HAK33.out (by simp only [Act.put, List.setIfInBounds_toArray, List.set_cons_succ, List.set_cons_zero]; rfl) ?_; go_big_quiet_on)
          | (go_big_quiet_want; refine quiet_load_mid 27 (.tmp 95) rfl ab 1 rfl (kcs a.key) (.struct fs) R2.out HF.out rfl HAK33.out (by simp only [Act.put, List.setIfInBounds_toArray, List.set_cons_succ, List.set_cons_zero]; rfl) ?_; go_big_quiet_on)
          | go_big_quiet_step (first | (go_at_call 15; with_reducible exact (KM1 _ _).out) | (go_at_call 15; with_reducible exact (KM2 _ _).out) | (go_at_call 16; with_reducible exact (KR1 _ _).out) | (go_at_call 16; with_reducible exact (KR2 _ _).out)))
        refine wpQuiet_nil ?_
        intro _ hw'
        obtain ⟨⟨dq, osq⟩, hw''⟩ := hw'
        subst hw''
        have hbq := regrown_bel wx dq osq
        go_wp2_with fail
        go_roundw
        case rel =>
          exact ⟨j + 1, by omega, by go_num, S2, _, HVX.out.on hbq, HRX.out.on hbq, HGRX.out, HBX.out.trans (hbq.mono HBX.out.size)⟩
        case measure => simp [intOf]; omega
    · obtain rfl : k2 = j := by omega
      obtain ⟨m8, hm8⟩ : ∃ m8, (n + 7) / 8 = m8 := ⟨_, rfl⟩
      have CB := Lib.hid (show ∀ W, Below wr.heap.size wr W → _ from fun W hW => told_bytes hv hW hm8)
      have CQ := Lib.hid (show ∀ W, Below wr.heap.size wr W → _ from fun W hW => told_refbytes href hW hm8)
      have HBEL := Lib.hid hbel
      have hbw : Below wr.heap.size wr wr.drew := ⟨rfl, rfl, rfl, Nat.le_refl _, fun _ _ => rfl⟩
      clear hv href hgr hbel hm8
      go_wp2_with fail
      first | (go_region_held (fun _ => True) (exact trivial) (first
        | (go_at_call 17; (with_reducible refine (CB.out _ (by assumption)).mono ?_); rintro e w5 ⟨A5, c5, rfl, hs5, hx5, hb5⟩; have q5 := hs5 _ (Below.refl _ _); (try have p65 := hs6 _ hb5))
        | (go_at_call 18; (with_reducible refine (CQ.out _ (by assumption)).mono ?_); rintro e w6 ⟨A6, rfl, hs6, hx6, hb6⟩; have q6 := hs6 _ (Below.refl _ _); (try have p56 := hs5 _ hb6)))) | fail
      all_goals (go_wp2_with fail; go_ret; exact ⟨rfl, HBW1.out.trans ((HBEL.out.trans (Below.mono (by assumption) HBEL.out.size)).mono HBW1.out.size)⟩)
theorem walk (a0 a1 : Int) (A2 : Option Addr) (c2 : Nat) (z2 : List ActT) (kk3 : KeyT) (w : World) (_ : (Lit.int .i64 a0).wf = true) (_ : (Lit.int .i64 a1).wf = true)
    (hr2 : RdA w w.heap.size A2 z2) (hc2 : z2.length ≤ c2) (hm2 : c2 ≤ maxLen) (_ : True) (hkk3 : kk3.Ok) :
    Calls Try.prog 3 #[.int .i64 a0, .int .i64 a1, .slice A2 z2.length c2, .agg (kcs kk3).toArray] w fun e w' => e = .returned (.bool true) ∧ Below w.heap.size w w' := by
  by_cases h : a0 < 0 ∨ 1048576 < a0 ∨ a1 < 0 ∨ 30 < a1
  · exact plays_bad a0 a1 h A2 _ c2 _ w
  · obtain ⟨n, rfl⟩ : ∃ n : Nat, a0 = n := ⟨a0.toNat, by omega⟩
    obtain ⟨p, rfl⟩ : ∃ n : Nat, a1 = n := ⟨a1.toNat, by omega⟩
    exact plays_walk n p (by omega) (by omega) A2 _ c2 z2 rfl hc2 hm2 kk3 hkk3 w hr2

set_option maxRecDepth 100000 in
theorem lifted (os : Os) (started : os.Started) (H : Type) (enc : TypeId × Value → H) :
    ReturnsInHanded {} Try.checked os 3 .any (Rows.bloomPlaysSpec.pre6 enc Try.prog Try.f3 Rows.bloomPlaysRow.domain false) (Rows.bloomPlaysSpec.post enc Try.prog Try.f3 false true false false) := by
  refine returnsInHanded_of_change (C := Try.checked) own started (by kernel_rfl) Try.func3
    (ChangeSpec.witness6 (enc := enc) (C := Try.checked) false ⟨#[], #[.int .i64 0, .int .i64 0, .slice none 0 0, .agg #[.int .u8 0, .int .u8 0, .int .u8 0, .int .u8 0, .int .u8 0, .int .u8 0, .int .u8 0, .int .u8 0, .int .u8 0, .int .u8 0, .int .u8 0, .int .u8 0, .int .u8 0, .int .u8 0, .int .u8 0, .int .u8 0, .int .u8 0, .int .u8 0, .int .u8 0, .int .u8 0, .int .u8 0, .int .u8 0, .int .u8 0, .int .u8 0, .int .u8 0, .int .u8 0, .int .u8 0, .int .u8 0, .int .u8 0, .int .u8 0, .int .u8 0, .int .u8 0, .int .u32 0]], []⟩ 8 (by kernel_rfl) (by kernel_rfl) (by kernel_rfl) (by kernel_rfl)) ?_
  intro W base args ds gs before hval0 hW hcnd _
  have hval : ∀ (j : Nat) t v, Try.f3.params[j]? = some t → args[j]? = some v → Value.okWide Try.prog W .any base t v := hval0
  have hW' := hW
  obtain ⟨p, q, hA0, hV, rfl, hfz, hnd⟩ := hW
  have hA : DataW.TrodAll enc Try.prog W 0 (fun _ => true) true Try.f3.params.toList args.toList ds p := hA0
  rw [Try.params3] at hA hval
  obtain ⟨v0, vs0, d0, ds0, p0, q0, hargs, rfl, rfl, h0, r0⟩ := trodAll_cons hA
  obtain ⟨v1, vs1, d1, ds1, p1, q1, rfl, rfl, rfl, h1, r1⟩ := trodAll_cons r0
  obtain ⟨v2, vs2, d2, ds2, p2, q2, rfl, rfl, rfl, h2, r2⟩ := trodAll_cons r1
  obtain ⟨v3, vs3, d3, ds3, p3, q3, rfl, rfl, rfl, h3, r3⟩ := trodAll_cons r2
  obtain ⟨rfl, rfl, rfl⟩ := trodAll_nil r3
  obtain rfl : args = #[v0, v1, v2, v3] := by cases args; simp_all
  obtain ⟨rfl, rfl⟩ := trodVars_none hV
  obtain ⟨a0, rfl, rfl, rfl, w0⟩ := open_int Try.underlying3 (hval 0 3 v0 rfl rfl) h0
  obtain ⟨a1, rfl, rfl, rfl, w1⟩ := open_int Try.underlying3 (hval 1 3 v1 rfl rfl) h1
  obtain ⟨A2, n2, c2, rfl⟩ := okWide_slice Try.underlying22 (hval 2 22 v2 rfl rfl)
  have k2 := h2
  have lt2 : ∀ x ∈ p2, x.block < W.heap.size := by obtain ⟨m, hm⟩ := k2; exact DataW.trod_lt m _ _ _ hm
  obtain ⟨fuel2, hf2⟩ := h2
  obtain ⟨z2, rfl, hr2, hc2, hm2, hw2⟩ := open_acts_arg hf2
  have k3 := h3
  have lt3 : ∀ x ∈ p3, x.block < W.heap.size := by obtain ⟨m, hm⟩ := k3; exact DataW.trod_lt m _ _ _ hm
  obtain ⟨kk3, rfl, hkk3⟩ := open_key2 (hval 3 27 v3 rfl rfl) h3
  clear hA0 hval0
  simp only [List.append_nil] at hW'
  refine (walk a0 a1 A2 c2 z2 kk3 W w0 w1 hr2 hc2 hm2 hw2 hkk3).mono fun e W' ⟨he, bel⟩ => ?_
  subst he
  exact ⟨_, rfl, _, _, _, [], _, [], hW', trodAll_mk1 (shut_bool Try.underlying4 _), (trodAll_cons_mk (shut_int Try.underlying3 w0) (trodAll_cons_mk (shut_int Try.underlying3 w1) (trodAll_cons_mk (Below.trod laidOut (by kernel_rfl) (of_decide_eq_true (by kernel_rfl)) k2 bel lt2) (trodAll_cons_mk (Below.trod laidOut (by kernel_rfl) (of_decide_eq_true (by kernel_rfl)) k3 bel lt3) trodAll_mk0)))), rfl, bel.frame _, fun h => by cases h⟩

theorem over : Rows.bloomPlaysRow.holds Try.pinned (OpenSpec.ofChange Rows.bloomPlaysSpec) :=
  OpenClaim.holds_of_wide 3 Try.f3 rfl rfl rfl rfl rfl rfl rfl ⟨rfl, rfl, rfl, rfl, rfl⟩ rfl rfl rfl rfl rfl (by kernel_rfl) Try.func3 (by kernel_rfl)
    (of_decide_eq_true (by kernel_rfl)) (by unfold Func.isWrapper; first | (rw [if_pos (by decide +kernel)]; kernel_rfl) | (rw [if_neg (by decide +kernel)]; exact ⟨rfl, rfl⟩))
    (fun os started H enc _ => lifted os started H enc)

theorem proved : Rows.BloomPlaysSaid := over
#print axioms proved
end Go.Proofs.Ytjahlachoabmkaa.bloomPlays
