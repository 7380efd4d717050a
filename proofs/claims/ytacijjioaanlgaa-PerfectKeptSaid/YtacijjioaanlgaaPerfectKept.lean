/-
  Rules 4 and 6: places stay, and what is built twice is alike.
-/
import Derived.Test.YtacijjioaanlgaaRows
import Derived.Test.YtacijjioaanlgaaOpen
import Derived.Test.YtacijjioaanlgaaPerfKeep
import Derived.WalkKit
import Derived.ProofKit
import Derived.OpenShut
import Derived.ShutString
import Derived.ChangeOld
import Derived.Below
namespace Go.Proofs.Ytacijjioaanlgaa.perfectKept
open Go.ChangeShapes Go.WideShapes Go.ChangeAt Go.RowKit
open Go.ChangeMaps (open_string shut_string)
set_option linter.unusedVariables false

theorem own : ownKnob Try.prog.godebug = none := by kernel_rfl
theorem laidOut : laidOutB Try.prog = true := by kernel_rfl

set_option maxRecDepth 100000 in
set_option maxHeartbeats 2000000 in
theorem kept_walk (A : Option Addr) (ks : List KeyT) (n c m : Nat) (hm : min n 400 = m) (hl : ks.length = n) (hc : n ≤ c) (w : World) (hr : RdK w w.heap.size A ks) :
    Calls Try.prog 6 #[.slice A n c] w fun e w' => e = .returned (.bool true) ∧ Below w.heap.size w w' := by
  obtain ⟨i1, hi1, hy0, hy1, hy2⟩ := info_parts info_key
  have HI1 := Lib.hid (And.intro hi1 (And.intro hy0 (And.intro hy1 hy2)))
  obtain ⟨fs, hfs⟩ := key_desc
  have HF := Lib.hid hfs
  have KU := fun W (h : Below w.heap.size w W) => unlike_any A ks n c m hm hl hc W ((hr.below h).more h.size)
  obtain ⟨U, hU⟩ : ∃ U, uq (ks.take m) = U := ⟨_, rfl⟩
  obtain ⟨u, hu⟩ : ∃ u, U.length = u := ⟨_, rfl⟩
  have hul : u ≤ 400 := by
    rw [← hu, ← hU]
    refine Nat.le_trans (uq_length _) ?_
    rw [List.length_take]; omega
  have HND := Lib.hid (show U.Nodup by rw [← hU]; exact uq_nodup _)
  have HUO := Lib.hid (show ∀ k ∈ U, k.Ok by rw [← hU]; exact uq_ok hr.each m)
  have HU := Lib.hid hu
  simp only [hU, hu] at KU
  have HKU := Lib.hid KU
  obtain ⟨G, hG⟩ : ∃ G, u / 4 + 1 = G := ⟨_, rfl⟩
  have HG := Lib.hid hG
  have eqg := key_guard
  clear hfs hr hl hm hU hu hG KU hi1 hy0 hy1 hy2
  go_enter Try.func6, Try.ntmps6
  go_wp2_with fail
  refine (shown_any _).mono ?_
  rintro e w1 ⟨rfl, hb1⟩
  have HB1 := Lib.hid hb1
  clear hb1
  go_wp2_with fail
  refine (HKU.out _ HB1.out).mono ?_
  rintro e w2 ⟨A', c', rfl, hown, hb2⟩
  have HB2 := Lib.hid (HB1.out.trans (hb2.mono HB1.out.size))
  have HOWN := Lib.hid hown
  have hcap := OwnK.cap hown
  rw [HU.out] at hcap
  have HC := Lib.hid hcap
  have HE := Lib.hid (show OwnK (w2.alloc (.cells #[] 27)) w2.heap.size (some ⟨w2.heap.size, 0, none⟩) 0 [] from World.ownsRow_lit w2 #[] 0 (Nat.le_refl _) (by simp [maxLen]) rfl)
  have hba : Below w2.heap.size w2 (w2.alloc (.cells #[] 27)) := (Below.refl _ _).alloc (Nat.le_refl _) _
  have HBA := Lib.hid hba
  have HRD := Lib.hid ((OwnK.rd hown HUO.out).below hba)
  clear hb2 hown hcap hba
  go_wp2_with (at_builtin; refine wpList_append_keys _ rfl (.tmp 16) (.tmp 17) rfl w2.heap.size i1 HI1.out.1 HI1.out.2.1 HI1.out.2.2.1 HI1.out.2.2.2 (some ⟨w2.heap.size, 0, none⟩) 0 0 [] rfl rfl HE.out w2.heap.size A' c' u U rfl HU.out HRD.out (by omega) HBA.out.size ?_)
  intro A2 c2 w3 ho3 hg3
  have ho3 : OwnK w3 w2.heap.size A2 c2 U := ho3
  have hb3 : Below w2.heap.size w2 w3 := HBA.out.grown hg3 HBA.out.size (fun g hg => (World.ownsRow.lt HE.out g hg).1)
  have hcap := OwnK.cap ho3
  rw [HU.out] at hcap
  have KB := Lib.hid (build_any A2 U u c2 G HU.out hcap.1 hcap.2 (by omega) HG.out HND.out w3 (OwnK.rd ho3 HUO.out))
  have HO3 := Lib.hid ho3
  have HB3 := Lib.hid hb3
  have hcu : u ≤ c2 := hcap.1
  clear ho3 hg3 hb3 hcap HE HBA HRD
  go_wp2_with fail
  refine KB.out.mono ?_
  rintro e w4 ⟨mb, O, rfl, hk, ⟨sb, pm, hpm⟩, hb4⟩
  have HK := Lib.hid hk
  have HPM := Lib.hid hpm
  have HOV := Lib.hid (Over.start HUO.out HO3.out hb4 hpm)
  have HB4 := Lib.hid (HB3.out.trans (hb4.mono HB3.out.size))
  clear hk hpm hb4 KB
  go_wp2_with fail
  go_loopw [26] (fun i wr => ∃ j : Nat, j ≤ u ∧ i = .int .i64 j ∧ PM wr mb sb pm u (sdL G (fB u G U O)) (alB u (fB u G U O)) ∧ Hid (Over wr A2 U j mb sb pm w2.heap.size) ∧ Below w2.heap.size w2 wr) (fun i _ => u - (intOf i).toNat)
  case atStart => exact ⟨0, Nat.zero_le _, rfl, HPM.out, HOV, HB4.out⟩
  case round =>
    clear HPM HOV HB4
    obtain ⟨j, hj, rfl, hpm, hov, hbel⟩ := hrel
    by_cases hlt : j < u
    · have hjU : j < U.length := by rw [HU.out]; exact hlt
      obtain ⟨g, hA2, hg1, hg2, hg3, hgB, hgl, hth, hra⟩ := hov.out j (Nat.le_refl _) hjU
      obtain ⟨gx, offx, hAx, hgx, hrx, hok⟩ := (OwnK.rd (show OwnK wr w1.heap.size A' c' U from ownsRow_below HOWN.out hbel) HUO.out).at_ hjU
      obtain ⟨x, hx⟩ : ∃ x, U[j] = x := ⟨_, rfl⟩
      rw [hx] at hra hrx hok
      have HKS := Lib.hid (show (Try.prog.info? 27).map (·.size) = some (kcs x).length by rw [kcs_length hok]; exact key_size)
      have R1 := Lib.hid (range_base (w := wr) (b := g) (off := j * 33) (cs := kcs x) fun W hW => fun t v hv => by rw [hW.cell (p := ⟨g, j * 33 + t, none⟩) hgl]; exact hra t v hv)
      have R2 := Lib.hid (range_base (w := wr) (b := gx) (off := offx + j * 33) (cs := kcs x) fun W hW => fun t v hv => by rw [hW.cell (p := ⟨gx, offx + j * 33 + t, none⟩) hgx]; exact hrx t v hv)
      have QE := Lib.hid (show ∀ W, (Op.equal 27 (.agg (kcs x).toArray) (.agg (kcs x).toArray)).run Try.prog W = .ok true W from fun W => by rw [key_eq hok hok W, decide_eq_true rfl])
      have HPM := Lib.hid hpm
      have HOV := hov
      have HBEL := Lib.hid hbel
      have HG2 := Lib.hid (And.intro hg1 (And.intro hg2 (And.intro hg3 hgB)))
      have HA2 := Lib.hid hA2
      subst hA2
      subst hAx
      have hi1 : (0 : Int) ≤ (j : Int) := by omega
      have hi2 : (j : Int) < (u : Int) := by omega
      clear hjU hg1 hg2 hg3 hgB hra hrx hok hx hpm hov hbel
      go_wp2_with fail
      refine wp_region_quiet_below (by kernel_rfl) (by kernel_rfl) ?_
      repeat (first
        | (go_big_quiet_want; refine quiet_load_mid 27 (.tmp 31) rfl g (j * 33) rfl (kcs x) (.struct fs) R1.out HF.out rfl HKS.out (by simp only [Act.put, List.setIfInBounds_toArray, List.set_cons_succ, List.set_cons_zero]; rfl) ?_; go_big_quiet_on)
        | (go_big_quiet_want; refine quiet_load_mid 27 (.tmp 35) rfl gx (offx + j * 33) rfl (kcs x) (.struct fs) R2.out HF.out rfl HKS.out (by simp only [Act.put, List.setIfInBounds_toArray, List.set_cons_succ, List.set_cons_zero]; rfl) ?_; go_big_quiet_on)
        | (go_big_quiet_want; refine quiet_neq_row 27 27 (.tmp 32) (.tmp 36) rfl (kcs x).toArray (kcs x).toArray rfl rfl eqg true QE.out (by simp only [Act.put, List.setIfInBounds_toArray, List.set_cons_succ, List.set_cons_zero]; rfl) ?_; go_big_quiet_on)
        | go_big_quiet_step (fail))
      refine wpQuiet_nil ?_
      intro _ hw'
      obtain ⟨⟨dq, osq⟩, hw''⟩ := hw'
      subst hw''
      have hbq := below_regrown wr dq osq
      clear R1 R2
      generalize Go.Sort.grow (redrawn wr dq) osq = wq at *
      have HOQ := Lib.hid (HOV.out.more hbq)
      have HPQ := Lib.hid (HPM.out.on hbq)
      have HBQ := Lib.hid (HBEL.out.trans (hbq.mono HBEL.out.size))
      have HTH := Lib.hid (show wq.there g (j * 33) 33 from fun t ht => by
        rw [hbq.cell (p := ⟨g, j * 33 + t, none⟩) hgl]
        have := hth t ht
        refine ⟨this.1, ?_⟩
        rw [← this.2]
        simp only [World.frozen?, hbq.block g hgl])
      clear hbq hth
      go_wp2_with (refine wpList_store_99 rfl (.tmp 41) (.tmp 40) rfl g (j * 33) rfl rfl ?_ ?_; exact HTH.out)
      go_roundw
      case rel => exact ⟨j + 1, by omega, by go_num, HPQ.out.grown (grown_setCells g _ _ _) HG2.out.1 HG2.out.2.1 HG2.out.2.2.1, Lib.hid (HOQ.out.set rfl _ (kcs_length k99_ok) HUO.out), HBQ.out.grown (grown_setCells g _ _ _) HBQ.out.size (fun k e => by rw [← Option.some.inj e]; exact HG2.out.2.2.2)⟩
      case measure => simp [intOf]; omega
    · obtain rfl : u = j := by omega
      have HPM := Lib.hid hpm
      have HBEL := Lib.hid hbel
      have HOW := Lib.hid (show OwnK wr w1.heap.size A' c' U from ownsRow_below HOWN.out hbel)
      have KB := Lib.hid (build_any A' U u c' G HU.out HC.out.1 HC.out.2 (by omega) HG.out HND.out wr (OwnK.rd HOW.out HUO.out))
      clear hpm hov hbel
      go_wp2_with fail
      refine KB.out.mono ?_
      rintro e w5 ⟨nb, O2, rfl, hk2, hbu2, hb5⟩
      obtain rfl : O2 = O := hk2.ord.unique HK.out.ord
      have HBU := Lib.hid hbu2
      have HBM := Lib.hid (show Built w5 mb u G U O2 from ⟨sb, pm, HPM.out.on hb5⟩)
      have HB5 := Lib.hid (HBEL.out.trans (hb5.mono HBEL.out.size))
      have HOW5 := Lib.hid (show OwnK w5 w1.heap.size A' c' U from ownsRow_below HOW.out hb5)
      clear hk2 hbu2 hb5 KB
      go_wp2_with fail
      go_loopw [64] (fun i wr => ∃ j : Nat, j ≤ u ∧ i = .int .i64 j ∧ Below w5.heap.size w5 wr) (fun i _ => u - (intOf i).toNat)
      case atStart => exact ⟨0, Nat.zero_le _, rfl, Below.refl _ _⟩
      case round =>
        obtain ⟨j, hj, rfl, hbel⟩ := hrel
        by_cases hlt : j < u
        · have hjU : j < U.length := by rw [HU.out]; exact hlt
          obtain ⟨g, off, rfl, hg, hra, hok⟩ := (OwnK.rd (show OwnK wr w1.heap.size A' c' U from ownsRow_below HOW5.out hbel) HUO.out).at_ hjU
          obtain ⟨x, hx⟩ : ∃ x, U[j] = x := ⟨_, rfl⟩
          rw [hx] at hra hok
          have HKS := Lib.hid (show (Try.prog.info? 27).map (·.size) = some (kcs x).length by rw [kcs_length hok]; exact key_size)
          have HKS2 := Lib.hid (show (Try.prog.info? 27).map (·.size) = some (kcs x).toArray.size by rw [List.size_toArray]; exact HKS.out)
          have HOLD := Lib.hid (show (kz 0).size = (kcs x).toArray.size from (show (kz 0).size = 33 from rfl).trans (by rw [List.size_toArray, kcs_length hok]))
          have HRA := Lib.hid hra
          have HBZ := Lib.hid (Blk.new wr 27 (kz 0))
          have HONE := Lib.hid (kcs_one (k := x))
          have hbx : Below wr.heap.size wr (wr.alloc (.cells (kcs x).toArray 27)) := (Below.refl wr.heap.size wr).alloc (Nat.le_refl _) (.cells (kcs x).toArray 27)
          have hkb := Blk.new wr 27 (kcs x).toArray
          obtain ⟨w6, hw6⟩ : ∃ w6, wr.alloc (.cells (kcs x).toArray 27) = w6 := ⟨_, rfl⟩
          obtain ⟨kb, hkbe⟩ : ∃ kb, wr.heap.size = kb := ⟨_, rfl⟩
          rw [hw6] at hbx hkb
          have hbel6 := hbel.trans (hbx.mono hbel.size)
          obtain ⟨r, hre⟩ : ∃ r, placeB u G (fB u G U O2) x = r := ⟨_, rfl⟩
          have P1 := fun dd os => Lib.hid (told_base (w := w6) (f := 14) (args := #[.pointer (some ⟨mb, 0, none⟩), .agg (kcs x).toArray]) (v := .int .i64 r) (fun W hW => by rw [← hre]; exact place_any HK.out x hok (HBM.out.on (hbel6.trans (hW.mono hbel6.size)))) dd os)
          have P2 := fun dd os => Lib.hid (told_base (w := w6) (f := 14) (args := #[.pointer (some ⟨nb, 0, none⟩), .agg (kcs x).toArray]) (v := .int .i64 r) (fun W hW => by rw [← hre]; exact place_any HK.out x hok (HBU.out.on (hbel6.trans (hW.mono hbel6.size)))) dd os)
          rw [hkbe] at hkb
          have R1 := Lib.hid (range_base (w := w6) (b := kb) (off := 0) (cs := kcs x) fun W hW => range_of_blk (hkb.below hW hkb.lt))
          have HBEL6 := Lib.hid hbel6
          have HW6 := Lib.hid hw6
          have HKBE := Lib.hid hkbe
          have hi1 : (0 : Int) ≤ (j : Int) := by omega
          have hi2 : (j : Int) < (u : Int) := by omega
          clear hra hok hx hbel hbx hkb hw6 hkbe hjU hre hbel6
          go_wp2_with (first
            | refine wpList_load_mid rfl 27 (.tmp 66) rfl g (off + j * 33) rfl (kcs x) (.struct fs) HRA.out HF.out rfl HKS.out ?_
            | (refine wpList_store_row rfl 27 (.tmp 12) (.tmp 67) rfl wr.heap.size (kcs x).toArray rfl rfl 27 (kz 0) HBZ.out HKS2.out HOLD.out HONE.out ?_; rw [setRow_alloc, HW6.out, HKBE.out]))
          simp only [Act.put]
          refine wp_region_quiet_below (by kernel_rfl) (by kernel_rfl) ?_
          repeat (first
            | (go_big_quiet_want; refine quiet_load_mid 27 (.tmp 12) rfl kb 0 rfl (kcs x) (.struct fs) R1.out HF.out rfl HKS.out (by simp only [Act.put, List.setIfInBounds_toArray, List.set_cons_succ, List.set_cons_zero]; rfl) ?_; go_big_quiet_on)
            | go_big_quiet_step (first | (go_at_call 14; first | with_reducible exact (P1 _ _).out | with_reducible exact (P2 _ _).out)))
          refine wpQuiet_nil ?_
          intro _ hw'
          obtain ⟨⟨dq, osq⟩, hw''⟩ := hw'
          subst hw''
          have hbq := below_regrown w6 dq osq
          have HBQ := Lib.hid (HBEL6.out.trans (hbq.mono HBEL6.out.size))
          clear hbq P1 P2 R1
          go_wp2_with fail
          go_roundw
          case rel => exact ⟨j + 1, by omega, by go_num, HBQ.out⟩
          case measure => simp [intOf]; omega
        · obtain rfl : u = j := by omega
          have HBX := Lib.hid (HB2.out.trans ((HB5.out.trans (hbel.mono HB5.out.size)).mono HB2.out.size))
          clear hbel
          go_wp2_with fail
          go_ret
          exact ⟨rfl, HBX.out⟩
theorem walk (A0 : Option Addr) (c0 : Nat) (z0 : List KeyT) (w : World) (hr0 : RdK w w.heap.size A0 z0) (hc0 : z0.length ≤ c0) (hm0 : c0 ≤ maxLen) (_ : True) :
    Calls Try.prog 6 #[.slice A0 z0.length c0] w fun e w' => e = .returned (.bool true) ∧ Below w.heap.size w w' :=
  kept_walk A0 z0 _ c0 _ rfl rfl hc0 w hr0

set_option maxRecDepth 100000 in
theorem lifted (os : Os) (started : os.Started) (H : Type) (enc : TypeId × Value → H) :
    ReturnsInHanded {} Try.checked os 6 .any (Rows.perfectKeptSpec.pre6 enc Try.prog Try.f6 Rows.perfectKeptRow.domain false) (Rows.perfectKeptSpec.post enc Try.prog Try.f6 false true false false) := by
  refine returnsInHanded_of_change (C := Try.checked) own started (by kernel_rfl) Try.func6
    (ChangeSpec.witness6 (enc := enc) (C := Try.checked) false ⟨#[], #[.slice none 0 0], []⟩ 8 (by kernel_rfl) (by kernel_rfl) (by kernel_rfl) (by kernel_rfl)) ?_
  intro W base args ds gs before hval0 hW hcnd _
  have hval : ∀ (j : Nat) t v, Try.f6.params[j]? = some t → args[j]? = some v → Value.okWide Try.prog W .any base t v := hval0
  have hW' := hW
  obtain ⟨p, q, hA0, hV, rfl, hfz, hnd⟩ := hW
  have hA : DataW.TrodAll enc Try.prog W 0 (fun _ => true) true Try.f6.params.toList args.toList ds p := hA0
  rw [Try.params6] at hA hval
  obtain ⟨v0, vs0, d0, ds0, p0, q0, hargs, rfl, rfl, h0, r0⟩ := trodAll_cons hA
  obtain ⟨rfl, rfl, rfl⟩ := trodAll_nil r0
  obtain rfl : args = #[v0] := by cases args; simp_all
  obtain ⟨rfl, rfl⟩ := trodVars_none hV
  obtain ⟨A0, n0, c0, rfl⟩ := okWide_slice Try.underlying31 (hval 0 31 v0 rfl rfl)
  have k0 := h0
  have lt0 : ∀ x ∈ p0, x.block < W.heap.size := by obtain ⟨m, hm⟩ := k0; exact DataW.trod_lt m _ _ _ hm
  obtain ⟨fuel0, hf0⟩ := h0
  obtain ⟨z0, rfl, hr0, hc0, hm0, hw0⟩ := open_keys_arg hf0
  clear hA0 hval0
  simp only [List.append_nil] at hW'
  refine (walk A0 c0 z0 W hr0 hc0 hm0 hw0).mono fun e W' ⟨he, bel⟩ => ?_
  subst he
  exact ⟨_, rfl, _, _, _, [], _, [], hW', trodAll_mk1 (shut_bool Try.underlying4 _), (trodAll_cons_mk (Below.trod laidOut (by kernel_rfl) (of_decide_eq_true (by kernel_rfl)) k0 bel lt0) trodAll_mk0), rfl, bel.frame _, fun h => by cases h⟩

theorem over : Rows.perfectKeptRow.holds Try.pinned (OpenSpec.ofChange Rows.perfectKeptSpec) :=
  OpenClaim.holds_of_wide 6 Try.f6 rfl rfl rfl rfl rfl rfl rfl ⟨rfl, rfl, rfl, rfl, rfl⟩ rfl rfl rfl rfl rfl (by kernel_rfl) Try.func6 (by kernel_rfl)
    (of_decide_eq_true (by kernel_rfl)) (by unfold Func.isWrapper; first | (rw [if_pos (by decide +kernel)]; kernel_rfl) | (rw [if_neg (by decide +kernel)]; exact ⟨rfl, rfl⟩))
    (fun os started H enc _ => lifted os started H enc)

theorem proved : Rows.PerfectKeptSaid := over
#print axioms proved
end Go.Proofs.Ytacijjioaanlgaa.perfectKept
