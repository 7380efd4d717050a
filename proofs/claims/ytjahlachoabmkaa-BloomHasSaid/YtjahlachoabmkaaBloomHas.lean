/-
  What was added to a filter may be there, whatever else is added or combined: for all numbers of bits and probes, all acts, all keys (as many of them as the law takes). No conditions.
-/
import Derived.Test.YtjahlachoabmkaaRows
import Derived.Test.YtjahlachoabmkaaOpen
import Derived.Test.YtjahlachoabmkaaBloomHad
import Derived.WalkKit
import Derived.ProofKit
import Derived.OpenShut
import Derived.ShutString
import Derived.ChangeOld
import Derived.Below
namespace Go.Proofs.Ytjahlachoabmkaa.bloomHas
open Go.ChangeShapes Go.WideShapes Go.ChangeAt Go.RowKit
open Go.ChangeMaps (open_string shut_string)
set_option linter.unusedVariables false

theorem own : ownKnob Try.prog.godebug = none := by kernel_rfl
theorem laidOut : laidOutB Try.prog = true := by kernel_rfl

set_option maxRecDepth 100000 in
set_option maxHeartbeats 1000000 in
theorem has_walk (n pr : Nat) (hn : n < 65536) (hpr : pr < 65536) (A2 : Option Addr) (n2 c2 : Nat) (ls : List ActT) (hl2 : ls.length = n2) (hc2 : n2 ≤ c2) (hm2 : c2 ≤ maxLen) (A3 : Option Addr) (n3 c3 : Nat) (ks : List KeyT) (hl3 : ks.length = n3) (hc3 : n3 ≤ c3) (hm3 : c3 ≤ maxLen) (w : World)
    (hr2 : RdA w w.heap.size A2 ls) (hr3 : RdK w w.heap.size A3 ks) :
    Calls Try.prog 4 #[.int .u16 n, .int .u16 pr, .slice A2 n2 c2, .slice A3 n3 c3] w fun e w' => e = .returned (.bool true) ∧ Below w.heap.size w w' := by
  obtain ⟨p, hp⟩ : ∃ p, pr % 31 = p := ⟨_, rfl⟩
  have hpi : (pr : Int) % 31 = (p : Int) := by omega
  have k1 : ∀ W, Calls Try.prog 9 #[.int .i64 n, .int .i64 p] W _ := fun W => new_ok n p (by omega) (by omega) W
  obtain ⟨m, hm⟩ : ∃ m, m = min n3 300 := ⟨_, rfl⟩
  have hmin : (if (300 : Int) < (n3 : Int) then (300 : Int) else (n3 : Int)) = (m : Int) := by split <;> omega
  obtain ⟨fs, hfs⟩ := key_desc
  obtain ⟨fa, hfa⟩ := act_desc
  have HF := Lib.hid hfs
  have HFA := Lib.hid hfa
  have K1 := Lib.hid k1
  have HL2 := Lib.hid hl2
  have HR2 := Lib.hid hr2
  have HC2 := Lib.hid (And.intro hc2 hm2)
  have hml : (ks.take m).length = m := by rw [List.length_take, hl3]; omega
  have HR3 := Lib.hid (hr3.take m)
  obtain ⟨xs, hxs⟩ : ∃ xs, ks.take m = xs := ⟨_, rfl⟩
  rw [hxs] at hml HR3
  have HML := Lib.hid hml
  have hmc : (m : Int) ≤ (c3 : Int) := by omega
  have hm63 : c3 ≤ 9223372036854775807 := by unfold maxLen at hm3; omega
  have hm3' : m ≤ 300 := by omega
  clear k1 hfs hfa hl2 hr2 hc2 hm2 hl3 hr3 hc3 hm3 hml hxs hm hp
  go_enter Try.func4, Try.ntmps4
  go_wp2_with fail
  refine (shown_any _).mono ?_
  rintro e w1 ⟨rfl, hb1⟩
  go_wp2_with fail
  (with_reducible refine (K1.out _).mono ?_)
  rintro e w2 ⟨v, g, rfl, hv2, hg2, h2, hb2⟩
  have HX2 := Lib.hid (hb1.trans (hb2.mono hb1.size))
  have HG2 := Lib.hid (Nat.le_trans hb1.size hg2)
  have H2 := Lib.hid h2
  clear hb1 hb2 h2 hv2 hg2
  go_wp2_with fail
  go_loopw [42] (fun i wr => ∃ j : Nat, j ≤ m ∧ i = .int .i64 j ∧ ∃ S, Vec wr v g n p S ∧ Below w.heap.size w wr ∧ ∀ x ∈ xs.take j, had n p S x) (fun i _ => m - (intOf i).toNat)
  case atStart => exact ⟨0, Nat.zero_le _, rfl, _, H2.out, HX2.out, by simp⟩
  case round =>
    obtain ⟨j, hj, rfl, S, hv, hbel, hhad⟩ := hrel
    by_cases hlt : j < m
    · have hjx : j < xs.length := by rw [HML.out]; exact hlt
      obtain ⟨g3, off, rfl, hgl, hra, hok⟩ := (HR3.out.below hbel).at_ hjx
      have htk : xs.take (j + 1) = xs.take j ++ [xs[j]] := List.take_succ_eq_append_getElem hjx
      generalize xs[j] = x at *
      have hks : (Try.prog.info? 27).map (·.size) = some (kcs x).length := by rw [kcs_length hok]; exact key_size
      have hks2 : (Try.prog.info? 27).map (·.size) = some (kcs x).toArray.size := by rw [List.size_toArray]; exact hks
      have hold : (kz 0).size = (kcs x).toArray.size := (show (kz 0).size = 33 from rfl).trans (by rw [List.size_toArray, kcs_length hok])
      have hb0 := Blk.new wr 27 (kz 0)
      have hb1 := Blk.new wr 27 (kcs x).toArray
      have hbx := (Below.refl wr.heap.size wr).alloc (Nat.le_refl _) (.cells (kcs x).toArray 27)
      have ka := add_ok v g n p S (kcs x).toArray x.1 x.2 (kcs_ok hok) _ (hv.on hbx)
      have HRA := Lib.hid hra
      have HKS := Lib.hid hks
      have HKS2 := Lib.hid hks2
      have HOLD := Lib.hid hold
      have HB0 := Lib.hid hb0
      have HB1 := Lib.hid hb1
      have HBX := Lib.hid (hbel.trans (hbx.mono hbel.size))
      have KA := Lib.hid ka
      have HTK := Lib.hid htk
      have HHAD := Lib.hid hhad
      have HONE := Lib.hid (kcs_one (k := x))
      have hi1 : (0 : Int) ≤ (j : Int) := by omega
      have hi2 : (j : Int) < (m : Int) := by omega
      clear hra hks hks2 hold hb0 hb1 hbx ka htk hhad hv hbel hok
      go_wp2_with (first
        | refine wpList_load_mid rfl 27 (.tmp 44) rfl g3 (off + j * 33) rfl (kcs x) (.struct fs) HRA.out HF.out rfl HKS.out ?_
        | (refine wpList_store_row rfl 27 (.tmp 14) (.tmp 45) rfl wr.heap.size (kcs x).toArray rfl rfl 27 (kz 0) HB0.out HKS2.out HOLD.out HONE.out ?_; rw [setRow_alloc])
        | refine wpList_load_row rfl 27 (.tmp 14) rfl wr.heap.size rfl 27 (kcs x).toArray (0, 0) (.struct fs) HB1.out HF.out rfl HKS2.out ?_)
      (with_reducible refine KA.out.mono ?_)
      rintro e w3 ⟨⟨x3, rfl⟩, h3, hg3⟩
      have hx3 := HBX.out.grown hg3 HBX.out.size (fun k e => by injection e with e; have := HG2.out; omega)
      have H3 := Lib.hid (And.intro h3 hx3)
      clear h3 hx3 hg3
      go_wp2_with fail
      go_roundw
      case rel =>
        refine ⟨j + 1, by omega, by go_num, _, H3.out.1, H3.out.2, fun y hy => ?_⟩
        rw [HTK.out] at hy
        rcases List.mem_append.1 hy with hy | hy
        · exact had_mono (put_mono S _) (HHAD.out y hy)
        · rw [List.mem_singleton.1 hy]; exact had_put n p S x
      case measure => simp [intOf]; omega
    · obtain rfl : m = j := by omega
      rw [List.take_of_length_le (by rw [HML.out]; exact Nat.le_refl _)] at hhad
      have kf := few_any A2 n2 c2 ls HL2.out HC2.out.1 HC2.out.2 wr ((HR2.out.below hbel).more hbel.size)
      have HV := Lib.hid hv
      have HBEL := Lib.hid hbel
      have HHAD := Lib.hid hhad
      have KF := Lib.hid kf
      clear hv hbel hhad kf
      go_wp2_with fail
      (with_reducible refine KF.out.mono ?_)
      rintro e w' ⟨k2, hk2, rfl, rfl⟩
      obtain ⟨ys, has⟩ : ∃ ys, ls.take k2 = ys := ⟨_, rfl⟩
      have HRA2 := Lib.hid (show RdA w w.heap.size A2 ys from has ▸ HR2.out.take k2)
      have HAL := Lib.hid (show ys.length = k2 by rw [← has, List.length_take, HL2.out]; omega)
      have hk2c : (k2 : Int) ≤ (c2 : Int) := by have := HC2.out.1; omega
      have hk63 : k2 ≤ 9223372036854775807 := by have h1 := HC2.out.1; have h2 := HC2.out.2; unfold maxLen at h2; omega
      clear hk2 has
      go_wp2_with fail
      go_loopw [53] (fun i wz => ∃ j : Nat, j ≤ k2 ∧ i = .int .i64 j ∧ ∃ S, Vec wz v g n p S ∧ Below w.heap.size w wz ∧ ∀ x ∈ xs, had n p S x) (fun i _ => k2 - (intOf i).toNat)
      case atStart => exact ⟨0, Nat.zero_le _, rfl, _, HV.out, HBEL.out, HHAD.out⟩
      case round =>
        clear HV HBEL HHAD KF S
        obtain ⟨j, hj, rfl, S, hv, hbel, hhad⟩ := hrel
        by_cases hlt : j < k2
        · have hjx : j < ys.length := by rw [HAL.out]; exact hlt
          obtain ⟨g3, off, rfl, hgl, hra, hok⟩ := (HRA2.out.below hbel).at_ hjx
          generalize ys[j] = a at *
          have hks : (Try.prog.info? 39).map (·.size) = some (acs a).length := by rw [acs_length hok.key]; exact act_size
          have hks2 : (Try.prog.info? 39).map (·.size) = some (acs a).toArray.size := by rw [List.size_toArray]; exact hks
          have hold : az.size = (acs a).toArray.size := (show az.size = 35 from rfl).trans (by rw [List.size_toArray, acs_length hok.key])
          have hb0 := Blk.new wr 39 az
          have hb1 := Blk.new wr 39 (acs a).toArray
          have hbx := (Below.refl wr.heap.size wr).alloc (Nat.le_refl _) (.cells (acs a).toArray 39)
          have kd := does_ok v g n p w.heap.size S a _ (hv.on hbx) (hok.below (hbx.mono hbel.size)) HG2.out (Nat.le_trans hbel.size hbx.size)
          have hck := hb1.cell 0
          rw [List.getElem?_toArray, acs_kind] at hck
          have hmono := fun (h : a.kind % 3 < 2) => act_mono (n := n) (p := p) (S := S) (a := a) h
          have hkd := hok.kind
          have HRA := Lib.hid hra
          have HKS := Lib.hid hks
          have HKS2 := Lib.hid hks2
          have HOLD := Lib.hid hold
          have HB0 := Lib.hid hb0
          have HB1 := Lib.hid hb1
          have HBX := Lib.hid (hbel.trans (hbx.mono hbel.size))
          have HVX := Lib.hid (hv.on hbx)
          have KD := Lib.hid kd
          have HHAD := Lib.hid hhad
          have HONE := Lib.hid (acs_one (a := a))
          have HMONO := Lib.hid hmono
          have hi1 : (0 : Int) ≤ (j : Int) := by omega
          have hi2 : (j : Int) < (k2 : Int) := by omega
          clear hra hks hks2 hold hb0 hb1 hbx kd hhad hv hbel hok hmono
          obtain ⟨q, hq⟩ : ∃ q, a.kind = q := ⟨_, rfl⟩
          rw [hq] at hck hkd HMONO
          clear hq
          obtain ⟨r, hr⟩ : ∃ r, q % 3 = r := ⟨_, rfl⟩
          have hri : (q : Int) % 3 = (r : Int) := by omega
          rw [hr] at HMONO
          clear hr
          by_cases hr2 : r < 2
          · have hr2i : (r : Int) < 2 := by omega
            go_wp2_with (first
              | refine wpList_load_mid rfl 39 (.tmp 55) rfl g3 (off + j * 35) rfl (acs a) (.struct fa) HRA.out HFA.out rfl HKS.out ?_
              | (refine wpList_store_row rfl 39 (.tmp 16) (.tmp 56) rfl wr.heap.size (acs a).toArray rfl rfl 39 az HB0.out HKS2.out HOLD.out HONE.out ?_; rw [setRow_alloc])
              | refine wpList_load_row rfl 39 (.tmp 16) rfl wr.heap.size rfl 39 (acs a).toArray (0, 0) (.struct fa) HB1.out HFA.out rfl HKS2.out ?_)
            (with_reducible refine KD.out.mono ?_)
            rintro e w3 ⟨⟨x3, rfl⟩, h3, hg3⟩
            have hx3 := HBX.out.grown hg3 HBX.out.size (fun k e => by injection e with e; have := HG2.out; omega)
            have H3 := Lib.hid (And.intro h3 hx3)
            clear h3 hx3 hg3
            go_wp2_with fail
            go_roundw
            case rel => exact ⟨j + 1, by omega, by go_num, _, H3.out.1, H3.out.2, fun y hy => had_mono (HMONO.out hr2) (HHAD.out y hy)⟩
            case measure => simp [intOf]; omega
          · have hr2i : ¬ (r : Int) < 2 := by omega
            go_wp2_with (first
              | refine wpList_load_mid rfl 39 (.tmp 55) rfl g3 (off + j * 35) rfl (acs a) (.struct fa) HRA.out HFA.out rfl HKS.out ?_
              | (refine wpList_store_row rfl 39 (.tmp 16) (.tmp 56) rfl wr.heap.size (acs a).toArray rfl rfl 39 az HB0.out HKS2.out HOLD.out HONE.out ?_; rw [setRow_alloc]))
            go_roundw
            case rel => exact ⟨j + 1, by omega, by go_num, S, HVX.out, HBX.out, HHAD.out⟩
            case measure => simp [intOf]; omega
        · obtain rfl : k2 = j := by omega
          have HV := Lib.hid hv
          have HBEL := Lib.hid hbel
          have HHAD := Lib.hid hhad
          clear hv hbel hhad
          go_wp2_with fail
          go_loopw [67] (fun i wz => ∃ j : Nat, j ≤ m ∧ i = .int .i64 j ∧ Vec wz v g n p S ∧ Below w.heap.size w wz) (fun i _ => m - (intOf i).toNat)
          case atStart => exact ⟨0, Nat.zero_le _, rfl, HV.out, HBEL.out⟩
          case round =>
            clear HV HBEL
            obtain ⟨j, hj, rfl, hv, hbel⟩ := hrel
            by_cases hlt : j < m
            · have hjx : j < xs.length := by rw [HML.out]; exact hlt
              obtain ⟨g3, off, rfl, hgl, hra, hok⟩ := (HR3.out.below hbel).at_ hjx
              have hmem : xs[j] ∈ xs := List.getElem_mem hjx
              have hhx := HHAD.out _ hmem
              generalize xs[j] = x at *
              have hks : (Try.prog.info? 27).map (·.size) = some (kcs x).length := by rw [kcs_length hok]; exact key_size
              have hks2 : (Try.prog.info? 27).map (·.size) = some (kcs x).toArray.size := by rw [List.size_toArray]; exact hks
              have hold : (kz 0).size = (kcs x).toArray.size := (show (kz 0).size = 33 from rfl).trans (by rw [List.size_toArray, kcs_length hok])
              have hb0 := Blk.new wr 27 (kz 0)
              have hb1 := Blk.new wr 27 (kcs x).toArray
              have hbx := (Below.refl wr.heap.size wr).alloc (Nat.le_refl _) (.cells (kcs x).toArray 27)
              have km := may_ok v g n p S (kcs x).toArray x.1 x.2 (kcs_ok hok) _ (hv.on hbx)
              rw [show (spotsN n p (keyA x.1 x.2) (keyB x.1)).all S = true from hhx] at km
              have HRA := Lib.hid hra
              have HKS := Lib.hid hks
              have HKS2 := Lib.hid hks2
              have HOLD := Lib.hid hold
              have HB0 := Lib.hid hb0
              have HB1 := Lib.hid hb1
              have HBX := Lib.hid (hbel.trans (hbx.mono hbel.size))
              have HVX := Lib.hid (hv.on hbx)
              have KM := Lib.hid km
              have HONE := Lib.hid (kcs_one (k := x))
              have hi1 : (0 : Int) ≤ (j : Int) := by omega
              have hi2 : (j : Int) < (m : Int) := by omega
              clear hra hks hks2 hold hb0 hb1 hbx km hv hbel hok hhx hmem
              go_wp2_with (first
                | refine wpList_load_mid rfl 27 (.tmp 69) rfl g3 (off + j * 33) rfl (kcs x) (.struct fs) HRA.out HF.out rfl HKS.out ?_
                | (refine wpList_store_row rfl 27 (.tmp 18) (.tmp 70) rfl wr.heap.size (kcs x).toArray rfl rfl 27 (kz 0) HB0.out HKS2.out HOLD.out HONE.out ?_; rw [setRow_alloc])
                | refine wpList_load_row rfl 27 (.tmp 18) rfl wr.heap.size rfl 27 (kcs x).toArray (0, 0) (.struct fs) HB1.out HF.out rfl HKS2.out ?_)
              (with_reducible refine KM.out.mono ?_)
              rintro e w3 ⟨rfl, hb3⟩
              have H3 := Lib.hid (And.intro (HVX.out.on hb3) (HBX.out.trans (hb3.mono HBX.out.size)))
              clear hb3
              go_wp2_with fail
              go_roundw
              case rel => exact ⟨j + 1, by omega, by go_num, H3.out.1, H3.out.2⟩
              case measure => simp [intOf]; omega
            · obtain rfl : m = j := by omega
              have HBEL := Lib.hid hbel
              clear hv hbel
              go_wp2
              go_ret
              exact ⟨rfl, HBEL.out⟩
theorem walk (a0 a1 : Int) (A2 : Option Addr) (c2 : Nat) (z2 : List ActT) (A3 : Option Addr) (c3 : Nat) (z3 : List KeyT) (w : World) (w0 : (Lit.int .u16 a0).wf = true) (w1 : (Lit.int .u16 a1).wf = true)
    (hr2 : RdA w w.heap.size A2 z2) (hc2 : z2.length ≤ c2) (hm2 : c2 ≤ maxLen) (_ : True) (hr3 : RdK w w.heap.size A3 z3) (hc3 : z3.length ≤ c3) (hm3 : c3 ≤ maxLen) (_ : True) :
    Calls Try.prog 4 #[.int .u16 a0, .int .u16 a1, .slice A2 z2.length c2, .slice A3 z3.length c3] w fun e w' => e = .returned (.bool true) ∧ Below w.heap.size w w' := by
  have b0 := bounds_u16 w0
  have b1 := bounds_u16 w1
  obtain ⟨n, rfl⟩ : ∃ n : Nat, a0 = n := ⟨a0.toNat, by omega⟩
  obtain ⟨pr, rfl⟩ : ∃ n : Nat, a1 = n := ⟨a1.toNat, by omega⟩
  exact has_walk n pr (by omega) (by omega) A2 _ c2 z2 rfl hc2 hm2 A3 _ c3 z3 rfl hc3 hm3 w hr2 hr3

set_option maxRecDepth 100000 in
theorem lifted (os : Os) (started : os.Started) (H : Type) (enc : TypeId × Value → H) :
    ReturnsInHanded {} Try.checked os 4 .any (Rows.bloomHasSpec.pre6 enc Try.prog Try.f4 Rows.bloomHasRow.domain false) (Rows.bloomHasSpec.post enc Try.prog Try.f4 false true false false) := by
  refine returnsInHanded_of_change (C := Try.checked) own started (by kernel_rfl) Try.func4
    (ChangeSpec.witness6 (enc := enc) (C := Try.checked) false ⟨#[], #[.int .u16 0, .int .u16 0, .slice none 0 0, .slice none 0 0], []⟩ 8 (by kernel_rfl) (by kernel_rfl) (by kernel_rfl) (by kernel_rfl)) ?_
  intro W base args ds gs before hval0 hW hcnd _
  have hval : ∀ (j : Nat) t v, Try.f4.params[j]? = some t → args[j]? = some v → Value.okWide Try.prog W .any base t v := hval0
  have hW' := hW
  obtain ⟨p, q, hA0, hV, rfl, hfz, hnd⟩ := hW
  have hA : DataW.TrodAll enc Try.prog W 0 (fun _ => true) true Try.f4.params.toList args.toList ds p := hA0
  rw [Try.params4] at hA hval
  obtain ⟨v0, vs0, d0, ds0, p0, q0, hargs, rfl, rfl, h0, r0⟩ := trodAll_cons hA
  obtain ⟨v1, vs1, d1, ds1, p1, q1, rfl, rfl, rfl, h1, r1⟩ := trodAll_cons r0
  obtain ⟨v2, vs2, d2, ds2, p2, q2, rfl, rfl, rfl, h2, r2⟩ := trodAll_cons r1
  obtain ⟨v3, vs3, d3, ds3, p3, q3, rfl, rfl, rfl, h3, r3⟩ := trodAll_cons r2
  obtain ⟨rfl, rfl, rfl⟩ := trodAll_nil r3
  obtain rfl : args = #[v0, v1, v2, v3] := by cases args; simp_all
  obtain ⟨rfl, rfl⟩ := trodVars_none hV
  obtain ⟨a0, rfl, rfl, rfl, w0⟩ := open_int Try.underlying49 (hval 0 49 v0 rfl rfl) h0
  obtain ⟨a1, rfl, rfl, rfl, w1⟩ := open_int Try.underlying49 (hval 1 49 v1 rfl rfl) h1
  obtain ⟨A2, n2, c2, rfl⟩ := okWide_slice Try.underlying22 (hval 2 22 v2 rfl rfl)
  have k2 := h2
  have lt2 : ∀ x ∈ p2, x.block < W.heap.size := by obtain ⟨m, hm⟩ := k2; exact DataW.trod_lt m _ _ _ hm
  obtain ⟨fuel2, hf2⟩ := h2
  obtain ⟨z2, rfl, hr2, hc2, hm2, hw2⟩ := open_acts_arg hf2
  obtain ⟨A3, n3, c3, rfl⟩ := okWide_slice Try.underlying50 (hval 3 50 v3 rfl rfl)
  have k3 := h3
  have lt3 : ∀ x ∈ p3, x.block < W.heap.size := by obtain ⟨m, hm⟩ := k3; exact DataW.trod_lt m _ _ _ hm
  obtain ⟨fuel3, hf3⟩ := h3
  obtain ⟨z3, rfl, hr3, hc3, hm3, hw3⟩ := open_keys_arg hf3
  clear hA0 hval0
  simp only [List.append_nil] at hW'
  refine (walk a0 a1 A2 c2 z2 A3 c3 z3 W w0 w1 hr2 hc2 hm2 hw2 hr3 hc3 hm3 hw3).mono fun e W' ⟨he, bel⟩ => ?_
  subst he
  exact ⟨_, rfl, _, _, _, [], _, [], hW', trodAll_mk1 (shut_bool Try.underlying4 _), (trodAll_cons_mk (shut_int Try.underlying49 w0) (trodAll_cons_mk (shut_int Try.underlying49 w1) (trodAll_cons_mk (Below.trod laidOut (by kernel_rfl) (of_decide_eq_true (by kernel_rfl)) k2 bel lt2) (trodAll_cons_mk (Below.trod laidOut (by kernel_rfl) (of_decide_eq_true (by kernel_rfl)) k3 bel lt3) trodAll_mk0)))), rfl, bel.frame _, fun h => by cases h⟩

theorem over : Rows.bloomHasRow.holds Try.pinned (OpenSpec.ofChange Rows.bloomHasSpec) :=
  OpenClaim.holds_of_wide 4 Try.f4 rfl rfl rfl rfl rfl rfl rfl ⟨rfl, rfl, rfl, rfl, rfl⟩ rfl rfl rfl rfl rfl (by kernel_rfl) Try.func4 (by kernel_rfl)
    (of_decide_eq_true (by kernel_rfl)) (by unfold Func.isWrapper; first | (rw [if_pos (by decide +kernel)]; kernel_rfl) | (rw [if_neg (by decide +kernel)]; exact ⟨rfl, rfl⟩))
    (fun os started H enc _ => lifted os started H enc)

theorem proved : Rows.BloomHasSaid := over
#print axioms proved
end Go.Proofs.Ytjahlachoabmkaa.bloomHas
