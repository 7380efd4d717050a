/-
  P7.4, P7.5: the places of keys are the numbers from 0 on, each once.
-/
import Derived.Test.YtacijjioaanlgaaRows
import Derived.Test.YtacijjioaanlgaaOpen
import Derived.Test.YtacijjioaanlgaaPerfUn
import Derived.Test.YtacijjioaanlgaaPerfBuild
import Derived.WalkKit
import Derived.ProofKit
import Derived.OpenShut
import Derived.ShutString
import Derived.ChangeOld
import Derived.Below
namespace Go.Proofs.Ytacijjioaanlgaa.perfectOnce
open Go.ChangeShapes Go.WideShapes Go.ChangeAt Go.RowKit
open Go.ChangeMaps (open_string shut_string)
set_option linter.unusedVariables false

theorem own : ownKnob Try.prog.godebug = none := by kernel_rfl
theorem laidOut : laidOutB Try.prog = true := by kernel_rfl

set_option maxRecDepth 100000 in
set_option maxHeartbeats 2000000 in
theorem once_walk (A : Option Addr) (ks : List KeyT) (n c m : Nat) (hm : min n 400 = m) (hl : ks.length = n) (hc : n ≤ c) (A1 : Option Addr) (ls : List KeyT) (n1 c1 m1 : Nat) (hm1 : min n1 400 = m1) (hl1 : ls.length = n1) (hc1 : n1 ≤ c1) (w : World) (hr : RdK w w.heap.size A ks) (hr1 : RdK w w.heap.size A1 ls) :
    Calls Try.prog 5 #[.slice A n c, .slice A1 n1 c1] w fun e w' => e = .returned (.bool true) ∧ Below w.heap.size w w' := by
  obtain ⟨ib, hib, hy0, hy1, hy2⟩ := info_parts info_bool
  obtain ⟨fs, hfs⟩ := key_desc
  have HF := Lib.hid hfs
  have HR := Lib.hid hr
  have HR1 := Lib.hid hr1
  have HL1 := Lib.hid hl1
  have KU := fun W (h : Below w.heap.size w W) => unlike_any A ks n c m hm hl hc W ((hr.below h).more h.size)
  have KF := Lib.hid (fun W => few_any A1 n1 c1 m1 hm1 W hc1)
  obtain ⟨U, hU⟩ : ∃ U, uq (ks.take m) = U := ⟨_, rfl⟩
  obtain ⟨u, hu⟩ : ∃ u, U.length = u := ⟨_, rfl⟩
  have hul : u ≤ 400 := by
    rw [← hu, ← hU]
    refine Nat.le_trans (uq_length _) ?_
    rw [List.length_take]; omega
  have HND := Lib.hid (show U.Nodup by rw [← hU]; exact uq_nodup _)
  have HUO := Lib.hid (show ∀ k ∈ U, k.Ok by rw [← hU]; exact uq_ok hr.each m)
  have HU := Lib.hid hu
  simp only [hU, hu] at KU
  have HKU := Lib.hid KU
  have hm1n : m1 ≤ n1 := by omega
  have hm14 : m1 ≤ 400 := by omega
  obtain ⟨G, hG⟩ : ∃ G, u / 4 + 1 = G := ⟨_, rfl⟩
  have HG := Lib.hid hG
  have hmk := fun W => run_make (P := Try.prog) W 46 4 ib _ Try.underlying46 hib hy0 .i64 .i64 (u : Int) (u : Int) (by omega) (by omega) (by rw [hy2]; omega) (by omega)
  rw [hy1] at hmk
  clear hfs hr hr1 hl1 hl hm hm1 hU hu hG KU hib hy0 hy1 hy2
  go_enter Try.func5, Try.ntmps5
  go_wp2_with fail
  refine (shown_any _).mono ?_
  rintro e w1 ⟨rfl, hb1⟩
  have HB1 := Lib.hid hb1
  clear hb1
  go_wp2_with fail
  refine (HKU.out _ HB1.out).mono ?_
  rintro e w2 ⟨A', c', rfl, hown, hb2⟩
  have HB2 := Lib.hid (HB1.out.trans (hb2.mono HB1.out.size))
  have KB := Lib.hid (build_any A' U u c' G HU.out (by have := (OwnK.cap hown).1; rw [HU.out] at this; exact this) (OwnK.cap hown).2 (by omega) HG.out HND.out w2 (OwnK.rd hown HUO.out))
  have HOWN := Lib.hid hown
  clear hb2 hown
  go_wp2_with fail
  refine KB.out.mono ?_
  rintro e w3 ⟨mb, O, rfl, hk, hbu, hb3⟩
  have HK := Lib.hid hk
  have HBU := Lib.hid hbu
  have HB3 := Lib.hid (HB2.out.trans (hb3.mono HB2.out.size))
  have HOW3 := Lib.hid (show OwnK w3 w1.heap.size A' c' U from ownsRow_below HOWN.out hb3)
  have KL := Lib.hid (built_len hbu)
  clear hk hbu hb3 KB
  go_wp2_with fail
  refine KL.out.mono ?_
  rintro e w' ⟨rfl, rfl⟩
  go_wp2_with fail
  obtain ⟨hb, hhb⟩ : ∃ hb, w3.heap.size = hb := ⟨_, rfl⟩
  have HHB := Lib.hid hhb
  have HUS := Lib.hid (show Used (w3.alloc (.cells (madeCells #[.bool false] u) 4)) hb u startB.U by rw [made_bool, ← hhb]; exact Blk.new w3 4 _)
  have HBA := Lib.hid (show Below w3.heap.size w3 (w3.alloc (.cells (madeCells #[.bool false] u) 4)) from (Below.refl _ _).alloc (Nat.le_refl _) _)
  rw [hhb]
  have hm1 : m1 ≤ 9223372036854775807 := by omega
  clear hhb hmk KL
  go_loopw [41] (fun i wr => ∃ (j : Nat) (V : Nat → Bool), j ≤ u ∧ i = .int .i64 j ∧ Used wr hb u V ∧ Hid (∀ q : Nat, V q = true → ∃ k ∈ U.take j, placeB u G (fB u G U O) k = (q : Int)) ∧ Below w3.heap.size w3 wr) (fun i _ => u - (intOf i).toNat)
  case atStart => exact ⟨0, startB.U, Nat.zero_le _, rfl, HUS.out, Lib.hid (fun q h => by simp [startB] at h), HBA.out⟩
  case round =>
    clear HUS HBA
    obtain ⟨j, V, hj, rfl, hus, hV, hbel⟩ := hrel
    by_cases hlt : j < u
    · have hjU : j < U.length := by rw [HU.out]; exact hlt
      obtain ⟨g, off, rfl, hg, hra, hok⟩ := (OwnK.rd (show OwnK wr w1.heap.size A' c' U from ownsRow_below HOW3.out hbel) HUO.out).at_ hjU
      obtain ⟨x, hx⟩ : ∃ x, U[j] = x := ⟨_, rfl⟩
      have hxU : x ∈ U := hx ▸ List.getElem_mem hjU
      have HTK := Lib.hid (show U.take (j + 1) = U.take j ++ [x] by rw [List.take_succ_eq_append_getElem hjU, hx])
      have HNI := Lib.hid (show x ∉ U.take j from fun h => by
        have := HND.out
        rw [← List.take_append_drop (j + 1) U, HTK.out, List.append_assoc] at this
        exact (List.nodup_append.1 this).2.2 x h x (by simp) rfl)
      obtain ⟨p, hp, hpu, _⟩ := place_split HK.out hxU
      have HP := Lib.hid hp
      have hVp : V p = false := by
        cases hv : V p with
        | false => rfl
        | true =>
          obtain ⟨k, hk, hkp⟩ := hV.out p hv
          have : k = x := place_inj HK.out (List.mem_of_mem_take hk) hxU (by rw [hkp, hp])
          exact absurd (this ▸ hk) HNI.out
      rw [hx] at hra hok
      have HKS := Lib.hid (show (Try.prog.info? 27).map (·.size) = some (kcs x).length by rw [kcs_length hok]; exact key_size)
      have HKS2 := Lib.hid (show (Try.prog.info? 27).map (·.size) = some (kcs x).toArray.size by rw [List.size_toArray]; exact HKS.out)
      have HOLD := Lib.hid (show (kz 0).size = (kcs x).toArray.size from (show (kz 0).size = 33 from rfl).trans (by rw [List.size_toArray, kcs_length hok]))
      have HRA := Lib.hid hra
      have HBZ := Lib.hid (Blk.new wr 27 (kz 0))
      have HONE := Lib.hid (kcs_one (k := x))
      have hbx : Below wr.heap.size wr (wr.alloc (.cells (kcs x).toArray 27)) := (Below.refl wr.heap.size wr).alloc (Nat.le_refl _) (.cells (kcs x).toArray 27)
      have hkb := Blk.new wr 27 (kcs x).toArray
      obtain ⟨w6, hw6⟩ : ∃ w6, wr.alloc (.cells (kcs x).toArray 27) = w6 := ⟨_, rfl⟩
      obtain ⟨kb, hkbe⟩ : ∃ kb, wr.heap.size = kb := ⟨_, rfl⟩
      rw [hw6] at hbx hkb
      have HUS6 := Lib.hid (show Used w6 hb u V from Blk.below hus hbx (Blk.lt hus))
      have HBEL6 := Lib.hid (hbel.trans (hbx.mono hbel.size))
      have kp := place_any HK.out x hok (HBU.out.on HBEL6.out)
      rw [hp] at kp
      have KP := Lib.hid kp
      rw [hkbe] at hkb
      have HKB := Lib.hid hkb
      have HW6 := Lib.hid hw6
      have HKBE := Lib.hid hkbe
      have hi1 : (0 : Int) ≤ (j : Int) := by omega
      have hi2 : (j : Int) < (u : Int) := by omega
      clear hra hok hx hbel hbx hkb hw6 hkbe hjU hus hp hxU kp
      go_wp2_with (first
        | refine wpList_load_mid rfl 27 (.tmp 43) rfl g (off + j * 33) rfl (kcs x) (.struct fs) HRA.out HF.out rfl HKS.out ?_
        | (refine wpList_store_row rfl 27 (.tmp 11) (.tmp 44) rfl wr.heap.size (kcs x).toArray rfl rfl 27 (kz 0) HBZ.out HKS2.out HOLD.out HONE.out ?_; rw [setRow_alloc, HW6.out, HKBE.out])
        | refine wpList_load_row rfl 27 (.tmp 11) rfl kb rfl 27 (kcs x).toArray (0, 0) (.struct fs) HKB.out HF.out rfl HKS2.out ?_)
      refine KP.out.mono ?_
      rintro e w7 ⟨rfl, hb7⟩
      have hus7 : Used w7 hb u V := Blk.below HUS6.out hb7 (Blk.lt HUS6.out)
      have HBEL7 := Lib.hid (HBEL6.out.trans (hb7.mono HBEL6.out.size))
      have hcell := hus7.at_ hpu
      rw [hVp] at hcell
      have hfz := Blk.frozen hus7 p
      have HUS8 := Lib.hid (Used.set1 hus7 p true)
      have HBEL8 := Lib.hid (HBEL7.out.grown (grownBy_cell w7 hb p (.bool true)) HBEL7.out.size (fun k e => by injection e with e; rw [HHB.out]; omega))
      have HV8 := Lib.hid (show ∀ q : Nat, setU V p true q = true → ∃ k ∈ U.take (j + 1), placeB u G (fB u G U O) k = (q : Int) from fun q hq => by
        rw [HTK.out]
        by_cases e : q = p
        · exact ⟨x, by simp, by rw [HP.out, e]⟩
        · simp only [setU, if_neg e] at hq
          obtain ⟨k, hk, hkp⟩ := hV.out q hq
          exact ⟨k, by simp [hk], hkp⟩)
      have hq1 : (0 : Int) ≤ (p : Int) := by omega
      have hq2 : (p : Int) < (u : Int) := by omega
      clear hb7 hus7 hV
      go_wp2_with fail
      go_roundw
      case rel => exact ⟨j + 1, setU V p true, by omega, by go_num, HUS8.out, HV8, HBEL8.out⟩
      case measure => simp [intOf]; omega
    · obtain rfl : u = j := by omega
      have HBEL := Lib.hid hbel
      clear hbel hus hV
      go_wp2_with fail
      refine (KF.out _).mono ?_
      rintro e w' ⟨rfl, rfl⟩
      go_wp2_with fail
      go_loopw [69] (fun i wr => ∃ (j : Nat), j ≤ m1 ∧ i = .int .i64 j ∧ Below w3.heap.size w3 wr) (fun i _ => m1 - (intOf i).toNat)
      case atStart => exact ⟨0, Nat.zero_le _, rfl, HBEL.out⟩
      case round =>
        obtain ⟨j, hj, rfl, hbel⟩ := hrel
        by_cases hlt : j < m1
        · have hjL : j < ls.length := by rw [HL1.out]; omega
          obtain ⟨g, off, rfl, hg, hra, hok⟩ := (HR1.out.below (HB3.out.trans (hbel.mono HB3.out.size))).at_ hjL
          obtain ⟨x, hx⟩ : ∃ x, ls[j] = x := ⟨_, rfl⟩
          rw [hx] at hra hok
          have HKS := Lib.hid (show (Try.prog.info? 27).map (·.size) = some (kcs x).length by rw [kcs_length hok]; exact key_size)
          have HKS2 := Lib.hid (show (Try.prog.info? 27).map (·.size) = some (kcs x).toArray.size by rw [List.size_toArray]; exact HKS.out)
          have HOLD := Lib.hid (show (kz 0).size = (kcs x).toArray.size from (show (kz 0).size = 33 from rfl).trans (by rw [List.size_toArray, kcs_length hok]))
          have HRA := Lib.hid hra
          have HBZ := Lib.hid (Blk.new wr 27 (kz 0))
          have HONE := Lib.hid (kcs_one (k := x))
          have hbx : Below wr.heap.size wr (wr.alloc (.cells (kcs x).toArray 27)) := (Below.refl wr.heap.size wr).alloc (Nat.le_refl _) (.cells (kcs x).toArray 27)
          have hkb := Blk.new wr 27 (kcs x).toArray
          obtain ⟨w6, hw6⟩ : ∃ w6, wr.alloc (.cells (kcs x).toArray 27) = w6 := ⟨_, rfl⟩
          obtain ⟨kb, hkbe⟩ : ∃ kb, wr.heap.size = kb := ⟨_, rfl⟩
          rw [hw6] at hbx hkb
          have HBEL6 := Lib.hid (hbel.trans (hbx.mono hbel.size))
          obtain ⟨r, hre⟩ : ∃ r, placeB u G (fB u G U O) x = r := ⟨_, rfl⟩
          have hrg := place_range HK.out x
          rw [hre] at hrg
          have KP := Lib.hid (show ∀ W, Below w3.heap.size w3 W → Calls Try.prog 14 #[.pointer (some ⟨mb, 0, none⟩), .agg (kcs x).toArray] W fun e w' => e = .returned (.int .i64 r) ∧ Below W.heap.size W w' from fun W hW => by
            rw [← hre]; exact place_any HK.out x hok (HBU.out.on hW))
          rw [hkbe] at hkb
          have HKB := Lib.hid hkb
          have HW6 := Lib.hid hw6
          have HKBE := Lib.hid hkbe
          have hi1 : (0 : Int) ≤ (j : Int) := by omega
          have hi2 : (j : Int) < (m1 : Int) := by omega
          have hr1 : decide (r < -1) = false := decide_eq_false (by omega)
          have hr2 : decide ((u : Int) ≤ r) = false := decide_eq_false (by omega)
          clear hra hok hx hbel hbx hkb hw6 hkbe hjL hre hrg
          go_wp2_with (first
            | refine wpList_load_mid rfl 27 (.tmp 71) rfl g (off + j * 33) rfl (kcs x) (.struct fs) HRA.out HF.out rfl HKS.out ?_
            | (refine wpList_store_row rfl 27 (.tmp 14) (.tmp 72) rfl wr.heap.size (kcs x).toArray rfl rfl 27 (kz 0) HBZ.out HKS2.out HOLD.out HONE.out ?_; rw [setRow_alloc, HW6.out, HKBE.out])
            | refine wpList_load_row rfl 27 (.tmp 14) rfl kb rfl 27 (kcs x).toArray (0, 0) (.struct fs) HKB.out HF.out rfl HKS2.out ?_)
          refine (KP.out _ HBEL6.out).mono ?_
          rintro e w7 ⟨rfl, hb7⟩
          have HKB7 := Lib.hid (HKB.out.below hb7 HKB.out.lt)
          have HBEL7 := Lib.hid (HBEL6.out.trans (hb7.mono HBEL6.out.size))
          clear hb7
          go_wp2_with (refine wpList_load_want rfl 27 (.tmp 14) rfl kb rfl 27 (kcs x).toArray (0, 0) (.struct fs) HKB7.out HF.out rfl HKS2.out ?_)
          refine (KP.out _ HBEL7.out).mono ?_
          rintro e w8 ⟨rfl, hb8⟩
          have HBEL8 := Lib.hid (HBEL7.out.trans (hb8.mono HBEL7.out.size))
          clear hb8
          go_wp2_with fail
          go_roundw
          case rel => exact ⟨j + 1, by omega, by go_num, HBEL8.out⟩
          case measure => simp [intOf]; omega
        · obtain rfl : m1 = j := by omega
          have HBX := Lib.hid (HB3.out.trans (hbel.mono HB3.out.size))
          clear hbel
          go_wp2_with fail
          go_ret
          exact ⟨rfl, HBX.out⟩
theorem walk (A0 : Option Addr) (c0 : Nat) (z0 : List KeyT) (A1 : Option Addr) (c1 : Nat) (z1 : List KeyT) (w : World) (hr0 : RdK w w.heap.size A0 z0) (hc0 : z0.length ≤ c0) (hm0 : c0 ≤ maxLen) (_ : True) (hr1 : RdK w w.heap.size A1 z1) (hc1 : z1.length ≤ c1) (hm1 : c1 ≤ maxLen) (_ : True) :
    Calls Try.prog 5 #[.slice A0 z0.length c0, .slice A1 z1.length c1] w fun e w' => e = .returned (.bool true) ∧ Below w.heap.size w w' :=
  once_walk A0 z0 _ c0 _ rfl rfl hc0 A1 z1 _ c1 _ rfl rfl hc1 w hr0 hr1

set_option maxRecDepth 100000 in
theorem lifted (os : Os) (started : os.Started) (H : Type) (enc : TypeId × Value → H) :
    ReturnsInHanded {} Try.checked os 5 .any (Rows.perfectOnceSpec.pre6 enc Try.prog Try.f5 Rows.perfectOnceRow.domain false) (Rows.perfectOnceSpec.post enc Try.prog Try.f5 false true false false) := by
  refine returnsInHanded_of_change (C := Try.checked) own started (by kernel_rfl) Try.func5
    (ChangeSpec.witness6 (enc := enc) (C := Try.checked) false ⟨#[], #[.slice none 0 0, .slice none 0 0], []⟩ 8 (by kernel_rfl) (by kernel_rfl) (by kernel_rfl) (by kernel_rfl)) ?_
  intro W base args ds gs before hval0 hW hcnd _
  have hval : ∀ (j : Nat) t v, Try.f5.params[j]? = some t → args[j]? = some v → Value.okWide Try.prog W .any base t v := hval0
  have hW' := hW
  obtain ⟨p, q, hA0, hV, rfl, hfz, hnd⟩ := hW
  have hA : DataW.TrodAll enc Try.prog W 0 (fun _ => true) true Try.f5.params.toList args.toList ds p := hA0
  rw [Try.params5] at hA hval
  obtain ⟨v0, vs0, d0, ds0, p0, q0, hargs, rfl, rfl, h0, r0⟩ := trodAll_cons hA
  obtain ⟨v1, vs1, d1, ds1, p1, q1, rfl, rfl, rfl, h1, r1⟩ := trodAll_cons r0
  obtain ⟨rfl, rfl, rfl⟩ := trodAll_nil r1
  obtain rfl : args = #[v0, v1] := by cases args; simp_all
  obtain ⟨rfl, rfl⟩ := trodVars_none hV
  obtain ⟨A0, n0, c0, rfl⟩ := okWide_slice Try.underlying31 (hval 0 31 v0 rfl rfl)
  have k0 := h0
  have lt0 : ∀ x ∈ p0, x.block < W.heap.size := by obtain ⟨m, hm⟩ := k0; exact DataW.trod_lt m _ _ _ hm
  obtain ⟨fuel0, hf0⟩ := h0
  obtain ⟨z0, rfl, hr0, hc0, hm0, hw0⟩ := open_keys_arg hf0
  obtain ⟨A1, n1, c1, rfl⟩ := okWide_slice Try.underlying31 (hval 1 31 v1 rfl rfl)
  have k1 := h1
  have lt1 : ∀ x ∈ p1, x.block < W.heap.size := by obtain ⟨m, hm⟩ := k1; exact DataW.trod_lt m _ _ _ hm
  obtain ⟨fuel1, hf1⟩ := h1
  obtain ⟨z1, rfl, hr1, hc1, hm1, hw1⟩ := open_keys_arg hf1
  clear hA0 hval0
  simp only [List.append_nil] at hW'
  refine (walk A0 c0 z0 A1 c1 z1 W hr0 hc0 hm0 hw0 hr1 hc1 hm1 hw1).mono fun e W' ⟨he, bel⟩ => ?_
  subst he
  exact ⟨_, rfl, _, _, _, [], _, [], hW', trodAll_mk1 (shut_bool Try.underlying4 _), (trodAll_cons_mk (Below.trod laidOut (by kernel_rfl) (of_decide_eq_true (by kernel_rfl)) k0 bel lt0) (trodAll_cons_mk (Below.trod laidOut (by kernel_rfl) (of_decide_eq_true (by kernel_rfl)) k1 bel lt1) trodAll_mk0)), rfl, bel.frame _, fun h => by cases h⟩

theorem over : Rows.perfectOnceRow.holds Try.pinned (OpenSpec.ofChange Rows.perfectOnceSpec) :=
  OpenClaim.holds_of_wide 5 Try.f5 rfl rfl rfl rfl rfl rfl rfl ⟨rfl, rfl, rfl, rfl, rfl⟩ rfl rfl rfl rfl rfl (by kernel_rfl) Try.func5 (by kernel_rfl)
    (of_decide_eq_true (by kernel_rfl)) (by unfold Func.isWrapper; first | (rw [if_pos (by decide +kernel)]; kernel_rfl) | (rw [if_neg (by decide +kernel)]; exact ⟨rfl, rfl⟩))
    (fun os started H enc _ => lifted os started H enc)

theorem proved : Rows.PerfectOnceSaid := over
#print axioms proved
end Go.Proofs.Ytacijjioaanlgaa.perfectOnce
