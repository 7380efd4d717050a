/-
  What is sealed is opened again and comes to one and the same sum, and what is opened was sealed so; for every two slices of bytes (of more than 100,000 bytes nothing but the examples is said).
-/
import Derived.Test.YteemebecllhldaaRows
import Derived.Test.YteemebecllhldaaOpen
import Derived.Test.YteemebecllhldaaCrcKit
import Derived.Test.YteemebecllhldaaArgB
import Derived.WalkKit
import Derived.ProofKit
import Derived.OpenShut
import Derived.ShutString
import Derived.ChangeOld
import Derived.Below
namespace Go.Proofs.Yteemebecllhldaa.crcBack
open Go.ChangeShapes Go.WideShapes Go.ChangeAt Go.RowKit
open Go.ChangeMaps (open_string shut_string)
set_option linter.unusedVariables false

theorem own : ownKnob Try.prog.godebug = none := by kernel_rfl
theorem laidOut : laidOutB Try.prog = true := by kernel_rfl

attribute [local go_sem ↓] Go.wp_at_zero Go.wp_at_succ
set_option maxHeartbeats 1000000 in
theorem back_long (A C : Option Addr) (ca cc n m : Nat) (w : World) (h : 100000 < n ∨ 100000 < m) :
    Calls Try.prog 7 #[.slice A n ca, .slice C m cc] w fun e w' => e = .returned (.bool true) ∧ Below w.heap.size w w' := by
  by_cases hn : 100000 < n
  · have h1 : (100000 : Int) < (n : Int) := by omega
    clear h
    go_enter Try.func7, Try.ntmps7
    go_wp2_with fail
    refine (shown_any _).mono ?_
    rintro e w1 ⟨rfl, hb1⟩
    go_wp2_with fail
    go_ret
    exact ⟨rfl, hb1⟩
  · have h1 : ¬ (100000 : Int) < (n : Int) := by omega
    have h2 : (100000 : Int) < (m : Int) := by omega
    clear h
    go_enter Try.func7, Try.ntmps7
    go_wp2_with fail
    refine (shown_any _).mono ?_
    rintro e w1 ⟨rfl, hb1⟩
    go_wp2_with fail
    go_ret
    exact ⟨rfl, hb1⟩
set_option maxHeartbeats 1000000 in
theorem back_walk (A C : Option Addr) (ca cc n m : Nat) (a c : List UInt8) (w : World) (ha : a.length = n) (hc : c.length = m) (hn : n ≤ 100000) (hm : m ≤ 100000) (hcc : m ≤ cc) (hmc : cc ≤ maxLen) (hra : Rd w w.heap.size A a) (hrc : Rd w w.heap.size C c) :
    Calls Try.prog 7 #[.slice A n ca, .slice C m cc] w fun e w' => e = .returned (.bool true) ∧ Below w.heap.size w w' := by
  have h1 : ¬ (100000 : Int) < (n : Int) := by omega
  have h2 : ¬ (100000 : Int) < (m : Int) := by omega
  have CS := Lib.hid (seal_from w A a ca n ha hra (by omega))
  have SA := Lib.hid (hra.str n ca ha)
  have SC := Lib.hid (hrc.str m cc hc)
  have HA := Lib.hid ha
  have HC := Lib.hid hc
  clear ha hc
  by_cases hs : ∃ z, c = sealOf z
  · obtain ⟨z, hz⟩ := hs
    have hzl : z.length + 4 = m := by have := HC.out; rw [hz, sealOf_length] at this; exact this
    rw [hz] at hrc SC
    have HZ := Lib.hid hz
    clear hz
    obtain ⟨p, hp⟩ : ∃ p, p = z.length := ⟨_, rfl⟩
    have CC := Lib.hid (open_yes w C z cc p m (by omega) hp.symm hcc hmc hrc (by omega))
    have HP := Lib.hid hp
    have HPM := Lib.hid (show p + 4 = m by omega)
    clear hp hzl
    go_enter Try.func7, Try.ntmps7
    go_wp2_with fail
    refine (shown_any _).mono ?_
    rintro e w1 ⟨rfl, hb1⟩
    go_wp2_with fail
    refine (CS.out _ hb1).mono ?_
    rintro e w2 ⟨A2, c2, rfl, ho2, hb2, _⟩
    have hr2 := ho2.rd
    have hc2 := ho2.cap
    have CO := Lib.hid (open_yes w2 A2 a c2 n (n + 4) rfl HA.out hc2.1 hc2.2 hr2 (by omega))
    have SU := Lib.hid (sum_lit_from w2 A2 (sealOf a) c2 (n + 4) 955982468 (by rw [sealOf_length, HA.out]) hr2 (by rw [sealOf_length, HA.out]; omega) (by rw [show sumOf (sealOf a) = _ from sealed_sum a]; rfl))
    clear hr2 hc2 ho2 hb1
    go_wp2_with fail
    refine (CO.out _ (Below.refl _ _)).mono ?_
    rintro e w3 ⟨A3, c3, rfl, ho3, hb3, _⟩
    have S3 := Lib.hid (ho3.rd.str n c3 ho3.1)
    have HB23 := Lib.hid hb3
    have hb3 := hb2.trans (hb3.mono hb2.size)
    clear ho3 hb2
    go_wp2_with fail
    refine (CC.out _ hb3).mono ?_
    rintro e w4 ⟨A4, c4, rfl, ho4, hb4, hb34⟩
    have CZ := Lib.hid (seal_from' w4 A4 z c4 p m HPM.out HP.out.symm ho4.rd (by rw [← HP.out]; have := HPM.out; omega))
    have HB34 := Lib.hid hb34
    have HB4 := Lib.hid hb4
    have hb0 := below_drew (Below.refl w4.heap.size w4)
    have hbw := below_drew hb4
    clear ho4 hb3 hb4 hb34
    go_wp2_with fail
    first | (go_region_held (fun w' => (convert 23 9 (.slice C m cc)).run Try.prog w' = .ok (.string ⟨(sealOf z).toArray⟩) w') (exact SC.out _ (by assumption)) (first
        | (go_at_call 15; (with_reducible refine (CZ.out _ (by assumption)).mono ?_); rintro e w5 ⟨A5, c5, rfl, ho5, hb5, _⟩; have s5 := ho5.str; have hx5 := HB4.out.trans (hb5.mono HB4.out.size)))) | fail
    have hb35 := HB34.out.trans (hb5.mono HB34.out.size)
    have sa5 := SA.out _ hx5
    have s35 := S3.out _ hb35
    have HB25 := Lib.hid (HB23.out.trans (hb35.mono HB23.out.size))
    clear hb35
    go_wp2_with fail
    refine (SU.out _ HB25.out).mono ?_
    rintro e w6 ⟨rfl, _, hb6⟩
    go_wp2_with fail
    go_ret
    exact ⟨rfl, hx5.trans (hb6.mono hx5.size)⟩
  · have CN := Lib.hid (open_no w C c cc m HC.out hcc hmc hrc (by omega) (fun z e => hs ⟨z, e⟩))
    clear hs
    go_enter Try.func7, Try.ntmps7
    go_wp2_with fail
    refine (shown_any _).mono ?_
    rintro e w1 ⟨rfl, hb1⟩
    go_wp2_with fail
    refine (CS.out _ hb1).mono ?_
    rintro e w2 ⟨A2, c2, rfl, ho2, hb2, _⟩
    have hr2 := ho2.rd
    have hc2 := ho2.cap
    have CO := Lib.hid (open_yes w2 A2 a c2 n (n + 4) rfl HA.out hc2.1 hc2.2 hr2 (by omega))
    have SU := Lib.hid (sum_lit_from w2 A2 (sealOf a) c2 (n + 4) 955982468 (by rw [sealOf_length, HA.out]) hr2 (by rw [sealOf_length, HA.out]; omega) (by rw [show sumOf (sealOf a) = _ from sealed_sum a]; rfl))
    clear hr2 hc2 ho2 hb1
    go_wp2_with fail
    refine (CO.out _ (Below.refl _ _)).mono ?_
    rintro e w3 ⟨A3, c3, rfl, ho3, hb3, _⟩
    have S3 := Lib.hid (ho3.rd.str n c3 ho3.1)
    have HB23 := Lib.hid hb3
    have hb3 := hb2.trans (hb3.mono hb2.size)
    clear ho3 hb2
    go_wp2_with fail
    refine (CN.out _ hb3).mono ?_
    rintro e w4 ⟨rfl, hb4, hb34⟩
    have HB34 := Lib.hid hb34
    have HB4 := Lib.hid hb4
    clear hb3 hb4 hb34
    go_wp2_with fail
    go_quiet (fail)
    have hx5 := below_drewN HB4.out nq
    have hb35 := below_drewN HB34.out nq
    generalize w4.drewN nq = w5 at *
    have sa5 := SA.out _ hx5
    have s35 := S3.out _ hb35
    have HB25 := Lib.hid (HB23.out.trans (hb35.mono HB23.out.size))
    clear hb35
    go_wp2_with fail
    refine (SU.out _ HB25.out).mono ?_
    rintro e w6 ⟨rfl, _, hb6⟩
    go_wp2_with fail
    go_ret
    exact ⟨rfl, hx5.trans (hb6.mono hx5.size)⟩
theorem walk (A0 : Option Addr) (c0 : Nat) (z0 : List Int) (A1 : Option Addr) (c1 : Nat) (z1 : List Int) (w : World) 
    (hr0 : RdV w w.heap.size A0 (z0.map (Value.int .u8))) (hc0 : z0.length ≤ c0) (hm0 : c0 ≤ maxLen) (hw0 : ∀ n ∈ z0, (Lit.int .u8 n).wf = true)
    (hr1 : RdV w w.heap.size A1 (z1.map (Value.int .u8))) (hc1 : z1.length ≤ c1) (hm1 : c1 ≤ maxLen) (hw1 : ∀ n ∈ z1, (Lit.int .u8 n).wf = true) :
    Calls Try.prog 7 #[.slice A0 z0.length c0, .slice A1 z1.length c1] w fun e w' => e = .returned (.bool true) ∧ Below w.heap.size w w' := by
  by_cases h : 100000 < z0.length ∨ 100000 < z1.length
  · exact back_long _ _ _ _ _ _ w h
  · exact back_walk A0 A1 c0 c1 _ _ _ _ w (bytesOf_length z0) (bytesOf_length z1) (by omega) (by omega) hc1 hm1 (rd_bytes hr0 hw0) (rd_bytes hr1 hw1)

set_option maxRecDepth 100000 in
theorem lifted (os : Os) (started : os.Started) (H : Type) (enc : TypeId × Value → H) :
    ReturnsInHanded {} Try.checked os 7 .any (Rows.crcBackSpec.pre6 enc Try.prog Try.f7 Rows.crcBackRow.domain false) (Rows.crcBackSpec.post enc Try.prog Try.f7 false true false false) := by
  refine returnsInHanded_of_change (C := Try.checked) own started (by kernel_rfl) Try.func7
    (ChangeSpec.witness6 (enc := enc) (C := Try.checked) false ⟨#[], #[.slice none 0 0, .slice none 0 0], []⟩ 8 (by kernel_rfl) (by kernel_rfl) (by kernel_rfl) (by kernel_rfl)) ?_
  intro W base args ds gs before hval0 hW hcnd _
  have hval : ∀ (j : Nat) t v, Try.f7.params[j]? = some t → args[j]? = some v → Value.okWide Try.prog W .any base t v := hval0
  have hW' := hW
  obtain ⟨p, q, hA0, hV, rfl, hfz, hnd⟩ := hW
  have hA : DataW.TrodAll enc Try.prog W 0 (fun _ => true) true Try.f7.params.toList args.toList ds p := hA0
  rw [Try.params7] at hA hval
  obtain ⟨v0, vs0, d0, ds0, p0, q0, hargs, rfl, rfl, h0, r0⟩ := trodAll_cons hA
  obtain ⟨v1, vs1, d1, ds1, p1, q1, rfl, rfl, rfl, h1, r1⟩ := trodAll_cons r0
  obtain ⟨rfl, rfl, rfl⟩ := trodAll_nil r1
  obtain rfl : args = #[v0, v1] := by cases args; simp_all
  obtain ⟨rfl, rfl⟩ := trodVars_none hV
  obtain ⟨A0, n0, c0, rfl⟩ := okWide_slice Try.underlying23 (hval 0 23 v0 rfl rfl)
  have k0 := h0
  have lt0 : ∀ x ∈ p0, x.block < W.heap.size := by obtain ⟨m, hm⟩ := k0; exact DataW.trod_lt m _ _ _ hm
  obtain ⟨fuel0, hf0⟩ := h0
  obtain ⟨z0, rfl, hr0, hc0, hm0, hw0⟩ := open_ints_arg Try.underlying23 Try.underlying5 (by kernel_rfl) hf0
  obtain ⟨A1, n1, c1, rfl⟩ := okWide_slice Try.underlying23 (hval 1 23 v1 rfl rfl)
  have k1 := h1
  have lt1 : ∀ x ∈ p1, x.block < W.heap.size := by obtain ⟨m, hm⟩ := k1; exact DataW.trod_lt m _ _ _ hm
  obtain ⟨fuel1, hf1⟩ := h1
  obtain ⟨z1, rfl, hr1, hc1, hm1, hw1⟩ := open_ints_arg Try.underlying23 Try.underlying5 (by kernel_rfl) hf1
  clear hA0 hval0
  simp only [List.append_nil] at hW'
  refine (walk A0 c0 z0 A1 c1 z1 W hr0 hc0 hm0 hw0 hr1 hc1 hm1 hw1).mono fun e W' ⟨he, bel⟩ => ?_
  subst he
  exact ⟨_, rfl, _, _, _, [], _, [], hW', trodAll_mk1 (shut_bool Try.underlying4 _), (trodAll_cons_mk (Below.trod laidOut (by kernel_rfl) (of_decide_eq_true (by kernel_rfl)) k0 bel lt0) (trodAll_cons_mk (Below.trod laidOut (by kernel_rfl) (of_decide_eq_true (by kernel_rfl)) k1 bel lt1) trodAll_mk0)), rfl, bel.frame _, fun h => by cases h⟩

theorem over : Rows.crcBackRow.holds Try.pinned (OpenSpec.ofChange Rows.crcBackSpec) :=
  OpenClaim.holds_of_wide 7 Try.f7 rfl rfl rfl rfl rfl rfl rfl ⟨rfl, rfl, rfl, rfl, rfl⟩ rfl rfl rfl rfl rfl (by kernel_rfl) Try.func7 (by kernel_rfl)
    (of_decide_eq_true (by kernel_rfl)) (by unfold Func.isWrapper; first | (rw [if_pos (by decide +kernel)]; kernel_rfl) | (rw [if_neg (by decide +kernel)]; exact ⟨rfl, rfl⟩))
    (fun os started H enc _ => lifted os started H enc)

theorem proved : Rows.CrcBackSaid := over
#print axioms proved
end Go.Proofs.Yteemebecllhldaa.crcBack
