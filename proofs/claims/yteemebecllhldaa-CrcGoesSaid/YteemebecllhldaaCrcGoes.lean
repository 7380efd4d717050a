/-
  The sum of bytes is that of their first ones, gone on with the rest, at every cut; for every slice of bytes and every number (of more than 100,000 bytes nothing but the examples is said).
-/
import Derived.Test.YteemebecllhldaaRows
import Derived.Test.YteemebecllhldaaOpen
import Derived.Test.YteemebecllhldaaCrcShown
import Derived.Test.YteemebecllhldaaArgB
import Derived.Test.YteemebecllhldaaCrcHead
import Derived.WalkKit
import Derived.ProofKit
import Derived.OpenShut
import Derived.ShutString
import Derived.ChangeOld
import Derived.Below
namespace Go.Proofs.Yteemebecllhldaa.crcGoes
open Go.ChangeShapes Go.WideShapes Go.ChangeAt Go.RowKit
open Go.ChangeMaps (open_string shut_string)
set_option linter.unusedVariables false

theorem own : ownKnob Try.prog.godebug = none := by kernel_rfl
theorem laidOut : laidOutB Try.prog = true := by kernel_rfl

attribute [local go_sem ↓] Go.wp_at_zero Go.wp_at_succ
set_option maxHeartbeats 1000000 in
theorem goes_walk (A : Option Addr) (c n cut : Nat) (l : List UInt8) (w : World) (hl : l.length = n) (hc : n ≤ c) (hcm : c ≤ maxLen) (hcut : (cut : Int) ≤ 18446744073709551615) (hr : Rd w w.heap.size A l) :
    Calls Try.prog 5 #[.slice A n c, .int .u64 cut] w fun e w' => e = .returned (.bool true) ∧ Below w.heap.size w w' := by
  unfold maxLen at hcm
  by_cases hlong : 100000 < n
  · have h1 : (100000 : Int) < (n : Int) := by omega
    go_enter Try.func5, Try.ntmps5
    go_wp2_with fail
    refine (shown_any _).mono ?_
    rintro e w1 ⟨rfl, hb1⟩
    go_wp2_with fail
    go_ret
    exact ⟨rfl, hb1⟩
  · have h1 : ¬ (100000 : Int) < (n : Int) := by omega
    have hcut0 : (cut : Int) % ((n : Int) + 1) = ((cut % (n + 1) : Nat) : Int) := by rw [Int.natCast_emod, Int.natCast_add]; rfl
    have hlt2 : cut % (n + 1) < n + 1 := Nat.mod_lt _ (by omega)
    have hne0 : ((n : Int) + 1 == 0) = false := by simp; omega
    generalize cut % (n + 1) = k at hcut0 hlt2
    have hk1 : (k : Int) ≤ (n : Int) := by omega
    have hk2 : (k : Int) ≤ (c : Int) := by omega
    have hk3 : (n : Int) ≤ (c : Int) := by omega
    go_enter Try.func5, Try.ntmps5
    go_wp2_with fail
    refine (shown_any _).mono ?_
    rintro e w1 ⟨rfl, hb1⟩
    go_wp2_with fail
    have hlk : (l.take k).length = k := by rw [List.length_take]; omega
    have hld : (l.drop k).length = n - k := by rw [List.length_drop]; omega
    have C1 := Lib.hid (sum_from w A (l.take k) c k hlk (hr.take k) (by omega))
    have C3 := Lib.hid (sum_from w A l c n hl hr (by omega))
    have hd := hr.drop (k := k) (c := c) (by omega)
    have hgo : moreOf (sumOf (l.take k)) (l.drop k) = sumOf l := by rw [sum_append, List.take_append_drop]
    have hb1 := below_drew hb1
    obtain ⟨A2, hA⟩ : ∃ A2, (if c = k then A else A.map (·.add k)) = A2 := ⟨_, rfl⟩
    rw [hA] at hd
    have C2 := Lib.hid (more_from w (sumOf (l.take k)) A2 (l.drop k) (c - k) (n - k) (sumOf l) hgo hld hd (by omega))
    clear hd hgo hlk hld hl hr hcut hcut0 hlt2 hne0
    go_region_held3 (fun _ => True) (exact trivial) (first
      | (go_at_call 10; (with_reducible refine (C1.out _ (by assumption)).mono ?_); rintro e w2 ⟨rfl, hb2⟩)
      | (go_at_call 12; (with_reducible refine (C2.out _ (by assumption)).mono ?_); rintro e w3 ⟨rfl, hb3⟩)
      | (go_at_call 10; (with_reducible refine (C3.out _ (by assumption)).mono ?_); rintro e w4 ⟨rfl, hb4⟩))
    go_wp2_with fail
    go_ret
    exact ⟨rfl, hb4⟩
theorem walk (A0 : Option Addr) (c0 : Nat) (z0 : List Int) (a1 : Int) (w : World) 
    (hr0 : RdV w w.heap.size A0 (z0.map (Value.int .u8))) (hc0 : z0.length ≤ c0) (hm0 : c0 ≤ maxLen) (hw0 : ∀ n ∈ z0, (Lit.int .u8 n).wf = true) (w1 : (Lit.int .u64 a1).wf = true) :
    Calls Try.prog 5 #[.slice A0 z0.length c0, .int .u64 a1] w fun e w' => e = .returned (.bool true) ∧ Below w.heap.size w w' := by
  have b := bounds_u64 w1
  obtain ⟨cut, rfl⟩ := Int.eq_ofNat_of_zero_le b.1
  exact goes_walk A0 c0 z0.length cut (bytesOf z0) w (bytesOf_length z0) hc0 hm0 (by omega) (rd_bytes hr0 hw0)

set_option maxRecDepth 100000 in
theorem lifted (os : Os) (started : os.Started) (H : Type) (enc : TypeId × Value → H) :
    ReturnsInHanded {} Try.checked os 5 .any (Rows.crcGoesSpec.pre6 enc Try.prog Try.f5 Rows.crcGoesRow.domain false) (Rows.crcGoesSpec.post enc Try.prog Try.f5 false true false false) := by
  refine returnsInHanded_of_change (C := Try.checked) own started (by kernel_rfl) Try.func5
    (ChangeSpec.witness6 (enc := enc) (C := Try.checked) false ⟨#[], #[.slice none 0 0, .int .u64 0], []⟩ 8 (by kernel_rfl) (by kernel_rfl) (by kernel_rfl) (by kernel_rfl)) ?_
  intro W base args ds gs before hval0 hW hcnd _
  have hval : ∀ (j : Nat) t v, Try.f5.params[j]? = some t → args[j]? = some v → Value.okWide Try.prog W .any base t v := hval0
  have hW' := hW
  obtain ⟨p, q, hA0, hV, rfl, hfz, hnd⟩ := hW
  have hA : DataW.TrodAll enc Try.prog W 0 (fun _ => true) true Try.f5.params.toList args.toList ds p := hA0
  rw [Try.params5] at hA hval
  obtain ⟨v0, vs0, d0, ds0, p0, q0, hargs, rfl, rfl, h0, r0⟩ := trodAll_cons hA
  obtain ⟨v1, vs1, d1, ds1, p1, q1, rfl, rfl, rfl, h1, r1⟩ := trodAll_cons r0
  obtain ⟨rfl, rfl, rfl⟩ := trodAll_nil r1
  obtain rfl : args = #[v0, v1] := by cases args; simp_all
  obtain ⟨rfl, rfl⟩ := trodVars_none hV
  obtain ⟨A0, n0, c0, rfl⟩ := okWide_slice Try.underlying23 (hval 0 23 v0 rfl rfl)
  have k0 := h0
  have lt0 : ∀ x ∈ p0, x.block < W.heap.size := by obtain ⟨m, hm⟩ := k0; exact DataW.trod_lt m _ _ _ hm
  obtain ⟨fuel0, hf0⟩ := h0
  obtain ⟨z0, rfl, hr0, hc0, hm0, hw0⟩ := open_ints_arg Try.underlying23 Try.underlying5 (by kernel_rfl) hf0
  obtain ⟨a1, rfl, rfl, rfl, w1⟩ := open_int Try.underlying32 (hval 1 32 v1 rfl rfl) h1
  clear hA0 hval0
  simp only [List.append_nil] at hW'
  refine (walk A0 c0 z0 a1 W hr0 hc0 hm0 hw0 w1).mono fun e W' ⟨he, bel⟩ => ?_
  subst he
  exact ⟨_, rfl, _, _, _, [], _, [], hW', trodAll_mk1 (shut_bool Try.underlying4 _), (trodAll_cons_mk (Below.trod laidOut (by kernel_rfl) (of_decide_eq_true (by kernel_rfl)) k0 bel lt0) (trodAll_cons_mk (shut_int Try.underlying32 w1) trodAll_mk0)), rfl, bel.frame _, fun h => by cases h⟩

theorem over : Rows.crcGoesRow.holds Try.pinned (OpenSpec.ofChange Rows.crcGoesSpec) :=
  OpenClaim.holds_of_wide 5 Try.f5 rfl rfl rfl rfl rfl rfl rfl ⟨rfl, rfl, rfl, rfl, rfl⟩ rfl rfl rfl rfl rfl (by kernel_rfl) Try.func5 (by kernel_rfl)
    (of_decide_eq_true (by kernel_rfl)) (by unfold Func.isWrapper; first | (rw [if_pos (by decide +kernel)]; kernel_rfl) | (rw [if_neg (by decide +kernel)]; exact ⟨rfl, rfl⟩))
    (fun os started H enc _ => lifted os started H enc)

theorem proved : Rows.CrcGoesSaid := over
#print axioms proved
end Go.Proofs.Yteemebecllhldaa.crcGoes
