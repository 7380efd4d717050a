/-
  Bytes are sealed, and opened, as the document's rule says; for every slice of bytes (of more than 100,000 bytes nothing but the examples is said).
-/
import Derived.Test.YteemebecllhldaaRows
import Derived.Test.YteemebecllhldaaOpen
import Derived.Test.YteemebecllhldaaRefSeal
import Derived.Test.YteemebecllhldaaArgB
import Derived.WalkKit
import Derived.ProofKit
import Derived.OpenShut
import Derived.ShutString
import Derived.ChangeOld
import Derived.Below
namespace Go.Proofs.Yteemebecllhldaa.crcSeals
open Go.ChangeShapes Go.WideShapes Go.ChangeAt Go.RowKit
open Go.ChangeMaps (open_string shut_string)
set_option linter.unusedVariables false

theorem own : ownKnob Try.prog.godebug = none := by kernel_rfl
theorem laidOut : laidOutB Try.prog = true := by kernel_rfl

attribute [local go_sem ↓] Go.wp_at_zero Go.wp_at_succ
set_option maxHeartbeats 1000000 in
theorem seals_long (A : Option Addr) (ca n : Nat) (w : World) (h : 100000 < n) :
    Calls Try.prog 4 #[.slice A n ca] w fun e w' => e = .returned (.bool true) ∧ Below w.heap.size w w' := by
  have h1 : (100000 : Int) < (n : Int) := by omega
  clear h
  go_enter Try.func4, Try.ntmps4
  go_wp2_with fail
  refine (shown_any _).mono ?_
  rintro e w1 ⟨rfl, hb1⟩
  go_wp2_with fail
  go_ret
  exact ⟨rfl, hb1⟩

/-- Both Opens together: what they tell, as the law's walk wants it. -/
theorem both_open (A : Option Addr) (ca n : Nat) (a : List UInt8) (w : World) (ha : a.length = n) (hn : n ≤ 100000) (hca : n ≤ ca) (hma : ca ≤ maxLen) (hra : Rd w w.heap.size A a) :
    ∃ (X Y : World → Option Addr → Nat → Nat → Prop) (ok : Bool) (L : List UInt8),
      (∀ W, Below w.heap.size w W → Calls Try.prog 13 #[.slice A n ca] W fun e w' => ∃ A' k' c', e = .returned (.tuple #[.slice A' k' c', .bool ok]) ∧ X w' A' k' c' ∧ Below w.heap.size w w' ∧ Below W.heap.size W w') ∧
      (∀ W, Below w.heap.size w W → Calls Try.prog 14 #[.slice A n ca] W fun e w' => ∃ A' k' c', e = .returned (.tuple #[.slice A' k' c', .bool ok]) ∧ Y w' A' k' c' ∧ Below w.heap.size w w' ∧ Below W.heap.size W w') ∧
      (∀ w' A' k' c', X w' A' k' c' → ∀ W, Below w'.heap.size w' W → (convert 23 9 (.slice A' k' c')).run Try.prog W = .ok (.string ⟨L.toArray⟩) W) ∧
      (∀ w' A' k' c', Y w' A' k' c' → ∀ W, Below w'.heap.size w' W → (convert 23 9 (.slice A' k' c')).run Try.prog W = .ok (.string ⟨L.toArray⟩) W) := by
  by_cases h4 : n < 4
  · refine ⟨fun _ A' k' _ => A' = none ∧ k' = 0, fun _ A' k' _ => A' = none ∧ k' = 0, false, [], fun W hb => ?_, fun W hb => ?_, ?_, ?_⟩
    · exact (open_short A n ca W h4).mono fun e w' ⟨he, hw⟩ => ⟨none, 0, 0, he, ⟨rfl, rfl⟩, by rw [← hw]; exact hb, by rw [← hw]; exact Below.refl _ _⟩
    · exact (refopen_short A n ca W h4).mono fun e w' ⟨he, hw⟩ => ⟨none, 0, 0, he, ⟨rfl, rfl⟩, hb.trans (hw.mono hb.size), hw⟩
    · rintro w' A' k' c' ⟨rfl, rfl⟩ W hb; exact (Rd.nil w' w'.heap.size none).str 0 c' rfl W hb
    · rintro w' A' k' c' ⟨rfl, rfl⟩ W hb; exact (Rd.nil w' w'.heap.size none).str 0 c' rfl W hb
  · obtain ⟨p, rfl⟩ : ∃ p, n = p + 4 := ⟨n - 4, by omega⟩
    have hpl : (a.take p).length = p := by rw [List.length_take]; omega
    by_cases he : a = sealOf (a.take p)
    · refine ⟨fun w' A' k' c' => k' = p ∧ Rd w' w'.heap.size A' (a.take p), fun w' A' k' c' => k' = p ∧ Rd w' w'.heap.size A' (a.take p), true, a.take p, fun W hb => ?_, fun W hb => ?_, ?_, ?_⟩
      · refine (open_yes w A (a.take p) ca p (p + 4) rfl hpl hca hma (by rw [← he]; exact hra) (by omega) W hb).mono fun e w' ⟨A', c', h1, h2, h3, h4⟩ => ?_
        exact ⟨A', p, c', h1, ⟨rfl, h2.rd⟩, h3, h4⟩
      · refine (refopen_long A p ca a W ha hca hma ((hra.below hb).more hb.size) (by omega)).mono fun e w' ⟨h1, _, h3⟩ => ?_
        exact ⟨A, p, ca, h1 he, ⟨rfl, (((hra.below hb).below (h3.mono hb.size)).more (Nat.le_trans hb.size h3.size)).take p⟩, hb.trans (h3.mono hb.size), h3⟩
      · rintro w' A' k' c' ⟨rfl, hr⟩ W hb; exact hr.str k' c' hpl W hb
      · rintro w' A' k' c' ⟨rfl, hr⟩ W hb; exact hr.str k' c' hpl W hb
    · have hno : ∀ m, a ≠ sealOf m := by
        intro m e
        apply he
        have hm : m.length = p := by have := congrArg List.length e; rw [sealOf_length, ha] at this; omega
        have e2 : a.take p = m := by rw [e, ← hm]; exact sealOf_take m
        rw [e2]; exact e
      refine ⟨fun _ A' k' _ => A' = none ∧ k' = 0, fun _ A' k' _ => A' = none ∧ k' = 0, false, [], fun W hb => ?_, fun W hb => ?_, ?_, ?_⟩
      · exact (open_no w A a ca (p + 4) ha hca hma hra (by omega) hno W hb).mono fun e w' ⟨h1, h2, h3⟩ => ⟨none, 0, 0, h1, ⟨rfl, rfl⟩, h2, h3⟩
      · refine (refopen_long A p ca a W ha hca hma ((hra.below hb).more hb.size) (by omega)).mono fun e w' ⟨_, h1, h3⟩ => ?_
        exact ⟨none, 0, 0, h1 he, ⟨rfl, rfl⟩, hb.trans (h3.mono hb.size), h3⟩
      · rintro w' A' k' c' ⟨rfl, rfl⟩ W hb; exact (Rd.nil w' w'.heap.size none).str 0 c' rfl W hb
      · rintro w' A' k' c' ⟨rfl, rfl⟩ W hb; exact (Rd.nil w' w'.heap.size none).str 0 c' rfl W hb

set_option maxHeartbeats 2000000 in
theorem seals_walk (A : Option Addr) (ca n : Nat) (a : List UInt8) (w : World) (ha : a.length = n) (hn : n ≤ 100000) (hca : n ≤ ca) (hma : ca ≤ maxLen) (hra : Rd w w.heap.size A a) :
    Calls Try.prog 4 #[.slice A n ca] w fun e w' => e = .returned (.bool true) ∧ Below w.heap.size w w' := by
  have h1 : ¬ (100000 : Int) < (n : Int) := by omega
  obtain ⟨X, Y, ok, L, C1, C2, C3, C4⟩ := both_open A ca n a w ha hn hca hma hra
  have C1 := Lib.hid C1
  have C2 := Lib.hid C2
  have C3 := Lib.hid C3
  have C4 := Lib.hid C4
  have HA := Lib.hid ha
  clear ha
  go_enter Try.func4, Try.ntmps4
  go_wp2_with fail
  refine (shown_any _).mono ?_
  rintro e w1 ⟨rfl, hb1⟩
  go_wp2_with fail
  refine (C1.out _ hb1).mono ?_
  rintro e w2 ⟨A2, k2, c2, rfl, hx, hb2, _⟩
  clear hb1
  go_wp2_with fail
  refine (C2.out _ hb2).mono ?_
  rintro e w3 ⟨A3, k3, c3, rfl, hy, hb3, hb23⟩
  have SX := Lib.hid (show ∀ W, Below w3.heap.size w3 W → _ from fun W hb => C3.out _ _ _ _ hx W (hb23.trans (hb.mono hb23.size)))
  have SY := Lib.hid (show ∀ W, Below w3.heap.size w3 W → _ from fun W hb => C4.out _ _ _ _ hy W hb)
  have hr3 := (hra.below hb3).more hb3.size
  have CS := Lib.hid (seal_from w3 A a ca n HA.out hr3 (by rw [HA.out]; omega))
  have CR := Lib.hid (refseal_from w3 A a ca n HA.out hr3 (by omega))
  have HB := Lib.hid hb3
  have hb0 := below_drew (Below.refl w3.heap.size w3)
  clear hx hy hb2 hb3 hb23 hr3 C1 C2 C3 C4 hra
  go_wp2_with fail
  first | (go_region_held (fun w' => (convert 23 9 (.slice A2 k2 c2)).run Try.prog w' = .ok (.string ⟨L.toArray⟩) w' ∧ (convert 23 9 (.slice A3 k3 c3)).run Try.prog w' = .ok (.string ⟨L.toArray⟩) w') (exact ⟨SX.out _ (by assumption), SY.out _ (by assumption)⟩) (first
      | (go_at_call 15; (with_reducible refine (CS.out _ (by assumption)).mono ?_); rintro e w5 ⟨A5, c5, rfl, ho5, hb5, _⟩; have s5 := ho5.str)
      | (go_at_call 16; (with_reducible refine (CR.out _ (by assumption)).mono ?_); rintro e w6 ⟨A6, c6, rfl, ho6, hb6, hb56⟩; have s6 := ho6.str; have s56 := (ho5.below hb56).str))) | fail
  all_goals (go_wp2_with fail; go_ret; exact ⟨rfl, HB.out.trans (hb6.mono HB.out.size)⟩)
theorem walk (A0 : Option Addr) (c0 : Nat) (z0 : List Int) (w : World) 
    (hr0 : RdV w w.heap.size A0 (z0.map (Value.int .u8))) (hc0 : z0.length ≤ c0) (hm0 : c0 ≤ maxLen) (hw0 : ∀ n ∈ z0, (Lit.int .u8 n).wf = true) :
    Calls Try.prog 4 #[.slice A0 z0.length c0] w fun e w' => e = .returned (.bool true) ∧ Below w.heap.size w w' := by
  by_cases h : 100000 < z0.length
  · exact seals_long _ _ _ w h
  · exact seals_walk A0 c0 _ _ w (bytesOf_length z0) (by omega) hc0 hm0 (rd_bytes hr0 hw0)

set_option maxRecDepth 100000 in
theorem lifted (os : Os) (started : os.Started) (H : Type) (enc : TypeId × Value → H) :
    ReturnsInHanded {} Try.checked os 4 .any (Rows.crcSealsSpec.pre6 enc Try.prog Try.f4 Rows.crcSealsRow.domain false) (Rows.crcSealsSpec.post enc Try.prog Try.f4 false true false false) := by
  refine returnsInHanded_of_change (C := Try.checked) own started (by kernel_rfl) Try.func4
    (ChangeSpec.witness6 (enc := enc) (C := Try.checked) false ⟨#[], #[.slice none 0 0], []⟩ 8 (by kernel_rfl) (by kernel_rfl) (by kernel_rfl) (by kernel_rfl)) ?_
  intro W base args ds gs before hval0 hW hcnd _
  have hval : ∀ (j : Nat) t v, Try.f4.params[j]? = some t → args[j]? = some v → Value.okWide Try.prog W .any base t v := hval0
  have hW' := hW
  obtain ⟨p, q, hA0, hV, rfl, hfz, hnd⟩ := hW
  have hA : DataW.TrodAll enc Try.prog W 0 (fun _ => true) true Try.f4.params.toList args.toList ds p := hA0
  rw [Try.params4] at hA hval
  obtain ⟨v0, vs0, d0, ds0, p0, q0, hargs, rfl, rfl, h0, r0⟩ := trodAll_cons hA
  obtain ⟨rfl, rfl, rfl⟩ := trodAll_nil r0
  obtain rfl : args = #[v0] := by cases args; simp_all
  obtain ⟨rfl, rfl⟩ := trodVars_none hV
  obtain ⟨A0, n0, c0, rfl⟩ := okWide_slice Try.underlying23 (hval 0 23 v0 rfl rfl)
  have k0 := h0
  have lt0 : ∀ x ∈ p0, x.block < W.heap.size := by obtain ⟨m, hm⟩ := k0; exact DataW.trod_lt m _ _ _ hm
  obtain ⟨fuel0, hf0⟩ := h0
  obtain ⟨z0, rfl, hr0, hc0, hm0, hw0⟩ := open_ints_arg Try.underlying23 Try.underlying5 (by kernel_rfl) hf0
  clear hA0 hval0
  simp only [List.append_nil] at hW'
  refine (walk A0 c0 z0 W hr0 hc0 hm0 hw0).mono fun e W' ⟨he, bel⟩ => ?_
  subst he
  exact ⟨_, rfl, _, _, _, [], _, [], hW', trodAll_mk1 (shut_bool Try.underlying4 _), (trodAll_cons_mk (Below.trod laidOut (by kernel_rfl) (of_decide_eq_true (by kernel_rfl)) k0 bel lt0) trodAll_mk0), rfl, bel.frame _, fun h => by cases h⟩

theorem over : Rows.crcSealsRow.holds Try.pinned (OpenSpec.ofChange Rows.crcSealsSpec) :=
  OpenClaim.holds_of_wide 4 Try.f4 rfl rfl rfl rfl rfl rfl rfl ⟨rfl, rfl, rfl, rfl, rfl⟩ rfl rfl rfl rfl rfl (by kernel_rfl) Try.func4 (by kernel_rfl)
    (of_decide_eq_true (by kernel_rfl)) (by unfold Func.isWrapper; first | (rw [if_pos (by decide +kernel)]; kernel_rfl) | (rw [if_neg (by decide +kernel)]; exact ⟨rfl, rfl⟩))
    (fun os started H enc _ => lifted os started H enc)

theorem proved : Rows.CrcSealsSaid := over
#print axioms proved
end Go.Proofs.Yteemebecllhldaa.crcSeals
