/-
  CodecOrder holds: called with any two uint64, in any memory, the Go function returns true and leaves its arguments alone. Conditions: none.
-/
import Derived.Test.YtcjhcapbmdiloaaRows
import Derived.WalkKit
import Derived.ProofKit
import Derived.OpenShut
import Derived.ShutString
import Derived.Test.YtcjhcapbmdiloaaShown
import Derived.Test.YtcjhcapbmdiloaaOrderMath
import Derived.ChangeOld
import Derived.Below
namespace Go.Proofs.Ytcjhcapbmdiloaa.codecOrder
open Go.ChangeShapes Go.WideShapes Go.ChangeAt Go.RowKit
open Go.ChangeMaps (open_string shut_string)
set_option linter.unusedVariables false      -- a walk need not use every 'w<i>' (that an integer argument fits its kind)

theorem own : ownKnob Try.prog.godebug = none := by kernel_rfl

set_option maxHeartbeats 4000000 in
theorem walk (a0 : Int) (a1 : Int) (w0 : (Lit.int .u64 a0).wf = true) (w1 : (Lit.int .u64 a1).wf = true) (w : World) :
    Calls Try.prog 5 #[.int .u64 a0, .int .u64 a1] w fun e w' => e = .returned (.bool true) ∧ Below w.heap.size w w' := by
  have b0 := bounds_u64 w0
  have b1 := bounds_u64 w1
  obtain ⟨m, rfl⟩ := Int.eq_ofNat_of_zero_le b0.1
  obtain ⟨n, rfl⟩ := Int.eq_ofNat_of_zero_le b1.1
  clear w0 w1
  obtain ⟨X, hX⟩ : ∃ X, X = be 8 m := ⟨_, rfl⟩
  obtain ⟨Y, hY⟩ : ∃ Y, Y = be 8 n := ⟨_, rfl⟩
  have hXl : X.length = 8 := by rw [hX, be_length]
  have hYl : Y.length = 8 := by rw [hY, be_length]
  have CX : ∀ W, Hid (Calls Try.prog 18 #[.slice none 0 0, .int .u64 m, .int .i64 8] W fun e w' => ∃ A' c', e = .returned (.slice A' 8 c') ∧ Own w' W.heap.size A' c' 8 X ∧ Below W.heap.size W w') :=
    fun W => Lib.hid (put_sl none [] 0 0 m 8 8 X W rfl (Rd.nil _ _ _) (by simp) (by decide) (by rw [hX]; rfl))
  have CY : ∀ W, Hid (Calls Try.prog 18 #[.slice none 0 0, .int .u64 n, .int .i64 8] W fun e w' => ∃ A' c', e = .returned (.slice A' 8 c') ∧ Own w' W.heap.size A' c' 8 Y ∧ Below W.heap.size W w') :=
    fun W => Lib.hid (put_sl none [] 0 0 n 8 8 Y W rfl (Rd.nil _ _ _) (by simp) (by decide) (by rw [hY]; rfl))
  have LESS := Lib.hid (less_be m n (by omega) (by omega))
  rw [← hX, ← hY] at LESS
  clear hX hY
  have HX := Lib.hid hXl
  have HY := Lib.hid hYl
  clear hXl hYl
  go_enter Try.func5, Try.ntmps5
  go_wp2_with fail
  go_region_with (first
    | (go_at_call 18; with_reducible refine (CX _).out.mono ?_; rintro e wa ⟨A1, c1, rfl, ho1, hb1⟩; have s1 := ho1.str; try (have s2 := (ho2.below hb1).str))
    | (go_at_call 18; with_reducible refine (CY _).out.mono ?_; rintro e wb ⟨A2, c2, rfl, ho2, hb2⟩; have s2 := ho2.str; try (have s1 := (ho1.below hb2).str)))
  all_goals go_wp2_with fail
  all_goals
    refine (shown_any _).mono ?_
    rintro e w9 ⟨rfl, hb9⟩
    have hlx : X.length = 8 := HX.out
    have hly : Y.length = 8 := HY.out
    have hsx : (⟨X.toArray⟩ : ByteArray).size = 8 := by simpa [ByteArray.size] using hlx
    have hsy : (⟨Y.toArray⟩ : ByteArray).size = 8 := by simpa [ByteArray.size] using hly
    go_wp2_with fail
    go_ret
    refine ⟨?_, ?_⟩
    · show Ending.returned (Value.bool (Op.bytesLess X Y == decide (m < n))) = _
      rw [LESS.out, beq_self_eq_true]
    · have hd : Below w.heap.size w w.drew := (Below.refl _ _).drew
      first
        | (have h1 : Below w.heap.size w wa := hd.trans hb1
           have h2 : Below w.heap.size w wb := h1.trans (hb2.mono h1.size)
           exact h2.trans (hb9.mono h2.size))
        | (have h1 : Below w.heap.size w wb := hd.trans hb2
           have h2 : Below w.heap.size w wa := h1.trans (hb1.mono h1.size)
           exact h2.trans (hb9.mono h2.size))

/-! ### THE ROW's STEP: WRITTEN OUT: LEAVE IT -/
set_option maxRecDepth 100000 in
theorem lifted (os : Os) (started : os.Started) (H : Type) (enc : TypeId × Value → H) :
    ReturnsInHanded {} Try.checked os 5 .any (Rows.codecOrderSpec.pre6 enc Try.prog Try.f5 Rows.codecOrderRow.domain false) (Rows.codecOrderSpec.post enc Try.prog Try.f5 false true false false) := by
  refine returnsInHanded_of_change (C := Try.checked) own started (by kernel_rfl) Try.func5
    (ChangeSpec.witness6 (enc := enc) (C := Try.checked) false ⟨#[], #[.int .u64 0, .int .u64 0], []⟩ 8 (by kernel_rfl) (by kernel_rfl) (by kernel_rfl) (by kernel_rfl)) ?_
  intro W base args ds gs before hval0 hW hcnd _
  have hval : ∀ (j : Nat) t v, Try.f5.params[j]? = some t → args[j]? = some v → Value.okWide Try.prog W .any base t v := hval0
  have hW' := hW
  obtain ⟨p, q, hA0, hV, rfl, hfz, hnd⟩ := hW
  have hA : DataW.TrodAll enc Try.prog W 0 (fun _ => true) true Try.f5.params.toList args.toList ds p := hA0
  rw [Try.params5] at hA hval
  obtain ⟨v0, vs0, d0, ds0, p0, q0, hargs, rfl, rfl, h0, r0⟩ := trodAll_cons hA
  obtain ⟨v1, vs1, d1, ds1, p1, q1, rfl, rfl, rfl, h1, r1⟩ := trodAll_cons r0
  obtain ⟨rfl, rfl, rfl⟩ := trodAll_nil r1
  obtain rfl : args = #[v0, v1] := by cases args; simp_all
  obtain ⟨rfl, rfl⟩ := trodVars_none hV
  obtain ⟨a0, rfl, rfl, rfl, w0⟩ := open_int Try.underlying33 (hval 0 33 v0 rfl rfl) h0
  obtain ⟨a1, rfl, rfl, rfl, w1⟩ := open_int Try.underlying33 (hval 1 33 v1 rfl rfl) h1
  clear hA0 hval0
  simp only [List.append_nil] at hW'
  refine (walk a0 a1 w0 w1 W).mono fun e W' ⟨he, hg⟩ => ?_
  subst he
  exact ⟨_, rfl, _, _, _, [], [], [], hW', trodAll_mk1 (shut_bool Try.underlying4 _), (trodAll_cons_mk (shut_int Try.underlying33 w0) (trodAll_cons_mk (shut_int Try.underlying33 w1) trodAll_mk0)), rfl, hg.frame _, fun h => by cases h⟩

theorem over : Rows.codecOrderRow.holds Try.pinned (OpenSpec.ofChange Rows.codecOrderSpec) :=
  OpenClaim.holds_of_wide 5 Try.f5 rfl rfl rfl rfl rfl rfl rfl ⟨rfl, rfl, rfl, rfl, rfl⟩ rfl rfl rfl rfl rfl (by kernel_rfl) Try.func5 (by kernel_rfl)
    (of_decide_eq_true (by kernel_rfl)) (by unfold Func.isWrapper; first | (rw [if_pos (by decide +kernel)]; kernel_rfl) | (rw [if_neg (by decide +kernel)]; exact ⟨rfl, rfl⟩))
    (fun os started H enc _ => lifted os started H enc)

/-- ████ THE STATEMENT ████ -/
theorem proved : Rows.CodecOrderSaid :=
  over
#print axioms proved
end Go.Proofs.Ytcjhcapbmdiloaa.codecOrder
