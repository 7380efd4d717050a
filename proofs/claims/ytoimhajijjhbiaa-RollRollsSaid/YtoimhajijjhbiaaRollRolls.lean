/-
  For every array of seventeen bytes, whatever the memory: RollRolls returns true, and its argument reads as before: the hash rolls. No condition.
-/
import Derived.Test.YtoimhajijjhbiaaRows
import Derived.Test.YtoimhajijjhbiaaOpen
import Derived.Test.YtoimhajijjhbiaaRollArr
import Derived.Test.YtoimhajijjhbiaaArgB
import Derived.WalkKit
import Derived.ProofKit
import Derived.OpenShut
import Derived.ShutString
import Derived.ChangeOld
import Derived.Below
namespace Go.Proofs.Ytoimhajijjhbiaa.rollRolls
open Go.ChangeShapes Go.WideShapes Go.ChangeAt Go.RowKit
open Go.ChangeMaps (open_string shut_string)
set_option linter.unusedVariables false

theorem own : ownKnob Try.prog.godebug = none := by kernel_rfl
theorem laidOut : laidOutB Try.prog = true := by kernel_rfl

set_option maxHeartbeats 1000000 in
theorem rolls_walk (l : List UInt8) (hl : l.length = 17) (w : World) :
    Calls Try.prog 6 #[.agg (bv l).toArray] w fun e w' => e = .returned (.bool true) ∧ Below w.heap.size w w' := by
  have hz : (bv l).toArray.size = 17 := by rw [List.size_toArray, bv_length]; exact hl
  have hB0 : Blk (w.alloc (.cells (bv l).toArray 31)) w.heap.size 31 (bv l).toArray := Blk.new w _ _
  have hb1 := (Below.refl w.heap.size w).alloc (Nat.le_refl _) (.cells (bv l).toArray 31)
  have hR : ∀ w', Blk w' w.heap.size 31 (bv l).toArray → Rd w' w'.heap.size (some ⟨w.heap.size, 0, none⟩) l := fun w' h => h.rd_from 0
  have hx : ofB (l.drop 1) = nextB (ofB (l.take 16)) l[0] l[16] := by
    have := of_next l 0 (by omega)
    rw [← this]
    unfold ofB
    rw [List.take_of_length_le (by omega)]
    unfold lastB
    rw [List.length_drop, List.drop_drop, hl]
  have hy : ofB l = ofB (l.drop 1) := by
    unfold ofB lastB
    rw [List.length_drop, List.drop_drop, hl]
  have d0 : ∀ w', Blk w' w.heap.size 31 (bv l).toArray → w'.cell? ⟨w.heap.size, 0, none⟩ = some (.int .u8 l[0].toNat) := fun w' h => h.at_ (k := 0) (by omega)
  have d16 : ∀ w', Blk w' w.heap.size 31 (bv l).toArray → w'.cell? ⟨w.heap.size, 16, none⟩ = some (.int .u8 l[16].toNat) := fun w' h => h.at_ (k := 16) (by omega)
  obtain ⟨x0, hx0⟩ : ∃ x0 : UInt8, x0 = l[0] := ⟨_, rfl⟩
  obtain ⟨x16, hx16⟩ : ∃ x16 : UInt8, x16 = l[16] := ⟨_, rfl⟩
  rw [← hx0, ← hx16] at hx
  rw [← hx0] at d0
  rw [← hx16] at d16
  have HX := Lib.hid hx
  have HY := Lib.hid hy
  have HL := Lib.hid hl
  have c0 := fun w' h => Lib.hid (d0 w' h)
  have c16 := fun w' h => Lib.hid (d16 w' h)
  have hlt : w.heap.size < (w.alloc (.cells (bv l).toArray 31)).heap.size := by simp
  clear hx0 hx16 hx hy hl d0 d16
  have kA : ∀ w', Blk w' w.heap.size 31 (bv l).toArray → Calls Try.prog 9 #[.slice (some ⟨w.heap.size, 0, none⟩) 16 17] w' fun e w'' => e = .returned (.int .u32 (ofB (l.take 16)).toNat) ∧ w' = w'' :=
    fun w' h => of_any _ (l.take 16) 17 16 _ w' (by rw [List.length_take, HL.out]; rfl) ((hR w' h).take 16) (by decide) (by decide)
  have kB : ∀ w', Blk w' w.heap.size 31 (bv l).toArray → Calls Try.prog 9 #[.slice (some ⟨w.heap.size, 1, none⟩) 16 16] w' fun e w'' => e = .returned (.int .u32 (ofB (l.drop 1)).toNat) ∧ w' = w'' :=
    fun w' h => of_any _ (l.drop 1) 16 16 _ w' (by rw [List.length_drop, HL.out]) (h.rd_from 1) (by decide) (by decide)
  have kC : ∀ w', Blk w' w.heap.size 31 (bv l).toArray → Calls Try.prog 9 #[.slice (some ⟨w.heap.size, 0, none⟩) 17 17] w' fun e w'' => e = .returned (.int .u32 (ofB (l.drop 1)).toNat) ∧ w' = w'' :=
    fun w' h => by rw [← HY.out]; exact of_any _ l 17 17 _ w' HL.out (hR w' h) (by decide) (by decide)
  have KA := fun w' h => Lib.hid (kA w' h)
  have KB := fun w' h => Lib.hid (kB w' h)
  have KC := fun w' h => Lib.hid (kC w' h)
  have HZ := Lib.hid hz
  clear kA kB kC hR hz HY
  generalize ofB (l.take 16) = a at *
  generalize ofB (l.drop 1) = z at *
  go_enter Try.func6, Try.ntmps6
  go_wp2_with fail
  generalize w.alloc (.cells (bv l).toArray 31) = w1 at *
  have q1 := fun q => Lib.hid (KA (w1.drewN q) hB0).out
  have q2 := fun q => Lib.hid (KB (w1.drewN q) hB0).out
  go_quiet ((go_at_call 9; first | with_reducible exact quiet_left (q1 _).out | with_reducible exact quiet_left (q2 _).out))
  have hB2 : Blk (w1.drewN nq) w.heap.size 31 (bv l).toArray := hB0
  have hb2 := below_drewN hb1 nq
  have hlt2 : w.heap.size < (w1.drewN nq).heap.size := hlt
  clear q1 q2 hb1 hB0 hlt KA KB
  generalize w1.drewN nq = w2 at *
  go_wp2_with fail
  refine (shown_any _).mono ?_
  rintro e w3 ⟨rfl, hb3⟩
  have hB3 := hB2.below hb3 hlt2
  have hb3 := hb2.trans (hb3.mono hb2.size)
  clear hB2 hlt2 hb2
  have e0 := (c0 _ hB3).out
  have e16 := (c16 _ hB3).out
  have KN := next_any a x0 x16 w3
  rw [← HX.out] at KN
  have KN := Lib.hid KN
  go_wp2_with fail
  with_reducible refine KN.out.mono ?_
  rintro e w4 ⟨rfl, rfl⟩
  go_wp2_with fail
  with_reducible refine (KC _ hB3).out.mono ?_
  rintro e w4 ⟨rfl, rfl⟩
  go_wp2_with fail
  go_ret
  exact ⟨rfl, hb3⟩
theorem walk (z0 : List Int) (w : World) (hn0 : z0.length = 17) (hw0 : ∀ n ∈ z0, (Lit.int .u8 n).wf = true) :
    Calls Try.prog 6 #[.agg (z0.map (Value.int .u8)).toArray] w fun e w' => e = .returned (.bool true) ∧ Below w.heap.size w w' := by
  rw [bytesOf_bv z0 hw0]
  exact rolls_walk (bytesOf z0) (by rw [bytesOf_length]; exact hn0) w

set_option maxRecDepth 100000 in
theorem lifted (os : Os) (started : os.Started) (H : Type) (enc : TypeId × Value → H) :
    ReturnsInHanded {} Try.checked os 6 .any (Rows.rollRollsSpec.pre6 enc Try.prog Try.f6 Rows.rollRollsRow.domain false) (Rows.rollRollsSpec.post enc Try.prog Try.f6 false true false false) := by
  refine returnsInHanded_of_change (C := Try.checked) own started (by kernel_rfl) Try.func6
    (ChangeSpec.witness6 (enc := enc) (C := Try.checked) false ⟨#[], #[.agg (Array.replicate 17 (.int .u8 0))], []⟩ 8 (by kernel_rfl) (by kernel_rfl) (by kernel_rfl) (by kernel_rfl)) ?_
  intro W base args ds gs before hval0 hW hcnd _
  have hval : ∀ (j : Nat) t v, Try.f6.params[j]? = some t → args[j]? = some v → Value.okWide Try.prog W .any base t v := hval0
  have hW' := hW
  obtain ⟨p, q, hA0, hV, rfl, hfz, hnd⟩ := hW
  have hA : DataW.TrodAll enc Try.prog W 0 (fun _ => true) true Try.f6.params.toList args.toList ds p := hA0
  rw [Try.params6] at hA hval
  obtain ⟨v0, vs0, d0, ds0, p0, q0, hargs, rfl, rfl, h0, r0⟩ := trodAll_cons hA
  obtain ⟨rfl, rfl, rfl⟩ := trodAll_nil r0
  obtain rfl : args = #[v0] := by cases args; simp_all
  obtain ⟨rfl, rfl⟩ := trodVars_none hV
  have k0 := h0
  have lt0 : ∀ x ∈ p0, x.block < W.heap.size := by obtain ⟨m, hm⟩ := k0; exact DataW.trod_lt m _ _ _ hm
  obtain ⟨z0, rfl, hn0, hw0⟩ := open_array_arg (n := 17) Try.underlying31 Try.underlying5 (by kernel_rfl) (by kernel_rfl) (hval 0 31 v0 rfl rfl) h0
  clear hA0 hval0
  simp only [List.append_nil] at hW'
  refine (walk z0 W hn0 hw0).mono fun e W' ⟨he, bel⟩ => ?_
  subst he
  exact ⟨_, rfl, _, _, _, [], _, [], hW', trodAll_mk1 (shut_bool Try.underlying4 _), (trodAll_cons_mk (Below.trod laidOut (by kernel_rfl) (of_decide_eq_true (by kernel_rfl)) k0 bel lt0) trodAll_mk0), rfl, bel.frame _, fun h => by cases h⟩

theorem over : Rows.rollRollsRow.holds Try.pinned (OpenSpec.ofChange Rows.rollRollsSpec) :=
  OpenClaim.holds_of_wide 6 Try.f6 rfl rfl rfl rfl rfl rfl rfl ⟨rfl, rfl, rfl, rfl, rfl⟩ rfl rfl rfl rfl rfl (by kernel_rfl) Try.func6 (by kernel_rfl)
    (of_decide_eq_true (by kernel_rfl)) (by unfold Func.isWrapper; first | (rw [if_pos (by decide +kernel)]; kernel_rfl) | (rw [if_neg (by decide +kernel)]; exact ⟨rfl, rfl⟩))
    (fun os started H enc _ => lifted os started H enc)

theorem proved : Rows.RollRollsSaid := over
#print axioms proved
end Go.Proofs.Ytoimhajijjhbiaa.rollRolls
