/-
  P7.1: a key's number with a seed is the document's.
-/
import Derived.Test.YtacijjioaanlgaaRows
import Derived.Test.YtacijjioaanlgaaOpen
import Derived.Test.YtacijjioaanlgaaPerfShown
import Derived.Test.YtacijjioaanlgaaPerfRefH
import Derived.WalkKit
import Derived.ProofKit
import Derived.OpenShut
import Derived.ShutString
import Derived.ChangeOld
import Derived.Below
namespace Go.Proofs.Ytacijjioaanlgaa.perfectHashes
open Go.ChangeShapes Go.WideShapes Go.ChangeAt Go.RowKit
open Go.ChangeMaps (open_string shut_string)
set_option linter.unusedVariables false

theorem own : ownKnob Try.prog.godebug = none := by kernel_rfl
theorem laidOut : laidOutB Try.prog = true := by kernel_rfl

set_option maxRecDepth 100000 in
set_option maxHeartbeats 1000000 in
theorem hashes_walk (seed : Nat) (hs : seed < 18446744073709551616) (k : KeyT) (hk : k.Ok) (w : World) :
    Calls Try.prog 3 #[.int .u64 seed, .agg (kcs k).toArray] w fun e w' => e = .returned (.bool true) ∧ Below w.heap.size w w' := by
  have hbx := (Below.refl w.heap.size w).alloc (Nat.le_refl _) (.cells (kcs k).toArray 27)
  have hkb := Blk.new w 27 (kcs k).toArray
  obtain ⟨w1, hw1⟩ : ∃ w1, w.alloc (.cells (kcs k).toArray 27) = w1 := ⟨_, rfl⟩
  obtain ⟨kb, hkbe⟩ : ∃ kb, w.heap.size = kb := ⟨_, rfl⟩
  rw [hw1] at hbx hkb
  rw [hkbe] at hkb
  have HW1 := Lib.hid hw1
  have HKB := Lib.hid hkbe
  have KS := fun dd os => Lib.hid (told_base (w := w1) (fun W _ => shown_any W) dd os)
  have KH := fun dd os => Lib.hid (told_base (w := w1) (v := .int .u64 (HH seed k)) (fun W _ => (hash_any seed hs k hk W).mono fun e w' ⟨h1, h2⟩ => ⟨h1, h2 ▸ (Below.refl _ _).alloc (Nat.le_refl _) _⟩) dd os)
  have KR := fun dd os => Lib.hid (told_base (w := w1) (fun W _ => rhash_any seed hs k hk W) dd os)
  have R1 := Lib.hid (range_base (w := w1) (b := kb) (off := 0) (cs := kcs k) fun W hW => range_of_blk (hkb.below hW hkb.lt))
  have HKS := Lib.hid (show (Try.prog.info? 27).map (·.size) = some (kcs k).length by rw [kcs_length hk]; exact key_size)
  obtain ⟨fs, hfs⟩ := key_desc
  have HF := Lib.hid hfs
  have HBX := Lib.hid hbx
  clear hbx hkb hw1 hkbe hfs hk hs
  go_enter Try.func3, Try.ntmps3
  go_wp2_with fail
  rw [HW1.out, HKB.out]
  refine wp_region_quiet_below (by kernel_rfl) (by kernel_rfl) ?_
  repeat (first
    | (go_big_quiet_want; refine quiet_load_mid 27 (.tmp 3) rfl kb 0 rfl (kcs k) (.struct fs) R1.out HF.out rfl HKS.out (by simp only [Act.put, List.setIfInBounds_toArray, List.set_cons_succ, List.set_cons_zero]; rfl) ?_; go_big_quiet_on)
    | go_big_quiet_step (first | (go_at_call 8; with_reducible exact (KS _ _).out) | (go_at_call 9; with_reducible exact (KH _ _).out) | (go_at_call 10; with_reducible exact (KR _ _).out)))
  refine wpQuiet_nil ?_
  intro _ hw'
  obtain ⟨⟨dq, osq⟩, hw''⟩ := hw'
  subst hw''
  go_wp2_with fail
  go_ret
  exact ⟨rfl, HBX.out.trans ((below_regrown w1 dq osq).mono HBX.out.size)⟩
theorem walk (a0 : Int) (ky1 : KeyT) (w : World) (w0 : (Lit.int .u64 a0).wf = true) (hy1 : ky1.Ok) :
    Calls Try.prog 3 #[.int .u64 a0, .agg (kcs ky1).toArray] w fun e w' => e = .returned (.bool true) ∧ Below w.heap.size w w' := by
  have b0 := bounds_u64 w0
  obtain ⟨seed, rfl⟩ : ∃ n : Nat, a0 = n := ⟨a0.toNat, by omega⟩
  exact hashes_walk seed (by omega) ky1 hy1 w

set_option maxRecDepth 100000 in
theorem lifted (os : Os) (started : os.Started) (H : Type) (enc : TypeId × Value → H) :
    ReturnsInHanded {} Try.checked os 3 .any (Rows.perfectHashesSpec.pre6 enc Try.prog Try.f3 Rows.perfectHashesRow.domain false) (Rows.perfectHashesSpec.post enc Try.prog Try.f3 false true false false) := by
  refine returnsInHanded_of_change (C := Try.checked) own started (by kernel_rfl) Try.func3
    (ChangeSpec.witness6 (enc := enc) (C := Try.checked) false ⟨#[], #[.int .u64 0, .agg #[.int .u8 0, .int .u8 0, .int .u8 0, .int .u8 0, .int .u8 0, .int .u8 0, .int .u8 0, .int .u8 0, .int .u8 0, .int .u8 0, .int .u8 0, .int .u8 0, .int .u8 0, .int .u8 0, .int .u8 0, .int .u8 0, .int .u8 0, .int .u8 0, .int .u8 0, .int .u8 0, .int .u8 0, .int .u8 0, .int .u8 0, .int .u8 0, .int .u8 0, .int .u8 0, .int .u8 0, .int .u8 0, .int .u8 0, .int .u8 0, .int .u8 0, .int .u8 0, .int .u32 0]], []⟩ 8 (by kernel_rfl) (by kernel_rfl) (by kernel_rfl) (by kernel_rfl)) ?_
  intro W base args ds gs before hval0 hW hcnd _
  have hval : ∀ (j : Nat) t v, Try.f3.params[j]? = some t → args[j]? = some v → Value.okWide Try.prog W .any base t v := hval0
  have hW' := hW
  obtain ⟨p, q, hA0, hV, rfl, hfz, hnd⟩ := hW
  have hA : DataW.TrodAll enc Try.prog W 0 (fun _ => true) true Try.f3.params.toList args.toList ds p := hA0
  rw [Try.params3] at hA hval
  obtain ⟨v0, vs0, d0, ds0, p0, q0, hargs, rfl, rfl, h0, r0⟩ := trodAll_cons hA
  obtain ⟨v1, vs1, d1, ds1, p1, q1, rfl, rfl, rfl, h1, r1⟩ := trodAll_cons r0
  obtain ⟨rfl, rfl, rfl⟩ := trodAll_nil r1
  obtain rfl : args = #[v0, v1] := by cases args; simp_all
  obtain ⟨rfl, rfl⟩ := trodVars_none hV
  obtain ⟨a0, rfl, rfl, rfl, w0⟩ := open_int Try.underlying22 (hval 0 22 v0 rfl rfl) h0
  have k1 := h1
  have lt1 : ∀ x ∈ p1, x.block < W.heap.size := by obtain ⟨m, hm⟩ := k1; exact DataW.trod_lt m _ _ _ hm
  obtain ⟨ky1, rfl, hy1⟩ := open_key2 (hval 1 27 v1 rfl rfl) h1
  clear hA0 hval0
  simp only [List.append_nil] at hW'
  refine (walk a0 ky1 W w0 hy1).mono fun e W' ⟨he, bel⟩ => ?_
  subst he
  exact ⟨_, rfl, _, _, _, [], _, [], hW', trodAll_mk1 (shut_bool Try.underlying4 _), (trodAll_cons_mk (shut_int Try.underlying22 w0) (trodAll_cons_mk (Below.trod laidOut (by kernel_rfl) (of_decide_eq_true (by kernel_rfl)) k1 bel lt1) trodAll_mk0)), rfl, bel.frame _, fun h => by cases h⟩

theorem over : Rows.perfectHashesRow.holds Try.pinned (OpenSpec.ofChange Rows.perfectHashesSpec) :=
  OpenClaim.holds_of_wide 3 Try.f3 rfl rfl rfl rfl rfl rfl rfl ⟨rfl, rfl, rfl, rfl, rfl⟩ rfl rfl rfl rfl rfl (by kernel_rfl) Try.func3 (by kernel_rfl)
    (of_decide_eq_true (by kernel_rfl)) (by unfold Func.isWrapper; first | (rw [if_pos (by decide +kernel)]; kernel_rfl) | (rw [if_neg (by decide +kernel)]; exact ⟨rfl, rfl⟩))
    (fun os started H enc _ => lifted os started H enc)

theorem proved : Rows.PerfectHashesSaid := over
#print axioms proved
end Go.Proofs.Ytacijjioaanlgaa.perfectHashes
