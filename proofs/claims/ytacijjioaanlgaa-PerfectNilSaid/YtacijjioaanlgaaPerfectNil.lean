/-
  P7.2, P7.3: a nil map has nothing, too many keys are refused.
-/
import Derived.Test.YtacijjioaanlgaaRows
import Derived.Test.YtacijjioaanlgaaOpen
import Derived.Test.YtacijjioaanlgaaPerfShown
import Derived.Test.YtacijjioaanlgaaPerfGrp
import Derived.WalkKit
import Derived.ProofKit
import Derived.OpenShut
import Derived.ShutString
import Derived.ChangeOld
import Derived.Below
namespace Go.Proofs.Ytacijjioaanlgaa.perfectNil
open Go.ChangeShapes Go.WideShapes Go.ChangeAt Go.RowKit
open Go.ChangeMaps (open_string shut_string)
set_option linter.unusedVariables false

theorem own : ownKnob Try.prog.godebug = none := by kernel_rfl
theorem laidOut : laidOutB Try.prog = true := by kernel_rfl

set_option maxRecDepth 100000 in
set_option maxHeartbeats 1000000 in
theorem walk (ky0 : KeyT) (w : World) (hy0 : ky0.Ok) :
    Calls Try.prog 7 #[.agg (kcs ky0).toArray] w fun e w' => e = .returned (.bool true) ∧ Below w.heap.size w w' := by
  obtain ⟨i1, hi1, hy0', hy1, hy2⟩ := info_parts info_key
  obtain ⟨fs, hfs⟩ := key_desc
  have hksz : (Try.prog.info? 27).map (·.size) = some (kcs ky0).toArray.size := by rw [List.size_toArray, kcs_length hy0]; exact key_size
  have hb1 := (Below.refl w.heap.size w).alloc (Nat.le_refl _) (.cells (kcs ky0).toArray 27)
  have hkb := Blk.new w 27 (kcs ky0).toArray
  have hmk := fun W => run_make (P := Try.prog) W 31 27 i1 _ Try.underlying31 hi1 hy0' .i64 .i64 16385 16385 (by omega) (by omega) (by rw [hy2]; omega) (by omega)
  rw [hy1] at hmk
  obtain ⟨C, hC⟩ : ∃ C, madeCells (Value.agg (kz 0)).cells (Int.toNat 16385 * 33) = C := ⟨_, rfl⟩
  rw [hC, show Int.toNat 16385 = 16385 from rfl] at hmk
  have HMK := Lib.hid hmk
  have HF := Lib.hid hfs
  have HK := Lib.hid hksz
  have KL := Lib.hid (fun (A : Option Addr) (W : World) => build_long A 16385 16385 (by omega) W)
  clear hC hmk hfs hksz hi1 hy0' hy1 hy2
  go_enter Try.func7, Try.ntmps7
  go_wp2_with fail
  rw [HMK.out]
  obtain ⟨w1, hw1⟩ : ∃ w1, (w.alloc (.cells (kcs ky0).toArray 27)).alloc (.cells C 27) = w1 := ⟨_, rfl⟩
  have hba : Below (w.alloc (.cells (kcs ky0).toArray 27)).heap.size (w.alloc (.cells (kcs ky0).toArray 27)) w1 := hw1 ▸ (Below.refl _ _).alloc (Nat.le_refl _) _
  have hkb1 := hkb.below hba hkb.lt
  have hx1 := hb1.trans (hba.mono hb1.size)
  rw [hw1]
  clear hba hw1 hkb hb1
  go_wp2_with fail
  (with_reducible refine (KL.out _ _).mono ?_)
  rintro e w' ⟨rfl, rfl⟩
  go_wp2_with fail
  refine (shown_any _).mono ?_
  rintro e w2 ⟨rfl, hb2⟩
  have hkb2 := hkb1.below hb2 hkb1.lt
  have hx2 := hx1.trans (hb2.mono hx1.size)
  clear hb2 hx1 hkb1
  go_wp2_with (refine wpList_load_want rfl 27 (.tmp 1) rfl w.heap.size rfl 27 (kcs ky0).toArray (0, 0) (.struct fs) hkb2 HF.out rfl HK.out ?_)
  refine (place_nil ky0 _).mono ?_
  rintro e w3 ⟨rfl, hb3⟩
  have hx3 := hx2.trans (hb3.mono hx2.size)
  clear hb3 hx2
  go_wp2_with fail
  refine (len_nil _).mono ?_
  rintro e w' ⟨rfl, rfl⟩
  go_wp2_with fail
  refine (spilled_nil _).mono ?_
  rintro e w' ⟨rfl, rfl⟩
  go_wp2_with fail
  go_ret
  exact ⟨rfl, hx3⟩

set_option maxRecDepth 100000 in
theorem lifted (os : Os) (started : os.Started) (H : Type) (enc : TypeId × Value → H) :
    ReturnsInHanded {} Try.checked os 7 .any (Rows.perfectNilSpec.pre6 enc Try.prog Try.f7 Rows.perfectNilRow.domain false) (Rows.perfectNilSpec.post enc Try.prog Try.f7 false true false false) := by
  refine returnsInHanded_of_change (C := Try.checked) own started (by kernel_rfl) Try.func7
    (ChangeSpec.witness6 (enc := enc) (C := Try.checked) false ⟨#[], #[.agg #[.int .u8 0, .int .u8 0, .int .u8 0, .int .u8 0, .int .u8 0, .int .u8 0, .int .u8 0, .int .u8 0, .int .u8 0, .int .u8 0, .int .u8 0, .int .u8 0, .int .u8 0, .int .u8 0, .int .u8 0, .int .u8 0, .int .u8 0, .int .u8 0, .int .u8 0, .int .u8 0, .int .u8 0, .int .u8 0, .int .u8 0, .int .u8 0, .int .u8 0, .int .u8 0, .int .u8 0, .int .u8 0, .int .u8 0, .int .u8 0, .int .u8 0, .int .u8 0, .int .u32 0]], []⟩ 8 (by kernel_rfl) (by kernel_rfl) (by kernel_rfl) (by kernel_rfl)) ?_
  intro W base args ds gs before hval0 hW hcnd _
  have hval : ∀ (j : Nat) t v, Try.f7.params[j]? = some t → args[j]? = some v → Value.okWide Try.prog W .any base t v := hval0
  have hW' := hW
  obtain ⟨p, q, hA0, hV, rfl, hfz, hnd⟩ := hW
  have hA : DataW.TrodAll enc Try.prog W 0 (fun _ => true) true Try.f7.params.toList args.toList ds p := hA0
  rw [Try.params7] at hA hval
  obtain ⟨v0, vs0, d0, ds0, p0, q0, hargs, rfl, rfl, h0, r0⟩ := trodAll_cons hA
  obtain ⟨rfl, rfl, rfl⟩ := trodAll_nil r0
  obtain rfl : args = #[v0] := by cases args; simp_all
  obtain ⟨rfl, rfl⟩ := trodVars_none hV
  have k0 := h0
  have lt0 : ∀ x ∈ p0, x.block < W.heap.size := by obtain ⟨m, hm⟩ := k0; exact DataW.trod_lt m _ _ _ hm
  obtain ⟨ky0, rfl, hy0⟩ := open_key2 (hval 0 27 v0 rfl rfl) h0
  clear hA0 hval0
  simp only [List.append_nil] at hW'
  refine (walk ky0 W hy0).mono fun e W' ⟨he, bel⟩ => ?_
  subst he
  exact ⟨_, rfl, _, _, _, [], _, [], hW', trodAll_mk1 (shut_bool Try.underlying4 _), (trodAll_cons_mk (Below.trod laidOut (by kernel_rfl) (of_decide_eq_true (by kernel_rfl)) k0 bel lt0) trodAll_mk0), rfl, bel.frame _, fun h => by cases h⟩

theorem over : Rows.perfectNilRow.holds Try.pinned (OpenSpec.ofChange Rows.perfectNilSpec) :=
  OpenClaim.holds_of_wide 7 Try.f7 rfl rfl rfl rfl rfl rfl rfl ⟨rfl, rfl, rfl, rfl, rfl⟩ rfl rfl rfl rfl rfl (by kernel_rfl) Try.func7 (by kernel_rfl)
    (of_decide_eq_true (by kernel_rfl)) (by unfold Func.isWrapper; first | (rw [if_pos (by decide +kernel)]; kernel_rfl) | (rw [if_neg (by decide +kernel)]; exact ⟨rfl, rfl⟩))
    (fun os started H enc _ => lifted os started H enc)

theorem proved : Rows.PerfectNilSaid := over
#print axioms proved
end Go.Proofs.Ytacijjioaanlgaa.perfectNil
