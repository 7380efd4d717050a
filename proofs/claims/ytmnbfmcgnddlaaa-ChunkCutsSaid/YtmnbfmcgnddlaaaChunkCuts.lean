/-
  That how streams may be cut, and how long the first chunk of bytes is, is the document's: for every cutter and all bytes (the first 20,000) the law ChunkCuts returns true; no condition.
-/
import Derived.Test.YtmnbfmcgnddlaaaRows
import Derived.Test.YtmnbfmcgnddlaaaOpen
import Derived.Test.YtmnbfmcgnddlaaaChunkLaw
import Derived.WalkKit
import Derived.ProofKit
import Derived.OpenShut
import Derived.ShutString
import Derived.ChangeOld
import Derived.Below
namespace Go.Proofs.Ytmnbfmcgnddlaaa.chunkCuts
open Go.ChangeShapes Go.WideShapes Go.ChangeAt Go.RowKit
open Go.ChangeMaps (open_string shut_string)
set_option linter.unusedVariables false

theorem own : ownKnob Try.prog.godebug = none := by kernel_rfl
theorem laidOut : laidOutB Try.prog = true := by kernel_rfl

set_option maxHeartbeats 1000000 in
theorem cuts_walk (mn mx ma ba : Int) (A : Option Addr) (c n : Nat) (l : List UInt8) (w : World) (hma : ma < 4294967296) (hba : ba < 4294967296) (hl : l.length = n) (hc : n ≤ c) (hm : c ≤ 9223372036854775807) (hr : Rd w w.heap.size A l) :
    Calls Try.prog 3 #[ctr mn mx ma ba, .slice A n c] w fun e w' => e = .returned (.bool true) ∧ Below w.heap.size w w' := by
  obtain ⟨m, hm20⟩ : ∃ m, m = min n 20000 := ⟨_, rfl⟩
  obtain ⟨x, k1, k2⟩ := cut_both mn mx ma ba hma hba A (l.take m) m c (by rw [List.length_take]; omega) (by omega) hm
  obtain ⟨r, hr0⟩ : ∃ r, r = decide (okI mn mx ma ba) := ⟨_, rfl⟩
  obtain ⟨g, hg⟩ : ∃ g, g = w.heap.size := ⟨_, rfl⟩
  have hb1 := (Below.refl w.heap.size w).alloc (Nat.le_refl _) (.cells #[.int .i64 mn, .int .i64 mx, .int .u32 ma, .int .u32 ba] 24)
  have hB1 := blk_at w 24 #[.int .i64 mn, .int .i64 mx, .int .u32 ma, .int .u32 ba] hg
  go_enter Try.func3, Try.ntmps3
  go_wp2_with fail
  rw [← hg]
  generalize w.alloc (.cells #[.int .i64 mn, .int .i64 mx, .int .u32 ma, .int .u32 ba] 24) = w1 at *
  obtain ⟨c0, c1, c2, c3⟩ := ctr_cells hB1
  have hr1 : ∀ W, Below w1.heap.size w1 W → Rd W W.heap.size A (l.take m) := fun W h => (((hr.below hb1).below (h.mono hb1.size)).take m).more (by have := h.size; have := hb1.size; omega)
  have q0 := fun d os => Lib.hid (from_base (P := Try.prog) (w := w1) (fun W _ => shown_any W) d os)
  have q1 := fun d os => Lib.hid (from_base (P := Try.prog) (w := w1) (fun W _ => by have := right_any mn mx ma ba W; rw [← hr0] at this; exact this) d os)
  have q2 := fun d os => Lib.hid (from_base (P := Try.prog) (w := w1) (fun W _ => by have := refright_any mn mx ma ba W; rw [← hr0] at this; exact this) d os)
  have q3 := fun d os => Lib.hid (from_base (P := Try.prog) (w := w1) (fun W _ => (few_any A n c m W hm20 hc hm).mono fun _ _ ⟨he, hw⟩ => ⟨he, hw ▸ Below.refl _ _⟩) d os)
  have q4 := fun d os => Lib.hid (from_base (P := Try.prog) (w := w1) (fun W h => k1 W (hr1 W h)) d os)
  have q5 := fun d os => Lib.hid (from_base (P := Try.prog) (w := w1) (fun W h => k2 W (hr1 W h)) d os)
  have d0 := cell_base c0
  have d1 := cell_base c1
  have d2 := cell_base c2
  have d3 := cell_base c3
  have HB1 := Lib.hid hb1
  clear k1 k2 hr1 hr hr0 hb1 hB1 c0 c1 c2 c3 hm20 hl hg hc hm hma hba
  refine wp_region_quiet_below (by kernel_rfl) (by kernel_rfl) ?_
  repeat (go_big_quiet_step (first | exact (q0 _ _).out | exact (q1 _ _).out | exact (q2 _ _).out | exact (q3 _ _).out | exact (q4 _ _).out | exact (q5 _ _).out))
  refine wpQuiet_nil ?_
  intro _ hw'
  obtain ⟨⟨dq, osq⟩, hw''⟩ := hw'
  subst hw''
  go_wp2_with fail
  go_ret
  exact ⟨rfl, HB1.out.trans ((below_regrown w1 dq osq).mono HB1.out.size)⟩
theorem walk (mn0 mx0 ma0 ba0 : Int) (A1 : Option Addr) (c1 : Nat) (z1 : List Int) (w : World) (hma0 : ma0 < 4294967296) (hba0 : ba0 < 4294967296)
    (hr1 : RdV w w.heap.size A1 (z1.map (Value.int .u8))) (hc1 : z1.length ≤ c1) (hm1 : c1 ≤ maxLen) (hw1 : ∀ n ∈ z1, (Lit.int .u8 n).wf = true) :
    Calls Try.prog 3 #[ctr mn0 mx0 ma0 ba0, .slice A1 z1.length c1] w fun e w' => e = .returned (.bool true) ∧ Below w.heap.size w w' :=
  cuts_walk mn0 mx0 ma0 ba0 A1 c1 z1.length (bytesOf z1) w hma0 hba0 (bytesOf_length z1) hc1 hm1 (rd_bytes hr1 hw1)

set_option maxRecDepth 100000 in
theorem lifted (os : Os) (started : os.Started) (H : Type) (enc : TypeId × Value → H) :
    ReturnsInHanded {} Try.checked os 3 .any (Rows.chunkCutsSpec.pre6 enc Try.prog Try.f3 Rows.chunkCutsRow.domain false) (Rows.chunkCutsSpec.post enc Try.prog Try.f3 false true false false) := by
  refine returnsInHanded_of_change (C := Try.checked) own started (by kernel_rfl) Try.func3
    (ChangeSpec.witness6 (enc := enc) (C := Try.checked) false ⟨#[], #[.agg #[.int .i64 0, .int .i64 0, .int .u32 0, .int .u32 0], .slice none 0 0], []⟩ 8 (by kernel_rfl) (by kernel_rfl) (by kernel_rfl) (by kernel_rfl)) ?_
  intro W base args ds gs before hval0 hW hcnd _
  have hval : ∀ (j : Nat) t v, Try.f3.params[j]? = some t → args[j]? = some v → Value.okWide Try.prog W .any base t v := hval0
  have hW' := hW
  obtain ⟨p, q, hA0, hV, rfl, hfz, hnd⟩ := hW
  have hA : DataW.TrodAll enc Try.prog W 0 (fun _ => true) true Try.f3.params.toList args.toList ds p := hA0
  rw [Try.params3] at hA hval
  obtain ⟨v0, vs0, d0, ds0, p0, q0, hargs, rfl, rfl, h0, r0⟩ := trodAll_cons hA
  obtain ⟨v1, vs1, d1, ds1, p1, q1, rfl, rfl, rfl, h1, r1⟩ := trodAll_cons r0
  obtain ⟨rfl, rfl, rfl⟩ := trodAll_nil r1
  obtain rfl : args = #[v0, v1] := by cases args; simp_all
  obtain ⟨rfl, rfl⟩ := trodVars_none hV
  have k0 := h0
  have lt0 : ∀ x ∈ p0, x.block < W.heap.size := by obtain ⟨m, hm⟩ := k0; exact DataW.trod_lt m _ _ _ hm
  obtain ⟨mn0, mx0, ma0, ba0, rfl, hma0, hba0⟩ := open_ctr (hval 0 24 v0 rfl rfl) h0
  obtain ⟨A1, n1, c1, rfl⟩ := okWide_slice Try.underlying25 (hval 1 25 v1 rfl rfl)
  have k1 := h1
  have lt1 : ∀ x ∈ p1, x.block < W.heap.size := by obtain ⟨m, hm⟩ := k1; exact DataW.trod_lt m _ _ _ hm
  obtain ⟨fuel1, hf1⟩ := h1
  obtain ⟨z1, rfl, hr1, hc1, hm1, hw1⟩ := open_ints_arg Try.underlying25 Try.underlying5 (by kernel_rfl) hf1
  clear hA0 hval0
  simp only [List.append_nil] at hW'
  refine (walk mn0 mx0 ma0 ba0 A1 c1 z1 W hma0 hba0 hr1 hc1 hm1 hw1).mono fun e W' ⟨he, bel⟩ => ?_
  subst he
  exact ⟨_, rfl, _, _, _, [], _, [], hW', trodAll_mk1 (shut_bool Try.underlying4 _), (trodAll_cons_mk (Below.trod laidOut (by kernel_rfl) (of_decide_eq_true (by kernel_rfl)) k0 bel lt0) (trodAll_cons_mk (Below.trod laidOut (by kernel_rfl) (of_decide_eq_true (by kernel_rfl)) k1 bel lt1) trodAll_mk0)), rfl, bel.frame _, fun h => by cases h⟩

theorem over : Rows.chunkCutsRow.holds Try.pinned (OpenSpec.ofChange Rows.chunkCutsSpec) :=
  OpenClaim.holds_of_wide 3 Try.f3 rfl rfl rfl rfl rfl rfl rfl ⟨rfl, rfl, rfl, rfl, rfl⟩ rfl rfl rfl rfl rfl (by kernel_rfl) Try.func3 (by kernel_rfl)
    (of_decide_eq_true (by kernel_rfl)) (by unfold Func.isWrapper; first | (rw [if_pos (by decide +kernel)]; kernel_rfl) | (rw [if_neg (by decide +kernel)]; exact ⟨rfl, rfl⟩))
    (fun os started H enc _ => lifted os started H enc)

theorem proved : Rows.ChunkCutsSaid := over
#print axioms proved
end Go.Proofs.Ytmnbfmcgnddlaaa.chunkCuts
