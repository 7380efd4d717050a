/-
  That the chunks of bytes are the document's: for every cutter and all bytes (the first 20,000) the law ChunkAlls returns true; no condition.
-/
import Derived.Test.YtmnbfmcgnddlaaaRows
import Derived.Test.YtmnbfmcgnddlaaaOpen
import Derived.Test.YtmnbfmcgnddlaaaChunkLaw
import Derived.WalkKit
import Derived.ProofKit
import Derived.OpenShut
import Derived.ShutString
import Derived.ChangeOld
import Derived.Below
namespace Go.Proofs.Ytmnbfmcgnddlaaa.chunkAlls
open Go.ChangeShapes Go.WideShapes Go.ChangeAt Go.RowKit
open Go.ChangeMaps (open_string shut_string)
set_option linter.unusedVariables false

theorem own : ownKnob Try.prog.godebug = none := by kernel_rfl
theorem laidOut : laidOutB Try.prog = true := by kernel_rfl

set_option maxHeartbeats 1000000 in
theorem alls_walk (mn mx ma ba : Int) (A : Option Addr) (c n : Nat) (l : List UInt8) (w : World) (hma : ma < 4294967296) (hba : ba < 4294967296) (hl : l.length = n) (hc : n ≤ c) (hm : c ≤ 9223372036854775807) (hr : Rd w w.heap.size A l) :
    Calls Try.prog 4 #[ctr mn mx ma ba, .slice A n c] w fun e w' => e = .returned (.bool true) ∧ Below w.heap.size w w' := by
  obtain ⟨m, hm20⟩ : ∃ m, m = min n 20000 := ⟨_, rfl⟩
  obtain ⟨ls, k, k1, k2⟩ := all_both mn mx ma ba hma hba A (l.take m) m c (by rw [List.length_take]; omega) (by omega) (by omega) hm
  obtain ⟨g, hg⟩ : ∃ g, g = w.heap.size := ⟨_, rfl⟩
  have hb1 := (Below.refl w.heap.size w).alloc (Nat.le_refl _) (.cells #[.int .i64 mn, .int .i64 mx, .int .u32 ma, .int .u32 ba] 24)
  have hB1 := blk_at w 24 #[.int .i64 mn, .int .i64 mx, .int .u32 ma, .int .u32 ba] hg
  have HG := Lib.hid hg
  go_enter Try.func4, Try.ntmps4
  go_wp2_with fail
  rw [← hg]
  generalize w.alloc (.cells #[.int .i64 mn, .int .i64 mx, .int .u32 ma, .int .u32 ba] 24) = w1 at *
  have HR := Lib.hid (show ∀ W, Below w1.heap.size w1 W → Rd W W.heap.size A (l.take m) from fun W h => (((hr.below hb1).below (h.mono hb1.size)).take m).more (by have := h.size; have := hb1.size; omega))
  have HKB := Lib.hid (show ∀ W, Below w1.heap.size w1 W → W.cell? ⟨g, 0, none⟩ = some (.int .i64 mn) ∧ W.cell? ⟨g, 1, none⟩ = some (.int .i64 mx) ∧ W.cell? ⟨g, 2, none⟩ = some (.int .u32 ma) ∧ W.cell? ⟨g, 3, none⟩ = some (.int .u32 ba) from fun W h => ctr_cells (hB1.below h hB1.lt))
  have hx0 : Below w1.heap.size w1 w1.drew := below_drewN (Below.refl _ _) 1
  have K1 := Lib.hid k1
  have K2 := Lib.hid k2
  have HB1 := Lib.hid hb1
  have KF := Lib.hid (show ∀ W, Calls Try.prog 14 #[.slice A n c] W fun e w' => e = .returned (.slice A m c) ∧ W = w' from fun W => few_any A n c m W hm20 hc hm)
  clear k1 k2 hr hb1 hB1 hm20 hl hg hc hm hma hba
  go_region_held3 (fun W => W.cell? ⟨g, 0, none⟩ = some (.int .i64 mn) ∧ W.cell? ⟨g, 1, none⟩ = some (.int .i64 mx) ∧ W.cell? ⟨g, 2, none⟩ = some (.int .u32 ma) ∧ W.cell? ⟨g, 3, none⟩ = some (.int .u32 ba)) (first | exact HKB.out _ (by assumption) | fail) (first
    | (go_at_call 10; (with_reducible refine (shown_any _).mono ?_); rintro e w2 ⟨rfl, hb2⟩; have hx2 := hx0.trans (hb2.mono hx0.size))
    | (go_at_call 14; (with_reducible refine (KF.out _).mono ?_); rintro e w3 ⟨rfl, rfl⟩)
    | (go_at_call 17; (with_reducible refine (K1.out _ (HR.out _ hx2)).mono ?_); rintro e w4 ⟨A4, c4, rfl, ht4⟩; have hx4 := hx2.trans (ht4.bel.mono hx2.size))
    | (go_at_call 18; (with_reducible refine (K2.out _ (HR.out _ hx4)).mono ?_); rintro e w5 ⟨A5, c5, rfl, ht5⟩; have hx5 := hx4.trans (ht5.bel.mono hx4.size))
    | (go_at_call 16; (with_reducible refine (same_told A4 A5 k c4 c5 ls (by have := ht4.le; have := ht4.max; simp only [maxLen] at this; omega) _ ht4.len (ht4.on ht5.bel) ht5.rows).mono ?_); rintro e w6 ⟨rfl, hb6⟩; have hx6 := hx5.trans (hb6.mono hx5.size)))
  have hb := HB1.out.trans (hx6.mono HB1.out.size)
  clear ht4 ht5 hx6 hx5 hx4 hx2 hx0
  go_wp2_with fail
  go_ret
  exact ⟨rfl, hb⟩
theorem walk (mn0 mx0 ma0 ba0 : Int) (A1 : Option Addr) (c1 : Nat) (z1 : List Int) (w : World) (hma0 : ma0 < 4294967296) (hba0 : ba0 < 4294967296)
    (hr1 : RdV w w.heap.size A1 (z1.map (Value.int .u8))) (hc1 : z1.length ≤ c1) (hm1 : c1 ≤ maxLen) (hw1 : ∀ n ∈ z1, (Lit.int .u8 n).wf = true) :
    Calls Try.prog 4 #[ctr mn0 mx0 ma0 ba0, .slice A1 z1.length c1] w fun e w' => e = .returned (.bool true) ∧ Below w.heap.size w w' :=
  alls_walk mn0 mx0 ma0 ba0 A1 c1 z1.length (bytesOf z1) w hma0 hba0 (bytesOf_length z1) hc1 hm1 (rd_bytes hr1 hw1)

set_option maxRecDepth 100000 in
theorem lifted (os : Os) (started : os.Started) (H : Type) (enc : TypeId × Value → H) :
    ReturnsInHanded {} Try.checked os 4 .any (Rows.chunkAllsSpec.pre6 enc Try.prog Try.f4 Rows.chunkAllsRow.domain false) (Rows.chunkAllsSpec.post enc Try.prog Try.f4 false true false false) := by
  refine returnsInHanded_of_change (C := Try.checked) own started (by kernel_rfl) Try.func4
    (ChangeSpec.witness6 (enc := enc) (C := Try.checked) false ⟨#[], #[.agg #[.int .i64 0, .int .i64 0, .int .u32 0, .int .u32 0], .slice none 0 0], []⟩ 8 (by kernel_rfl) (by kernel_rfl) (by kernel_rfl) (by kernel_rfl)) ?_
  intro W base args ds gs before hval0 hW hcnd _
  have hval : ∀ (j : Nat) t v, Try.f4.params[j]? = some t → args[j]? = some v → Value.okWide Try.prog W .any base t v := hval0
  have hW' := hW
  obtain ⟨p, q, hA0, hV, rfl, hfz, hnd⟩ := hW
  have hA : DataW.TrodAll enc Try.prog W 0 (fun _ => true) true Try.f4.params.toList args.toList ds p := hA0
  rw [Try.params4] at hA hval
  obtain ⟨v0, vs0, d0, ds0, p0, q0, hargs, rfl, rfl, h0, r0⟩ := trodAll_cons hA
  obtain ⟨v1, vs1, d1, ds1, p1, q1, rfl, rfl, rfl, h1, r1⟩ := trodAll_cons r0
  obtain ⟨rfl, rfl, rfl⟩ := trodAll_nil r1
  obtain rfl : args = #[v0, v1] := by cases args; simp_all
  obtain ⟨rfl, rfl⟩ := trodVars_none hV
  have k0 := h0
  have lt0 : ∀ x ∈ p0, x.block < W.heap.size := by obtain ⟨m, hm⟩ := k0; exact DataW.trod_lt m _ _ _ hm
  obtain ⟨mn0, mx0, ma0, ba0, rfl, hma0, hba0⟩ := open_ctr (hval 0 24 v0 rfl rfl) h0
  obtain ⟨A1, n1, c1, rfl⟩ := okWide_slice Try.underlying25 (hval 1 25 v1 rfl rfl)
  have k1 := h1
  have lt1 : ∀ x ∈ p1, x.block < W.heap.size := by obtain ⟨m, hm⟩ := k1; exact DataW.trod_lt m _ _ _ hm
  obtain ⟨fuel1, hf1⟩ := h1
  obtain ⟨z1, rfl, hr1, hc1, hm1, hw1⟩ := open_ints_arg Try.underlying25 Try.underlying5 (by kernel_rfl) hf1
  clear hA0 hval0
  simp only [List.append_nil] at hW'
  refine (walk mn0 mx0 ma0 ba0 A1 c1 z1 W hma0 hba0 hr1 hc1 hm1 hw1).mono fun e W' ⟨he, bel⟩ => ?_
  subst he
  exact ⟨_, rfl, _, _, _, [], _, [], hW', trodAll_mk1 (shut_bool Try.underlying4 _), (trodAll_cons_mk (Below.trod laidOut (by kernel_rfl) (of_decide_eq_true (by kernel_rfl)) k0 bel lt0) (trodAll_cons_mk (Below.trod laidOut (by kernel_rfl) (of_decide_eq_true (by kernel_rfl)) k1 bel lt1) trodAll_mk0)), rfl, bel.frame _, fun h => by cases h⟩

theorem over : Rows.chunkAllsRow.holds Try.pinned (OpenSpec.ofChange Rows.chunkAllsSpec) :=
  OpenClaim.holds_of_wide 4 Try.f4 rfl rfl rfl rfl rfl rfl rfl ⟨rfl, rfl, rfl, rfl, rfl⟩ rfl rfl rfl rfl rfl (by kernel_rfl) Try.func4 (by kernel_rfl)
    (of_decide_eq_true (by kernel_rfl)) (by unfold Func.isWrapper; first | (rw [if_pos (by decide +kernel)]; kernel_rfl) | (rw [if_neg (by decide +kernel)]; exact ⟨rfl, rfl⟩))
    (fun os started H enc _ => lifted os started H enc)

theorem proved : Rows.ChunkAllsSaid := over
#print axioms proved
end Go.Proofs.Ytmnbfmcgnddlaaa.chunkAlls
