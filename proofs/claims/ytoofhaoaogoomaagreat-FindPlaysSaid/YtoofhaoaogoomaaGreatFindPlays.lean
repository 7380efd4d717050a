/-
  Whatever is put, taken out, looked for and blurred, all answers, and what they cost, are the document's: for all numbers, lists of acts, keys and shelves, without any condition.
-/
import Derived.Test.YtoofhaoaogoomaaGreatRows
import Derived.Test.YtoofhaoaogoomaaGreatZLAA
import Derived.Test.YtoofhaoaogoomaaGreatFdPlays
import Derived.Test.YtoofhaoaogoomaaGreatFdOk
import Derived.WalkKit
import Derived.ProofKit
import Derived.OpenShut
import Derived.ShutString
import Derived.ChangeOld
import Derived.Below
namespace Go.Proofs.YtoofhaoaogoomaaGreat.findPlays
open Go.ChangeShapes Go.WideShapes Go.ChangeAt Go.RowKit
open Go.ChangeMaps (open_string shut_string)
set_option linter.unusedVariables false

theorem own : ownKnob Tryz.prog.godebug = none := by kernel_rfl
theorem laidOut : laidOutB Tryz.prog = true := by kernel_rfl

theorem walk (qh0 : Int × Int × Int) (A1 : Option Addr) (c1 : Nat) (z1 : List FAct) (ky2 : KeyT) (w : World) (hqh0 : In64 qh0.1 ∧ In64 qh0.2.1 ∧ In64 qh0.2.2) (hr : RdF w w.heap.size A1 z1) (hc : z1.length ≤ c1) (hm : c1 ≤ maxLen) (hw : True) (hky2 : ky2.Ok) :
    Calls Tryz.prog 3 #[.agg (hws qh0.1 qh0.2.1 qh0.2.2).toArray, .slice A1 z1.length c1, .agg (kcs ky2).toArray] w fun e w' => e = .returned (.bool true) ∧ Below w.heap.size w w' := by
  obtain ⟨qa, qb, qc⟩ := qh0
  obtain ⟨ha, hb, hd⟩ := hqh0
  by_cases h : (0 ≤ qa ∧ qa ≤ 1048576) ∧ (0 ≤ qb ∧ qb ≤ 30) ∧ (0 ≤ qc ∧ qc ≤ 4096)
  · obtain ⟨⟨a1, a2⟩, ⟨b1, b2⟩, ⟨d1, d2⟩⟩ := h
    obtain ⟨x, rfl⟩ : ∃ x : Nat, qa = (x : Int) := ⟨qa.toNat, by omega⟩
    obtain ⟨y, rfl⟩ : ∃ y : Nat, qb = (y : Int) := ⟨qb.toNat, by omega⟩
    obtain ⟨z, rfl⟩ : ∃ z : Nat, qc = (z : Int) := ⟨qc.toNat, by omega⟩
    exact plays_good findersOk x y z (by omega) (by omega) (by omega) A1 _ c1 z1 rfl hc hm ky2 hky2 w hr
  · exact plays_bad findersOk qa qb qc ha hb hd h A1 _ c1 ky2 w

set_option maxRecDepth 100000 in
theorem lifted (os : Os) (started : os.Started) (H : Type) (enc : TypeId × Value → H) :
    ReturnsInHanded {} Tryz.checked os 3 .any (Rows.findPlaysSpec.pre6 enc Tryz.prog Tryz.f3 Rows.findPlaysRow.domain false) (Rows.findPlaysSpec.post enc Tryz.prog Tryz.f3 false true false false) := by
  refine returnsInHanded_of_change (C := Tryz.checked) own started (by kernel_rfl) Tryz.func3
    (ChangeSpec.witness6 (enc := enc) (C := Tryz.checked) false ⟨#[], #[.agg #[.int .i64 0, .int .i64 0, .int .i64 0], .slice none 0 0, .agg #[.int .u8 0, .int .u8 0, .int .u8 0, .int .u8 0, .int .u8 0, .int .u8 0, .int .u8 0, .int .u8 0, .int .u8 0, .int .u8 0, .int .u8 0, .int .u8 0, .int .u8 0, .int .u8 0, .int .u8 0, .int .u8 0, .int .u8 0, .int .u8 0, .int .u8 0, .int .u8 0, .int .u8 0, .int .u8 0, .int .u8 0, .int .u8 0, .int .u8 0, .int .u8 0, .int .u8 0, .int .u8 0, .int .u8 0, .int .u8 0, .int .u8 0, .int .u8 0, .int .u32 0]], []⟩ 8 (by kernel_rfl) (by kernel_rfl) (by kernel_rfl) (by kernel_rfl)) ?_
  intro W base args ds gs before hval0 hW hcnd _
  have hval : ∀ (j : Nat) t v, Tryz.f3.params[j]? = some t → args[j]? = some v → Value.okWide Tryz.prog W .any base t v := hval0
  have hW' := hW
  obtain ⟨p, q, hA0, hV, rfl, hfz, hnd⟩ := hW
  have hA : DataW.TrodAll enc Tryz.prog W 0 (fun _ => true) true Tryz.f3.params.toList args.toList ds p := hA0
  rw [Tryz.params3] at hA hval
  obtain ⟨v0, vs0, d0, ds0, p0, q0, hargs, rfl, rfl, h0, r0⟩ := trodAll_cons hA
  obtain ⟨v1, vs1, d1, ds1, p1, q1, rfl, rfl, rfl, h1, r1⟩ := trodAll_cons r0
  obtain ⟨v2, vs2, d2, ds2, p2, q2, rfl, rfl, rfl, h2, r2⟩ := trodAll_cons r1
  obtain ⟨rfl, rfl, rfl⟩ := trodAll_nil r2
  obtain rfl : args = #[v0, v1, v2] := by cases args; simp_all
  obtain ⟨rfl, rfl⟩ := trodVars_none hV
  have k0 := h0
  have lt0 : ∀ x ∈ p0, x.block < W.heap.size := by obtain ⟨m, hm⟩ := k0; exact DataW.trod_lt m _ _ _ hm
  obtain ⟨qh0, rfl, hqh0⟩ := open_how (hval 0 23 v0 rfl rfl) h0
  obtain ⟨A1, n1, c1, rfl⟩ := okWide_slice Tryz.underlying24 (hval 1 24 v1 rfl rfl)
  have k1 := h1
  have lt1 : ∀ x ∈ p1, x.block < W.heap.size := by obtain ⟨m, hm⟩ := k1; exact DataW.trod_lt m _ _ _ hm
  obtain ⟨fuel1, hf1⟩ := h1
  obtain ⟨z1, rfl, hr1, hc1, hm1, hw1⟩ := open_facts_arg hf1
  have k2 := h2
  have lt2 : ∀ x ∈ p2, x.block < W.heap.size := by obtain ⟨m, hm⟩ := k2; exact DataW.trod_lt m _ _ _ hm
  obtain ⟨ky2, rfl, hky2⟩ := open_key2 (hval 2 29 v2 rfl rfl) h2
  clear hA0 hval0
  simp only [List.append_nil] at hW'
  refine (walk qh0 A1 c1 z1 ky2 W hqh0 hr1 hc1 hm1 hw1 hky2).mono fun e W' ⟨he, bel⟩ => ?_
  subst he
  exact ⟨_, rfl, _, _, _, [], _, [], hW', trodAll_mk1 (shut_bool Tryz.underlying4 _), (trodAll_cons_mk (Below.trod laidOut (by kernel_rfl) (of_decide_eq_true (by kernel_rfl)) k0 bel lt0) (trodAll_cons_mk (Below.trod laidOut (by kernel_rfl) (of_decide_eq_true (by kernel_rfl)) k1 bel lt1) (trodAll_cons_mk (Below.trod laidOut (by kernel_rfl) (of_decide_eq_true (by kernel_rfl)) k2 bel lt2) trodAll_mk0))), rfl, bel.frame _, fun h => by cases h⟩

theorem over : Rows.findPlaysRow.holds Tryz.pinned (OpenSpec.ofChange Rows.findPlaysSpec) :=
  OpenClaim.holds_of_wide 3 Tryz.f3 rfl rfl rfl rfl rfl rfl rfl ⟨rfl, rfl, rfl, rfl, rfl⟩ rfl rfl rfl rfl rfl (by kernel_rfl) Tryz.func3 (by kernel_rfl)
    (of_decide_eq_true (by kernel_rfl)) (by unfold Func.isWrapper; first | (rw [if_pos (by decide +kernel)]; kernel_rfl) | (rw [if_neg (by decide +kernel)]; exact ⟨rfl, rfl⟩))
    (fun os started H enc _ => lifted os started H enc)

theorem proved : Rows.FindPlaysSaid := over
#print axioms proved
end Go.Proofs.YtoofhaoaogoomaaGreat.findPlays
