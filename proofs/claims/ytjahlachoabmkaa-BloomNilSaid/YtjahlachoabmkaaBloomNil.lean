/-
  A nil filter has nothing: for every key and all bytes. No conditions.
-/
import Derived.Test.YtjahlachoabmkaaRows
import Derived.Test.YtjahlachoabmkaaOpen
import Derived.Test.YtjahlachoabmkaaBloomShown
import Derived.Test.YtjahlachoabmkaaBloomKey
import Derived.WalkKit
import Derived.ProofKit
import Derived.OpenShut
import Derived.ShutString
import Derived.ChangeOld
import Derived.Below
namespace Go.Proofs.Ytjahlachoabmkaa.bloomNil
open Go.ChangeShapes Go.WideShapes Go.ChangeAt Go.RowKit
open Go.ChangeMaps (open_string shut_string)
set_option linter.unusedVariables false

theorem own : ownKnob Try.prog.godebug = none := by kernel_rfl
theorem laidOut : laidOutB Try.prog = true := by kernel_rfl

set_option maxRecDepth 100000 in
set_option maxHeartbeats 1000000 in
theorem nil_walk (kc : Array Value) (s : List UInt8) (N : Nat) (K : KeyOk kc s N) (A : Option Addr) (n c : Nat) (w : World) :
    Calls Try.prog 7 #[.agg kc, .slice A n c] w fun e w' => e = .returned (.bool true) ∧ Below w.heap.size w w' := by
  obtain ⟨fs, hfs⟩ := key_desc
  have hksz : (Try.prog.info? 27).map (·.size) = some kc.size := by rw [K.size]; exact key_size
  have hb1 := (Below.refl w.heap.size w).alloc (Nat.le_refl _) (.cells kc 27)
  have hkb := Blk.new w 27 kc
  have HF := Lib.hid hfs
  have HK := Lib.hid hksz
  have HKS := Lib.hid K.size
  clear hfs hksz K
  go_enter Try.func7, Try.ntmps7
  go_wp2_with (refine wpList_load_row rfl 27 (.tmp 2) rfl w.heap.size rfl 27 kc (0, 0) (.struct fs) hkb HF.out rfl HK.out ?_)
  refine (add_nil kc HKS.out _).mono ?_
  rintro e w2 ⟨⟨x2, rfl⟩, hb2⟩
  have hkb2 := hkb.below hb2 hkb.lt
  have hx2 := hb1.trans (hb2.mono hb1.size)
  clear hb2 hb1 hkb
  go_wp2_with fail
  refine (or_nil A n c _).mono ?_
  rintro e w' ⟨⟨x3, rfl⟩, rfl⟩
  go_wp2_with fail
  refine (clear_nil _).mono ?_
  rintro e w' ⟨⟨x4, rfl⟩, rfl⟩
  go_wp2_with fail
  refine (shown_any _).mono ?_
  rintro e w3 ⟨rfl, hb3⟩
  have hkb3 := hkb2.below hb3 hkb2.lt
  have hx3 := hx2.trans (hb3.mono hx2.size)
  clear hb3 hx2 hkb2
  go_wp2_with (refine wpList_load_want rfl 27 (.tmp 2) rfl w.heap.size rfl 27 kc (0, 0) (.struct fs) hkb3 HF.out rfl HK.out ?_)
  refine (may_nil kc HKS.out _).mono ?_
  rintro e w4 ⟨rfl, hb4⟩
  have hx4 := hx3.trans (hb4.mono hx3.size)
  clear hb4 hx3
  go_wp2_with fail
  refine (bytes_nil _).mono ?_
  rintro e w' ⟨rfl, rfl⟩
  go_wp2_with fail
  go_ret
  exact ⟨rfl, hx4⟩
theorem walk (kc0 : Array Value) (s0 : List UInt8) (N0 : Nat) (A1 : Option Addr) (c1 : Nat) (z1 : List Int) (w : World) (hk0 : KeyOk kc0 s0 N0)
    (hr1 : RdV w w.heap.size A1 (z1.map (Value.int .u8))) (hc1 : z1.length ≤ c1) (hm1 : c1 ≤ maxLen) (hw1 : ∀ n ∈ z1, (Lit.int .u8 n).wf = true) :
    Calls Try.prog 7 #[.agg kc0, .slice A1 z1.length c1] w fun e w' => e = .returned (.bool true) ∧ Below w.heap.size w w' :=
  nil_walk kc0 s0 N0 hk0 A1 _ c1 w

set_option maxRecDepth 100000 in
theorem lifted (os : Os) (started : os.Started) (H : Type) (enc : TypeId × Value → H) :
    ReturnsInHanded {} Try.checked os 7 .any (Rows.bloomNilSpec.pre6 enc Try.prog Try.f7 Rows.bloomNilRow.domain false) (Rows.bloomNilSpec.post enc Try.prog Try.f7 false true false false) := by
  refine returnsInHanded_of_change (C := Try.checked) own started (by kernel_rfl) Try.func7
    (ChangeSpec.witness6 (enc := enc) (C := Try.checked) false ⟨#[], #[.agg #[.int .u8 0, .int .u8 0, .int .u8 0, .int .u8 0, .int .u8 0, .int .u8 0, .int .u8 0, .int .u8 0, .int .u8 0, .int .u8 0, .int .u8 0, .int .u8 0, .int .u8 0, .int .u8 0, .int .u8 0, .int .u8 0, .int .u8 0, .int .u8 0, .int .u8 0, .int .u8 0, .int .u8 0, .int .u8 0, .int .u8 0, .int .u8 0, .int .u8 0, .int .u8 0, .int .u8 0, .int .u8 0, .int .u8 0, .int .u8 0, .int .u8 0, .int .u8 0, .int .u32 0], .slice none 0 0], []⟩ 8 (by kernel_rfl) (by kernel_rfl) (by kernel_rfl) (by kernel_rfl)) ?_
  intro W base args ds gs before hval0 hW hcnd _
  have hval : ∀ (j : Nat) t v, Try.f7.params[j]? = some t → args[j]? = some v → Value.okWide Try.prog W .any base t v := hval0
  have hW' := hW
  obtain ⟨p, q, hA0, hV, rfl, hfz, hnd⟩ := hW
  have hA : DataW.TrodAll enc Try.prog W 0 (fun _ => true) true Try.f7.params.toList args.toList ds p := hA0
  rw [Try.params7] at hA hval
  obtain ⟨v0, vs0, d0, ds0, p0, q0, hargs, rfl, rfl, h0, r0⟩ := trodAll_cons hA
  obtain ⟨v1, vs1, d1, ds1, p1, q1, rfl, rfl, rfl, h1, r1⟩ := trodAll_cons r0
  obtain ⟨rfl, rfl, rfl⟩ := trodAll_nil r1
  obtain rfl : args = #[v0, v1] := by cases args; simp_all
  obtain ⟨rfl, rfl⟩ := trodVars_none hV
  have k0 := h0
  have lt0 : ∀ x ∈ p0, x.block < W.heap.size := by obtain ⟨m, hm⟩ := k0; exact DataW.trod_lt m _ _ _ hm
  obtain ⟨kc0, s0, N0, rfl, hk0⟩ := open_key (hval 0 27 v0 rfl rfl) h0
  obtain ⟨A1, n1, c1, rfl⟩ := okWide_slice Try.underlying37 (hval 1 37 v1 rfl rfl)
  have k1 := h1
  have lt1 : ∀ x ∈ p1, x.block < W.heap.size := by obtain ⟨m, hm⟩ := k1; exact DataW.trod_lt m _ _ _ hm
  obtain ⟨fuel1, hf1⟩ := h1
  obtain ⟨z1, rfl, hr1, hc1, hm1, hw1⟩ := open_ints_arg Try.underlying37 Try.underlying5 (by kernel_rfl) hf1
  clear hA0 hval0
  simp only [List.append_nil] at hW'
  refine (walk kc0 s0 N0 A1 c1 z1 W hk0 hr1 hc1 hm1 hw1).mono fun e W' ⟨he, bel⟩ => ?_
  subst he
  exact ⟨_, rfl, _, _, _, [], _, [], hW', trodAll_mk1 (shut_bool Try.underlying4 _), (trodAll_cons_mk (Below.trod laidOut (by kernel_rfl) (of_decide_eq_true (by kernel_rfl)) k0 bel lt0) (trodAll_cons_mk (Below.trod laidOut (by kernel_rfl) (of_decide_eq_true (by kernel_rfl)) k1 bel lt1) trodAll_mk0)), rfl, bel.frame _, fun h => by cases h⟩

theorem over : Rows.bloomNilRow.holds Try.pinned (OpenSpec.ofChange Rows.bloomNilSpec) :=
  OpenClaim.holds_of_wide 7 Try.f7 rfl rfl rfl rfl rfl rfl rfl ⟨rfl, rfl, rfl, rfl, rfl⟩ rfl rfl rfl rfl rfl (by kernel_rfl) Try.func7 (by kernel_rfl)
    (of_decide_eq_true (by kernel_rfl)) (by unfold Func.isWrapper; first | (rw [if_pos (by decide +kernel)]; kernel_rfl) | (rw [if_neg (by decide +kernel)]; exact ⟨rfl, rfl⟩))
    (fun os started H enc _ => lifted os started H enc)

theorem proved : Rows.BloomNilSaid := over
#print axioms proved
end Go.Proofs.Ytjahlachoabmkaa.bloomNil
