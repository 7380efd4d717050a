/- The contract of model of the laws of package space. No statement of the seat is proved here. -/
import Derived.Test.YtlcbmpojigjjlaaSpcDo
import Derived.Test.YtlcbmpojigjjlaaSpcRefC
namespace Go.Proofs.Ytlcbmpojigjjlaa
open Go.RowKit
set_option linter.unusedVariables false

section
variable {w0 w : World} {s : Addr} {N : Nat → Prop} {S : PS}
theorem rtake' (h : Turned Rsp w0 s N w S) : Calls Try.prog 28 #[.pointer (some s)] w fun e w' => e = .returned (.tuple #[.int .i64 (takeV S), .int .i64 (takeE S)]) ∧ Turned Rsp w0 s N w' (takeP S) := by
  obtain ⟨F, h1, h2, h3⟩ := h
  exact (rtake_any h1).mono fun e w' ⟨he, ht⟩ => ⟨he, Turned.step h2 h3 ht⟩
theorem rhold' (h : Turned Rsp w0 s N w S) (at_ : Int) : Calls Try.prog 29 #[.pointer (some s), .int .i64 at_] w fun e w' => e = .returned (.int .i64 (holdE S at_)) ∧ Turned Rsp w0 s N w' (holdP S at_) := by
  obtain ⟨F, h1, h2, h3⟩ := h
  exact (rhold_any h1 at_).mono fun e w' ⟨he, ht⟩ => ⟨he, Turned.step h2 h3 ht⟩
theorem rfree' (h : Turned Rsp w0 s N w S) (at_ : Int) : Calls Try.prog 30 #[.pointer (some s), .int .i64 at_] w fun e w' => e = .returned (.int .i64 (freeE S at_)) ∧ Turned Rsp w0 s N w' (freeP S at_) := by
  obtain ⟨F, h1, h2, h3⟩ := h
  exact (rfree_any h1 at_).mono fun e w' ⟨he, ht⟩ => ⟨he, Turned.step h2 h3 ht⟩
end
set_option maxHeartbeats 1000000 in
/-- An act. -/
theorem model_any {w0 w : World} {s : Addr} {N : Nat → Prop} {S : PS} (h : Turned Rsp w0 s N w S) (a : PActT) (ha : a.Ok) :
    Calls Try.prog 14 #[.pointer (some s), .agg (pcsA a).toArray] w fun e w' => e = .returned (.tuple #[.int .i64 (doV S a), .int .i64 (doE S a)]) ∧ Turned Rsp w0 s N w' (doP S a) := by
  have hb1 : Below w.heap.size w (w.alloc (.cells (pcsA a).toArray 33)) := (Below.refl _ _).alloc (Nat.le_refl _) _
  have hk1 := Blk.new w 33 (pcsA a).toArray
  obtain ⟨w1, hw1⟩ : ∃ w1, w.alloc (.cells (pcsA a).toArray 33) = w1 := ⟨_, rfl⟩
  obtain ⟨ab, hab⟩ : ∃ ab, w.heap.size = ab := ⟨_, rfl⟩
  rw [hw1] at hb1 hk1
  have h1 := rsp_firm.on h hb1
  rw [hab] at hk1
  have hc0 : w1.cell? ⟨ab, 0, none⟩ = some (.int .u8 a.kind) := hk1.cell 0
  have hc1 : w1.cell? ⟨ab, 1, none⟩ = some (.int .i64 a.at_) := hk1.cell 1
  have KT := Lib.hid (rtake' h1)
  have KH := Lib.hid (rhold' h1 a.at_)
  have KF := Lib.hid (rfree' h1 a.at_)
  have HW1 := Lib.hid hw1
  have HAB := Lib.hid hab
  have hkd := ha.kind
  obtain ⟨kd, hkd0⟩ : ∃ kd, a.kind = kd := ⟨_, rfl⟩
  have hV : doV S a = if kd % 3 = 0 then takeV S else 0 := by unfold doV; rw [hkd0]
  have hE : doE S a = if kd % 3 = 0 then takeE S else if kd % 3 = 1 then holdE S a.at_ else freeE S a.at_ := by unfold doE; rw [hkd0]
  have hP : doP S a = if kd % 3 = 0 then takeP S else if kd % 3 = 1 then holdP S a.at_ else freeP S a.at_ := by unfold doP; rw [hkd0]
  rw [hV, hE, hP]
  have HPC := Lib.hid (show (pcsA a).toArray = #[.int .u8 (kd : Nat), .int .i64 a.at_] by unfold pcsA; rw [hkd0])
  rw [hkd0] at hkd hc0
  rw [HPC.out]
  rw [HPC.out] at hw1
  have HW1 := Lib.hid hw1
  obtain ⟨r, hr⟩ : ∃ r, kd % 3 = r := ⟨_, rfl⟩
  have hri : (kd : Int) % 3 = (r : Int) := by omega
  have hr3 : r < 3 := by omega
  rw [hr]
  obtain ⟨x, hx⟩ : ∃ x, a.at_ = x := ⟨_, rfl⟩
  rw [hx] at hc1 KH KF ⊢
  rw [hx] at HW1
  clear h h1 hb1 hk1 hw1 hab hkd0 hV hE hP hr ha hx HPC
  have hrr : r = 0 ∨ r = 1 ∨ r = 2 := by omega
  rcases hrr with rfl | rfl | rfl
  · rw [if_pos rfl, if_pos rfl, if_pos rfl]
    generalize takeV S = tv at *
    generalize takeE S = te at *
    generalize takeP S = T at *
    go_enter Try.func14, Try.ntmps14
    go_upto_region 1 with fail
    rw [HW1.out, HAB.out]
    go_wp2_with fail
    (with_reducible refine KT.out.mono ?_)
    rintro e w2 ⟨rfl, h2⟩
    have H2 := Lib.hid h2
    clear h2
    go_wp2_with fail
    go_ret2
    exact ⟨rfl, H2.out⟩
  · rw [if_neg (by decide), if_neg (by decide), if_pos rfl, if_neg (by decide), if_pos rfl]
    generalize holdE S x = te at *
    generalize holdP S x = T at *
    go_enter Try.func14, Try.ntmps14
    go_upto_region 1 with fail
    rw [HW1.out, HAB.out]
    go_wp2_with fail
    (with_reducible refine KH.out.mono ?_)
    rintro e w2 ⟨rfl, h2⟩
    have H2 := Lib.hid h2
    clear h2
    go_wp2_with fail
    go_ret2
    exact ⟨rfl, H2.out⟩
  · rw [if_neg (by decide), if_neg (by decide), if_neg (by decide), if_neg (by decide), if_neg (by decide)]
    generalize freeE S x = te at *
    generalize freeP S x = T at *
    go_enter Try.func14, Try.ntmps14
    go_upto_region 1 with fail
    rw [HW1.out, HAB.out]
    go_wp2_with fail
    (with_reducible refine KF.out.mono ?_)
    rintro e w2 ⟨rfl, h2⟩
    have H2 := Lib.hid h2
    clear h2
    go_wp2_with fail
    go_ret2
    exact ⟨rfl, H2.out⟩
end Go.Proofs.Ytlcbmpojigjjlaa
