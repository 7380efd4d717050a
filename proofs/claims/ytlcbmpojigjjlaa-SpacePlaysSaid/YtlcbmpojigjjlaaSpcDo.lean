/- The contracts of few and does of the laws of package space, told from what the package's spaces do. No statement of the seat is proved here. -/
import Derived.Test.YtlcbmpojigjjlaaSpcKit
import Derived.Test.YtlcbmpojigjjlaaSpcAct
import Derived.Deep.Cut
import Derived.Deep.CutBlock
import Derived.Deep.DeepCutAuto
namespace Go.Proofs.Ytlcbmpojigjjlaa
open Go.RowKit
set_option linter.unusedVariables false

/-- How many acts are gone through. -/
theorem few_any (A : Option Addr) (n c : Nat) (hc : n ≤ c) (hm : c ≤ maxLen) (w : World) :
    Calls Try.prog 12 #[.slice A n c] w fun e w' => ∃ k, k ≤ n ∧ k ≤ 300 ∧ e = .returned (.slice A k c) ∧ w = w' := by
  unfold maxLen at hm
  obtain ⟨k, hk⟩ : ∃ k, min n 300 = k := ⟨_, rfl⟩
  have hmn : (if (300 : Int) < (n : Int) then (300 : Int) else (n : Int)) = (k : Int) := by split <;> omega
  have hk1 : (0 : Int) ≤ (k : Int) := by omega
  have hk2 : (k : Int) ≤ (c : Int) := by omega
  have HK := Lib.hid (show k ≤ n ∧ k ≤ 300 by omega)
  clear hk
  go_enter Try.func12, Try.ntmps12
  go_wp2_with fail
  go_ret
  exact ⟨k, HK.out.1, HK.out.2, rfl, rfl⟩
section
variable {St : World → Addr → (Nat → Prop) → PS → Prop}
set_option maxHeartbeats 1000000 in
/-- An act. -/
theorem does_any (K : SpacesOk St) {w0 w : World} {s : Addr} {N : Nat → Prop} {S : PS} (h : Turned St w0 s N w S) (a : PActT) (ha : a.Ok) :
    Calls Try.prog 13 #[.pointer (some s), .agg (pcsA a).toArray] w fun e w' => e = .returned (.tuple #[.int .i64 (doV S a), .int .i64 (doE S a)]) ∧ Turned St w0 s N w' (doP S a) := by
  have hb1 : Below w.heap.size w (w.alloc (.cells (pcsA a).toArray 33)) := (Below.refl _ _).alloc (Nat.le_refl _) _
  have hk1 := Blk.new w 33 (pcsA a).toArray
  obtain ⟨w1, hw1⟩ : ∃ w1, w.alloc (.cells (pcsA a).toArray 33) = w1 := ⟨_, rfl⟩
  obtain ⟨ab, hab⟩ : ∃ ab, w.heap.size = ab := ⟨_, rfl⟩
  rw [hw1] at hb1 hk1
  have h1 := K.on h hb1
  rw [hab] at hk1
  have hc0 : w1.cell? ⟨ab, 0, none⟩ = some (.int .u8 a.kind) := hk1.cell 0
  have hc1 : w1.cell? ⟨ab, 1, none⟩ = some (.int .i64 a.at_) := hk1.cell 1
  have KT := Lib.hid (K.take' h1)
  have KH := Lib.hid (K.hold' h1 a.at_ ha.at_)
  have KF := Lib.hid (K.free' h1 a.at_ ha.at_)
  have HW1 := Lib.hid hw1
  have HAB := Lib.hid hab
  have hkd := ha.kind
  obtain ⟨kd, hkd0⟩ : ∃ kd, a.kind = kd := ⟨_, rfl⟩
  have hV : doV S a = if kd % 3 = 0 then takeV S else 0 := by unfold doV; rw [hkd0]
  have hE : doE S a = if kd % 3 = 0 then takeE S else if kd % 3 = 1 then holdE S a.at_ else freeE S a.at_ := by unfold doE; rw [hkd0]
  have hP : doP S a = if kd % 3 = 0 then takeP S else if kd % 3 = 1 then holdP S a.at_ else freeP S a.at_ := by unfold doP; rw [hkd0]
  rw [hV, hE, hP]
  have HPC := Lib.hid (show (pcsA a).toArray = #[.int .u8 (kd : Nat), .int .i64 a.at_] by unfold pcsA; rw [hkd0])
  rw [hkd0] at hkd hc0
  rw [HPC.out]
  rw [HPC.out] at hw1
  have HW1 := Lib.hid hw1
  obtain ⟨r, hr⟩ : ∃ r, kd % 3 = r := ⟨_, rfl⟩
  have hri : (kd : Int) % 3 = (r : Int) := by omega
  have hr3 : r < 3 := by omega
  rw [hr]
  obtain ⟨x, hx⟩ : ∃ x, a.at_ = x := ⟨_, rfl⟩
  rw [hx] at hc1 KH KF ⊢
  rw [hx] at HW1
  clear h h1 hb1 hk1 hw1 hab hkd0 hV hE hP hr ha hx HPC
  have hrr : r = 0 ∨ r = 1 ∨ r = 2 := by omega
  rcases hrr with rfl | rfl | rfl
  · rw [if_pos rfl, if_pos rfl, if_pos rfl]
    generalize takeV S = tv at *
    generalize takeE S = te at *
    generalize takeP S = T at *
    go_enter Try.func13, Try.ntmps13
    go_upto_region 1 with fail
    rw [HW1.out, HAB.out]
    go_wp2_with fail
    (with_reducible refine KT.out.mono ?_)
    rintro e w2 ⟨rfl, h2⟩
    have H2 := Lib.hid h2
    clear h2
    go_wp2_with fail
    go_ret2
    exact ⟨rfl, H2.out⟩
  · rw [if_neg (by decide), if_neg (by decide), if_pos rfl, if_neg (by decide), if_pos rfl]
    generalize holdE S x = te at *
    generalize holdP S x = T at *
    go_enter Try.func13, Try.ntmps13
    go_upto_region 1 with fail
    rw [HW1.out, HAB.out]
    go_wp2_with fail
    (with_reducible refine KH.out.mono ?_)
    rintro e w2 ⟨rfl, h2⟩
    have H2 := Lib.hid h2
    clear h2
    go_wp2_with fail
    go_ret2
    exact ⟨rfl, H2.out⟩
  · rw [if_neg (by decide), if_neg (by decide), if_neg (by decide), if_neg (by decide), if_neg (by decide)]
    generalize freeE S x = te at *
    generalize freeP S x = T at *
    go_enter Try.func13, Try.ntmps13
    go_upto_region 1 with fail
    rw [HW1.out, HAB.out]
    go_wp2_with fail
    (with_reducible refine KF.out.mono ?_)
    rintro e w2 ⟨rfl, h2⟩
    have H2 := Lib.hid h2
    clear h2
    go_wp2_with fail
    go_ret2
    exact ⟨rfl, H2.out⟩
end
end Go.Proofs.Ytlcbmpojigjjlaa
