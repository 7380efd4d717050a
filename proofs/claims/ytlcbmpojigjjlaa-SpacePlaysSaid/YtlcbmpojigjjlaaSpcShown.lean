/- The document's examples of package space, told from what the package's spaces do. No statement of the seat is proved here. -/
import Derived.Test.YtlcbmpojigjjlaaSpcKit
import Derived.Lib.QuietBelow
import Derived.BigFrame
namespace Go.Proofs.Ytlcbmpojigjjlaa
open Go.RowKit
set_option linter.unusedVariables false

def q1 : PS := takeP (newP 10)
def q2 : PS := takeP q1
def q3 : PS := freeP q2 0
def q4 : PS := takeP q3
def q5 : PS := holdP q4 3
def q6 : PS := holdP q5 3
theorem q_v : takeV (newP 10) = 0 ∧ takeE (newP 10) = 0 ∧ takeV q1 = 1 ∧ takeE q1 = 0 ∧ freeE q2 0 = 0 ∧ takeV q3 = 0 ∧ takeE q3 = 0 ∧ holdE q4 3 = 0 ∧ holdE q5 3 = 3 := by decide +kernel
theorem q_b : pk 10 q6.S = [11, 0] := by decide +kernel
theorem q_n : q6.n = 10 := by decide +kernel
theorem q_l : ¬ LoadOk 10 [11, 4] := by unfold LoadOk; decide +kernel
theorem two_bytes (w : World) : Rd (w.alloc (.cells #[.int .u8 11, .int .u8 4] 5)) (w.alloc (.cells #[.int .u8 11, .int .u8 4] 5)).heap.size (some ⟨w.heap.size, 0, none⟩) [11, 4] := fun _ =>
  ⟨w.heap.size, 0, rfl, (Blk.new w 5 #[.int .u8 11, .int .u8 4]).lt, fun j hj => by
    rw [Nat.zero_add, (Blk.new w 5 #[.int .u8 11, .int .u8 4]).cell]
    match j, hj with
    | 0, _ => rfl
    | 1, _ => rfl⟩
section
variable {St : World → Addr → (Nat → Prop) → PS → Prop}
set_option maxRecDepth 100000 in
set_option maxHeartbeats 1000000 in
theorem shown_any (K : SpacesOk St) (w : World) : Calls Try.prog 9 #[] w fun e w' => e = .returned (.bool true) ∧ Below w.heap.size w w' := by
  obtain ⟨v1, v2, v3, v4, v5, v6, v7, v8, v9⟩ := q_v
  have KN := Lib.hid (K.new' 10 (by omega) (Below.refl w.heap.size w))
  have HV := Lib.hid (And.intro v1 (And.intro v2 (And.intro v3 (And.intro v4 (And.intro v5 (And.intro v6 (And.intro v7 (And.intro v8 v9))))))))
  clear v1 v2 v3 v4 v5 v6 v7 v8 v9
  go_enter Try.func9, Try.ntmps9
  go_wp2_with fail
  refine KN.out.mono ?_
  rintro e w1 ⟨s, rfl, h1⟩
  have KT := K.take' h1
  rw [HV.out.1, HV.out.2.1] at KT
  have KT1 := Lib.hid KT
  clear h1 KT KN
  go_wp2_with fail
  refine KT1.out.mono ?_
  rintro e w2 ⟨rfl, h2⟩
  have h2 : Spc St w w2 s q1 := h2
  have KT := K.take' h2
  rw [HV.out.2.2.1, HV.out.2.2.2.1] at KT
  have KT2 := Lib.hid KT
  clear h2 KT KT1
  go_wp2_with fail
  refine KT2.out.mono ?_
  rintro e w3 ⟨rfl, h3⟩
  have h3 : Spc St w w3 s q2 := h3
  have KF := K.free' h3 0 (in64_lit (by omega) (by omega))
  rw [HV.out.2.2.2.2.1] at KF
  have KF3 := Lib.hid KF
  clear h3 KF KT2
  go_wp2_with fail
  refine KF3.out.mono ?_
  rintro e w4 ⟨rfl, h4⟩
  have h4 : Spc St w w4 s q3 := h4
  have KT := K.take' h4
  rw [HV.out.2.2.2.2.2.1, HV.out.2.2.2.2.2.2.1] at KT
  have KT4 := Lib.hid KT
  clear h4 KT KF3
  go_wp2_with fail
  refine KT4.out.mono ?_
  rintro e w5 ⟨rfl, h5⟩
  have h5 : Spc St w w5 s q4 := h5
  have KH := K.hold' h5 3 (in64_lit (by omega) (by omega))
  rw [HV.out.2.2.2.2.2.2.2.1] at KH
  have KH5 := Lib.hid KH
  clear h5 KH KT4
  go_wp2_with fail
  refine KH5.out.mono ?_
  rintro e w6 ⟨rfl, h6⟩
  have h6 : Spc St w w6 s q5 := h6
  have KH := K.hold' h6 3 (in64_lit (by omega) (by omega))
  rw [HV.out.2.2.2.2.2.2.2.2] at KH
  have KH6 := Lib.hid KH
  clear h6 KH KH5
  go_wp2_with fail
  refine KH6.out.mono ?_
  rintro e w7 ⟨rfl, h7⟩
  have h7 : Spc St w w7 s q6 := h7
  obtain ⟨w8, hw8⟩ : ∃ w8, w7.alloc (.cells #[.int .u8 11, .int .u8 4] 5) = w8 := ⟨_, rfl⟩
  have hb8 : Below w7.heap.size w7 w8 := hw8 ▸ (Below.refl _ _).alloc (Nat.le_refl _) _
  have KL := Lib.hid (K.noload 10 (some ⟨w7.heap.size, 0, none⟩) 2 2 [11, 4] w8 rfl (Nat.le_refl _) (by simp [maxLen]) (by rw [← hw8]; exact two_bytes w7) (.inr (.inr q_l)))
  have H8 := Lib.hid (K.on h7 hb8)
  have HW8 := Lib.hid hw8
  clear h7 KH6 hb8 hw8
  go_wp2_with fail
  rw [HW8.out]
  refine KL.out.mono ?_
  rintro e w9 ⟨rfl, hb9⟩
  have h9 := K.on H8.out hb9
  have KB := K.bytes' h9
  rw [q_n, q_b] at KB
  have KB9 := Lib.hid KB
  clear KB h9 hb9 KL
  go_wp2_with fail
  refine KB9.out.mono ?_
  rintro e w10 ⟨A, c, rfl, ho, h10, _⟩
  have hcv : (convert 45 9 (.slice A 2 c)).run Try.prog w10 = .ok (.string ⟨#[11, 0]⟩) w10 := conv_own (l := [11, 0]) rfl (Rd.of_own ho)
  have HB := Lib.hid h10.bel
  clear ho h10 KB9
  go_wp2_with fail
  go_ret
  exact ⟨rfl, HB.out⟩
end
end Go.Proofs.Ytlcbmpojigjjlaa
