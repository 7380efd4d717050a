/- The document's examples, told from what the package's indexes do. No statement of the seat is proved here. -/
import Derived.Test.YteieaindejcfbaaIxKit
import Derived.Test.YteieaindejcfbaaIxEq
import Derived.Deep.Cut
namespace Go.Proofs.Yteieaindejcfbaa
open Go.RowKit
set_option linter.unusedVariables false
set_option linter.unusedSimpArgs false

def k5 : KeyT := (List.replicate 32 0, 5)
theorem k5_ok : KeyT.Ok k5 := ⟨by decide, by decide⟩
theorem k5_cells : (kcs k5).toArray = kz 5 := rfl
theorem sh_1 : hasX [] k5 = false := by decide
theorem sh_2 : hasX (putX [] k5 (1, 2)) k5 = true := by decide
theorem sh_3 : hasX (putX (putX [] k5 (1, 2)) k5 (3, 4)) k5 = true ∧ getX (putX (putX [] k5 (1, 2)) k5 (3, 4)) k5 = (3, 4) := ⟨by decide, by decide⟩
theorem sh_4 : hasX (dropX (putX (putX [] k5 (1, 2)) k5 (3, 4)) k5) k5 = false := by decide
section
variable {It : World → Addr → (Nat → Prop) → List RowT → Prop}
set_option maxRecDepth 100000 in
set_option maxHeartbeats 4000000 in
theorem shown_any (K : IndexesOk It) (w : World) : Calls Try.prog 8 #[] w fun e w' => e = .returned (.bool true) ∧ Below w.heap.size w w' := by
  have KN := Lib.hid (K.new' (Below.refl w.heap.size w))
  go_enter Try.func8, Try.ntmps8
  go_wp2_with fail
  refine KN.out.mono ?_
  rintro e w1 ⟨s, rfl, h1⟩
  have K1 := K.put' h1 (by decide) k5 k5_ok (1, 2) ⟨in64_lit (by omega) (by omega), in64_lit (by omega) (by omega)⟩
  rw [sh_1] at K1
  unfold kv at K1
  rw [k5_cells] at K1
  replace K1 := Lib.hid K1
  clear h1 KN
  go_wp2_with fail
  refine K1.out.mono ?_
  rintro e w2 ⟨rfl, h2⟩
  have K2 := K.put' h2 (by decide) k5 k5_ok (3, 4) ⟨in64_lit (by omega) (by omega), in64_lit (by omega) (by omega)⟩
  rw [sh_2] at K2
  unfold kv at K2
  rw [k5_cells] at K2
  replace K2 := Lib.hid K2
  clear h2 K1
  go_wp2_with fail
  refine K2.out.mono ?_
  rintro e w3 ⟨rfl, h3⟩
  have K3 := K.get' h3 (by decide) k5 k5_ok
  rw [sh_3.1, sh_3.2] at K3
  unfold kv at K3
  rw [k5_cells] at K3
  replace K3 := Lib.hid K3
  have H3 := Lib.hid h3
  clear h3 K2
  go_wp2_with fail
  refine K3.out.mono ?_
  rintro e w4 ⟨rfl, hb4⟩
  have h5 := K.on H3.out (hb4.trans ((show Below w4.heap.size w4 (w4.alloc (.cells #[.int .i64 3, .int .i64 4] 37)) from (Below.refl _ _).alloc (Nat.le_refl _) _).mono hb4.size))
  have K4 := K.drop' h5 (by decide) k5 k5_ok
  rw [sh_3.1] at K4
  unfold kv at K4
  rw [k5_cells] at K4
  replace K4 := Lib.hid K4
  have heq : ∀ W : World, (Op.equalIn 10000 37 (.agg #[.int .i64 3, .int .i64 4]) (.agg #[.int .i64 3, .int .i64 4])).run Try.prog W = .ok true W := fun W => by
    have := place_eq (a := (3, 4)) (b := (3, 4)) ⟨in64_lit (by omega) (by omega), in64_lit (by omega) (by omega)⟩ ⟨in64_lit (by omega) (by omega), in64_lit (by omega) (by omega)⟩ W
    rw [decide_eq_true rfl] at this
    exact this
  have hgd := place_guard
  clear hb4 h5 H3 K3
  go_wp2_with fail
  refine K4.out.mono ?_
  rintro e w5 ⟨rfl, h6⟩
  have K5 := K.drop' h6 (by decide) k5 k5_ok
  rw [sh_4] at K5
  unfold kv at K5
  rw [k5_cells] at K5
  replace K5 := Lib.hid K5
  clear h6 K4
  go_wp2_with fail
  refine K5.out.mono ?_
  rintro e w6 ⟨rfl, h7⟩
  have HE := Lib.hid h7.bel
  clear h7 K5
  go_wp2_with fail
  go_ret
  exact ⟨rfl, HE.out⟩
end
end Go.Proofs.Yteieaindejcfbaa
