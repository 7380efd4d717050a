/- The reference's map (cellarageref18): Get, From. No statement of the seat is proved here. -/
import Derived.Test.YtiomfkhblmmdoaaTrRefA
namespace Go.Proofs.Ytiomfkhblmmdoaa
open Go.RowKit
set_option linter.unusedVariables false
set_option linter.unusedSimpArgs false
set_option maxRecDepth 100000

theorem box_cell {w w' : World} {v : Value} {e : TypeId} (hb : Below (w.alloc (.cells #[v] e)).heap.size (w.alloc (.cells #[v] e)) w') : w'.cell? ⟨w.heap.size, 0, none⟩ = some v :=
  (hb.cell (p := ⟨w.heap.size, 0, none⟩) (by simp)).trans (by simp)
theorem below_box {w w' : World} {o : Obj} (hb : Below (w.alloc o).heap.size (w.alloc o) w') : Below w.heap.size w w' :=
  (Below.alloc (Below.refl w.heap.size w) (Nat.le_refl _) o).trans (hb.mono (by simp))
set_option maxHeartbeats 4000000 in
theorem rget_any (A : Option Addr) (ls : List PT) (k c : Nat) (key : List UInt8) (hl : ls.length = k) (hk : k ≤ 1000000) (w : World) (hr : RdP w w.heap.size A ls) :
    Calls Try.prog 16 #[.agg #[.slice A k c], .string (st key)] w fun e w' => e = .returned (.tuple #[.string (st (getE ls key).1), .bool (getE ls key).2]) ∧ Below w.heap.size w w' := by
  obtain ⟨R, hR⟩ : ∃ R, isL ls key = R := ⟨_, rfl⟩
  obtain ⟨p, hp⟩ : ∃ p, posL ls key = p := ⟨_, rfl⟩
  have hG : getE ls key = ((getL ls key).getD [], R) := by rw [← hR]; rfl
  rw [hG]
  have C := Lib.hid (show ∀ W, Below w.heap.size w W → Calls Try.prog 30 #[.agg #[.slice A k c], .string (st key)] W fun e w' => e = .returned (.tuple #[.int .i64 p, .bool R]) ∧ Below W.heap.size W w' from fun W hb => by
    have := rat_any A ls k c key hl hk W ((hr.below hb).more hb.size)
    rw [hR, hp] at this
    exact this)
  have HA := Lib.hid (show ∀ W, Below w.heap.size w W → RdP W w.heap.size A ls from fun W hb => hr.below hb)
  have HY := Lib.hid (show R = true → ∃ h : p < ls.length, (getL ls key).getD [] = ls[p].2 from fun h => by
    rw [← hR] at h
    obtain ⟨h1, h2⟩ := (is_pos ls key).1 h
    subst hp
    refine ⟨h1, ?_⟩
    rw [get_pos, dif_pos h1, if_pos h2]
    rfl)
  have HN := Lib.hid (show R = false → (getL ls key).getD [] = [] from fun h => by
    rw [← hR] at h
    unfold isL at h
    rw [Option.isSome_eq_false_iff, Option.isNone_iff_eq_none] at h
    rw [h]
    rfl)
  have HPL := Lib.hid hl
  obtain ⟨V, hV⟩ : ∃ V, (getL ls key).getD [] = V := ⟨_, rfl⟩
  rw [hV] at HY HN ⊢
  clear hR hp hl hr hG hV
  go_enter Try.func16, Try.ntmps16
  cases R
  · have hv := HN.out rfl
    subst hv
    go_wp2_with fail
    refine (C.out _ (Below.alloc (Below.refl _ _) (Nat.le_refl _) _)).mono ?_
    rintro e w1 ⟨rfl, hb1⟩
    have HB := Lib.hid (below_box hb1)
    clear hb1
    go_wp2_with fail
    go_ret2
    exact ⟨rfl, HB.out⟩
  · obtain ⟨hp, hv⟩ := HY.out rfl
    go_wp2_with fail
    refine (C.out _ (Below.alloc (Below.refl _ _) (Nat.le_refl _) _)).mono ?_
    rintro e w1 ⟨rfl, hb1⟩
    have hbx := box_cell hb1
    have HB := Lib.hid (below_box hb1)
    obtain ⟨g, off, rfl, hg, -, hc2⟩ := (HA.out _ HB.out).at_ hp
    rw [← hv] at hc2
    have hi1 : (0 : Int) ≤ (p : Int) := by omega
    have hi2 : (p : Int) < (k : Int) := by rw [← HPL.out]; omega
    clear hb1 hv hp
    go_wp2_with fail
    go_ret2
    exact ⟨rfl, HB.out⟩
end Go.Proofs.Ytiomfkhblmmdoaa
