/- The contract of the reference's Put, for stages without package codec. No statement of the seat is proved here. -/
import Derived.Test.YthbgcffnnholeaaLaidTo
import Derived.Handy
import Derived.WalkSpells
import Derived.WalkLawsBesides
namespace Go.Proofs.Ythbgcffnnholeaa
open Go.RowKit
set_option linter.unusedVariables false

theorem byte_ref (m j : Nat) (_ : m < 2 ^ 64) : (((m / 256 ^ j : Nat) : Int) % 256) = ((UInt8.ofNat (m / 256 ^ j)).toNat : Int) := by
  rw [UInt8.toNat_ofNat']; omega
theorem div_step (m kk : Nat) : ((m / 256 ^ kk : Nat) : Int) / 256 = ((m / 256 ^ (kk + 1) : Nat) : Int) := by
  rw [Nat.pow_succ, ← Nat.div_div_eq_div_mul]; rfl

set_option maxHeartbeats 1000000 in
theorem refput_any (m k : Nat) (w : World) (hk : k ≤ 8) (hm : m < 2 ^ 64) :
    Calls Try.prog 39 #[.int .u64 m, .int .i64 k] w fun e w' =>
      ∃ A' c', e = .returned (.slice A' k c') ∧ w'.ownsRow w.heap.size 5 1 (.slice A' k c') k (bv (be k m)) ∧ Below w.heap.size w w' := by
  obtain ⟨i0, hi, hz0, hz1, hz2⟩ := info_parts info_u8
  have h1 : (k : Int) ≤ 8 := by omega
  have HM := Lib.hid hm
  clear hm
  go_enter Try.func39, Try.ntmps39
  go_wp2
  go_loopw [5, 6] (fun u i wr => ∃ q : Int, -1 ≤ q ∧ q < k ∧ i = .int .i64 q ∧ wr.ownsRow w.heap.size 5 1 u (laidTo k m q).length (bv (laidTo k m q)) ∧ Below w.heap.size w wr)
    (fun _ i _ => (intOf i + 1).toNat)
  case atStart => exact ⟨(k : Int) - 1, by omega, by omega, rfl, by rw [laidTo_start]; exact World.ownsRow_nil _ _ _ _, Below.refl _ _⟩
  case round =>
    obtain ⟨q, hq1, hq2, rfl, hwn, hbel⟩ := hrel
    by_cases hq : 0 ≤ q
    · obtain ⟨j, rfl⟩ := Int.eq_ofNat_of_zero_le hq
      have hstep := Lib.hid (laidTo_step k m j (by omega))
      have hjk : (laidTo k m (j : Int)).length ≤ 8 := by rw [laidTo_length k m _ hq1 hq2]; omega
      have HBEL := Lib.hid hbel
      have HWN := Lib.hid hwn
      clear hbel hwn
      go_wp2
      go_loop [7, 8] (fun x t => ∃ t' y : Nat, t' ≤ j ∧ Hid (y = m / 256 ^ t') ∧ t = .int .i64 t' ∧ x = .int .u64 y) (fun _ t => j - (intOf t).toNat)
      case atStart => exact ⟨0, m, Nat.zero_le _, Lib.hid (by simp), rfl, rfl⟩
      case round =>
        obtain ⟨t', y, ht, HY, rfl, rfl⟩ := hrel
        by_cases htj : t' < j
        · have hw := Lib.hid (show IntKind.u64.wrap ((y / 256 : Nat) : Int) = ((y / 256 : Nat) : Int) by
            have h2 := HM.out
            have h3 : y ≤ m := by rw [HY.out]; exact Nat.div_le_self _ _
            rw [IntKind.wrap_u64]; omega)
          have hd := Lib.hid (show (y : Int) / 256 = ((y / 256 : Nat) : Int) by omega)
          go_wp2
          go_round
          case rel => exact ⟨t' + 1, y / 256, by omega, Lib.hid (by rw [HY.out, Nat.pow_succ, Nat.div_div_eq_div_mul]), by go_num, by rw [hd.out, hw.out]⟩
          case measure => simp [intOf]; omega
        · obtain rfl : t' = j := by omega
          go_wp2_with (at_builtin; refine wpList_append_own _ rfl (.tmp 25) (.tmp 29) 42 rfl w.heap.size 5 i0 (.int .u8 0) 1 1 Try.underlying42 hi hz0 hz1 hz2 rfl (by decide) _ (laidTo k m (t' : Int)).length (bv (laidTo k m (t' : Int))) rfl (HWN.out.alloc _) ⟨wr.heap.size, 0, none⟩ 1 1 [.int .u8 ((y : Int) % 256)] rfl rfl ?c1 ?c2 ?c3 ?c4 ?c5 ?_)
          case c2 => first | rfl | (intro u hu; simp at hu; subst hu; rfl)
          case c3 => unfold maxLen; omega
          case c4 => omega
          case c5 => have := HBEL.out.size; simp; omega
          intro v' w1 hown' hgrow _
          have hbel' : Below w.heap.size w w1 := (HBEL.out.alloc (by have := HBEL.out.size; omega) _).grown hgrow (by have := HBEL.out.size; simp; omega) (fun g hg => (HWN.out.lt g hg).1)
          have hown2 : w1.ownsRow w.heap.size 5 1 v' (laidTo k m ((t' : Int) - 1)).length (bv (laidTo k m ((t' : Int) - 1))) := by
            rw [hstep.out]
            have hb := byte_ref m t' HM.out
            rw [← HY.out] at hb
            rw [hb, HY.out] at hown'
            simpa [bv] using hown'
          clear hown' hgrow HWN hstep
          go_wp2
          go_roundw
          case rel => exact ⟨(t' : Int) - 1, by omega, by omega, rfl, hown2, hbel'⟩
          case measure => simp [intOf]
    · obtain rfl : q = -1 := by omega
      rw [laidTo_end] at hwn
      go_wp2
      go_ret
      have hwn' := hwn
      rw [be_length] at hwn'
      obtain ⟨A', c', hv, _, _⟩ := ownsRow_form hwn'
      exact ⟨A', c', by rw [hv]; rfl, by rw [← hv]; exact hwn', hbel⟩
end Go.Proofs.Ythbgcffnnholeaa
