/- The contract of appendNumber. No statement of the seat is proved here. -/
import Derived.Test.YtmfbidohmkoeeaaCodecA
namespace Go.Proofs.Ytmfbidohmkoeeaa
open Go.RowKit

theorem byte_of (m j : Nat) : ((m : Int) / 2 ^ (8 * j) % 256) = ((UInt8.ofNat (m / 256 ^ j)).toNat : Int) := by
  have e : ((2 : Int) ^ (8 * j)) = ((256 ^ j : Nat) : Int) := by rw [show (256 : Nat) = 2 ^ 8 from rfl, ← Nat.pow_mul]; norm_cast
  rw [e]
  simp [UInt8.toNat_ofNat']

set_option maxHeartbeats 1000000 in
theorem appnum_any (v : Value) (l : List UInt8) (m k base : Nat) (w : World) (hown : w.ownsRow base 5 1 v l.length (bv l)) (hbase : base ≤ w.heap.size) (hk : k ≤ 8) (hlen : l.length ≤ 140737488355000) :
    Calls Try.prog 24 #[v, .int .u64 m, .int .i64 k] w fun e w' =>
      ∃ v', e = .returned v' ∧ w'.ownsRow base 5 1 v' (l.length + k) (bv (l ++ be k m)) ∧ Below base w w' := by
  obtain ⟨i0, hi, hz0, hz1, hz2⟩ := info_parts info_u8
  go_enter Try.func24, Try.ntmps24
  go_wp2
  go_loopw [0, 7] (fun u i wr => ∃ q : Int, -1 ≤ q ∧ q < k ∧ i = .int .i64 q ∧ wr.ownsRow base 5 1 u (l.length + (laidTo k m q).length) (bv (l ++ laidTo k m q)) ∧ Below base w wr)
    (fun _ i _ => (intOf i + 1).toNat)
  case atStart => exact ⟨(k : Int) - 1, by omega, by omega, rfl, by rw [laidTo_start]; simpa using hown, Below.refl _ _⟩
  case round =>
    obtain ⟨q, hq1, hq2, rfl, hwn, hbel⟩ := hrel
    by_cases hq : 0 ≤ q
    · obtain ⟨j, rfl⟩ := Int.eq_ofNat_of_zero_le hq
      have hstep := Lib.hid (laidTo_step k m j (by omega))
      have hjk : (laidTo k m (j : Int)).length ≤ 8 := by rw [laidTo_length k m _ hq1 hq2]; omega
      go_wp2_with (at_builtin; refine wpList_append_own _ rfl (.tmp 14) (.tmp 20) 27 rfl base 5 i0 (.int .u8 0) 1 1 Try.underlying27 hi hz0 hz1 hz2 rfl (by decide) _ (l.length + (laidTo k m (j : Int)).length) (bv (l ++ laidTo k m (j : Int))) rfl (hwn.alloc _) ⟨wr.heap.size, 0, none⟩ 1 1 [.int .u8 ((m : Int) / 2 ^ (8 * j) % 256)] rfl rfl ?c1 ?c2 ?c3 ?c4 ?c5 ?_)
      case c1 => exact cell_one_new _ _ _
      case c2 => intro u hu; simp at hu; subst hu; rfl
      case c3 => unfold maxLen; omega
      case c4 => omega
      case c5 => have := hbel.size; simp; omega
      intro v' w1 hown' hgrow _
      have hbel' : Below base w w1 := (hbel.alloc (by have := hbel.size; omega) _).grown hgrow (by have := hbel.size; simp; omega) (fun g hg => (hwn.lt g hg).1)
      have hown2 : w1.ownsRow base 5 1 v' (l.length + (laidTo k m ((j : Int) - 1)).length) (bv (l ++ laidTo k m ((j : Int) - 1))) := by
        rw [hstep.out]
        simpa [bv, byte_of, Nat.add_assoc] using hown'
      clear hown' hgrow hwn hstep
      go_wp2
      go_roundw
      case rel => exact ⟨(j : Int) - 1, by omega, by omega, rfl, hown2, hbel'⟩
      case measure => simp [intOf]
    · obtain rfl : q = -1 := by omega
      rw [laidTo_end] at hwn
      go_wp2
      go_ret
      exact ⟨_, rfl, by simpa [be_length] using hwn, hbel⟩
end Go.Proofs.Ytmfbidohmkoeeaa
