/- The contracts of withRoom and appendNumber. No statement of the seat is proved here. -/
import Derived.Test.YtmfbidohmkoeeaaLaidTo
import Derived.Handy
import Derived.WalkSpells
import Derived.WalkLawsBesides
namespace Go.Proofs.Ytmfbidohmkoeeaa
open Go.RowKit

/-- The byte that is cut off a shifted number. -/
theorem byte_of_shift (m i : Nat) : (IntKind.u8.wrap ((m >>> (8 * i) : Nat) : Int)) = ((UInt8.ofNat (m / 256 ^ i)).toNat : Int) := by
  rw [Nat.shiftRight_eq_div_pow, Nat.pow_mul]
  simp [IntKind.wrap_u8, UInt8.toNat_ofNat']

set_option maxHeartbeats 1000000 in
theorem room_any (A : Option Addr) (l : List UInt8) (c more : Nat) (w : World) (hr : Rd w w.heap.size A l) (hlen : l.length + more ≤ 140737488355328) :
    Calls Try.prog 25 #[.slice A l.length c, .int .i64 more] w fun e w' =>
      ∃ v, e = .returned v ∧ w'.ownsRow w.heap.size 5 1 v l.length (bv l) ∧ Below w.heap.size w w' := by
  obtain ⟨i0, hi, hz0, hz1, hz2⟩ := info_parts info_u8
  have hmk := run_make (P := Try.prog) w 27 5 i0 (.int .u8 0) Try.underlying27 hi hz0 .i64 .i64 (l.length : Int) ((l.length : Int) + (more : Int)) (by omega) (by omega) (by rw [hz2]; omega) (by omega)
  have hmc : Hid ((madeCells #[Value.int .u8 0] (l.length + more)).toList.length = l.length + more) := by show _ = _; simp [size_madeCells]
  have hb1 : (l.length : Int) + (more : Int) ≤ 140737488355328 := by omega
  go_enter Try.func25, Try.ntmps25
  go_wp2_with (with_reducible refine wpList_copy_splice rfl (.tmp 13) (.tmp 14) 27 27 rfl 5 Try.underlying27 ?hsz (some ⟨w.heap.size, 0, none⟩) A l.length (l.length + more) l.length c rfl rfl w.heap.size 0 (madeCells #[Value.int IntKind.u8 0] (l.length + more)).toList 5 ?hg (bv l) ?hn ?hpos ?hfit (bv_oneCell l) w.heap.size w ?hb (Nat.le_refl _) ?_)
  case hsz => rw [hi]; simp [hz1]
  case hg => simpa using heap_alloc_new w _
  case hn => rw [bv_length]; exact (Nat.min_self _).symm
  case hpos =>
    intro h0
    rw [bv_length] at h0
    obtain ⟨ad, e, hc⟩ := (hr.below ((Below.refl w.heap.size w).alloc (Nat.le_refl _) _)).cells h0
    first | exact ⟨rfl, ad, e, hc⟩ | exact ⟨ad, e, hc⟩
  case hfit => rw [hmc.out, bv_length]; omega
  case hb => exact (Below.refl _ _).alloc (Nat.le_refl _) _
  intro w1 hg1 hb1
  go_wp2
  go_ret
  refine ⟨_, rfl, ⟨by simp [bv_length], .inr ⟨w.heap.size, l.length + more, _, rfl, Nat.le_refl _, hg1.out, by omega, by simp only [maxLen]; omega, ?_, ?_⟩⟩, hb1⟩
  · rw [List.size_toArray, length_splice _ _ _ (by rw [hmc.out, bv_length]; omega), hmc.out, Nat.mul_one]
  · simp [splice, Nat.mul_one, List.take_left' (bv_length l)]
end Go.Proofs.Ytmfbidohmkoeeaa
