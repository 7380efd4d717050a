/- The document's examples of package crc come out true. No statement of the seat is proved here. -/
import Derived.Test.YteemebecllhldaaCrcOpen
import Derived.Lib.SlBytesConst
namespace Go.Proofs.Yteemebecllhldaa
open Go.RowKit

theorem sum_nil : (sumOf []).toNat = 0 := by decide +kernel
theorem sum_digits : (sumOf [49, 50, 51, 52, 53, 54, 55, 56, 57]).toNat = 4236843288 := by decide +kernel
theorem seal_nil : sealOf [] = [0, 0, 0, 0] := by decide +kernel

theorem sum_lit (A : Option Addr) (l : List UInt8) (c k : Nat) (m : Nat) (w : World) (hk : l.length = k) (hr : Rd w w.heap.size A l) (hl : l.length ≤ 140737488355328) (hm : (sumOf l).toNat = m) :
    Calls Try.prog 10 #[.slice A k c] w fun e w' => e = .returned (.int .u32 m) ∧ Below w.heap.size w w' := by
  subst hm; exact sum_any A l c k w hk hr hl

set_option maxHeartbeats 1000000 in
theorem shown_any (w : World) : Calls Try.prog 9 #[] w fun e w' => e = .returned (.bool true) ∧ Below w.heap.size w w' := by
  go_enter Try.func9, Try.ntmps9
  go_wp2_with fail
  refine (open_short _ 3 3 _ (by decide)).mono ?_
  rintro e w1 ⟨rfl, rfl⟩
  go_wp2_with fail
  have hb1 : Below w.heap.size w (w.alloc (.cells #[.int .u8 1, .int .u8 2, .int .u8 3] 5)) := (Below.refl _ _).alloc (Nat.le_refl _) _
  generalize w.alloc (.cells #[.int .u8 1, .int .u8 2, .int .u8 3] 5) = w1 at *
  refine (sum_lit none [] 0 0 0 w1 rfl (Rd.nil _ _ _) (by decide) sum_nil).mono ?_
  rintro e w2 ⟨rfl, hb2⟩
  have hb2 := hb1.trans (hb2.mono hb1.size)
  clear hb1
  have q1 := Lib.run_convert_bytes_const (P := Try.prog) w2 23 5 #[.int .u8 49, .int .u8 50, .int .u8 51, .int .u8 52, .int .u8 53, .int .u8 54, .int .u8 55, .int .u8 56, .int .u8 57] 9 9 Try.underlying23 Try.underlying5
  go_wp2_with fail
  clear q1
  have hr3 : Rd (w2.alloc (.cells #[.int .u8 49, .int .u8 50, .int .u8 51, .int .u8 52, .int .u8 53, .int .u8 54, .int .u8 55, .int .u8 56, .int .u8 57] 5 (9, 10))) (w2.alloc (.cells #[.int .u8 49, .int .u8 50, .int .u8 51, .int .u8 52, .int .u8 53, .int .u8 54, .int .u8 55, .int .u8 56, .int .u8 57] 5 (9, 10))).heap.size (some ⟨w2.heap.size, 0, none⟩) [49, 50, 51, 52, 53, 54, 55, 56, 57] := by
    refine fun _ => ⟨w2.heap.size, 0, rfl, by simp, fun j hj => ?_⟩
    rw [cell_of_row _ _ _ _ _ _ (heap_alloc_new w2 _)]
    have : ∀ j : Fin 9, (#[Value.int .u8 49, Value.int .u8 50, Value.int .u8 51, Value.int .u8 52, Value.int .u8 53, Value.int .u8 54, Value.int .u8 55, Value.int .u8 56, Value.int .u8 57])[0 + j.val]? = some (Value.int .u8 (([49, 50, 51, 52, 53, 54, 55, 56, 57] : List UInt8)[j.val]).toNat) := by
      intro j
      match j with
      | 0 => rfl | 1 => rfl | 2 => rfl | 3 => rfl | 4 => rfl | 5 => rfl | 6 => rfl | 7 => rfl | 8 => rfl
    exact this ⟨j, hj⟩
  have hb3 := hb2.alloc hb2.size (.cells #[.int .u8 49, .int .u8 50, .int .u8 51, .int .u8 52, .int .u8 53, .int .u8 54, .int .u8 55, .int .u8 56, .int .u8 57] 5 (9, 10))
  generalize w2.alloc (.cells #[.int .u8 49, .int .u8 50, .int .u8 51, .int .u8 52, .int .u8 53, .int .u8 54, .int .u8 55, .int .u8 56, .int .u8 57] 5 (9, 10)) = w3 at *
  clear hb2
  refine (sum_lit _ [49, 50, 51, 52, 53, 54, 55, 56, 57] 9 9 4236843288 w3 rfl hr3 (by decide) sum_digits).mono ?_
  rintro e w4 ⟨rfl, hb4⟩
  have hb4 := hb3.trans (hb4.mono hb3.size)
  clear hb3 hr3
  go_wp2_with fail
  refine (seal_any none [] 0 0 w4 rfl (Rd.nil _ _ _) (by decide)).mono ?_
  rintro e w5 ⟨A5, c5, rfl, ho5, hb5⟩
  have hb5 := hb4.trans (hb5.mono hb4.size)
  rw [seal_nil] at ho5
  have s5 := ho5.str
  clear ho5 hb4
  go_wp2_with fail
  go_ret
  exact ⟨rfl, hb5⟩
end Go.Proofs.Yteemebecllhldaa
