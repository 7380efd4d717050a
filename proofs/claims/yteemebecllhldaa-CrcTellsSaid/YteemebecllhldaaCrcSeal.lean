/- The contracts of Seal and Clone. No statement of the seat is proved here. -/
import Derived.Test.YteemebecllhldaaCrcMore
import Derived.Test.YteemebecllhldaaCodecO
import Derived.Test.YteemebecllhldaaAppRd
namespace Go.Proofs.Yteemebecllhldaa
open Go.RowKit

/-- What Seal lays. -/
def sealOf (l : List UInt8) : List UInt8 := l ++ be 4 (sumOf l).toNat
theorem sealOf_length (l : List UInt8) : (sealOf l).length = l.length + 4 := by simp [sealOf, be_length]

set_option maxHeartbeats 1000000 in
theorem seal_any (A : Option Addr) (l : List UInt8) (c k : Nat) (w : World) (hk : l.length = k) (hr : Rd w w.heap.size A l) (hl : l.length ≤ 140737488350000) :
    Calls Try.prog 15 #[.slice A k c] w fun e w' => ∃ A' c', e = .returned (.slice A' (k + 4) c') ∧ Own w' w.heap.size A' c' (k + 4) (sealOf l) ∧ Below w.heap.size w w' := by
  have hs := (sumOf l).isLt
  have HK := Lib.hid hk
  clear hk
  go_enter Try.func15, Try.ntmps15
  go_wp2_with fail
  refine (sum_any A l c k w HK.out hr (by omega)).mono ?_
  rintro e w1 ⟨rfl, hb1⟩
  have hr1 := (hr.below hb1).more hb1.size
  go_wp2_with fail
  refine (put_sl A l c k (sumOf l).toNat 4 (k + 4) (sealOf l) w1 HK.out hr1 (by omega) (by rw [HK.out]; rfl) rfl).mono ?_
  rintro e w2 ⟨A2, c2, rfl, ho2, hb2⟩
  go_wp2_with fail
  go_ret
  exact ⟨_, _, rfl, ho2.base hb1.size, hb1.trans (hb2.mono hb1.size)⟩

set_option maxHeartbeats 1000000 in
theorem clone_any (A : Addr) (l : List UInt8) (c k : Nat) (w : World) (hk : l.length = k) (hr : Rd w w.heap.size (some A) l) (hl : l.length ≤ 140737488350000) :
    Calls Try.prog 20 #[.slice (some A) k c] w fun e w' => ∃ A' c', e = .returned (.slice A' k c') ∧ Own w' w.heap.size A' c' k l ∧ Below w.heap.size w w' := by
  obtain ⟨i0, hi, hz0, hz1, hz2⟩ := info_parts info_u8
  have HK := Lib.hid hk
  clear hk
  have q1 := Lib.run_eql_slice_nil (P := Try.prog) w 23 5 (some A) k c 0 0 Try.underlying23
  go_enter Try.func20, Try.ntmps20
  have hb1 : Below w.heap.size w (w.alloc (.cells #[] 5)) := (Below.refl _ _).alloc (Nat.le_refl _) _
  have hown0 : (w.alloc (.cells #[] 5)).ownsRow w.heap.size 5 1 (.slice (some ⟨w.heap.size, 0, none⟩) 0 0) 0 [] := World.ownsRow_lit w #[] 0 (Nat.le_refl _) (by simp [maxLen]) rfl
  have hr1 := hr.below hb1
  have HB1 := Lib.hid hb1
  have HOWN := Lib.hid hown0
  clear hown0 hb1
  go_wp2_with (at_builtin; refine wpList_append_more _ rfl (.tmp 5) (.tmp 6) 23 rfl w.heap.size 5 i0 Try.underlying23 hi hz0 hz1 hz2 (.slice (some ⟨w.heap.size, 0, none⟩) 0 0) 0 [] rfl HOWN.out w.heap.size (some A) c k l rfl HK.out hr1 (by omega) HB1.out.size ?_; intro A2 c2 w2 ho2 hg2)
  go_ret
  refine ⟨A2, c2, rfl, ⟨HK.out, ?_⟩, HB1.out.grown hg2 HB1.out.size (fun g hg => (HOWN.out.lt g hg).1)⟩
  rw [Nat.zero_add] at ho2
  simpa using ho2
end Go.Proofs.Yteemebecllhldaa
