/- The contract of bytes.Clone. No statement of the seat is proved here. -/
import Derived.Test.YtjahlachoabmkaaAppRd
import Derived.Lib.SliceRun
import Derived.Lib.Hide
namespace Go.Proofs.Ytjahlachoabmkaa
open Go.RowKit

theorem clone_u8 : (Try.prog.info? 5).map (fun i => (i.zero, i.size, i.bytes)) = some (some (.int .u8 0), 1, 1) := by kernel_rfl
set_option maxHeartbeats 1000000 in
theorem clone_any (A : Option Addr) (l : List UInt8) (n c : Nat) (hl : l.length = n) (hn : n ≤ 1000000000) (w : World) (hr : Rd w w.heap.size A l) :
    Calls Try.prog 25 #[.slice A n c] w fun e w' => ∃ A' c', e = .returned (.slice A' n c') ∧ w'.ownsRow w.heap.size 5 1 (.slice A' n c') n (bv l) ∧ Below w.heap.size w w' := by
  have qT : ∀ (w : World) (a : Option Addr) (n c n' c' : Nat), (binOp .eql 37 (.slice a n c) (.slice none n' c')).run Try.prog w = .ok (.bool a.isNone) w := fun w a n c n' c' => Lib.run_eql_slice_nil w _ _ a n c n' c' Try.underlying37
  rcases A with _ | ad
  · have hl0 : l = [] := by
      rcases Nat.eq_zero_or_pos l.length with h0 | h0
      · exact List.eq_nil_of_length_eq_zero h0
      · obtain ⟨_, _, e, _⟩ := hr h0; cases e
    subst hl0
    subst hl
    go_enter Try.func25, Try.ntmps25
    go_wp2
    go_ret
    exact ⟨_, _, rfl, World.ownsRow_nil _ _ _ _, Below.refl _ _⟩
  · obtain ⟨i0, hi, hz0, hz1, hz2⟩ := info_parts clone_u8
    have hown : (w.alloc (.cells #[] 5)).ownsRow w.heap.size 5 1 (.slice (some ⟨w.heap.size, 0, none⟩) 0 0) 0 [] := World.ownsRow_lit w #[] 0 (Nat.le_refl _) (by simp [maxLen]) rfl
    have hb := (Below.refl w.heap.size w).alloc (Nat.le_refl _) (.cells #[] 5)
    go_enter Try.func25, Try.ntmps25
    go_wp2_with (at_builtin; refine wpList_append_more _ rfl (.tmp 5) (.tmp 6) 37 rfl w.heap.size 5 i0 Try.underlying37 hi hz0 hz1 hz2 _ 0 [] rfl hown w.heap.size (some ad) c n l rfl hl (hr.below hb) (by omega) hb.size ?_)
    intro A' c' w' ho hg
    have hb2 : Below w.heap.size w w' := hb.grown hg hb.size (fun g hg => (hown.lt g hg).1)
    clear hg hown hb
    go_wp2
    go_ret
    exact ⟨_, _, rfl, ho, hb2⟩
end Go.Proofs.Ytjahlachoabmkaa
