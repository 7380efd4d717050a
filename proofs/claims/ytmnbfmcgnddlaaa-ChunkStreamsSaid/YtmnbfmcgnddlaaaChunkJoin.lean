/- The contract of joined. No statement of the seat is proved here. -/
import Derived.Test.YtmnbfmcgnddlaaaChunkSplit
import Derived.WalkSpells
import Derived.WalkLawsBesides
namespace Go.Proofs.Ytmnbfmcgnddlaaa
open Go.RowKit

theorem splice_two {α : Type} (Z X Y : List α) (k m : Nat) (hk : X.length = k) (hm : Y.length = m) (hZ : Z.length = k + m) : splice (splice Z 0 X) k Y = X ++ Y := by
  have := splice_splice_splice Z X Y [] k m hk hm (by simpa using hZ)
  have e : splice (splice (splice Z 0 X) k Y) (k + m) [] = splice (splice Z 0 X) k Y := by simp [splice]
  rw [e] at this
  simpa using this

set_option maxHeartbeats 1000000 in
theorem joined_more (A1 A2 : Option Addr) (l1 l2 : List UInt8) (n k c1 c2 : Nat) (w : World) (h1 : l1.length = n) (h2 : l2.length = k) (hr1 : Rd w w.heap.size A1 l1) (hr2 : Rd w w.heap.size A2 l2) (hn : n ≤ 1000000) (hk : k ≤ 1000000) (h0 : ¬ k = 0) :
    Calls Try.prog 30 #[.slice A1 n c1, .slice A2 k c2] w fun e w' => e = .returned (.slice (some ⟨w.heap.size, 0, none⟩) (n + k) (n + k)) ∧
      w'.ownsRow w.heap.size 5 1 (.slice (some ⟨w.heap.size, 0, none⟩) (n + k) (n + k)) (n + k) (bv (l1 ++ l2)) ∧ Below w.heap.size w w' := by
  obtain ⟨i0, hi, hz0, hz1, hz2⟩ := info_parts info_byte
  have hsz : (Try.prog.info? 5).map (·.size) = some 1 := by rw [hi]; simp [hz1]
  have hmk := run_make (P := Try.prog) w 25 5 i0 (.int .u8 0) Try.underlying25 hi hz0 .i64 .i64 ((n : Int) + (k : Int)) ((n : Int) + (k : Int)) (by omega) (by omega) (by rw [hz2]; omega) (by omega)
  have hmc : Hid ((madeCells #[Value.int .u8 0] (n + k)).toList.length = n + k) := by show _ = _; simp [size_madeCells]
  obtain ⟨g, hg⟩ : ∃ g, g = w.heap.size := ⟨_, rfl⟩
  have HL1 := Lib.hid h1
  have HL2 := Lib.hid h2
  have HR1 := Lib.hid hr1
  have HR2 := Lib.hid hr2
  clear h1 h2 hr1 hr2
  have HB1 := Lib.hid ((Below.refl w.heap.size w).alloc (Nat.le_refl _) (.cells (madeCells #[Value.int .u8 0] (n + k)) 5))
  go_enter Try.func30, Try.ntmps30
  go_wp2_with (with_reducible refine wpList_copy_splice rfl (.tmp 12) (.tmp 13) 25 25 rfl 5 Try.underlying25 hsz (some ⟨w.heap.size, 0, none⟩) A1 (n + k) (n + k) n c1 rfl rfl w.heap.size 0 (madeCells #[Value.int IntKind.u8 0] (n + k)).toList 5 ?hg (bv l1) ?hn ?hpos ?hfit (bv_oneCell l1) w.heap.size w ?hb (Nat.le_refl _) ?_)
  case hg => simpa using heap_alloc_new w _
  case hn => rw [bv_length, HL1.out]; exact (Nat.min_eq_left (by omega)).symm
  case hpos =>
    intro h0
    rw [bv_length] at h0
    obtain ⟨ad, e, hc⟩ := (HR1.out.below HB1.out).cells h0
    first | exact ⟨rfl, ad, e, hc⟩ | exact ⟨ad, e, hc⟩
  case hfit => rw [hmc.out, bv_length, HL1.out]; omega
  case hb => exact HB1.out
  intro w1 hg1 hb1
  have HB2 := Lib.hid hb1
  clear hb1
  have hsp : (splice (madeCells #[Value.int IntKind.u8 0] (n + k)).toList 0 (bv l1)).length = n + k := by rw [length_splice _ _ _ (by rw [hmc.out, bv_length, HL1.out]; omega), hmc.out]
  have HSP := Lib.hid hsp
  clear hsp
  go_wp2_with (with_reducible refine wpList_copy_splice rfl (.tmp 18) (.tmp 19) 25 25 rfl 5 Try.underlying25 hsz (some ⟨w.heap.size, n, none⟩) A2 k k k c2 rfl rfl w.heap.size n (splice (madeCells #[Value.int IntKind.u8 0] (n + k)).toList 0 (bv l1)) 5 hg1.out (bv l2) ?hn2 ?hpos2 ?hfit2 (bv_oneCell l2) w.heap.size w HB2.out (Nat.le_refl _) ?_)
  case hn2 => rw [bv_length, HL2.out]; exact (Nat.min_self _).symm
  case hpos2 =>
    intro h0
    rw [bv_length] at h0
    obtain ⟨ad, e, hc⟩ := (HR2.out.below HB2.out).cells h0
    first | exact ⟨rfl, ad, e, hc⟩ | exact ⟨ad, e, hc⟩
  case hfit2 => rw [HSP.out, bv_length, HL2.out]; exact Nat.le_refl _
  intro w2 hg2 hb2
  have HB3 := Lib.hid hb2
  clear hb2 hmk
  go_wp2
  go_ret
  refine ⟨rfl, ⟨by simp [bv_length, HL1.out, HL2.out], .inr ⟨w.heap.size, n + k, _, rfl, Nat.le_refl _, hg2.out, Nat.le_refl _, by simp only [maxLen]; omega, ?_, ?_⟩⟩, HB3.out⟩
  · rw [splice_two _ (bv l1) (bv l2) n k (by rw [bv_length]; exact HL1.out) (by rw [bv_length]; exact HL2.out) hmc.out, List.size_toArray, List.length_append, bv_length, bv_length, HL1.out, HL2.out, Nat.mul_one]
  · rw [splice_two _ (bv l1) (bv l2) n k (by rw [bv_length]; exact HL1.out) (by rw [bv_length]; exact HL2.out) hmc.out]
    rw [show bv (l1 ++ l2) = bv l1 ++ bv l2 by simp [bv]]
    exact List.take_of_length_le (by rw [List.length_append, bv_length, bv_length, HL1.out, HL2.out]; omega)

set_option maxHeartbeats 1000000 in
theorem joined_none (A1 A2 : Option Addr) (l1 l2 : List UInt8) (n c1 c2 : Nat) (w : World) (h1 : l1.length = n) (h2 : l2.length = 0) (hr1 : Rd w w.heap.size A1 l1) (hr2 : Rd w w.heap.size A2 l2) (hn : n ≤ 1000000) :
    Calls Try.prog 30 #[.slice A1 n c1, .slice A2 0 c2] w fun e w' => e = .returned (.slice (some ⟨w.heap.size, 0, none⟩) n n) ∧
      w'.ownsRow w.heap.size 5 1 (.slice (some ⟨w.heap.size, 0, none⟩) n n) n (bv (l1 ++ l2)) ∧ Below w.heap.size w w' := by
  obtain ⟨i0, hi, hz0, hz1, hz2⟩ := info_parts info_byte
  have hsz : (Try.prog.info? 5).map (·.size) = some 1 := by rw [hi]; simp [hz1]
  have hmk := run_make (P := Try.prog) w 25 5 i0 (.int .u8 0) Try.underlying25 hi hz0 .i64 .i64 ((n : Int)) ((n : Int)) (by omega) (by omega) (by rw [hz2]; omega) (by omega)
  have hmc : Hid ((madeCells #[Value.int .u8 0] n).toList.length = n) := by show _ = _; simp [size_madeCells]
  obtain ⟨g, hg⟩ : ∃ g, g = w.heap.size := ⟨_, rfl⟩
  have HL1 := Lib.hid h1
  have HL2 := Lib.hid h2
  have HR1 := Lib.hid hr1
  have HR2 := Lib.hid hr2
  clear h1 h2 hr1 hr2
  have HB1 := Lib.hid ((Below.refl w.heap.size w).alloc (Nat.le_refl _) (.cells (madeCells #[Value.int .u8 0] n) 5))
  go_enter Try.func30, Try.ntmps30
  go_wp2_with (with_reducible refine wpList_copy_splice rfl (.tmp 12) (.tmp 13) 25 25 rfl 5 Try.underlying25 hsz (some ⟨w.heap.size, 0, none⟩) A1 n n n c1 rfl rfl w.heap.size 0 (madeCells #[Value.int IntKind.u8 0] n).toList 5 ?hg (bv l1) ?hn ?hpos ?hfit (bv_oneCell l1) w.heap.size w ?hb (Nat.le_refl _) ?_)
  case hg => simpa using heap_alloc_new w _
  case hn => rw [bv_length, HL1.out]; exact (Nat.min_eq_left (by omega)).symm
  case hpos =>
    intro h0
    rw [bv_length] at h0
    obtain ⟨ad, e, hc⟩ := (HR1.out.below HB1.out).cells h0
    first | exact ⟨rfl, ad, e, hc⟩ | exact ⟨ad, e, hc⟩
  case hfit => rw [hmc.out, bv_length, HL1.out]; omega
  case hb => exact HB1.out
  intro w1 hg1 hb1
  have HB2 := Lib.hid hb1
  clear hb1
  have hsp : (splice (madeCells #[Value.int IntKind.u8 0] n).toList 0 (bv l1)).length = n := by rw [length_splice _ _ _ (by rw [hmc.out, bv_length, HL1.out]; omega), hmc.out]
  have HSP := Lib.hid hsp
  clear hsp
  go_wp2_with (with_reducible refine wpList_copy_splice rfl (.tmp 18) (.tmp 19) 25 25 rfl 5 Try.underlying25 hsz (some ⟨w.heap.size, 0, none⟩) A2 0 0 0 c2 rfl rfl w.heap.size n (splice (madeCells #[Value.int IntKind.u8 0] n).toList 0 (bv l1)) 5 hg1.out (bv l2) ?hn2 ?hpos2 ?hfit2 (bv_oneCell l2) w.heap.size w HB2.out (Nat.le_refl _) ?_)
  case hn2 => rw [bv_length, HL2.out]; exact (Nat.min_self _).symm
  case hpos2 =>
    intro h0
    rw [bv_length] at h0
    obtain ⟨ad, e, hc⟩ := (HR2.out.below HB2.out).cells h0
    have := HL2.out; omega
  case hfit2 => rw [HSP.out, bv_length, HL2.out]; exact Nat.le_refl _
  intro w2 hg2 hb2
  have HB3 := Lib.hid hb2
  clear hb2 hmk
  go_wp2
  go_ret
  refine ⟨rfl, ⟨by simp [bv_length, HL1.out, HL2.out], .inr ⟨w.heap.size, n, _, rfl, Nat.le_refl _, hg2.out, Nat.le_refl _, by simp only [maxLen]; omega, ?_, ?_⟩⟩, HB3.out⟩
  · rw [splice_two _ (bv l1) (bv l2) n 0 (by rw [bv_length]; exact HL1.out) (by rw [bv_length]; exact HL2.out) hmc.out, List.size_toArray, List.length_append, bv_length, bv_length, HL1.out, HL2.out, Nat.mul_one, Nat.add_zero]
  · rw [splice_two _ (bv l1) (bv l2) n 0 (by rw [bv_length]; exact HL1.out) (by rw [bv_length]; exact HL2.out) hmc.out]
    rw [show bv (l1 ++ l2) = bv l1 ++ bv l2 by simp [bv]]
    exact List.take_of_length_le (by rw [List.length_append, bv_length, bv_length, HL1.out, HL2.out]; omega)

theorem joined_any (A1 A2 : Option Addr) (l1 l2 : List UInt8) (n k c1 c2 : Nat) (w : World) (h1 : l1.length = n) (h2 : l2.length = k) (hr1 : Rd w w.heap.size A1 l1) (hr2 : Rd w w.heap.size A2 l2) (hn : n ≤ 1000000) (hk : k ≤ 1000000) :
    Calls Try.prog 30 #[.slice A1 n c1, .slice A2 k c2] w fun e w' => e = .returned (.slice (some ⟨w.heap.size, 0, none⟩) (n + k) (n + k)) ∧
      w'.ownsRow w.heap.size 5 1 (.slice (some ⟨w.heap.size, 0, none⟩) (n + k) (n + k)) (n + k) (bv (l1 ++ l2)) ∧ Below w.heap.size w w' := by
  by_cases h0 : k = 0
  · subst h0
    exact joined_none A1 A2 l1 l2 n c1 c2 w h1 h2 hr1 hr2 hn
  · exact joined_more A1 A2 l1 l2 n k c1 c2 w h1 h2 hr1 hr2 hn hk h0
end Go.Proofs.Ytmnbfmcgnddlaaa
