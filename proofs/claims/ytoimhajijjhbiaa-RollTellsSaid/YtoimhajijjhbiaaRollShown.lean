/- The document's examples of package roll come out true. No statement of the seat is proved here. -/
import Derived.Test.YtoimhajijjhbiaaRollAll
namespace Go.Proofs.Ytoimhajijjhbiaa
open Go.RowKit

theorem info_u8 : (Try.prog.info? 5).map (fun i => (i.zero, i.size, i.bytes)) = some (some (.int .u8 0), 1, 1) := by kernel_rfl
/-- A new block of bytes. -/
theorem rd_block (w : World) (cs : Array Value) (l : List UInt8) (h : ∀ j (_ : j < l.length), cs[j]? = some (.int .u8 l[j].toNat)) : Rd (w.alloc (.cells cs 5)) (w.alloc (.cells cs 5)).heap.size (some ⟨w.heap.size, 0, none⟩) l := fun _ => by
  refine ⟨w.heap.size, 0, rfl, by simp, fun j hj => ?_⟩
  rw [(Blk.new w 5 cs).cell, Nat.zero_add]; exact h j hj
theorem rd_zeros (w : World) (n : Nat) : Rd (w.alloc (.cells (madeCells #[Value.int .u8 0] n) 5)) (w.alloc (.cells (madeCells #[Value.int .u8 0] n) 5)).heap.size (some ⟨w.heap.size, 0, none⟩) (List.replicate n 0) :=
  rd_block w _ _ fun j hj => by
    rw [← Array.getElem?_toList, toList_madeCells_one]
    rw [List.length_replicate] at hj
    simp [hj]
theorem of_nil : (ofB []).toNat = 0 := by decide +kernel
theorem of_0 : (ofB [0]).toNat = 1 := by decide +kernel
theorem of_00 : (ofB [0, 0]).toNat = 16777620 := by decide +kernel
theorem of_lit (A : Option Addr) (l : List UInt8) (c n m : Nat) (w : World) (hk : l.length = n) (hr : Rd w w.heap.size A l) (hc : n ≤ c) (hm : c ≤ 9223372036854775807) (he : (ofB l).toNat = m) :
    Calls Try.prog 9 #[.slice A n c] w fun e w' => e = .returned (.int .u32 m) ∧ w = w' := by subst he; exact of_any A l c n _ w hk hr hc hm
theorem all_sl (A : Option Addr) (l : List UInt8) (c n m : Nat) (w : World) (hk : l.length = n) (hr : Rd w w.heap.size A l) (hc : n ≤ c) (hl : n ≤ 100000) (hm : c ≤ 9223372036854775807) (he : n - 15 = m) :
    Calls Try.prog 13 #[.slice A n c] w fun e w' => ∃ A' c', e = .returned (.slice A' m c') ∧ w'.ownsRow w.heap.size 24 1 (.slice A' m c') m (uv (allB l)) ∧ Below w.heap.size w w' := by
  subst he
  refine (all_any A l c n w hk hr hc hm hl).mono ?_
  rintro e w' ⟨v, rfl, ho, hb⟩
  obtain ⟨A', c', rfl, _, _⟩ := ownsRow_form ho
  exact ⟨A', c', rfl, ho, hb⟩

set_option maxHeartbeats 1000000 in
theorem shown_any (w : World) : Calls Try.prog 8 #[] w fun e w' => e = .returned (.bool true) ∧ Below w.heap.size w w' := by
  obtain ⟨i0, hi, hz0, hz1, hz2⟩ := info_parts info_u8
  go_enter Try.func8, Try.ntmps8
  go_wp2_with fail
  refine (of_lit none [] 0 0 0 w rfl (Rd.nil _ _ _) (by decide) (by decide) of_nil).mono ?_
  rintro e w1 ⟨rfl, rfl⟩
  go_wp2_with fail
  have hb1 : Below w.heap.size w (w.alloc (.cells #[.int .u8 0] 5)) := (Below.refl _ _).alloc (Nat.le_refl _) _
  refine (of_lit _ [0] 1 1 1 _ rfl (rd_block w #[.int .u8 0] [0] (fun j hj => by match j, hj with | 0, _ => rfl)) (by decide) (by decide) of_0).mono ?_
  rintro e w2 ⟨rfl, rfl⟩
  generalize w.alloc (.cells #[.int .u8 0] 5) = w1 at *
  go_wp2_with fail
  have hb2 : Below w.heap.size w (w1.alloc (.cells #[.int .u8 0, .int .u8 0] 5)) := hb1.alloc hb1.size _
  refine (of_lit _ [0, 0] 2 2 16777620 _ rfl (rd_block w1 #[.int .u8 0, .int .u8 0] [0, 0] (fun j hj => by match j, hj with | 0, _ => rfl | 1, _ => rfl)) (by decide) (by decide) of_00).mono ?_
  rintro e w2 ⟨rfl, rfl⟩
  clear hb1
  generalize w1.alloc (.cells #[.int .u8 0, .int .u8 0] 5) = w2 at *
  have hmk := run_make (P := Try.prog) w2 22 5 i0 (.int .u8 0) Try.underlying22 hi hz0 .i64 .i64 15 15 (by omega) (by omega) (by rw [hz2]; omega) (by omega)
  go_wp2_with fail
  clear hmk
  have hb3 : Below w.heap.size w (w2.alloc (.cells (madeCells #[.int .u8 0] 15) 5)) := hb2.alloc hb2.size _
  refine (all_sl _ (List.replicate 15 0) 15 15 0 _ (by rw [List.length_replicate]) (rd_zeros w2 15) (by decide) (by decide) (by decide) rfl).mono ?_
  rintro e w3 ⟨A3, c3, rfl, ho3, hb4⟩
  have hb4 := hb3.trans (hb4.mono hb3.size)
  clear hb3 hb2 ho3
  have hmk := run_make (P := Try.prog) w3 22 5 i0 (.int .u8 0) Try.underlying22 hi hz0 .i64 .i64 17 17 (by omega) (by omega) (by rw [hz2]; omega) (by omega)
  go_wp2_with fail
  clear hmk
  have hb5 : Below w.heap.size w (w3.alloc (.cells (madeCells #[.int .u8 0] 17) 5)) := hb4.alloc hb4.size _
  refine (all_sl _ (List.replicate 17 0) 17 17 2 _ (by rw [List.length_replicate]) (rd_zeros w3 17) (by decide) (by decide) (by decide) rfl).mono ?_
  rintro e w4 ⟨A4, c4, rfl, ho4, hb6⟩
  have hb6 := hb5.trans (hb6.mono hb5.size)
  clear hb5 hb4 ho4
  go_wp2_with fail
  go_ret
  exact ⟨rfl, hb6⟩
end Go.Proofs.Ytoimhajijjhbiaa
