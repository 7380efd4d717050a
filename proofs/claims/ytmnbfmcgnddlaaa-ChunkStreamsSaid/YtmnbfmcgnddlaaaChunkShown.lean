/- The document's examples of package chunk come out true; the laws' few. No statement of the seat is proved here. -/
import Derived.Test.YtmnbfmcgnddlaaaChunkSame
import Derived.Deep.CutBlock
import Derived.Deep.DeepCutAuto
import Derived.Deep.WholeRow
import Derived.Deep.RegionHeld3
namespace Go.Proofs.Ytmnbfmcgnddlaaa
open Go.RowKit

theorem few_any (A : Option Addr) (n c m : Nat) (w : World) (hm : m = min n 20000) (hc : n ≤ c) (hc2 : c ≤ 9223372036854775807) :
    Calls Try.prog 14 #[.slice A n c] w fun e w' => e = .returned (.slice A m c) ∧ w = w' := by
  by_cases h : n ≤ 20000
  · obtain rfl : m = n := by omega
    clear hm
    have h2 : (m : Int) ≤ 20000 := by omega
    have h1 : ¬ (20000 : Int) < (m : Int) := by omega
    go_enter Try.func14, Try.ntmps14
    go_wp2
    go_ret
    exact ⟨rfl, rfl⟩
  · obtain rfl : m = 20000 := by omega
    clear hm
    have h2 : ¬ (n : Int) ≤ 20000 := by omega
    have h1 : (20000 : Int) < (n : Int) := by omega
    have h3 : (20000 : Int) ≤ (c : Int) := by omega
    go_enter Try.func14, Try.ntmps14
    go_wp2
    go_ret
    exact ⟨rfl, rfl⟩
theorem rd_zeros40 (w : World) (n : Nat) : Rd (w.alloc (.cells (madeCells #[Value.int .u8 0] n) 5)) (w.alloc (.cells (madeCells #[Value.int .u8 0] n) 5)).heap.size (some ⟨w.heap.size, 0, none⟩) (List.replicate n 0) := fun _ => by
  refine ⟨w.heap.size, 0, rfl, by simp, fun j hj => ?_⟩
  rw [(Blk.new w 5 _).cell, Nat.zero_add, ← Array.getElem?_toList, toList_madeCells_one]
  rw [List.length_replicate] at hj
  simp [hj]
/-- The chapter's cutter: Min 16, Max 20, Main 1, Back 1. -/
def shownC : Ctr := ⟨16, 20, 1#32, 1#32⟩
theorem shownK : shownC.Ok := ⟨by decide, by decide, by decide, by decide, by decide⟩
theorem shown_cuts (l : List UInt8) (h : 16 ≤ l.length) : cutB shownC l = 16 :=
  scan_main (C := shownC) h (by show _ % 1 = 0; omega)
theorem shown_sizes : (allC shownC (List.replicate 40 0)).map List.length = [16, 16, 8] := by
  rw [allC_more shownK (by rw [shown_cuts _ (by simp)]; decide), shown_cuts _ (by simp), List.drop_replicate,
    allC_more shownK (by rw [shown_cuts _ (by simp)]; decide), shown_cuts _ (by simp), List.drop_replicate,
    allC_stop (show cutB shownC _ = 0 from scan_short (k := 4) (by simp [shownC]))]
  simp [tailB]
theorem all_lit (A : Option Addr) (c : Nat) (w : World) (hr : Rd w w.heap.size A (List.replicate 40 0)) (hc : 40 ≤ c) (hm : c ≤ 9223372036854775807) :
    Calls Try.prog 17 #[.agg #[.int .i64 16, .int .i64 20, .int .u32 1, .int .u32 1], .slice A 40 c] w fun e w' =>
      ∃ g c' P0 C0 P1 C1 P2 C2, e = .returned (.slice (some ⟨g, 0, none⟩) 3 c') ∧ w.heap.size ≤ g ∧ w'.cell? ⟨g, 0, none⟩ = some (.slice P0 16 C0) ∧ w'.cell? ⟨g, 1, none⟩ = some (.slice P1 16 C1) ∧ w'.cell? ⟨g, 2, none⟩ = some (.slice P2 8 C2) ∧ Below w.heap.size w w' := by
  refine (all_ok shownC shownK A (List.replicate 40 0) 40 c (by simp) (by decide) hc hm w hr).mono ?_
  rintro e w' ⟨V, rfl, ⟨ps, hch, hps⟩, hb⟩
  have hz : ps.map (fun p => p.2.2.length) = [16, 16, 8] := by
    rw [← shown_sizes, ← hps]; simp [psb]
  have hl : ps.length = 3 := by have := congrArg List.length hz; simpa using this
  obtain ⟨⟨P0, C0, l0⟩, ⟨P1, C1, l1⟩, ⟨P2, C2, l2⟩, rfl⟩ : ∃ p0 p1 p2, ps = [p0, p1, p2] := by
    match ps, hl with
    | [p0, p1, p2], _ => exact ⟨p0, p1, p2, rfl⟩
  simp at hz
  obtain ⟨z0, z1, z2⟩ := hz
  rcases hch.row.2 with ⟨_, h0⟩ | ⟨g, cap, cur, rfl, hbg, hh, hnc, _, hcs, ht⟩
  · simp at h0
  · have hcell : ∀ j, j < 3 → w'.cell? ⟨g, j, none⟩ = (psv [(P0, C0, l0), (P1, C1, l1), (P2, C2, l2)])[j]? := by
      intro j hj
      rw [cell_of_row w' g j cur _ (0, 0) hh, ← ht, List.getElem?_take, if_pos (by simpa using hj)]
      simp
    refine ⟨g, cap, P0, C0, P1, C1, P2, C2, rfl, hbg, ?_, ?_, ?_, hb⟩
    · rw [hcell 0 (by decide)]; simp [psv, Part.val, z0]
    · rw [hcell 1 (by decide)]; simp [psv, Part.val, z1]
    · rw [hcell 2 (by decide)]; simp [psv, Part.val, z2]
set_option maxHeartbeats 1000000 in
theorem shown_any (w : World) : Calls Try.prog 10 #[] w fun e w' => e = .returned (.bool true) ∧ Below w.heap.size w w' := by
  obtain ⟨i0, hi, hz0, hz1, hz2⟩ := info_parts info_byte
  go_enter Try.func10, Try.ntmps10
  go_wp2_with fail
  have hb1 := (Below.refl w.heap.size w).alloc (Nat.le_refl _) (.cells #[.int .i64 16, .int .i64 20, .int .u32 1, .int .u32 1] 24)
  obtain ⟨g, hg⟩ : ∃ g, g = w.heap.size := ⟨_, rfl⟩
  have hB1 := blk_at w 24 #[.int .i64 16, .int .i64 20, .int .u32 1, .int .u32 1] hg
  have hf1 := hB1.frozen 0
  rw [← hg]
  generalize w.alloc (.cells #[.int .i64 16, .int .i64 20, .int .u32 1, .int .u32 1] 24) = w1 at *
  have hgl := hB1.lt
  have HG := Lib.hid hg
  clear hg
  have HKB := Lib.hid (show ∀ W, Below w1.heap.size w1 W → W.cell? ⟨g, 0, none⟩ = some (.int .i64 16) ∧ W.cell? ⟨g, 1, none⟩ = some (.int .i64 20) ∧ W.cell? ⟨g, 2, none⟩ = some (.int .u32 1) ∧ W.cell? ⟨g, 3, none⟩ = some (.int .u32 1) from fun W h => ctr_cells (hB1.below h hgl))
  have hM0 : Below w1.heap.size w1 w1.drew := below_drewN (Below.refl _ _) 1
  have hM1 : Below w1.heap.size w1 (w1.drew.alloc (.cells (madeCells #[.int .u8 0] 40) 5)) := hM0.alloc (Nat.le_refl _) _
  have hmk := fun W : World => run_make (P := Try.prog) W 25 5 i0 (.int .u8 0) Try.underlying25 hi hz0 .i64 .i64 40 40 (by omega) (by omega) (by rw [hz2]; omega) (by omega)
  have hM2 : Below w1.heap.size w1 (w1.alloc (.cells (madeCells #[.int .u8 0] 40) 5)).drew := hM1
  have HM := Lib.hid (show Rd (w1.alloc (.cells (madeCells #[.int .u8 0] 40) 5)).drew (w1.alloc (.cells (madeCells #[.int .u8 0] 40) 5)).drew.heap.size (some ⟨w1.heap.size, 0, none⟩) (List.replicate 40 0) from rd_zeros40 w1.drew 40)
  go_region_held3 (fun W => W.cell? ⟨g, 0, none⟩ = some (.int .i64 16) ∧ W.cell? ⟨g, 1, none⟩ = some (.int .i64 20) ∧ W.cell? ⟨g, 2, none⟩ = some (.int .u32 1) ∧ W.cell? ⟨g, 3, none⟩ = some (.int .u32 1)) (first | exact HKB.out _ (by assumption) | fail) (first
    | (go_at_call 17; (with_reducible refine (all_lit (some ⟨w1.heap.size, 0, none⟩) 40 _ HM.out (by decide) (by decide)).mono ?_); rintro e w2 ⟨g2, c2, P0, C0, P1, C1, P2, C2, rfl, hg2, hx0, hx1, hx2, hb2⟩; have hb12 := hM2.trans (hb2.mono hM2.size)))
  have hgg : ¬ g = g2 := by have := hM2.size; omega
  have hB2 := hB1.below hb12 hgl
  have hb3 := hb1.trans (hb12.mono hb1.size)
  have hf2 := hB2.frozen 0
  obtain ⟨k0, k1, k2, k3⟩ := ctr_cells hB2
  have hB3 : Blk (w2.setCell ⟨g, 0, none⟩ (.int .i64 15)) g 24 #[.int .i64 15, .int .i64 20, .int .u32 1, .int .u32 1] := hB2.set_ 0 _
  have hb4 := hb3.setCell (show w.heap.size ≤ (⟨g, 0, none⟩ : Addr).block by rw [← HG.out]; exact Nat.le_refl _) (.int .i64 15)
  have hgs : ∀ j, (w2.setCell ⟨g, 0, none⟩ (.int .i64 15)).cell? ⟨g2, j, none⟩ = w2.cell? ⟨g2, j, none⟩ := fun j => World.cell?_of_block (by simp [World.setCell, Array.getElem?_modify, hgg])
  have H3 := Lib.hid (And.intro hB3 (And.intro hb4 hgs))
  clear hB3 hb4 hgs
  clear hB1 hf1 hM0 hM1 hM2 hmk HM HKB hb2 hb1 hb12
  go_upto_region 4 with fail
  obtain ⟨hB3, hb4, hgs⟩ := H3.out
  rw [← hgs] at hx0 hx1 hx2
  clear hgs H3 k0 k1 k2 k3 hB2 hf2 hb3
  generalize w2.setCell ⟨g, 0, none⟩ (.int .i64 15) = w3 at *
  obtain ⟨k0, k1, k2, k3⟩ := ctr_cells hB3
  go_wp2_with fail
  refine (right_any _ _ _ _ _).mono ?_
  rintro e w4 ⟨rfl, hb5⟩
  rw [show decide (okI 15 20 1 1) = false by decide]
  have hb6 := hb4.trans (hb5.mono hb4.size)
  clear hb4 hb5 hB3
  go_wp2_with fail
  go_ret
  exact ⟨rfl, hb6⟩
end Go.Proofs.Ytmnbfmcgnddlaaa
