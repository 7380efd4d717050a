/- What the landed package slot does: Lay, first, Take. No statement of the seat is proved here. -/
import Derived.Test.YtmfbidohmkoeeaaSlLandA
import Derived.Test.YtmfbidohmkoeeaaSlRefB
import Derived.Deep.WholeRow
namespace Go.Proofs.Ytmfbidohmkoeeaa
open Go.RowKit
set_option linter.unusedVariables false
set_option linter.unusedSimpArgs false

set_option maxRecDepth 100000 in
set_option maxHeartbeats 4000000 in
theorem lay_any (s : SlT) (hs : s.Ok) (w : World) : Calls Try.prog 10 #[s.v] w fun e w' => ∃ A c, e = .returned (.slice A 128 c) ∧ (∃ t, w'.ownsRow w.heap.size t 1 (.slice A 128 c) 128 (bv (layS s))) ∧ Below w.heap.size w w' := by
  obtain ⟨i0, hi, hz, _⟩ := sec_zero
  obtain ⟨Z, hZ⟩ : ∃ Z, (bv (zr 128)).toArray = Z := ⟨_, rfl⟩
  have hZl : Z.size = 128 := by rw [← hZ, List.size_toArray, bv_length, zr_length]
  rw [hZ] at hz
  obtain ⟨d, hd⟩ : ∃ d, w.heap.size = d := ⟨_, rfl⟩
  obtain ⟨w0, hw0⟩ : ∃ w0, w.alloc (.cells (slcs s).toArray 25) = w0 := ⟨_, rfl⟩
  have hb0 : Below w.heap.size w w0 := hw0 ▸ (Below.refl _ _).alloc (Nat.le_refl _) _
  have hB0 : Blk w0 d 25 (slcs s).toArray := by rw [← hw0, ← hd]; exact Blk.new w _ _
  have HC := Lib.hid (insec_any s hs w0)
  obtain ⟨R, hR⟩ : ∃ R, (bv (layS s)).toArray = R := ⟨_, rfl⟩
  have hRl : (bv (layS s)).toArray.toList = bv (layS s) := List.toList_toArray
  rw [hR] at hRl HC
  rw [← hRl]
  have hRs : R.size = 128 := by rw [← hR, lay_size]
  have HS1 := Lib.hid (show (Try.prog.info? 42).map (·.size) = some R.size by rw [hRs]; exact sec_size)
  have HS2 := Lib.hid (show Z.size = R.size by rw [hRs, hZl])
  have HS3 := Lib.hid (show R.all (·.oneCell') = true by rw [← hR]; exact all_oneCell_toArray (bv_oneCell _))
  have HI := Lib.hid (And.intro hi hz)
  obtain ⟨g, a, z, u⟩ := s
  have hc0 : w0.cell? ⟨d, 0, none⟩ = some (.int .u64 g) := hB0.cell 0
  have hc1 : w0.cell? ⟨d, 1, none⟩ = some (.int .u8 a) := hB0.cell 1
  have hc2 : w0.cell? ⟨d, 2, none⟩ = some (.int .u32 z) := hB0.cell 2
  have hc3 : w0.cell? ⟨d, 3, none⟩ = some (.int .u32 u) := hB0.cell 3
  have HW0 := Lib.hid (And.intro (show w.alloc (.cells #[.int .u64 g, .int .u8 a, .int .u32 z, .int .u32 u] 25) = w0 from hw0) (And.intro hd hb0))
  have HRS := Lib.hid hRs
  clear hi hz hZ hZl hd hw0 hb0 hB0 hR hRl hRs hs
  show Calls Try.prog 10 #[.agg #[.int .u64 g, .int .u8 a, .int .u32 z, .int .u32 u]] w _
  replace HC := Lib.hid (show Calls Try.prog 16 #[.agg #[.int .u64 g, .int .u8 a, .int .u32 z, .int .u32 u]] w0 fun e w' => e = .returned (.agg R) ∧ Below w0.heap.size w0 w' from HC.out)
  go_enter Try.func10, Try.ntmps10
  go_upto_region 1 with fail
  rw [HW0.out.1, HW0.out.2.1]
  go_wp2_with fail
  refine HC.out.mono ?_
  rintro e w1 ⟨rfl, hb1⟩
  have HB1 := Lib.hid hb1
  have HX := Lib.hid (Blk.new w1 42 Z)
  obtain ⟨w2, hw2⟩ : ∃ w2, w1.alloc (.cells R 42) = w2 := ⟨_, rfl⟩
  have HW2 := Lib.hid hw2
  clear hb1 hw2 hc0 hc1 hc2 hc3 HC
  go_wp2_with (first
    | (refine wpList_alloc_z rfl 42 rfl i0 _ HI.out.1 HI.out.2 ?_)
    | (refine wpList_store_row rfl 42 (.tmp 3) (.tmp 5) rfl w1.heap.size R rfl rfl 42 Z HX.out HS1.out HS2.out HS3.out ?_; rw [World.setRow_alloc_new, HW2.out]))
  go_ret
  have hb := HW0.out.2.2.trans (HB1.out.mono HW0.out.2.2.size)
  refine ⟨_, _, rfl, ⟨42, ?_⟩, ?_⟩
  · rw [← HW2.out]
    exact World.ownsRow_lit w1 R 128 hb.size (by simp [maxLen]) (by rw [HRS.out])
  · rw [← HW2.out]
    exact hb.alloc hb.size _
set_option maxRecDepth 100000 in
set_option maxHeartbeats 4000000 in
theorem first_any (A : Option Addr) (c : Nat) (b : List UInt8) (hl : b.length = 128) (w : World) (hr : Rd w w.heap.size A b) : Calls Try.prog 18 #[.slice A 128 c] w fun e w' => e = .returned (headS b).v ∧ Below w.heap.size w w' := by
  obtain ⟨V1, V2, V3, V4, L1, L2, L3, L4, F1, F2, F3, F4, ⟨G1, G2, G3⟩, ⟨G4, G5, G6⟩, ⟨G7, G8, G9⟩, ⟨G10, G11, G12⟩, hok, hh⟩ := gets b
  rw [hh hl]
  obtain ⟨d, hd⟩ : ∃ d, w.heap.size = d := ⟨_, rfl⟩
  obtain ⟨w1, hw1⟩ : ∃ w1, w.alloc (.cells #[.int .u64 0, .int .u8 0, .int .u32 0, .int .u32 0] 25) = w1 := ⟨_, rfl⟩
  have hb1 : Below w.heap.size w w1 := hw1 ▸ (Below.refl _ _).alloc (Nat.le_refl _) _
  have hB : Blk w1 d 25 #[.int .u64 0, .int .u8 0, .int .u32 0, .int .u32 0] := by rw [← hw1, ← hd]; exact Blk.new w _ _
  have HN := Lib.hid (new_sl A b c 128 w1 hl ((hr.below hb1).more hb1.size) (by omega))
  have HG1 := Lib.hid (fun g W (h : Rdr W g b 0) => get_lit g b 0 8 V1 L1 F1 W h G1 G2 G3)
  have HG2 := Lib.hid (fun g W (h : Rdr W g L1 F1) => get_lit g L1 F1 1 V2 L2 F2 W h G4 G5 G6)
  have HG3 := Lib.hid (fun g W (h : Rdr W g L2 F2) => get_lit g L2 F2 4 V3 L3 F3 W h G7 G8 G9)
  have HG4 := Lib.hid (fun g W (h : Rdr W g L3 F3) => get_lit g L3 F3 4 V4 L4 F4 W h G10 G11 G12)
  have v2 := conv_u8 hok.a
  have v3 := conv_u32 hok.z
  have v4 := conv_u32 hok.u
  have HB := Lib.hid (And.intro hB hb1)
  have HW := Lib.hid (And.intro hw1 hd)
  clear hh hl hr G1 G2 G3 G4 G5 G6 G7 G8 G9 G10 G11 G12 hok hd hw1 hb1 hB
  go_enter Try.func18, Try.ntmps18
  go_upto_region 1 with fail
  rw [HW.out.1, HW.out.2]
  go_wp2_with fail
  refine HN.out.mono ?_
  rintro e w2 ⟨g, rfl, hg, hr2, hb2⟩
  have H2 := Lib.hid (show Rdr w2 g b 0 ∧ Below w1.heap.size w1 w2 ∧ w1.heap.size ≤ g from ⟨hr2, hb2, hg⟩)
  clear hg hr2 hb2 HN
  go_wp2_with fail
  refine (HG1.out _ _ H2.out.1).mono ?_
  rintro e w3 ⟨rfl, hr3, hg3⟩
  have H3 := Lib.hid (show Rdr w3 g L1 F1 ∧ Below w1.heap.size w1 w3 from ⟨hr3, H2.out.2.1.trans (Below.ofGrown hg3 H2.out.2.2 H2.out.2.1.size)⟩)
  clear hr3 hg3
  go_wp2_with fail
  refine (HG2.out _ _ H3.out.1).mono ?_
  rintro e w4 ⟨rfl, hr4, hg4⟩
  have H4 := Lib.hid (show Rdr w4 g L2 F2 ∧ Below w1.heap.size w1 w4 from ⟨hr4, H3.out.2.trans (Below.ofGrown hg4 H2.out.2.2 H3.out.2.size)⟩)
  clear hr4 hg4
  go_wp2_with fail
  refine (HG3.out _ _ H4.out.1).mono ?_
  rintro e w5 ⟨rfl, hr5, hg5⟩
  have H5 := Lib.hid (show Rdr w5 g L3 F3 ∧ Below w1.heap.size w1 w5 from ⟨hr5, H4.out.2.trans (Below.ofGrown hg5 H2.out.2.2 H4.out.2.size)⟩)
  clear hr5 hg5
  go_wp2_with fail
  refine (HG4.out _ _ H5.out.1).mono ?_
  rintro e w6 ⟨rfl, hr6, hg6⟩
  have hb6 : Below w1.heap.size w1 w6 := H5.out.2.trans (Below.ofGrown hg6 H2.out.2.2 H5.out.2.size)
  have hB6 := HB.out.1.below hb6 HB.out.1.lt
  have HB6 := Lib.hid hb6
  have HK := Lib.hid (set4 (a' := .int .u64 V1) (b' := .int .u8 V2) (c' := .int .u32 V3) (d' := .int .u32 V4) hB6)
  have hc0 := hB6.cell 0
  have hc1 := hB6.cell 1
  have hc2 := hB6.cell 2
  have hc3 := hB6.cell 3
  have hf0 := hB6.frozen 0
  have hf1 := hB6.frozen 1
  have hf2 := hB6.frozen 2
  have hf3 := hB6.frozen 3
  clear hr6 hg6 hb6 hB6 HG1 HG2 HG3 HG4
  go_wp2_with fail
  obtain ⟨fs, hfs⟩ := slot_desc
  (try simp only [Exit.inBlock, Exit.then])
  refine bodyPost_ret (v := (⟨V1, V2, V3, V4⟩ : SlT).v) ?_ rfl ⟨rfl, ?_⟩
  · exact results_cell_row rfl _ _ d 25 _ (0, 0) _ rfl HK.out hfs rfl slot_size4
  · have hb := HB.out.2.trans (HB6.out.mono HB.out.2.size)
    exact hb.grown (gby4 w6 _ _ _ _ _) hb.size fun k hk => by injection hk with hk; have := HW.out.2; omega
end Go.Proofs.Ytmfbidohmkoeeaa
