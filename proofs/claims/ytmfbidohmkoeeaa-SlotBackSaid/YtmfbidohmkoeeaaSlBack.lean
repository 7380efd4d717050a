/- The walk of SlotBack, told from what the package does. No statement of the seat is proved here. -/
import Derived.Test.YtmfbidohmkoeeaaSlTakes
import Derived.Test.YtmfbidohmkoeeaaStRegion
import Derived.Deep.CutRange
namespace Go.Proofs.Ytmfbidohmkoeeaa
open Go.RowKit
set_option linter.unusedVariables false
set_option linter.unusedSimpArgs false

/-- The state of the walk: the first slot's block p0, what was taken of its sector (block p1). -/
theorem take_lay_cases {g a z u : Nat} (hok : (⟨g, a, z, u⟩ : SlT).Ok) : ∃ g1 a1 z1 u1 e1 : Nat, takeS (layS ⟨g, a, z, u⟩) = (⟨g1, a1, z1, u1⟩, e1) ∧ (g = 0 ∧ e1 = 100 ∨ g ≠ 0 ∧ e1 = 0 ∧ g1 = g ∧ a1 = a ∧ z1 = z ∧ u1 = u) := by
  by_cases h : g = 0
  · exact ⟨0, 0, 0, 0, 100, takeS_zero hok h, .inl ⟨h, rfl⟩⟩
  · exact ⟨g, a, z, u, 0, takeS_lay hok h, .inr ⟨h, rfl, rfl, rfl, rfl, rfl⟩⟩
set_option maxRecDepth 100000 in
set_option maxHeartbeats 2000000 in
theorem back_walk (K : SlotsOk) (g a z u : Nat) (hok : (⟨g, a, z, u⟩ : SlT).Ok) (A : Option Addr) (k c : Nat) (b : List UInt8) (hl : b.length = k) (hk : k ≤ c) (hc : c ≤ maxLen ∧ k ≤ 140737488351232) (w : World) (hr : Rd w w.heap.size A b) :
    Calls Try.prog 6 #[.agg #[.int .u64 g, .int .u8 a, .int .u32 z, .int .u32 u], .slice A k c] w fun e w' => e = .returned (.bool true) ∧ Below w.heap.size w w' := by
  obtain ⟨d, hd⟩ : ∃ d, w.heap.size = d := ⟨_, rfl⟩
  obtain ⟨w1, hw1⟩ : ∃ w1, w.alloc (.cells #[.int .u64 g, .int .u8 a, .int .u32 z, .int .u32 u] 25) = w1 := ⟨_, rfl⟩
  have hblk : Blk w1 d 25 #[.int .u64 g, .int .u8 a, .int .u32 z, .int .u32 u] := by rw [← hw1, ← hd]; exact Blk.new w _ _
  have hb1 : Below w.heap.size w w1 := hw1 ▸ (Below.refl _ _).alloc (Nat.le_refl _) _
  have H1 := Lib.hid (And.intro hblk hb1)
  have HW := Lib.hid (And.intro hw1 hd)
  have HL := Lib.hid (show ∀ W, Below w1.heap.size w1 W → W.cell? ⟨d, 0, none⟩ = some (.int .u64 g) ∧ W.cell? ⟨d, 1, none⟩ = some (.int .u8 a) ∧ W.cell? ⟨d, 2, none⟩ = some (.int .u32 z) ∧ W.cell? ⟨d, 3, none⟩ = some (.int .u32 u) from fun W hb => by
    have h := hblk.below hb hblk.lt
    exact ⟨h.cell 0, h.cell 1, h.cell 2, h.cell 3⟩)
  have C0 := Lib.hid (shown_at (w0 := w1) K)
  have C1 := Lib.hid (K.lay' (w0 := w1) g a z u hok)
  obtain ⟨g1, a1, z1, u1, e1, hT1, hcase⟩ := take_lay_cases hok
  have HT1 := Lib.hid hT1
  have HR := Lib.hid (show Rd w1 w1.heap.size A b from (hr.below hb1).more hb1.size)
  have HA := Lib.hid (And.intro hl (And.intro hk hc))
  have EQ := sl_same g a z u
  have EG : Try.prog.eqGuardType Try.prog.depth 25 = false := sl_guard
  clear hw1 hd hblk hb1 hok hT1 hl hk hc hr
  go_enter Try.func6, Try.ntmps6
  go_upto_region 1 with fail
  rw [HW.out.1, HW.out.2]
  go_wp2_with fail
  refine (C0.out _ (Below.refl _ _)).mono ?_
  rintro e' w2 ⟨rfl, hb2, _⟩
  obtain ⟨c0, c1, c2, c3⟩ := HL.out w2 hb2
  go_wp2_with fail
  refine (C1.out _ hb2).mono ?_
  rintro e' w3 ⟨A3, c3', rfl, ⟨t3, ho3⟩, hb3, hb23⟩
  have hcap := cap_of_row ho3
  have C2 := Lib.hid (K.take' (w0 := w3) A3 128 c3' (layS ⟨g, a, z, u⟩) (layS_length _) hcap.1 ⟨hcap.2, by omega⟩ (rd_of_row ho3) g1 a1 z1 u1 e1 HT1.out)
  clear c0 c1 c2 c3 hb2 hb23 ho3 hcap
  go_wp2_with fail
  refine (C2.out _ (Below.refl _ _)).mono ?_
  rintro e' w4 ⟨rfl, hb4, _⟩
  obtain ⟨p, hp⟩ : ∃ p, w4.heap.size = p := ⟨_, rfl⟩
  obtain ⟨w5, hw5⟩ : ∃ w5, w4.alloc (.cells #[.int .u64 g1, .int .u8 a1, .int .u32 z1, .int .u32 u1] 25) = w5 := ⟨_, rfl⟩
  have hb45 : Below w4.heap.size w4 w5 := hw5 ▸ (Below.refl _ _).alloc (Nat.le_refl _) _
  have H5 := Lib.hid (show Blk w5 p 25 #[.int .u64 g1, .int .u8 a1, .int .u32 z1, .int .u32 u1] ∧ Below w1.heap.size w1 w5 from ⟨by rw [← hw5, ← hp]; exact Blk.new w4 _ _, (hb3.trans (hb4.mono hb3.size)).trans (hb45.mono (Nat.le_trans hb3.size hb4.size))⟩)
  have HW5 := Lib.hid (And.intro hw5 hp)
  clear hb3 hb4 hw5 hp hb45 C2
  go_upto_region 3 with fail
  rw [HW5.out.1, HW5.out.2]
  go_cut [37] from 17 to 37 (fun t wx => t = .bool false ∧ wx = w5)
  case first =>
    obtain ⟨c0, c1, c2, c3⟩ := HL.out w5 H5.out.2
    have k0 := H5.out.1.cell 0
    have k1 := H5.out.1.cell 1
    have k2 := H5.out.1.cell 2
    have k3 := H5.out.1.cell 3
    rcases hcase with ⟨rfl, rfl⟩ | ⟨hg, rfl, rfl, rfl, rfl, rfl⟩
    · clear k0 k1 k2 k3
      go_wp2_with fail
      go_meet
      exact ⟨rfl, rfl⟩
    · have hz : ((g1 : Int) == 0) = false := by simp; omega
      have hz2 : ((g1 : Int) != 0) = true := by simp; omega
      clear hg
      go_wp2_with fail
      go_meet
      exact ⟨rfl, rfl⟩
  case rest =>
    obtain ⟨rfl, rfl⟩ := hcut
    clear hcase HW5 HT1 EQ
    have hb15 := H5.out.2
    obtain ⟨⟨yg, ya, yz, yu⟩, e2, hT2⟩ : ∃ s e, takeS b = (s, e) := ⟨_, _, rfl⟩
    have C2 := Lib.hid (K.take' (w0 := w1) A k c b HA.out.1 HA.out.2.1 HA.out.2.2 HR.out yg ya yz yu e2 hT2)
    have hcs := takeS_cases b
    rw [hT2] at hcs
    have HC := Lib.hid hcs
    have hyo := takeS_ok b
    rw [hT2] at hyo
    have HY := Lib.hid hyo
    have HB15 := Lib.hid hb15
    clear hT2 hcs hyo hb15 H5
    go_wp2_with fail
    refine (C2.out _ HB15.out).mono ?_
    rintro e' w6 ⟨rfl, hb6, _⟩
    obtain ⟨q, hq⟩ : ∃ q, w6.heap.size = q := ⟨_, rfl⟩
    obtain ⟨w7, hw7⟩ : ∃ w7, w6.alloc (.cells #[.int .u64 yg, .int .u8 ya, .int .u32 yz, .int .u32 yu] 25) = w7 := ⟨_, rfl⟩
    have H7 := Lib.hid (show Blk w7 q 25 #[.int .u64 yg, .int .u8 ya, .int .u32 yz, .int .u32 yu] ∧ Below w1.heap.size w1 w7 from ⟨by rw [← hw7, ← hq]; exact Blk.new w6 _ _, hb6.trans (hw7 ▸ (Below.refl _ _).alloc hb6.size _)⟩)
    have HW7 := Lib.hid (And.intro hw7 hq)
    clear hb6 hw7 hq C2
    go_upto_region 6 with fail
    rw [HW7.out.1, HW7.out.2]
    rcases HC.out with ⟨h1, h2, h3⟩ | h1
    · obtain rfl : e2 = 0 := h1
      replace h2 : yg ≠ 0 := h2
      replace h3 : layS ⟨yg, ya, yz, yu⟩ = b := h3
      have C3 := Lib.hid (K.lay' (w0 := w7) yg ya yz yu HY.out)
      have hz : ((yg : Int) != 0) = true := by simp; omega
      have SX := Lib.hid (show ∀ W, Below w7.heap.size w7 W → (W.cell? ⟨q, 0, none⟩ = some (.int .u64 yg) ∧ W.cell? ⟨q, 1, none⟩ = some (.int .u8 ya) ∧ W.cell? ⟨q, 2, none⟩ = some (.int .u32 yz) ∧ W.cell? ⟨q, 3, none⟩ = some (.int .u32 yu) ∧ (convert 27 9 (.slice A k c)).run Try.prog W = .ok (.string ⟨(layS ⟨yg, ya, yz, yu⟩).toArray⟩) W) from fun W hb => by
        have hbp := H7.out.1.below hb H7.out.1.lt
        refine ⟨hbp.cell 0, hbp.cell 1, hbp.cell 2, hbp.cell 3, ?_⟩
        have := run_str (P := Try.prog) 27 9 5 Try.underlying27 Try.underlying5 Try.underlying9 ((HR.out.below H7.out.2).below (hb.mono H7.out.2.size)) c
        rwa [HA.out.1, ← h3] at this)
      have HE := Lib.hid (H1.out.2.trans (H7.out.2.mono H1.out.2.size))
      have HLB := Lib.hid (And.intro h3 H7.out.2.size)
      have hb0 : Below w7.heap.size w7 w7.drew := below_drewN (Below.refl w7.heap.size w7) 1
      clear h2 h3 H7 HC HY HL H1 HW HW7 C0 C1 HR HA HB15
      -- the region
      refine wp_region_held_drew (S := fun w' => w'.cell? ⟨q, 0, none⟩ = some (.int .u64 yg) ∧ w'.cell? ⟨q, 1, none⟩ = some (.int .u8 ya) ∧ w'.cell? ⟨q, 2, none⟩ = some (.int .u32 yz) ∧ w'.cell? ⟨q, 3, none⟩ = some (.int .u32 yu) ∧ (convert 27 9 (.slice A k c)).run Try.prog w' = .ok (.string ⟨(layS ⟨yg, ya, yz, yu⟩).toArray⟩) w') (by kernel_rfl) (SX.out _ hb0) (fun hHeld => ?_)
      refine wpAnyH_take (i := 0) (oi := _) (v := .bool true) rfl (by kernel_rfl) (by kernel_rfl) (by kernel_rfl) (fun _ _ _ h => h) (Or.inl ⟨by rfl, by intro w hSw; go_simp⟩) (SX.out _ hb0) ?_
      simp only [List.getElem_toArray, List.getElem_cons_zero, List.getElem_cons_succ, Act.put, List.setIfInBounds_toArray, List.set_cons_zero, List.set_cons_succ]
      refine wpAnyH_take (i := 1) (oi := _) (v := .bool true) rfl (by kernel_rfl) (by kernel_rfl) (by kernel_rfl) (fun _ _ _ h => h) (Or.inl ⟨by rfl, by intro w hSw; go_simp⟩) (SX.out _ hb0) ?_
      simp only [List.getElem_toArray, List.getElem_cons_zero, List.getElem_cons_succ, Act.put, List.setIfInBounds_toArray, List.set_cons_zero, List.set_cons_succ]
      refine wpAnyH_take (i := 2) (oi := _) (v := .int .i64 0) rfl (by kernel_rfl) (by kernel_rfl) (by kernel_rfl) (fun _ _ _ h => h) (Or.inl ⟨by rfl, by intro w hSw; go_simp⟩) (SX.out _ hb0) ?_
      simp only [List.getElem_toArray, List.getElem_cons_zero, List.getElem_cons_succ, Act.put, List.setIfInBounds_toArray, List.set_cons_zero, List.set_cons_succ]
      refine wpAnyH_take (i := 3) (oi := _) (v := .bool true) rfl (by kernel_rfl) (by kernel_rfl) (by kernel_rfl) (fun _ _ _ h => h) (Or.inl ⟨by rfl, by intro w hSw; go_simp⟩) (SX.out _ hb0) ?_
      simp only [List.getElem_toArray, List.getElem_cons_zero, List.getElem_cons_succ, Act.put, List.setIfInBounds_toArray, List.set_cons_zero, List.set_cons_succ]
      refine wpAnyH_take (i := 4) (oi := _) (v := .bool true) rfl (by kernel_rfl) (by kernel_rfl) (by kernel_rfl) (fun _ _ _ h => h) (Or.inl ⟨by rfl, by intro w hSw; go_simp⟩) (SX.out _ hb0) ?_
      simp only [List.getElem_toArray, List.getElem_cons_zero, List.getElem_cons_succ, Act.put, List.setIfInBounds_toArray, List.set_cons_zero, List.set_cons_succ]
      refine wpAnyH_take (i := 5) (oi := _) (v := .pointer (some ⟨q, 0, none⟩)) rfl (by kernel_rfl) (by kernel_rfl) (by kernel_rfl) (fun _ _ _ h => h) (Or.inl ⟨by rfl, by intro w hSw; go_simp⟩) (SX.out _ hb0) ?_
      simp only [List.getElem_toArray, List.getElem_cons_zero, List.getElem_cons_succ, Act.put, List.setIfInBounds_toArray, List.set_cons_zero, List.set_cons_succ]
      refine wpAnyH_take (i := 6) (oi := _) (v := .int .u64 yg) rfl (by kernel_rfl) (by kernel_rfl) (by kernel_rfl) (fun _ _ _ h => h) (Or.inl ⟨by rfl, by rintro w ⟨h0, h1, h2, h3, h4⟩; go_simp⟩) (SX.out _ hb0) ?_
      simp only [List.getElem_toArray, List.getElem_cons_zero, List.getElem_cons_succ, Act.put, List.setIfInBounds_toArray, List.set_cons_zero, List.set_cons_succ]
      refine wpAnyH_take (i := 7) (oi := _) (v := .bool true) rfl (by kernel_rfl) (by kernel_rfl) (by kernel_rfl) (fun _ _ _ h => h) (Or.inl ⟨by rfl, by intro w hSw; go_simp⟩) (SX.out _ hb0) ?_
      simp only [List.getElem_toArray, List.getElem_cons_zero, List.getElem_cons_succ, Act.put, List.setIfInBounds_toArray, List.set_cons_zero, List.set_cons_succ]
      refine wpAnyH_take (i := 8) (oi := _) (v := .bool true) rfl (by kernel_rfl) (by kernel_rfl) (by kernel_rfl) (fun _ _ _ h => h) (Or.inl ⟨by rfl, by intro w hSw; go_simp⟩) (SX.out _ hb0) ?_
      simp only [List.getElem_toArray, List.getElem_cons_zero, List.getElem_cons_succ, Act.put, List.setIfInBounds_toArray, List.set_cons_zero, List.set_cons_succ]
      refine wpAnyH_take (i := 9) (oi := _) (v := .bool true) rfl (by kernel_rfl) (by kernel_rfl) (by kernel_rfl) (fun _ _ _ h => h) (Or.inl ⟨by rfl, by intro w hSw; go_simp⟩) (SX.out _ hb0) ?_
      simp only [List.getElem_toArray, List.getElem_cons_zero, List.getElem_cons_succ, Act.put, List.setIfInBounds_toArray, List.set_cons_zero, List.set_cons_succ]
      refine wpAnyH_take (i := 10) (oi := _) (v := .agg #[.int .u64 yg, .int .u8 ya, .int .u32 yz, .int .u32 yu]) rfl (by kernel_rfl) (by kernel_rfl) (by kernel_rfl) (fun _ _ _ h => h) (Or.inl ⟨by rfl, by rintro w ⟨h0, h1, h2, h3, h4⟩; go_simp⟩) (SX.out _ hb0) ?_
      simp only [List.getElem_toArray, List.getElem_cons_zero, List.getElem_cons_succ, Act.put, List.setIfInBounds_toArray, List.set_cons_zero, List.set_cons_succ]
      refine wpAnyH_take (i := 13) (oi := _) (v := .slice A k c) rfl (by kernel_rfl) (by kernel_rfl) (by kernel_rfl) (fun _ _ _ h => h) (Or.inl ⟨by rfl, by intro w hSw; go_simp⟩) (SX.out _ hb0) ?_
      simp only [List.getElem_toArray, List.getElem_cons_zero, List.getElem_cons_succ, Act.put, List.setIfInBounds_toArray, List.set_cons_zero, List.set_cons_succ]
      refine wpAnyH_take (i := 14) (oi := _) (v := .string ⟨(layS ⟨yg, ya, yz, yu⟩).toArray⟩) rfl (by kernel_rfl) (by kernel_rfl) (by kernel_rfl) (fun _ _ _ h => h) (Or.inl ⟨by rfl, by rintro w ⟨h0, h1, h2, h3, h4⟩; go_simp⟩) (SX.out _ hb0) ?_
      simp only [List.getElem_toArray, List.getElem_cons_zero, List.getElem_cons_succ, Act.put, List.setIfInBounds_toArray, List.set_cons_zero, List.set_cons_succ]
      refine wpAnyH_ready (rs := [11]) (by kernel_rfl) (by simp) ?_
      refine AllReadyH.cons rfl (fun K hK => ?_) AllReadyH.nil
      go_simp
      (go_at_call 10; (with_reducible refine (C3.out _ hb0).mono ?_))
      rintro e w8 ⟨A8, c8, rfl, ⟨t8, ho8⟩, hb8, hb88⟩
      have s8 := str_own (layS_length _) ho8
      go_wp2_with fail
      refine hK.out _ _ (SX.out _ hb8) (fun _ => ?_)
      clear hK K
      try simp only [List.getElem_toArray, List.getElem_cons_zero, List.getElem_cons_succ, Act.put, List.setIfInBounds_toArray, List.set_cons_zero, List.set_cons_succ]
      refine wpAnyH_strong (S' := fun W => (W.cell? ⟨q, 0, none⟩ = some (.int .u64 yg) ∧ W.cell? ⟨q, 1, none⟩ = some (.int .u8 ya) ∧ W.cell? ⟨q, 2, none⟩ = some (.int .u32 yz) ∧ W.cell? ⟨q, 3, none⟩ = some (.int .u32 yu) ∧ (convert 27 9 (.slice A k c)).run Try.prog W = .ok (.string ⟨(layS ⟨yg, ya, yz, yu⟩).toArray⟩) W) ∧ Below w8.heap.size w8 W) (fun _ h => h.1) ?_
      refine wpAnyH_take (i := 12) (oi := _) (v := .string ⟨(layS ⟨yg, ya, yz, yu⟩).toArray⟩) rfl (by kernel_rfl) (by kernel_rfl) (by kernel_rfl) (fun _ _ _ h => h) (Or.inl ⟨by rfl, by intro w hSw; have hcv := s8 w hSw.2; go_simp⟩) ⟨SX.out _ hb8, Below.refl _ _⟩ ?_
      simp only [List.getElem_toArray, List.getElem_cons_zero, List.getElem_cons_succ, Act.put, List.setIfInBounds_toArray, List.set_cons_zero, List.set_cons_succ]
      refine wpAnyH_take (i := 15) (oi := _) (v := .bool true) rfl (by kernel_rfl) (by kernel_rfl) (by kernel_rfl) (fun _ _ _ h => h) (Or.inl ⟨by rfl, by intro w hSw; go_simp⟩) ⟨SX.out _ hb8, Below.refl _ _⟩ ?_
      simp only [List.getElem_toArray, List.getElem_cons_zero, List.getElem_cons_succ, Act.put, List.setIfInBounds_toArray, List.set_cons_zero, List.set_cons_succ]
      refine wpAnyH_take (i := 16) (oi := _) (v := .bool true) rfl (by kernel_rfl) (by kernel_rfl) (by kernel_rfl) (fun _ _ _ h => h) (Or.inl ⟨by rfl, by intro w hSw; go_simp⟩) ⟨SX.out _ hb8, Below.refl _ _⟩ ?_
      simp only [List.getElem_toArray, List.getElem_cons_zero, List.getElem_cons_succ, Act.put, List.setIfInBounds_toArray, List.set_cons_zero, List.set_cons_succ]
      refine wpAnyH_take (i := 17) (oi := _) (v := .bool true) rfl (by kernel_rfl) (by kernel_rfl) (by kernel_rfl) (fun _ _ _ h => h) (Or.inl ⟨by rfl, by intro w hSw; go_simp⟩) ⟨SX.out _ hb8, Below.refl _ _⟩ ?_
      simp only [List.getElem_toArray, List.getElem_cons_zero, List.getElem_cons_succ, Act.put, List.setIfInBounds_toArray, List.set_cons_zero, List.set_cons_succ]
      refine wpAnyH_take (i := 18) (oi := _) (v := undef) rfl (by kernel_rfl) (by kernel_rfl) (by kernel_rfl) (fun _ _ _ h => h) (Or.inr ⟨by rfl, rfl⟩) ⟨SX.out _ hb8, Below.refl _ _⟩ ?_
      simp only [List.getElem_toArray, List.getElem_cons_zero, List.getElem_cons_succ, Act.put, List.setIfInBounds_toArray, List.set_cons_zero, List.set_cons_succ]
      refine wpAnyH_take (i := 19) (oi := _) (v := undef) rfl (by kernel_rfl) (by kernel_rfl) (by kernel_rfl) (fun _ _ _ h => h) (Or.inr ⟨by rfl, rfl⟩) ⟨SX.out _ hb8, Below.refl _ _⟩ ?_
      simp only [List.getElem_toArray, List.getElem_cons_zero, List.getElem_cons_succ, Act.put, List.setIfInBounds_toArray, List.set_cons_zero, List.set_cons_succ]
      refine wpAnyH_take (i := 20) (oi := _) (v := undef) rfl (by kernel_rfl) (by kernel_rfl) (by kernel_rfl) (fun _ _ _ h => h) (Or.inr ⟨by rfl, rfl⟩) ⟨SX.out _ hb8, Below.refl _ _⟩ ?_
      simp only [List.getElem_toArray, List.getElem_cons_zero, List.getElem_cons_succ, Act.put, List.setIfInBounds_toArray, List.set_cons_zero, List.set_cons_succ]
      refine wpAnyH_take (i := 21) (oi := _) (v := undef) rfl (by kernel_rfl) (by kernel_rfl) (by kernel_rfl) (fun _ _ _ h => h) (Or.inr ⟨by rfl, rfl⟩) ⟨SX.out _ hb8, Below.refl _ _⟩ ?_
      simp only [List.getElem_toArray, List.getElem_cons_zero, List.getElem_cons_succ, Act.put, List.setIfInBounds_toArray, List.set_cons_zero, List.set_cons_succ]
      refine wpAnyH_take (i := 22) (oi := _) (v := undef) rfl (by kernel_rfl) (by kernel_rfl) (by kernel_rfl) (fun _ _ _ h => h) (Or.inr ⟨by rfl, rfl⟩) ⟨SX.out _ hb8, Below.refl _ _⟩ ?_
      simp only [List.getElem_toArray, List.getElem_cons_zero, List.getElem_cons_succ, Act.put, List.setIfInBounds_toArray, List.set_cons_zero, List.set_cons_succ]
      refine wpAnyH_take (i := 23) (oi := _) (v := undef) rfl (by kernel_rfl) (by kernel_rfl) (by kernel_rfl) (fun _ _ _ h => h) (Or.inr ⟨by rfl, rfl⟩) ⟨SX.out _ hb8, Below.refl _ _⟩ ?_
      simp only [List.getElem_toArray, List.getElem_cons_zero, List.getElem_cons_succ, Act.put, List.setIfInBounds_toArray, List.set_cons_zero, List.set_cons_succ]
      refine wpAnyH_take (i := 24) (oi := _) (v := undef) rfl (by kernel_rfl) (by kernel_rfl) (by kernel_rfl) (fun _ _ _ h => h) (Or.inr ⟨by rfl, rfl⟩) ⟨SX.out _ hb8, Below.refl _ _⟩ ?_
      simp only [List.getElem_toArray, List.getElem_cons_zero, List.getElem_cons_succ, Act.put, List.setIfInBounds_toArray, List.set_cons_zero, List.set_cons_succ]
      refine wpAnyH_take (i := 25) (oi := _) (v := .bool true) rfl (by kernel_rfl) (by kernel_rfl) (by kernel_rfl) (fun _ _ _ h => h) (Or.inl ⟨by rfl, by intro w hSw; go_simp⟩) ⟨SX.out _ hb8, Below.refl _ _⟩ ?_
      simp only [List.getElem_toArray, List.getElem_cons_zero, List.getElem_cons_succ, Act.put, List.setIfInBounds_toArray, List.set_cons_zero, List.set_cons_succ]
      refine wpAnyH_take (i := 26) (oi := _) (v := .bool true) rfl (by kernel_rfl) (by kernel_rfl) (by kernel_rfl) (fun _ _ _ h => h) (Or.inl ⟨by rfl, by intro w hSw; go_simp⟩) ⟨SX.out _ hb8, Below.refl _ _⟩ ?_
      simp only [List.getElem_toArray, List.getElem_cons_zero, List.getElem_cons_succ, Act.put, List.setIfInBounds_toArray, List.set_cons_zero, List.set_cons_succ]
      refine wpAnyH_take (i := 27) (oi := _) (v := .bool true) rfl (by kernel_rfl) (by kernel_rfl) (by kernel_rfl) (fun _ _ _ h => h) (Or.inl ⟨by rfl, by intro w hSw; go_simp⟩) ⟨SX.out _ hb8, Below.refl _ _⟩ ?_
      simp only [List.getElem_toArray, List.getElem_cons_zero, List.getElem_cons_succ, Act.put, List.setIfInBounds_toArray, List.set_cons_zero, List.set_cons_succ]
      refine wpAnyH_done (by kernel_rfl) ?_ _
      have HE2 := Lib.hid (HE.out.trans (hb8.mono HE.out.size))
      clear hb0 hb8 hb88 ho8 s8 SX hHeld
      go_wp2_with fail
      go_ret
      exact ⟨rfl, HE2.out⟩
    · have h1' := h1
      injection h1' with e3 e4
      injection e3 with e5 e6 e7 e8
      subst e4 e5 e6 e7 e8
      have k0 := H7.out.1.cell 0
      have k1 := H7.out.1.cell 1
      have k2 := H7.out.1.cell 2
      have k3 := H7.out.1.cell 3
      have EQ := sl_same 0 0 0 0
      have HE := Lib.hid (H1.out.2.trans (H7.out.2.mono H1.out.2.size))
      clear H7 HC HY HL H1 HW HW7 C0 C1 HR HA HB15 h1
      go_quiet (fail)
      have HE2 := Lib.hid (below_drewN HE.out nq)
      clear HE
      go_wp2_with fail
      go_ret
      exact ⟨rfl, HE2.out⟩
end Go.Proofs.Ytmfbidohmkoeeaa
