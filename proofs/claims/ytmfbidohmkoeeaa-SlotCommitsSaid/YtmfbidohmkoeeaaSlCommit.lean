/- The walk of SlotCommits, told from what the package does. No statement of the seat is proved here. -/
import Derived.Test.YtmfbidohmkoeeaaSlTorn
namespace Go.Proofs.Ytmfbidohmkoeeaa
open Go.RowKit
set_option linter.unusedVariables false
set_option linter.unusedSimpArgs false

set_option maxRecDepth 100000 in
set_option maxHeartbeats 4000000 in
theorem commits_walk (K : SlotsOk) (g a z u x0 x1 n : Nat) (hok : (⟨g, a, z, u⟩ : SlT).Ok) (hx0 : x0 < 256) (hx1 : x1 < 256) (hn : n < 256) (w : World) :
    Calls Try.prog 8 #[.agg #[.int .u64 g, .int .u8 a, .int .u32 z, .int .u32 u], .agg #[.int .u8 x0, .int .u8 x1], .int .u8 n] w fun e w' => e = .returned (.bool true) ∧ Below w.heap.size w w' := by
  -- the two arguments' blocks
  obtain ⟨d, hd⟩ : ∃ d, w.heap.size = d := ⟨_, rfl⟩
  obtain ⟨w1, hw1⟩ : ∃ w1, w.alloc (.cells #[.int .u64 g, .int .u8 a, .int .u32 z, .int .u32 u] 25) = w1 := ⟨_, rfl⟩
  obtain ⟨w2, hw2⟩ : ∃ w2, w1.alloc (.cells #[.int .u8 x0, .int .u8 x1] 39) = w2 := ⟨_, rfl⟩
  have hz1 : w1.heap.size = d + 1 := by rw [← hw1, ← hd]; exact Array.size_push ..
  have hb1 : Below w.heap.size w w1 := hw1 ▸ (Below.refl _ _).alloc (Nat.le_refl _) _
  have hb2 : Below w1.heap.size w1 w2 := hw2 ▸ (Below.refl _ _).alloc (Nat.le_refl _) _
  have k1 : Blk w2 d 25 #[.int .u64 g, .int .u8 a, .int .u32 z, .int .u32 u] := (show Blk w1 d 25 #[.int .u64 g, .int .u8 a, .int .u32 z, .int .u32 u] by rw [← hw1, ← hd]; exact Blk.new w _ _).below hb2 (by omega)
  have k2 : Blk w2 (d + 1) 39 #[.int .u8 x0, .int .u8 x1] := by rw [← hw2, ← hz1]; exact Blk.new w1 _ _
  have HW := Lib.hid (And.intro hw1 (And.intro hw2 (And.intro hd hz1)))
  have HB2 := Lib.hid (show Below w.heap.size w w2 from hb1.trans (hb2.mono hb1.size))
  have HL := Lib.hid (show ∀ W, Below w2.heap.size w2 W → W.cell? ⟨d, 0, none⟩ = some (.int .u64 g) ∧ W.cell? ⟨d, 1, none⟩ = some (.int .u8 a) ∧ W.cell? ⟨d, 2, none⟩ = some (.int .u32 z) ∧ W.cell? ⟨d, 3, none⟩ = some (.int .u32 u) from fun W hb => by
    have h := k1.below hb k1.lt
    exact ⟨h.cell 0, h.cell 1, h.cell 2, h.cell 3⟩)
  have HX := Lib.hid (show ∀ W, Below w2.heap.size w2 W → W.cell? ⟨d + 1, 0, none⟩ = some (.int .u8 x0) ∧ W.cell? ⟨d + 1, 1, none⟩ = some (.int .u8 x1) from fun W hb => by
    have h := k2.below hb k2.lt
    exact ⟨h.cell 0, h.cell 1⟩)
  have C0 := Lib.hid (shown_at (w0 := w2) K)
  clear hw1 hw2 hd hz1 hb1 hb2 k1 k2
  by_cases h3 : g < 3
  · have h3i : (g : Int) < 3 := by omega
    clear h3 hok hx0 hx1 hn K
    go_enter Try.func8, Try.ntmps8
    go_upto_region 1 with fail
    rw [HW.out.1, HW.out.2.1, HW.out.2.2.1]
    go_wp2_with fail
    refine (C0.out _ (Below.refl _ _)).mono ?_
    rintro e' w3 ⟨rfl, hb3, _⟩
    obtain ⟨c0, _, _, _⟩ := HL.out w3 hb3
    have HE := Lib.hid (HB2.out.trans (hb3.mono HB2.out.size))
    clear hb3
    go_wp2_with fail
    go_ret
    exact ⟨rfl, HE.out⟩
  obtain ⟨h, rfl⟩ : ∃ h, g = h + 3 := ⟨g - 3, by omega⟩
  have h3i : ¬ ((h + 3 : Nat) : Int) < 3 := by omega
  obtain ⟨o1, o2, o3, o4⟩ := hok
  simp only at o1 o2 o3 o4
  have hoo : (⟨h + 1, x0, u, 0⟩ : SlT).Ok := ⟨by simp only; omega, hx0, o4, by simp⟩
  have hon : (⟨h + 2, x1, 0, z⟩ : SlT).Ok := ⟨by simp only; omega, hx1, by simp, o3⟩
  have hos : (⟨h + 3, a, z, u⟩ : SlT).Ok := ⟨o1, o2, o3, o4⟩
  have C1 := Lib.hid (fun (w0 : World) => K.lay' (w0 := w0) (h + 3) a z u hos)
  have C2 := Lib.hid (fun (w0 : World) => K.lay' (w0 := w0) (h + 1) x0 u 0 hoo)
  have C3 := Lib.hid (fun (w0 : World) => K.lay' (w0 := w0) (h + 2) x1 0 z hon)
  have HCM := Lib.hid (fun k (hk : k ≤ 128) => commits hos hoo hon (by simp only; omega) (by simp only; omega) (by simp only; omega) hk)
  obtain ⟨G, hG⟩ : ∃ G, h + 3 = G := ⟨_, rfl⟩
  obtain ⟨O, hO⟩ : ∃ O, h + 1 = O := ⟨_, rfl⟩
  obtain ⟨M, hM⟩ : ∃ M, h + 2 = M := ⟨_, rfl⟩
  have q1 : IntKind.u64.wrap ((G : Int) - 2) = (O : Int) := by rw [IntKind.wrap_u64]; omega
  have q2 : IntKind.u64.wrap ((G : Int) - 1) = (M : Int) := by rw [IntKind.wrap_u64]; omega
  have HNE := Lib.hid (show G ≠ M by omega)
  have HO1 := Lib.hid (show O ≠ 0 by omega)
  rw [hG] at C1 HCM h3i HL HW
  rw [hO] at C2 HCM
  rw [hM] at C3 HCM
  rw [hG]
  clear hos hoo hon o1 o2 o3 o4 h3 hx0 hx1 hG hO hM
  go_enter Try.func8, Try.ntmps8
  go_upto_region 1 with fail
  rw [HW.out.1, HW.out.2.1, HW.out.2.2.1]
  go_wp2_with fail
  refine (C0.out _ (Below.refl _ _)).mono ?_
  rintro e' w3 ⟨rfl, hb3, _⟩
  obtain ⟨c0, c1, c2, c3⟩ := HL.out w3 hb3
  obtain ⟨y0, _⟩ := HX.out w3 hb3
  have HB3 := Lib.hid hb3
  clear hb3
  go_upto_region 5 with fail
  obtain ⟨p8, hp8⟩ : ∃ p, w3.heap.size = p := ⟨_, rfl⟩
  obtain ⟨w4, hw4⟩ : ∃ v, w3.alloc (.cells #[.int .u64 O, .int .u8 x0, .int .u32 u, .int .u32 0] 25) = v := ⟨_, rfl⟩
  have hb34 : Below w3.heap.size w3 w4 := hw4 ▸ (Below.refl _ _).alloc (Nat.le_refl _) _
  have H4 := Lib.hid (show Blk w4 p8 25 #[.int .u64 O, .int .u8 x0, .int .u32 u, .int .u32 0] ∧ Below w2.heap.size w2 w4 from ⟨by rw [← hw4, ← hp8]; exact Blk.new w3 _ _, HB3.out.trans (hb34.mono HB3.out.size)⟩)
  rw [hw4, hp8]
  clear hb34 hw4 hp8 c0 c1 c2 c3 y0
  obtain ⟨c0, c1, c2, c3⟩ := HL.out w4 H4.out.2
  obtain ⟨_, y1⟩ := HX.out w4 H4.out.2
  go_upto_region 6 with fail
  obtain ⟨p9, hp9⟩ : ∃ p, w4.heap.size = p := ⟨_, rfl⟩
  obtain ⟨w5, hw5⟩ : ∃ v, w4.alloc (.cells #[.int .u64 M, .int .u8 x1, .int .u32 0, .int .u32 z] 25) = v := ⟨_, rfl⟩
  have hb45 : Below w4.heap.size w4 w5 := hw5 ▸ (Below.refl _ _).alloc (Nat.le_refl _) _
  have H5 := Lib.hid (show Blk w5 p8 25 #[.int .u64 O, .int .u8 x0, .int .u32 u, .int .u32 0] ∧ Blk w5 p9 25 #[.int .u64 M, .int .u8 x1, .int .u32 0, .int .u32 z] ∧ Below w2.heap.size w2 w5 from ⟨H4.out.1.below hb45 H4.out.1.lt, by rw [← hw5, ← hp9]; exact Blk.new w4 _ _, H4.out.2.trans (hb45.mono H4.out.2.size)⟩)
  rw [hw5, hp9]
  clear hb45 hw5 hp9 c0 c1 c2 c3 y1 H4 HB3
  have SX := Lib.hid (show ∀ W, Below w5.heap.size w5 W → (W.cell? ⟨d, 0, none⟩ = some (.int .u64 G) ∧ W.cell? ⟨d, 1, none⟩ = some (.int .u8 a) ∧ W.cell? ⟨d, 2, none⟩ = some (.int .u32 z) ∧ W.cell? ⟨d, 3, none⟩ = some (.int .u32 u) ∧ W.cell? ⟨p8, 0, none⟩ = some (.int .u64 O) ∧ W.cell? ⟨p8, 1, none⟩ = some (.int .u8 x0) ∧ W.cell? ⟨p8, 2, none⟩ = some (.int .u32 u) ∧ W.cell? ⟨p8, 3, none⟩ = some (.int .u32 0)) from fun W hb => by
    obtain ⟨c0, c1, c2, c3⟩ := HL.out W (H5.out.2.2.trans (hb.mono H5.out.2.2.size))
    have h8 := H5.out.1.below hb H5.out.1.lt
    exact ⟨c0, c1, c2, c3, h8.cell 0, h8.cell 1, h8.cell 2, h8.cell 3⟩)
  have D1 := Lib.hid (C1.out w5)
  have D2 := Lib.hid (show ∀ W, Below w5.heap.size w5 W → Calls Try.prog 10 #[.agg #[.int .u64 O, .int .u8 x0, .int .u32 u, .int .u32 0]] W fun e w' => ∃ A c, e = .returned (.slice A 128 c) ∧ (∃ t, w'.ownsRow W.heap.size t 1 (.slice A 128 c) 128 (bv (layS ⟨O, x0, u, 0⟩))) ∧ Below w5.heap.size w5 w' ∧ Below W.heap.size W w' from C2.out w5)
  have hb0 : Below w5.heap.size w5 w5.drew := below_drewN (Below.refl w5.heap.size w5) 1
  go_cut [10, 11] from 41 to 44 (fun t10 t11 wx => ∃ A6 c6 A7 c7, t10 = .slice A6 128 c6 ∧ t11 = .slice A7 128 c7 ∧ Hid (128 ≤ c6 ∧ c6 ≤ maxLen ∧ 128 ≤ c7 ∧ c7 ≤ maxLen ∧ Rd wx wx.heap.size A6 (layS ⟨G, a, z, u⟩) ∧ Rd wx wx.heap.size A7 (layS ⟨O, x0, u, 0⟩) ∧ Below w5.heap.size w5 wx))
  case first =>
    first | (go_region_held (fun W => W.cell? ⟨d, 0, none⟩ = some (.int .u64 G) ∧ W.cell? ⟨d, 1, none⟩ = some (.int .u8 a) ∧ W.cell? ⟨d, 2, none⟩ = some (.int .u32 z) ∧ W.cell? ⟨d, 3, none⟩ = some (.int .u32 u) ∧ W.cell? ⟨p8, 0, none⟩ = some (.int .u64 O) ∧ W.cell? ⟨p8, 1, none⟩ = some (.int .u8 x0) ∧ W.cell? ⟨p8, 2, none⟩ = some (.int .u32 u) ∧ W.cell? ⟨p8, 3, none⟩ = some (.int .u32 0)) (exact SX.out _ (by assumption)) (first
      | (go_at_call 10; (with_reducible refine (D1.out _ (by assumption)).mono ?_); rintro e w6 ⟨A6, c6, rfl, ⟨t6, ho6⟩, hb6, _⟩)
      | (go_at_call 10; (with_reducible refine (D2.out _ (by assumption)).mono ?_); rintro e w7 ⟨A7, c7, rfl, ⟨t7, ho7⟩, hb7, hb67⟩))) | fail
    all_goals (have hcap6 := cap_of_row ho6; have hcap7 := cap_of_row ho7; have HZ := Lib.hid (show 128 ≤ c6 ∧ c6 ≤ maxLen ∧ 128 ≤ c7 ∧ c7 ≤ maxLen ∧ Rd w7 w7.heap.size A6 (layS ⟨G, a, z, u⟩) ∧ Rd w7 w7.heap.size A7 (layS ⟨O, x0, u, 0⟩) ∧ Below w5.heap.size w5 w7 from ⟨hcap6.1, hcap6.2, hcap7.1, hcap7.2, ((rd_of_row ho6).below hb67).more hb67.size, rd_of_row ho7, hb7⟩); clear ho6 ho7 hb6 hb7 hb67 hcap6 hcap7 hb0; go_wp2_with fail; go_meet; exact ⟨_, _, _, _, rfl, rfl, HZ⟩)
  case rest =>
    obtain ⟨A6, c6, A7, c7, rfl, rfl, HX6⟩ := hcut
    clear D1 D2 SX hb0 C0
    obtain ⟨k, hk⟩ : ∃ k, n % 129 = k := ⟨_, rfl⟩
    have hki : (n : Int) % 129 = (k : Int) := by omega
    have hk128 : k ≤ 128 := by omega
    obtain ⟨wd, hwd⟩ : ∃ v, wc = v := ⟨_, rfl⟩
    rw [hwd] at HX6 ⊢
    clear hk hwd
    go_upto_region 10 with fail
    rw [hki]
    clear hki q1 q2 h3i
    have hk0 : (0 : Int) ≤ (k : Int) := by omega
    have hk1 : (k : Int) ≤ 128 := by omega
    have hkc6 : (k : Int) ≤ (c6 : Int) := by have := HX6.out.1; omega
    have hkc7 : (k : Int) ≤ (c7 : Int) := by have := HX6.out.2.2.1; omega
    have h128 : (128 : Int) ≤ (c7 : Int) := by have := HX6.out.2.2.1; omega
    obtain ⟨A2, hA2⟩ : ∃ A2, (if c7 = k then A7 else A7.map (·.add k)) = A2 := ⟨_, rfl⟩
    have hOL : oldL ⟨O, x0, u, 0⟩ = layS ⟨O, x0, u, 0⟩ := by unfold oldL; rw [if_neg HO1.out]
    have HRA := Lib.hid (show ∀ W, Below wd.heap.size wd W → Rd W W.heap.size A6 (layS ⟨G, a, z, u⟩) from fun W hb => (HX6.out.2.2.2.2.1.below hb).more hb.size)
    have HRB := Lib.hid (show ∀ W, Below wd.heap.size wd W → Rd W W.heap.size A2 ((oldL ⟨O, x0, u, 0⟩).drop k) from fun W hb => by
      rw [← hA2, hOL]
      exact ((HX6.out.2.2.2.2.2.1.below hb).more hb.size).drop (by rw [layS_length]; exact HX6.out.2.2.1))
    have HLT := Lib.hid (show ((layS ⟨G, a, z, u⟩).take k).length = k by rw [List.length_take, layS_length]; omega)
    have HLN := Lib.hid (show ((layS ⟨G, a, z, u⟩).take k).length ≤ 140737488355328 by rw [HLT.out]; omega)
    have HLD := Lib.hid (show ((oldL ⟨O, x0, u, 0⟩).drop k).length = 128 - k by rw [List.length_drop, oldL_length])
    have HLN2 := Lib.hid (show k + ((oldL ⟨O, x0, u, 0⟩).drop k).length ≤ 140737488355328 by rw [HLD.out]; omega)
    have HKK := Lib.hid (show k + (128 - k) = 128 by omega)
    have HTL := Lib.hid (show (tornL ⟨G, a, z, u⟩ ⟨O, x0, u, 0⟩ k).length = 128 by unfold tornL; rw [List.length_append, HLT.out, HLD.out, HKK.out])
    obtain ⟨i0, hi, hz0, hz1, hz2⟩ := info_parts info_u8X
    have HI := Lib.hid (And.intro hi (And.intro hz0 (And.intro hz1 hz2)))
    have KK := K
    clear K hi hz0 hz1 hz2 hOL
    -- the region
    refine wp_region_held_drew (S := fun _ => True) (by kernel_rfl) trivial (fun hHeld => ?_)
    obtain ⟨v0, hv0⟩ : ∃ v, wd.drew = v := ⟨_, rfl⟩
    have hB : Below wd.heap.size wd v0 := hv0 ▸ below_drewN (Below.refl _ _) 1
    rw [hv0]
    clear hv0 hHeld
    refine wpAnyH_take (i := 1) (oi := _) (v := .slice A6 128 c6) rfl (by kernel_rfl) (by kernel_rfl) (by kernel_rfl) (fun _ _ _ h => h) (Or.inl ⟨by rfl, by intro w hSw; go_simp⟩) trivial ?_
    simp only [List.getElem_toArray, List.getElem_cons_zero, List.getElem_cons_succ, Act.put, List.setIfInBounds_toArray, List.set_cons_zero, List.set_cons_succ]
    refine wpAnyH_take (i := 2) (oi := _) (v := .int .i64 k) rfl (by kernel_rfl) (by kernel_rfl) (by kernel_rfl) (fun _ _ _ h => h) (Or.inl ⟨by rfl, by intro w hSw; go_simp⟩) trivial ?_
    simp only [List.getElem_toArray, List.getElem_cons_zero, List.getElem_cons_succ, Act.put, List.setIfInBounds_toArray, List.set_cons_zero, List.set_cons_succ]
    refine wpAnyH_take (i := 3) (oi := _) (v := .slice A6 k c6) rfl (by kernel_rfl) (by kernel_rfl) (by kernel_rfl) (fun _ _ _ h => h) (Or.inl ⟨by rfl, by intro w hSw; go_simp⟩) trivial ?_
    simp only [List.getElem_toArray, List.getElem_cons_zero, List.getElem_cons_succ, Act.put, List.setIfInBounds_toArray, List.set_cons_zero, List.set_cons_succ]
    refine wpAnyH_take (i := 5) (oi := _) (v := .slice A7 128 c7) rfl (by kernel_rfl) (by kernel_rfl) (by kernel_rfl) (fun _ _ _ h => h) (Or.inl ⟨by rfl, by intro w hSw; go_simp⟩) trivial ?_
    simp only [List.getElem_toArray, List.getElem_cons_zero, List.getElem_cons_succ, Act.put, List.setIfInBounds_toArray, List.set_cons_zero, List.set_cons_succ]
    refine wpAnyH_take (i := 6) (oi := _) (v := .int .i64 k) rfl (by kernel_rfl) (by kernel_rfl) (by kernel_rfl) (fun _ _ _ h => h) (Or.inl ⟨by rfl, by intro w hSw; go_simp⟩) trivial ?_
    simp only [List.getElem_toArray, List.getElem_cons_zero, List.getElem_cons_succ, Act.put, List.setIfInBounds_toArray, List.set_cons_zero, List.set_cons_succ]
    refine wpAnyH_take (i := 7) (oi := _) (v := .slice A2 (128 - k) (c7 - k)) rfl (by kernel_rfl) (by kernel_rfl) (by kernel_rfl) (fun _ _ _ h => h) (Or.inl ⟨by rfl, by intro w hSw; go_simp⟩) trivial ?_
    simp only [List.getElem_toArray, List.getElem_cons_zero, List.getElem_cons_succ, Act.put, List.setIfInBounds_toArray, List.set_cons_zero, List.set_cons_succ]
    refine wpAnyH_ready (rs := [0]) (by kernel_rfl) (by simp) ?_
    refine AllReadyH.cons rfl (fun K hK => ?_) AllReadyH.nil
    go_simp
    refine hK.out _ _ trivial (fun _ => ?_)
    clear hK K
    try simp only [List.getElem_toArray, List.getElem_cons_zero, List.getElem_cons_succ, Act.put, List.setIfInBounds_toArray, List.set_cons_zero, List.set_cons_succ]
    obtain ⟨x, hx⟩ : ∃ x, v0.heap.size = x := ⟨_, rfl⟩
    obtain ⟨v1, hv⟩ : ∃ v, v0.alloc (.cells #[] 5) = v := ⟨_, rfl⟩
    have hbv : Below v0.heap.size v0 v1 := hv ▸ (Below.refl _ _).alloc (Nat.le_refl _) _
    have ho : v1.ownsRow wd.heap.size 5 1 (.slice (some ⟨x, 0, none⟩) 0 0) 0 [] := by rw [← hv, ← hx]; exact World.ownsRow_lit v0 #[] 0 hB.size (by simp [maxLen]) rfl
    rw [hv, hx]
    replace hB := hB.trans (hbv.mono hB.size)
    clear hv hbv hx
    refine wpAnyH_ready (rs := [4]) (by kernel_rfl) (by simp) ?_
    refine AllReadyH.cons rfl (fun K hK => ?_) AllReadyH.nil
    refine step_append_first _ (by rfl) (.tmp 56) (.tmp 59) 27 (by rfl) wd.heap.size 5 i0 Try.underlying27 HI.out.1 HI.out.2.1 HI.out.2.2.1 HI.out.2.2.2 (.slice (some ⟨x, 0, none⟩) 0 0) (by rfl) ho _ A6 c6 k ((layS ⟨G, a, z, u⟩).take k) (by rfl) HLT.out ((HRA.out _ hB).take k) HLN.out hB.size ?_
    intro A8 c8 v2 ho8 hg8
    refine hK.out _ _ trivial (fun _ => ?_)
    clear hK K
    try simp only [List.getElem_toArray, List.getElem_cons_zero, List.getElem_cons_succ, Act.put, List.setIfInBounds_toArray, List.set_cons_zero, List.set_cons_succ]
    replace hB := hB.grown hg8 hB.size (fun g hg => (ho.lt g hg).1)
    clear ho hg8
    refine wpAnyH_ready (rs := [8]) (by kernel_rfl) (by simp) ?_
    refine AllReadyH.cons rfl (fun K hK => ?_) AllReadyH.nil
    refine step_append_more _ (by rfl) (.tmp 60) (.tmp 63) 27 (by rfl) wd.heap.size 5 i0 Try.underlying27 HI.out.1 HI.out.2.1 HI.out.2.2.1 HI.out.2.2.2 (.slice A8 k c8) k (bv ((layS ⟨G, a, z, u⟩).take k)) (by rfl) ho8 _ A2 (c7 - k) (128 - k) ((oldL ⟨O, x0, u, 0⟩).drop k) (by rfl) HLD.out (HRB.out _ hB) HLN2.out hB.size ?_
    rw [HKK.out]
    intro A9 c9 v3 ho9 hg9
    refine hK.out _ _ trivial (fun _ => ?_)
    clear hK K
    try simp only [List.getElem_toArray, List.getElem_cons_zero, List.getElem_cons_succ, Act.put, List.setIfInBounds_toArray, List.set_cons_zero, List.set_cons_succ]
    replace hB := hB.grown hg9 hB.size (fun g hg => (ho8.lt g hg).1)
    clear ho8 hg9
    rw [← bv_append] at ho9
    refine wpAnyH_take (i := 9) (oi := _) (v := .slice A9 128 c9) rfl (by kernel_rfl) (by kernel_rfl) (by kernel_rfl) (fun _ _ _ h => h) (Or.inl ⟨by rfl, by intro w hSw; go_simp⟩) trivial ?_
    simp only [List.getElem_toArray, List.getElem_cons_zero, List.getElem_cons_succ, Act.put, List.setIfInBounds_toArray, List.set_cons_zero, List.set_cons_succ]
    refine wpAnyH_done (by kernel_rfl) ?_ _
    have hcap := cap_of_row ho9
    have HT := Lib.hid (show 128 ≤ c9 ∧ c9 ≤ maxLen ∧ Rd v3 v3.heap.size A9 (tornL ⟨G, a, z, u⟩ ⟨O, x0, u, 0⟩ k) ∧ Below w5.heap.size w5 v3 from ⟨hcap.1, hcap.2, rd_of_row ho9, HX6.out.2.2.2.2.2.2.trans (hB.mono HX6.out.2.2.2.2.2.2.size)⟩)
    clear ho9 hB hcap HX6 HRA HRB HLT HLN HLD HLN2 HKK hk0 hk1 hkc6 hkc7 h128 hA2 HI
    have hL9 : ∀ W, Below v3.heap.size v3 W → W.cell? ⟨p9, 0, none⟩ = some (.int .u64 M) ∧ W.cell? ⟨p9, 1, none⟩ = some (.int .u8 x1) ∧ W.cell? ⟨p9, 2, none⟩ = some (.int .u32 0) ∧ W.cell? ⟨p9, 3, none⟩ = some (.int .u32 z) := fun W hb => by
      have h9 := (H5.out.2.1.below HT.out.2.2.2 H5.out.2.1.lt)
      have h9 := h9.below hb h9.lt
      exact ⟨h9.cell 0, h9.cell 1, h9.cell 2, h9.cell 3⟩
    have H9 := Lib.hid hL9
    have D3 := Lib.hid (show ∀ W, Below v3.heap.size v3 W → Calls Try.prog 10 #[.agg #[.int .u64 M, .int .u8 x1, .int .u32 0, .int .u32 z]] W fun e w' => ∃ A c, e = .returned (.slice A 128 c) ∧ (∃ t, w'.ownsRow W.heap.size t 1 (.slice A 128 c) 128 (bv (layS ⟨M, x1, 0, z⟩))) ∧ Below v3.heap.size v3 w' ∧ Below W.heap.size W w' from C3.out v3)
    have HSL := Lib.hid (show ∀ W, Below v3.heap.size v3 W → W.cell? ⟨d, 0, none⟩ = some (.int .u64 G) ∧ W.cell? ⟨d, 1, none⟩ = some (.int .u8 a) ∧ W.cell? ⟨d, 2, none⟩ = some (.int .u32 z) ∧ W.cell? ⟨d, 3, none⟩ = some (.int .u32 u) from fun W hb => HL.out W ((H5.out.2.2.trans (HT.out.2.2.2.mono H5.out.2.2.size)).trans (hb.mono (Nat.le_trans H5.out.2.2.size HT.out.2.2.2.size))))
    have HE := Lib.hid (show Below w.heap.size w v3 from (HB2.out.trans (H5.out.2.2.mono HB2.out.size)).trans (HT.out.2.2.2.mono (Nat.le_trans HB2.out.size H5.out.2.2.size)))
    have EG : Try.prog.eqGuardType Try.prog.depth 25 = false := sl_guard
    clear hL9 HL HB2 H5 C1 C2 C3 HX HW
    have HCC := HCM.out k hk128
    clear HCM
    rcases HCC with ⟨h1, h2, hk2⟩ | ⟨h1, h2⟩
    · obtain ⟨k0, k1, k2, k3⟩ := H9.out v3 (Below.refl _ _)
      go_wp2_with fail
      refine (D3.out _ (Below.refl _ _)).mono ?_
      rintro e v4 ⟨A10, c10, rfl, ⟨t10, ho10⟩, hb4, _⟩
      have hcap := cap_of_row ho10
      have N1 := Lib.hid (KK.newer' (w0 := v4) A9 128 c9 (tornL ⟨G, a, z, u⟩ ⟨O, x0, u, 0⟩ k) A10 128 c10 (layS ⟨M, x1, 0, z⟩) HTL.out HT.out.1 ⟨HT.out.2.1, by omega⟩ ((HT.out.2.2.1.below hb4).more hb4.size) (layS_length _) hcap.1 ⟨hcap.2, by omega⟩ (rd_of_row ho10) M x1 0 z 1 0 h1)
      clear ho10 hcap k0 k1 k2 k3
      go_wp2_with fail
      refine (N1.out _ (Below.refl _ _)).mono ?_
      rintro e v5 ⟨rfl, hb5, _⟩
      obtain ⟨p14, hp⟩ : ∃ p, v5.heap.size = p := ⟨_, rfl⟩
      obtain ⟨v6, hv⟩ : ∃ v, v5.alloc (.cells #[.int .u64 M, .int .u8 x1, .int .u32 0, .int .u32 z] 25) = v := ⟨_, rfl⟩
      have hb56 : Below v5.heap.size v5 v6 := hv ▸ (Below.refl _ _).alloc (Nat.le_refl _) _
      have H6 := Lib.hid (show Blk v6 p14 25 #[.int .u64 M, .int .u8 x1, .int .u32 0, .int .u32 z] ∧ Below v3.heap.size v3 v6 from ⟨by rw [← hv, ← hp]; exact Blk.new v5 _ _, (hb4.trans (hb5.mono hb4.size)).trans (hb56.mono (Nat.le_trans hb4.size hb5.size))⟩)
      have HV := Lib.hid (And.intro hv hp)
      clear hb4 hb5 hb56 hv hp N1
      go_upto_region 12 with fail
      rw [HV.out.1, HV.out.2]
      obtain ⟨k0, k1, k2, k3⟩ := H9.out v6 H6.out.2
      go_wp2_with fail
      refine (D3.out _ H6.out.2).mono ?_
      rintro e v7 ⟨A11, c11, rfl, ⟨t11, ho11⟩, hb7, hb67⟩
      have hcap := cap_of_row ho11
      have N2 := Lib.hid (KK.newer' (w0 := v7) A11 128 c11 (layS ⟨M, x1, 0, z⟩) A9 128 c9 (tornL ⟨G, a, z, u⟩ ⟨O, x0, u, 0⟩ k) (layS_length _) hcap.1 ⟨hcap.2, by omega⟩ (rd_of_row ho11) HTL.out HT.out.1 ⟨HT.out.2.1, by omega⟩ ((HT.out.2.2.1.below hb7).more hb7.size) M x1 0 z 0 0 h2)
      clear ho11 hcap k0 k1 k2 k3
      go_wp2_with fail
      refine (N2.out _ (Below.refl _ _)).mono ?_
      rintro e v8 ⟨rfl, hb8, _⟩
      obtain ⟨p17, hp⟩ : ∃ p, v8.heap.size = p := ⟨_, rfl⟩
      obtain ⟨v9, hv⟩ : ∃ v, v8.alloc (.cells #[.int .u64 M, .int .u8 x1, .int .u32 0, .int .u32 z] 25) = v := ⟨_, rfl⟩
      have hb89 : Below v8.heap.size v8 v9 := hv ▸ (Below.refl _ _).alloc (Nat.le_refl _) _
      have H89 := Lib.hid (show Blk v9 p17 25 #[.int .u64 M, .int .u8 x1, .int .u32 0, .int .u32 z] ∧ Blk v9 p14 25 #[.int .u64 M, .int .u8 x1, .int .u32 0, .int .u32 z] ∧ Below v3.heap.size v3 v9 from by
        have e1 := H6.out.1.below hb67 H6.out.1.lt
        have e2 := e1.below hb8 e1.lt
        exact ⟨by rw [← hv, ← hp]; exact Blk.new v8 _ _, e2.below hb89 e2.lt, (hb7.trans (hb8.mono hb7.size)).trans (hb89.mono (Nat.le_trans hb7.size hb8.size))⟩)
      have HV2 := Lib.hid (And.intro hv hp)
      clear hb7 hb67 hb8 hb89 hv hp N2 H6 HV
      go_upto_region 13 with fail
      rw [HV2.out.1, HV2.out.2]
      have a0 := H89.out.1.cell 0
      have a1 := H89.out.1.cell 1
      have a2 := H89.out.1.cell 2
      have a3 := H89.out.1.cell 3
      have b0 := H89.out.2.1.cell 0
      have b1 := H89.out.2.1.cell 1
      have b2 := H89.out.2.1.cell 2
      have b3 := H89.out.2.1.cell 3
      obtain ⟨k0, k1, k2, k3⟩ := H9.out v9 H89.out.2.2
      obtain ⟨s0, s1, s2, s3⟩ := HSL.out v9 H89.out.2.2
      have HEE := Lib.hid (HE.out.trans (H89.out.2.2.mono HE.out.size))
      have q4 : (k : Int) < 128 := by omega
      have EQ : ∀ w : World, (Op.equalIn 10000 25 (.agg #[.int .u64 M, .int .u8 x1, .int .u32 0, .int .u32 z]) (.agg #[.int .u64 M, .int .u8 x1, .int .u32 0, .int .u32 z])).run Try.prog w = .ok true w := sl_same M x1 0 z
      clear H89 HV2 D3 HT KK HTL H9 HSL HE h1 h2
      go_wp2_with fail
      go_ret
      exact ⟨rfl, HEE.out⟩
    · obtain ⟨k0, k1, k2, k3⟩ := H9.out v3 (Below.refl _ _)
      go_wp2_with fail
      refine (D3.out _ (Below.refl _ _)).mono ?_
      rintro e v4 ⟨A10, c10, rfl, ⟨t10, ho10⟩, hb4, _⟩
      have hcap := cap_of_row ho10
      have N1 := Lib.hid (KK.newer' (w0 := v4) A9 128 c9 (tornL ⟨G, a, z, u⟩ ⟨O, x0, u, 0⟩ k) A10 128 c10 (layS ⟨M, x1, 0, z⟩) HTL.out HT.out.1 ⟨HT.out.2.1, by omega⟩ ((HT.out.2.2.1.below hb4).more hb4.size) (layS_length _) hcap.1 ⟨hcap.2, by omega⟩ (rd_of_row ho10) G a z u 0 0 h1)
      clear ho10 hcap k0 k1 k2 k3
      go_wp2_with fail
      refine (N1.out _ (Below.refl _ _)).mono ?_
      rintro e v5 ⟨rfl, hb5, _⟩
      obtain ⟨p14, hp⟩ : ∃ p, v5.heap.size = p := ⟨_, rfl⟩
      obtain ⟨v6, hv⟩ : ∃ v, v5.alloc (.cells #[.int .u64 G, .int .u8 a, .int .u32 z, .int .u32 u] 25) = v := ⟨_, rfl⟩
      have hb56 : Below v5.heap.size v5 v6 := hv ▸ (Below.refl _ _).alloc (Nat.le_refl _) _
      have H6 := Lib.hid (show Blk v6 p14 25 #[.int .u64 G, .int .u8 a, .int .u32 z, .int .u32 u] ∧ Below v3.heap.size v3 v6 from ⟨by rw [← hv, ← hp]; exact Blk.new v5 _ _, (hb4.trans (hb5.mono hb4.size)).trans (hb56.mono (Nat.le_trans hb4.size hb5.size))⟩)
      have HV := Lib.hid (And.intro hv hp)
      clear hb4 hb5 hb56 hv hp N1
      go_upto_region 12 with fail
      rw [HV.out.1, HV.out.2]
      obtain ⟨k0, k1, k2, k3⟩ := H9.out v6 H6.out.2
      go_wp2_with fail
      refine (D3.out _ H6.out.2).mono ?_
      rintro e v7 ⟨A11, c11, rfl, ⟨t11, ho11⟩, hb7, hb67⟩
      have hcap := cap_of_row ho11
      have N2 := Lib.hid (KK.newer' (w0 := v7) A11 128 c11 (layS ⟨M, x1, 0, z⟩) A9 128 c9 (tornL ⟨G, a, z, u⟩ ⟨O, x0, u, 0⟩ k) (layS_length _) hcap.1 ⟨hcap.2, by omega⟩ (rd_of_row ho11) HTL.out HT.out.1 ⟨HT.out.2.1, by omega⟩ ((HT.out.2.2.1.below hb7).more hb7.size) G a z u 1 0 h2)
      clear ho11 hcap k0 k1 k2 k3
      go_wp2_with fail
      refine (N2.out _ (Below.refl _ _)).mono ?_
      rintro e v8 ⟨rfl, hb8, _⟩
      obtain ⟨p17, hp⟩ : ∃ p, v8.heap.size = p := ⟨_, rfl⟩
      obtain ⟨v9, hv⟩ : ∃ v, v8.alloc (.cells #[.int .u64 G, .int .u8 a, .int .u32 z, .int .u32 u] 25) = v := ⟨_, rfl⟩
      have hb89 : Below v8.heap.size v8 v9 := hv ▸ (Below.refl _ _).alloc (Nat.le_refl _) _
      have H89 := Lib.hid (show Blk v9 p17 25 #[.int .u64 G, .int .u8 a, .int .u32 z, .int .u32 u] ∧ Blk v9 p14 25 #[.int .u64 G, .int .u8 a, .int .u32 z, .int .u32 u] ∧ Below v3.heap.size v3 v9 from by
        have e1 := H6.out.1.below hb67 H6.out.1.lt
        have e2 := e1.below hb8 e1.lt
        exact ⟨by rw [← hv, ← hp]; exact Blk.new v8 _ _, e2.below hb89 e2.lt, (hb7.trans (hb8.mono hb7.size)).trans (hb89.mono (Nat.le_trans hb7.size hb8.size))⟩)
      have HV2 := Lib.hid (And.intro hv hp)
      clear hb7 hb67 hb8 hb89 hv hp N2 H6 HV
      go_upto_region 13 with fail
      rw [HV2.out.1, HV2.out.2]
      have a0 := H89.out.1.cell 0
      have a1 := H89.out.1.cell 1
      have a2 := H89.out.1.cell 2
      have a3 := H89.out.1.cell 3
      have b0 := H89.out.2.1.cell 0
      have b1 := H89.out.2.1.cell 1
      have b2 := H89.out.2.1.cell 2
      have b3 := H89.out.2.1.cell 3
      obtain ⟨k0, k1, k2, k3⟩ := H9.out v9 H89.out.2.2
      obtain ⟨s0, s1, s2, s3⟩ := HSL.out v9 H89.out.2.2
      have HEE := Lib.hid (HE.out.trans (H89.out.2.2.mono HE.out.size))
      have EQ := sl_same G a z u
      have EN : ∀ w : World, (Op.equalIn 10000 25 (.agg #[.int .u64 G, .int .u8 a, .int .u32 z, .int .u32 u]) (.agg #[.int .u64 M, .int .u8 x1, .int .u32 0, .int .u32 z])).run Try.prog w = .ok false w := fun w => by
        have h := sl_eq_in ⟨G, a, z, u⟩ ⟨M, x1, 0, z⟩ w
        rw [decide_eq_false (fun e => by injection e with e _ _ _; exact HNE.out e)] at h
        exact h
      clear H89 HV2 D3 HT KK HTL H9 HSL HE h1 h2
      go_wp2_with fail
      go_ret
      exact ⟨rfl, HEE.out⟩
end Go.Proofs.Ytmfbidohmkoeeaa
