/- What the landed package slot does: Take. No statement of the seat is proved here. -/
import Derived.Test.YtmfbidohmkoeeaaSlLandB
import Derived.Test.YtmfbidohmkoeeaaRowLaws
import Derived.Test.YtmfbidohmkoeeaaStRegion
import Derived.Deep.MidRow
namespace Go.Proofs.Ytmfbidohmkoeeaa
open Go.RowKit
set_option linter.unusedVariables false
set_option linter.unusedSimpArgs false

theorem fin4 {w W : World} {d : Nat} {v0 v1 v2 v3 : Value} (hB : Blk W d 25 #[v0, v1, v2, v3]) (hb : Below w.heap.size w W) (hd : w.heap.size = d) (s : SlT) :
    Blk ((((W.setCell ⟨d, 0, none⟩ (.int .u64 s.g)).setCell ⟨d, 1, none⟩ (.int .u8 s.a)).setCell ⟨d, 2, none⟩ (.int .u32 s.z)).setCell ⟨d, 3, none⟩ (.int .u32 s.u)) d 25 (slcs s).toArray ∧
    Below w.heap.size w ((((W.setCell ⟨d, 0, none⟩ (.int .u64 s.g)).setCell ⟨d, 1, none⟩ (.int .u8 s.a)).setCell ⟨d, 2, none⟩ (.int .u32 s.z)).setCell ⟨d, 3, none⟩ (.int .u32 s.u)) :=
  ⟨set4 hB, hb.grown (gby4 W _ _ _ _ _) hb.size fun k hk => by injection hk with hk; omega⟩
theorem sec_eq (a b : List UInt8) (ha : a.length = 128) (hb : b.length = 128) (w : World) : (Op.equal 42 (.agg (bv a).toArray) (.agg (bv b).toArray)).run Try.prog w = .ok (decide (a = b)) w := by
  obtain ⟨i, hi, _⟩ := info_parts info_u8
  exact run_equal_bytes (P := Try.prog) Try.underlying42 Try.underlying5 hi (by kernel_rfl) a b ha hb w
theorem arr_at (A : Option Addr) (c : Nat) (w : World) : (Instr.arrayAt 42 (.slice A 128 c)).run Try.prog w = .ok (.pointer A) w := by
  unfold Instr.arrayAt
  simp [run_underlying Try.underlying42]
theorem sec_guard : Try.prog.eqGuardType Try.prog.depth 42 = false := by kernel_rfl
set_option maxHeartbeats 1000000 in
theorem take_short (A : Option Addr) (k c : Nat) (b : List UInt8) (hl : b.length = k) (h128 : k ≠ 128) (hk : k ≤ 140737488351232) (w : World) :
    Calls Try.prog 12 #[.slice A k c] w fun e w' => e = .returned (.tuple #[(takeS b).1.v, .int .i64 (takeS b).2]) ∧ Below w.heap.size w w' := by
  have e : takeS b = (slZ, 100) := takeS_len (by omega)
  rw [e]
  obtain ⟨d, hd⟩ : ∃ d, w.heap.size = d := ⟨_, rfl⟩
  obtain ⟨w1, hw1⟩ : ∃ w1, w.alloc (.cells #[.int .u64 0, .int .u8 0, .int .u32 0, .int .u32 0] 25) = w1 := ⟨_, rfl⟩
  have hb1 : Below w.heap.size w w1 := hw1 ▸ (Below.refl _ _).alloc (Nat.le_refl _) _
  have hB : Blk w1 d 25 #[.int .u64 0, .int .u8 0, .int .u32 0, .int .u32 0] := by rw [← hw1, ← hd]; exact Blk.new w _ _
  have HF := Lib.hid (fin4 hB hb1 hd slZ)
  have HW := Lib.hid (And.intro hw1 hd)
  have hc0 := hB.cell 0
  have hc1 := hB.cell 1
  have hc2 := hB.cell 2
  have hc3 := hB.cell 3
  have hf0 := hB.frozen 0
  have hf1 := hB.frozen 1
  have hf2 := hB.frozen 2
  have hf3 := hB.frozen 3
  have hk1 : ¬ (k : Int) = 128 := by omega
  clear hl e hw1 hd hb1 hB
  go_enter Try.func12, Try.ntmps12
  go_upto_region 1 with fail
  rw [HW.out.1, HW.out.2]
  go_wp2_with fail
  obtain ⟨fs, hfs⟩ := slot_desc
  (try simp only [Exit.inBlock, Exit.then])
  refine bodyPost_ret (v := .tuple #[slZ.v, .int .i64 100]) ?_ rfl ⟨rfl, HF.out.2⟩
  exact results_slot_tmp rfl _ _ d 25 _ (0, 0) _ rfl HF.out.1 hfs rfl slot_size4 _ rfl
set_option maxRecDepth 100000 in
set_option maxHeartbeats 4000000 in
theorem take_long (A : Option Addr) (c : Nat) (b : List UInt8) (hl : b.length = 128) (hk : 128 ≤ c) (hc : c ≤ maxLen) (w : World) (hr : Rd w w.heap.size A b) :
    Calls Try.prog 12 #[.slice A 128 c] w fun e w' => e = .returned (.tuple #[(takeS b).1.v, .int .i64 (takeS b).2]) ∧ Below w.heap.size w w' := by
  obtain ⟨R, hR⟩ : ∃ R, takeS b = R := ⟨_, rfl⟩
  obtain ⟨H, hH⟩ : ∃ H, headS b = H := ⟨_, rfl⟩
  have hok : H.Ok := hH ▸ headS_ok b
  have hRe : R = if H.g ≠ 0 ∧ layS H = b then (H, 0) else (slZ, 100) := by rw [← hR, ← hH]; rfl
  rw [hR]
  obtain ⟨d, hd⟩ : ∃ d, w.heap.size = d := ⟨_, rfl⟩
  obtain ⟨w1, hw1⟩ : ∃ w1, w.alloc (.cells #[.int .u64 0, .int .u8 0, .int .u32 0, .int .u32 0] 25) = w1 := ⟨_, rfl⟩
  have hb1 : Below w.heap.size w w1 := hw1 ▸ (Below.refl _ _).alloc (Nat.le_refl _) _
  have hB : Blk w1 d 25 #[.int .u64 0, .int .u8 0, .int .u32 0, .int .u32 0] := by rw [← hw1, ← hd]; exact Blk.new w _ _
  have hc1 := first_any A c b hl w1 ((hr.below hb1).more hb1.size)
  rw [hH] at hc1
  obtain ⟨gb, off, rfl, hgb, hcb⟩ := hr (by omega)
  have HRA := Lib.hid (show ∀ W, Below w.heap.size w W → W.rangeAt gb off (bv b) from fun W hb j v hv => by
    have hj : j < b.length := by have := (List.getElem?_eq_some_iff.1 hv).1; rwa [bv_length] at this
    rw [hb.cell (p := ⟨gb, off + j, none⟩) hgb, hcb j hj, ← hv, bv_get hj])
  obtain ⟨g, a, z, u⟩ := H
  have HC := Lib.hid (show Calls Try.prog 18 #[.slice (some ⟨gb, off, none⟩) 128 c] w1 fun e w' => e = .returned (.agg #[.int .u64 g, .int .u8 a, .int .u32 z, .int .u32 u]) ∧ Below w1.heap.size w1 w' from hc1)
  have HI := Lib.hid (fun W => (show Calls Try.prog 16 #[.agg #[.int .u64 g, .int .u8 a, .int .u32 z, .int .u32 u]] W fun e w' => e = .returned (.agg (bv (layS ⟨g, a, z, u⟩)).toArray) ∧ Below W.heap.size W w' from insec_any ⟨g, a, z, u⟩ hok W))
  have HQ := Lib.hid (show ∀ W, (Op.equal 42 (.agg (bv (layS ⟨g, a, z, u⟩)).toArray) (.agg (bv b).toArray)).run Try.prog W = .ok (decide (layS ⟨g, a, z, u⟩ = b)) W from fun W => sec_eq _ _ (layS_length _) hl W)
  have hSB : (Try.prog.info? 42).map (·.size) = some (bv b).length := by rw [bv_length, hl]; exact sec_size
  obtain ⟨sn, se, hsd⟩ := sec_desc
  obtain ⟨L, hL⟩ : ∃ L, (bv (layS ⟨g, a, z, u⟩)).toArray = L := ⟨_, rfl⟩
  obtain ⟨M, hM⟩ : ∃ M, bv b = M := ⟨_, rfl⟩
  rw [hL, hM] at HQ
  rw [hL] at HI
  rw [hM] at HRA hSB
  have HE := Lib.hid hRe
  have HB := Lib.hid (And.intro hB hb1)
  have HW := Lib.hid (And.intro hw1 hd)
  have HSB := Lib.hid (And.intro hSB hsd)
  have hgn : (0 : Int) ≤ g := by omega
  clear hR hH hok hRe hw1 hd hb1 hB hc1 hgb hcb hr hl hsd hL hM hSB
  go_enter Try.func12, Try.ntmps12
  go_upto_region 1 with fail
  rw [HW.out.1, HW.out.2]
  go_wp2_with fail
  refine HC.out.mono ?_
  rintro e w2 ⟨rfl, hb2⟩
  obtain ⟨p, hp⟩ : ∃ p, w2.heap.size = p := ⟨_, rfl⟩
  obtain ⟨w3, hw3⟩ : ∃ w3, w2.alloc (.cells #[.int .u64 g, .int .u8 a, .int .u32 z, .int .u32 u] 25) = w3 := ⟨_, rfl⟩
  have hb3 : Below w2.heap.size w2 w3 := hw3 ▸ (Below.refl _ _).alloc (Nat.le_refl _) _
  have hP : Blk w3 p 25 #[.int .u64 g, .int .u8 a, .int .u32 z, .int .u32 u] := by rw [← hw3, ← hp]; exact Blk.new w2 _ _
  have hb13 : Below w1.heap.size w1 w3 := hb2.trans (hb3.mono hb2.size)
  have H3 := Lib.hid (show Blk w3 d 25 #[.int .u64 0, .int .u8 0, .int .u32 0, .int .u32 0] ∧ Below w.heap.size w w3 from ⟨HB.out.1.below hb13 HB.out.1.lt, HB.out.2.trans (hb13.mono HB.out.2.size)⟩)
  have HP := Lib.hid hP
  have HW3 := Lib.hid (And.intro hw3 hp)
  clear hb2 hw3 hb3 hP hb13 hp HC
  go_upto_region 4 with fail
  rw [HW3.out.1, HW3.out.2]
  by_cases hg : g = 0
  · subst hg
    obtain rfl : R = (slZ, 100) := by rw [HE.out, if_neg]; rintro ⟨h, _⟩; exact h rfl
    have hc0 : w3.cell? ⟨p, 0, none⟩ = some (.int .u64 0) := HP.out.cell 0
    go_quiet (fail)
    have hB3 : Blk (w3.drewN nq) d 25 #[.int .u64 0, .int .u8 0, .int .u32 0, .int .u32 0] := H3.out.1
    obtain ⟨W, hW⟩ : ∃ W, w3.drewN nq = W := ⟨_, rfl⟩
    have hbW : Below w.heap.size w W := by rw [← hW]; exact below_drewN H3.out.2 nq
    rw [hW] at hB3 ⊢
    have HF := Lib.hid (fin4 hB3 hbW HW.out.2 slZ)
    have k0 := hB3.cell 0
    have k1 := hB3.cell 1
    have k2 := hB3.cell 2
    have k3 := hB3.cell 3
    have f0 := hB3.frozen 0
    have f1 := hB3.frozen 1
    have f2 := hB3.frozen 2
    have f3 := hB3.frozen 3
    clear hB3 hbW hc0 hW
    go_wp2_with fail
    obtain ⟨fs, hfs⟩ := slot_desc
    (try simp only [Exit.inBlock, Exit.then])
    refine bodyPost_ret (v := .tuple #[slZ.v, .int .i64 100]) ?_ rfl ⟨rfl, HF.out.2⟩
    exact results_slot_tmp rfl _ _ d 25 _ (0, 0) _ rfl HF.out.1 hfs rfl slot_size4 _ rfl
  · have hz : ((g : Int) == 0) = false := by simp; omega
    have hg0 : ¬ (g : Int) = 0 := by omega
    have HG := Lib.hid hg
    clear hg
    have SX := Lib.hid (show ∀ W, Below w3.heap.size w3 W → (W.cell? ⟨p, 0, none⟩ = some (.int .u64 g) ∧ W.cell? ⟨p, 1, none⟩ = some (.int .u8 a) ∧ W.cell? ⟨p, 2, none⟩ = some (.int .u32 z) ∧ W.cell? ⟨p, 3, none⟩ = some (.int .u32 u) ∧ W.rangeAt gb off M) from fun W hb => by
      have hP := HP.out.below hb HP.out.lt
      exact ⟨hP.cell 0, hP.cell 1, hP.cell 2, hP.cell 3, HRA.out W (H3.out.2.trans (hb.mono H3.out.2.size))⟩)
    have hb0 : Below w3.heap.size w3 w3.drew := below_drewN (Below.refl w3.heap.size w3) 1
    refine wp_region_held_drew (S := fun W => W.cell? ⟨p, 0, none⟩ = some (.int .u64 g) ∧ W.cell? ⟨p, 1, none⟩ = some (.int .u8 a) ∧ W.cell? ⟨p, 2, none⟩ = some (.int .u32 z) ∧ W.cell? ⟨p, 3, none⟩ = some (.int .u32 u) ∧ W.rangeAt gb off M) (by kernel_rfl) (SX.out _ hb0) (fun hHeld => ?_)
    refine wpAnyH_take (i := 0) (oi := _) (v := .pointer (some ⟨p, 0, none⟩)) rfl (by kernel_rfl) (by kernel_rfl) (by kernel_rfl) (fun _ _ _ h => h) (Or.inl ⟨by rfl, by intro w hSw; go_simp⟩) (SX.out _ hb0) ?_
    simp only [List.getElem_toArray, List.getElem_cons_zero, List.getElem_cons_succ, Act.put, List.setIfInBounds_toArray, List.set_cons_zero, List.set_cons_succ]
    refine wpAnyH_take (i := 1) (oi := _) (v := .int .u64 g) rfl (by kernel_rfl) (by kernel_rfl) (by kernel_rfl) (fun _ _ _ h => h) (Or.inl ⟨by rfl, by rintro w ⟨h0, h1, h2, h3, h4⟩; go_simp⟩) (SX.out _ hb0) ?_
    simp only [List.getElem_toArray, List.getElem_cons_zero, List.getElem_cons_succ, Act.put, List.setIfInBounds_toArray, List.set_cons_zero, List.set_cons_succ]
    refine wpAnyH_take (i := 2) (oi := _) (v := .bool false) rfl (by kernel_rfl) (by kernel_rfl) (by kernel_rfl) (fun _ _ _ h => h) (Or.inl ⟨by rfl, by intro w hSw; go_simp⟩) (SX.out _ hb0) ?_
    simp only [List.getElem_toArray, List.getElem_cons_zero, List.getElem_cons_succ, Act.put, List.setIfInBounds_toArray, List.set_cons_zero, List.set_cons_succ]
    refine wpAnyH_take (i := 3) (oi := _) (v := .bool false) rfl (by kernel_rfl) (by kernel_rfl) (by kernel_rfl) (fun _ _ _ h => h) (Or.inl ⟨by rfl, by intro w hSw; go_simp⟩) (SX.out _ hb0) ?_
    simp only [List.getElem_toArray, List.getElem_cons_zero, List.getElem_cons_succ, Act.put, List.setIfInBounds_toArray, List.set_cons_zero, List.set_cons_succ]
    refine wpAnyH_take (i := 4) (oi := _) (v := .agg #[.int .u64 g, .int .u8 a, .int .u32 z, .int .u32 u]) rfl (by kernel_rfl) (by kernel_rfl) (by kernel_rfl) (fun _ _ _ h => h) (Or.inl ⟨by rfl, by rintro w ⟨h0, h1, h2, h3, h4⟩; go_simp⟩) (SX.out _ hb0) ?_
    simp only [List.getElem_toArray, List.getElem_cons_zero, List.getElem_cons_succ, Act.put, List.setIfInBounds_toArray, List.set_cons_zero, List.set_cons_succ]
    refine wpAnyH_take (i := 6) (oi := _) (v := .slice (some ⟨gb, off, none⟩) 128 c) rfl (by kernel_rfl) (by kernel_rfl) (by kernel_rfl) (fun _ _ _ h => h) (Or.inl ⟨by rfl, by intro w hSw; go_simp⟩) (SX.out _ hb0) ?_
    simp only [List.getElem_toArray, List.getElem_cons_zero, List.getElem_cons_succ, Act.put, List.setIfInBounds_toArray, List.set_cons_zero, List.set_cons_succ]
    refine wpAnyH_take (i := 7) (oi := _) (v := .pointer (some ⟨gb, off, none⟩)) rfl (by kernel_rfl) (by kernel_rfl) (by kernel_rfl) (fun _ _ _ h => h) (Or.inl ⟨by rfl, by intro w hSw; have ha := arr_at (some ⟨gb, off, none⟩) c w; go_simp⟩) (SX.out _ hb0) ?_
    simp only [List.getElem_toArray, List.getElem_cons_zero, List.getElem_cons_succ, Act.put, List.setIfInBounds_toArray, List.set_cons_zero, List.set_cons_succ]
    refine wpAnyH_take (i := 8) (oi := _) (v := .agg M.toArray) rfl (by kernel_rfl) (by kernel_rfl) (by kernel_rfl) (fun _ _ _ h => h) (yieldsIf_load_mid (by rfl) 42 (.tmp 18) rfl gb off rfl M (.array sn se) (fun w h => h.2.2.2.2) HSB.out.2 rfl HSB.out.1) (SX.out _ hb0) ?_
    simp only [List.getElem_toArray, List.getElem_cons_zero, List.getElem_cons_succ, Act.put, List.setIfInBounds_toArray, List.set_cons_zero, List.set_cons_succ]
    refine wpAnyH_ready (rs := [5]) (by kernel_rfl) (by simp) ?_
    refine AllReadyH.cons rfl (fun K hK => ?_) AllReadyH.nil
    go_simp
    (go_at_call 16; (with_reducible refine (HI.out _).mono ?_))
    rintro e w4 ⟨rfl, hb4⟩
    replace hb4 : Below w3.heap.size w3 w4 := hb0.trans (hb4.mono hb0.size)
    go_wp2_with fail
    refine hK.out _ _ (SX.out _ hb4) (fun _ => ?_)
    clear hK K
    try simp only [List.getElem_toArray, List.getElem_cons_zero, List.getElem_cons_succ, Act.put, List.setIfInBounds_toArray, List.set_cons_zero, List.set_cons_succ]
    have HB4 := Lib.hid (show Blk w4 d 25 #[.int .u64 0, .int .u8 0, .int .u32 0, .int .u32 0] ∧ Below w.heap.size w w4 from ⟨H3.out.1.below hb4 H3.out.1.lt, H3.out.2.trans (hb4.mono H3.out.2.size)⟩)
    have k0 := HB4.out.1.cell 0
    have k1 := HB4.out.1.cell 1
    have k2 := HB4.out.1.cell 2
    have k3 := HB4.out.1.cell 3
    have f0 := HB4.out.1.frozen 0
    have f1 := HB4.out.1.frozen 1
    have f2 := HB4.out.1.frozen 2
    have f3 := HB4.out.1.frozen 3
    by_cases he : layS ⟨g, a, z, u⟩ = b
    · obtain rfl : R = (⟨g, a, z, u⟩, 0) := by rw [HE.out, if_pos ⟨HG.out, he⟩]
      have hd1 : decide (layS ⟨g, a, z, u⟩ = b) = true := by simpa using he
      clear he
      refine wpAnyH_take (i := 9) (oi := _) (v := .bool false) rfl (by kernel_rfl) (by kernel_rfl) (by kernel_rfl) (fun _ _ _ h => h) (Or.inl ⟨by rfl, by intro w hSw; have hq : (Op.equalIn 10000 42 (.agg L) (.agg M.toArray)).run Try.prog w = _ := HQ.out w; rw [hd1] at hq; have hgd := sec_guard; go_simp⟩) (SX.out _ hb4) ?_
      simp only [List.getElem_toArray, List.getElem_cons_zero, List.getElem_cons_succ, Act.put, List.setIfInBounds_toArray, List.set_cons_zero, List.set_cons_succ]
      refine wpAnyH_take (i := 10) (oi := _) (v := .bool false) rfl (by kernel_rfl) (by kernel_rfl) (by kernel_rfl) (fun _ _ _ h => h) (Or.inl ⟨by rfl, by intro w hSw; go_simp⟩) (SX.out _ hb4) ?_
      simp only [List.getElem_toArray, List.getElem_cons_zero, List.getElem_cons_succ, Act.put, List.setIfInBounds_toArray, List.set_cons_zero, List.set_cons_succ]
      refine wpAnyH_done (by kernel_rfl) ?_ _
      have q0 : w4.cell? ⟨p, 0, none⟩ = some (.int .u64 g) := (SX.out _ hb4).1
      have q1 : w4.cell? ⟨p, 1, none⟩ = some (.int .u8 a) := (SX.out _ hb4).2.1
      have q2 : w4.cell? ⟨p, 2, none⟩ = some (.int .u32 z) := (SX.out _ hb4).2.2.1
      have q3 : w4.cell? ⟨p, 3, none⟩ = some (.int .u32 u) := (SX.out _ hb4).2.2.2.1
      have HF := Lib.hid (fin4 HB4.out.1 HB4.out.2 HW.out.2 ⟨g, a, z, u⟩)
      clear hb4 hb0 HQ hHeld
      go_wp2_with fail
      obtain ⟨fs, hfs⟩ := slot_desc
      (try simp only [Exit.inBlock, Exit.then])
      refine bodyPost_ret (v := .tuple #[(⟨g, a, z, u⟩ : SlT).v, .int .i64 0]) ?_ rfl ⟨rfl, HF.out.2⟩
      exact results_slot_tmp rfl _ _ d 25 _ (0, 0) _ rfl HF.out.1 hfs rfl slot_size4 _ rfl
    · obtain rfl : R = (slZ, 100) := by rw [HE.out, if_neg]; rintro ⟨_, h⟩; exact he h
      have hd1 : decide (layS ⟨g, a, z, u⟩ = b) = false := by simpa using he
      clear he
      refine wpAnyH_take (i := 9) (oi := _) (v := .bool true) rfl (by kernel_rfl) (by kernel_rfl) (by kernel_rfl) (fun _ _ _ h => h) (Or.inl ⟨by rfl, by intro w hSw; have hq : (Op.equalIn 10000 42 (.agg L) (.agg M.toArray)).run Try.prog w = _ := HQ.out w; rw [hd1] at hq; have hgd := sec_guard; go_simp⟩) (SX.out _ hb4) ?_
      simp only [List.getElem_toArray, List.getElem_cons_zero, List.getElem_cons_succ, Act.put, List.setIfInBounds_toArray, List.set_cons_zero, List.set_cons_succ]
      refine wpAnyH_take (i := 10) (oi := _) (v := .bool true) rfl (by kernel_rfl) (by kernel_rfl) (by kernel_rfl) (fun _ _ _ h => h) (Or.inl ⟨by rfl, by intro w hSw; go_simp⟩) (SX.out _ hb4) ?_
      simp only [List.getElem_toArray, List.getElem_cons_zero, List.getElem_cons_succ, Act.put, List.setIfInBounds_toArray, List.set_cons_zero, List.set_cons_succ]
      refine wpAnyH_done (by kernel_rfl) ?_ _
      have HF := Lib.hid (fin4 HB4.out.1 HB4.out.2 HW.out.2 slZ)
      clear hb4 hb0 HQ hHeld
      go_wp2_with fail
      obtain ⟨fs, hfs⟩ := slot_desc
      (try simp only [Exit.inBlock, Exit.then])
      refine bodyPost_ret (v := .tuple #[slZ.v, .int .i64 100]) ?_ rfl ⟨rfl, HF.out.2⟩
      exact results_slot_tmp rfl _ _ d 25 _ (0, 0) _ rfl HF.out.1 hfs rfl slot_size4 _ rfl
theorem take_any (A : Option Addr) (k c : Nat) (b : List UInt8) (w : World) (hl : b.length = k) (hk : k ≤ c) (hc : c ≤ maxLen ∧ k ≤ 140737488351232) (hr : Rd w w.heap.size A b) :
    Calls Try.prog 12 #[.slice A k c] w fun e w' => e = .returned (.tuple #[(takeS b).1.v, .int .i64 (takeS b).2]) ∧ Below w.heap.size w w' := by
  by_cases h : k = 128
  · subst h
    exact take_long A c b hl hk hc.1 w hr
  · exact take_short A k c b hl h hc.2 w
end Go.Proofs.Ytmfbidohmkoeeaa
