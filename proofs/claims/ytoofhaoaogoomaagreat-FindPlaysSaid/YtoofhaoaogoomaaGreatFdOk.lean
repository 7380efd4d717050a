/- What the landed package find does. No statement of the seat is proved here. -/
import Derived.Test.YtoofhaoaogoomaaGreatFdLandD
import Derived.Test.YtoofhaoaogoomaaGreatFdLandH
import Derived.Test.YtoofhaoaogoomaaGreatZLAI
namespace Go.Proofs.YtoofhaoaogoomaaGreat
open Go.RowKit
set_option linter.unusedVariables false
set_option linter.unusedSimpArgs false
set_option maxRecDepth 100000

theorem findersOk : FindersOk Fst where
  lt := Fst.firm.lt
  keep := Fst.firm.keep
  ok := fun ⟨_, _, _, _, _, _, _, hok⟩ => hok
  new := lnew_any
  newNo := fun n p r w hn hp hr h => lnew_no n p r w hn hp hr h
  put := fun s F f k q w h hl hk hq => lput_any s F f k q w h hl hk hq
  drop := fun s F f k w h hl hk => ldrop_any s F f k w h hl hk
  find := fun s F f k d w h hl ha hb hk hd => lfind_any s F f k d w h hl ha hb hk hd
  anew := fun s F f w h hl => lanew_any s F f w h hl
  blur := fun s F f A b n c w h hl hc hm hr hF => lblur_any s F f A b n c w h hl hc hm hr hF
  cost := fun s F f w h => lcost_any s F f w h
  twins := fun s F f D w h hl hD => by
    obtain ⟨d, a, b, c, rfl, hR, _⟩ := LfT.start h
    exact ltwins_lt hR hl D hD
  shelf := fun s F f at_ w h hl ha => by
    obtain ⟨d, a, b, c, rfl, hR, _⟩ := LfT.start h
    exact lshelf_lt hR hl at_ ha
  all := fun s F f w h hl => by
    obtain ⟨d, a, b, c, rfl, hR, _⟩ := LfT.start h
    exact lall_lt hR hl
  len := fun s F f w h hl => by
    obtain ⟨d, a, b, c, rfl, hR, _⟩ := LfT.start h
    exact llen_lt hR hl
set_option maxHeartbeats 4000000 in
theorem lput_nil (k : KeyT) (q : Int × Int) (w : World) (hk : k.Ok) : Calls Tryz.prog 8 #[.pointer none, kv k, pv q] w fun e w' => e = .returned (.tuple #[]) ∧ Below w.heap.size w w' := by
  obtain ⟨X, hX⟩ : ∃ X, kcs k = X := ⟨_, rfl⟩
  obtain ⟨p1, p2⟩ := q
  obtain ⟨w1, hw1⟩ : ∃ w1, w.alloc (.cells X.toArray 29) = w1 := ⟨_, rfl⟩
  obtain ⟨w2, hw2⟩ : ∃ w2, w1.alloc (.cells #[.int .i64 p1, .int .i64 p2] 40) = w2 := ⟨_, rfl⟩
  have b1 : Below w.heap.size w w1 := hw1 ▸ (Below.refl _ _).alloc (Nat.le_refl _) _
  have b2 : Below w1.heap.size w1 w2 := hw2 ▸ (Below.refl _ _).alloc (Nat.le_refl _) _
  have HB := Lib.hid (b1.trans (b2.mono b1.size))
  have HW := Lib.hid (And.intro hw1 hw2)
  unfold kv pv
  rw [hX]
  clear hX hw1 hw2 b1 b2 hk
  go_enter Tryz.func8, Tryz.ntmps8
  go_upto_region 1 with fail
  rw [HW.out.1, HW.out.2]
  go_wp2_with fail
  (try simp only [Exit.inBlock, Exit.then])
  refine bodyPost_ret (results_none rfl _ _ _) rfl ?_
  exact ⟨rfl, HB.out⟩
set_option maxHeartbeats 4000000 in
theorem ldrop_nil (k : KeyT) (w : World) : Calls Tryz.prog 10 #[.pointer none, kv k] w fun e w' => e = .returned (.bool false) ∧ Below w.heap.size w w' := by
  obtain ⟨X, hX⟩ : ∃ X, kcs k = X := ⟨_, rfl⟩
  obtain ⟨w1, hw1⟩ : ∃ w1, w.alloc (.cells X.toArray 29) = w1 := ⟨_, rfl⟩
  have HB := Lib.hid (show Below w.heap.size w w1 from hw1 ▸ (Below.refl _ _).alloc (Nat.le_refl _) _)
  have HW := Lib.hid hw1
  unfold kv
  rw [hX]
  clear hX hw1
  go_enter Tryz.func10, Tryz.ntmps10
  go_upto_region 1 with fail
  rw [HW.out]
  go_wp2_with fail
  go_ret
  exact ⟨rfl, HB.out⟩
set_option maxHeartbeats 4000000 in
theorem lfind_nil (k : KeyT) (dr : Nat) (w : World) : Calls Tryz.prog 12 #[.pointer none, kv k, .int .u64 dr] w fun e w' => e = .returned (.tuple #[pv (0, 0), .bool false]) ∧ Below w.heap.size w w' := by
  obtain ⟨X, hX⟩ : ∃ X, kcs k = X := ⟨_, rfl⟩
  obtain ⟨w1, hw1⟩ : ∃ w1, w.alloc (.cells X.toArray 29) = w1 := ⟨_, rfl⟩
  have hb1 : Below w.heap.size w w1 := hw1 ▸ (Below.refl _ _).alloc (Nat.le_refl _) _
  obtain ⟨w2, hw2⟩ : ∃ w2, w1.alloc (.cells #[.int .i64 0, .int .i64 0] 40) = w2 := ⟨_, rfl⟩
  obtain ⟨kb, hkb⟩ : ∃ kb, w.heap.size = kb := ⟨_, rfl⟩
  obtain ⟨pb, hpb⟩ : ∃ pb, w1.heap.size = pb := ⟨_, rfl⟩
  have hb2 : Below w1.heap.size w1 w2 := hw2 ▸ (Below.refl _ _).alloc (Nat.le_refl _) _
  have hpk : Blk w2 pb 40 #[.int .i64 0, .int .i64 0] := by rw [← hw2, ← hpb]; exact Blk.new w1 _ _
  have HW := Lib.hid (And.intro (And.intro hw1 hkb) (And.intro hw2 (show kb + 1 = pb by rw [← hkb, ← hpb, ← hw1]; simp)))
  have hz := drew_below w2
  have hpk2 := hpk.below hz hpk.lt
  have HB := Lib.hid (show Below w.heap.size w w2.drew ∧ w.heap.size ≤ pb from ⟨(hb1.trans (hb2.mono hb1.size)).trans (hz.mono (Nat.le_trans hb1.size hb2.size)), by rw [← hpb]; exact hb1.size⟩)
  have HPK := Lib.hid hpk2
  obtain ⟨fp, hfp⟩ := place_desc
  have HF := Lib.hid hfp
  unfold kv
  rw [hX]
  clear hX hw1 hb1 hw2 hb2 hpk hkb hpb hfp hz hpk2
  go_enter Tryz.func12, Tryz.ntmps12
  go_upto_region 1 with fail
  rw [HW.out.1.1, HW.out.1.2, HW.out.2.1, HW.out.2.2]
  -- the guarded region
  refine wp_region_held_drew (S := fun W => Blk W pb 40 #[.int .i64 0, .int .i64 0]) (by kernel_rfl) HPK.out (fun hHeld => ?_)
  clear hHeld
  generalize w2.drew = wz at *
  refine wpAnyH_take (i := 0) (oi := _) (v := .pointer none) rfl (by kernel_rfl) (by kernel_rfl) (by kernel_rfl) (fun _ _ _ h => h) (Or.inl ⟨by rfl, by intro w hSw; go_simp⟩) HPK.out ?_
  simp only [List.getElem_toArray, List.getElem_cons_zero, List.getElem_cons_succ, Act.put, List.setIfInBounds_toArray, List.set_cons_zero, List.set_cons_succ]
  refine wpAnyH_take (i := 1) (oi := _) (v := .bool true) rfl (by kernel_rfl) (by kernel_rfl) (by kernel_rfl) (fun _ _ _ h => h) (Or.inl ⟨by rfl, by intro w hSw; go_simp⟩) HPK.out ?_
  simp only [List.getElem_toArray, List.getElem_cons_zero, List.getElem_cons_succ, Act.put, List.setIfInBounds_toArray, List.set_cons_zero, List.set_cons_succ]
  refine wpAnyH_take (i := 2) (oi := _) (v := .bool true) rfl (by kernel_rfl) (by kernel_rfl) (by kernel_rfl) (fun _ _ _ h => h) (Or.inl ⟨by rfl, by intro w hSw; go_simp⟩) HPK.out ?_
  simp only [List.getElem_toArray, List.getElem_cons_zero, List.getElem_cons_succ, Act.put, List.setIfInBounds_toArray, List.set_cons_zero, List.set_cons_succ]
  refine wpAnyH_take (i := 3) (oi := _) (v := undef) rfl (by kernel_rfl) (by kernel_rfl) (by kernel_rfl) (fun _ _ _ h => h) (Or.inr ⟨by rfl, rfl⟩) HPK.out ?_
  simp only [List.getElem_toArray, List.getElem_cons_zero, List.getElem_cons_succ, Act.put, List.setIfInBounds_toArray, List.set_cons_zero, List.set_cons_succ]
  refine wpAnyH_take (i := 4) (oi := _) (v := undef) rfl (by kernel_rfl) (by kernel_rfl) (by kernel_rfl) (fun _ _ _ h => h) (Or.inr ⟨by rfl, rfl⟩) HPK.out ?_
  simp only [List.getElem_toArray, List.getElem_cons_zero, List.getElem_cons_succ, Act.put, List.setIfInBounds_toArray, List.set_cons_zero, List.set_cons_succ]
  refine wpAnyH_take (i := 5) (oi := _) (v := undef) rfl (by kernel_rfl) (by kernel_rfl) (by kernel_rfl) (fun _ _ _ h => h) (Or.inr ⟨by rfl, rfl⟩) HPK.out ?_
  simp only [List.getElem_toArray, List.getElem_cons_zero, List.getElem_cons_succ, Act.put, List.setIfInBounds_toArray, List.set_cons_zero, List.set_cons_succ]
  refine wpAnyH_take (i := 6) (oi := _) (v := undef) rfl (by kernel_rfl) (by kernel_rfl) (by kernel_rfl) (fun _ _ _ h => h) (Or.inr ⟨by rfl, rfl⟩) HPK.out ?_
  simp only [List.getElem_toArray, List.getElem_cons_zero, List.getElem_cons_succ, Act.put, List.setIfInBounds_toArray, List.set_cons_zero, List.set_cons_succ]
  refine wpAnyH_take (i := 7) (oi := _) (v := undef) rfl (by kernel_rfl) (by kernel_rfl) (by kernel_rfl) (fun _ _ _ h => h) (Or.inr ⟨by rfl, rfl⟩) HPK.out ?_
  simp only [List.getElem_toArray, List.getElem_cons_zero, List.getElem_cons_succ, Act.put, List.setIfInBounds_toArray, List.set_cons_zero, List.set_cons_succ]
  refine wpAnyH_take (i := 8) (oi := _) (v := undef) rfl (by kernel_rfl) (by kernel_rfl) (by kernel_rfl) (fun _ _ _ h => h) (Or.inr ⟨by rfl, rfl⟩) HPK.out ?_
  simp only [List.getElem_toArray, List.getElem_cons_zero, List.getElem_cons_succ, Act.put, List.setIfInBounds_toArray, List.set_cons_zero, List.set_cons_succ]
  refine wpAnyH_take (i := 9) (oi := _) (v := undef) rfl (by kernel_rfl) (by kernel_rfl) (by kernel_rfl) (fun _ _ _ h => h) (Or.inr ⟨by rfl, rfl⟩) HPK.out ?_
  simp only [List.getElem_toArray, List.getElem_cons_zero, List.getElem_cons_succ, Act.put, List.setIfInBounds_toArray, List.set_cons_zero, List.set_cons_succ]
  refine wpAnyH_take (i := 10) (oi := _) (v := .bool true) rfl (by kernel_rfl) (by kernel_rfl) (by kernel_rfl) (fun _ _ _ h => h) (Or.inl ⟨by rfl, by intro w hSw; go_simp⟩) HPK.out ?_
  simp only [List.getElem_toArray, List.getElem_cons_zero, List.getElem_cons_succ, Act.put, List.setIfInBounds_toArray, List.set_cons_zero, List.set_cons_succ]
  refine wpAnyH_done (by kernel_rfl) ?_ _
  have k0 : wz.cell? ⟨pb, 0, none⟩ = some (.int .i64 0) := HPK.out.cell 0
  have k1 : wz.cell? ⟨pb, 1, none⟩ = some (.int .i64 0) := HPK.out.cell 1
  have f0 : wz.frozen? ⟨pb, 0, none⟩ = false := HPK.out.frozen 0
  have f1 : wz.frozen? ⟨pb, 1, none⟩ = false := HPK.out.frozen 1
  go_wp2_with fail
  (try simp only [Exit.inBlock, Exit.then])
  refine bodyPost_ret (v := .tuple #[.agg #[.int .i64 0, .int .i64 0], .bool false]) ?_ rfl ⟨rfl, (HB.out.1.setCell HB.out.2 _).setCell HB.out.2 _⟩
  have hbl := (HPK.out.set_ 0 (.int .i64 0)).set_ 1 (.int .i64 0)
  exact res_row_tmpB rfl _ _ pb 40 _ (0, 0) _ rfl hbl HF.out rfl place_size _ rfl
theorem lanew_nil (w : World) : Calls Tryz.prog 14 #[.pointer none] w fun e w' => e = .returned (.tuple #[]) ∧ Below w.heap.size w w' := by
  go_enter Tryz.func14, Tryz.ntmps14
  go_wp2_with fail
  (try simp only [Exit.inBlock, Exit.then])
  refine bodyPost_ret (results_none rfl _ _ _) rfl ?_
  exact ⟨rfl, Below.refl _ _⟩
theorem lblur_nil (A : Option Addr) (n c : Nat) (w : World) : Calls Tryz.prog 16 #[.pointer none, .slice A n c] w fun e w' => e = .returned (.tuple #[]) ∧ Below w.heap.size w w' := by
  go_enter Tryz.func16, Tryz.ntmps16
  go_wp2_with fail
  (try simp only [Exit.inBlock, Exit.then])
  refine bodyPost_ret (results_none rfl _ _ _) rfl ?_
  exact ⟨rfl, Below.refl _ _⟩
theorem lcost_nil (w : World) : Calls Tryz.prog 18 #[.pointer none] w fun e w' => e = .returned (.tuple #[.int .i64 0, .int .i64 0]) ∧ Below w.heap.size w w' := by
  go_enter Tryz.func18, Tryz.ntmps18
  go_wp2_with fail
  (try simp only [Exit.inBlock, Exit.then])
  refine bodyPost_ret (results_tmp2 rfl _ _ _) rfl ?_
  exact ⟨rfl, Below.refl _ _⟩
set_option maxHeartbeats 4000000 in
theorem ltwins_nil (D : List UInt8) (w : World) (hD : D.length = 32) : Calls Tryz.prog 23 #[.pointer none, .agg (bv D).toArray] w fun e w' => (∃ A c, e = .returned (.slice A 0 c)) ∧ Below w.heap.size w w' := by
  obtain ⟨X, hX⟩ : ∃ X, bv D = X := ⟨_, rfl⟩
  have hXl : X.length = 32 := by rw [← hX, bv_length]; exact hD
  obtain ⟨w1, hw1⟩ : ∃ w1, w.alloc (.cells X.toArray 26) = w1 := ⟨_, rfl⟩
  obtain ⟨kb, hkb⟩ : ∃ kb, w.heap.size = kb := ⟨_, rfl⟩
  have hb1 : Below w.heap.size w w1 := hw1 ▸ (Below.refl _ _).alloc (Nat.le_refl _) _
  have hk1 : Blk w1 kb 26 X.toArray := by rw [← hw1, ← hkb]; exact Blk.new w _ _
  have HXS := Lib.hid (show (Tryz.prog.info? 26).map (·.size) = some X.length from by rw [hXl]; exact sum_size)
  obtain ⟨an, ae, hsd⟩ := sum_desc
  have HF := Lib.hid hsd
  have HS := Lib.hid (hk1.below (drew_below w1) hk1.lt)
  have HBZ := Lib.hid (hb1.trans ((drew_below w1).mono hb1.size))
  have KH := Lib.hid (lheld_nil w1.drew)
  have KA := indexNilOk.twins D w1.drew hD
  rw [hX] at KA
  replace KA := Lib.hid KA
  have HW := Lib.hid (And.intro hw1 hkb)
  rw [hX]
  clear hX hXl hw1 hkb hb1 hk1 hsd
  go_enter Tryz.func23, Tryz.ntmps23
  go_upto_region 1 with fail
  rw [HW.out.1, HW.out.2]
  refine wp_region_held_drew (S := fun W => Blk W kb 26 X.toArray) (by kernel_rfl) HS.out (fun hHeld => ?_)
  clear hHeld
  generalize w1.drew = wz at *
  refine wpAnyH_take (i := 0) (oi := _) (v := .pointer none) rfl (by kernel_rfl) (by kernel_rfl) (by kernel_rfl) (fun _ _ _ h => h) (Or.inl ⟨by rfl, by intro w hSw; go_simp⟩) HS.out ?_
  simp only [List.getElem_toArray, List.getElem_cons_zero, List.getElem_cons_succ, Act.put, List.setIfInBounds_toArray, List.set_cons_zero, List.set_cons_succ]
  refine wpAnyH_take (i := 2) (oi := _) (v := .agg X.toArray) rfl (by kernel_rfl) (by kernel_rfl) (by kernel_rfl) (fun _ _ _ h => h) (yields_mid (by rfl) 26 (.tmp 3) rfl kb 0 rfl X (.array an ae) (fun W hW => range_of_blk hW) HF.out rfl HXS.out) HS.out ?_
  simp only [List.getElem_toArray, List.getElem_cons_zero, List.getElem_cons_succ, Act.put, List.setIfInBounds_toArray, List.set_cons_zero, List.set_cons_succ]
  refine wpAnyH_ready (rs := [1]) (by kernel_rfl) (by simp) ?_
  refine AllReadyH.cons rfl (fun K hK => ?_) AllReadyH.nil
  go_simp
  (with_reducible refine KH.out.mono ?_)
  rintro e wy ⟨rfl, hwy⟩
  obtain rfl : wz = wy := hwy.symm
  clear KH
  go_wp2_with fail
  refine hK.out _ _ HS.out (fun _ => ?_)
  clear hK K
  try simp only [List.getElem_toArray, List.getElem_cons_zero, List.getElem_cons_succ, Act.put, List.setIfInBounds_toArray, List.set_cons_zero, List.set_cons_succ]
  refine wpAnyH_ready (rs := [3]) (by kernel_rfl) (by simp) ?_
  refine AllReadyH.cons rfl (fun K hK => ?_) AllReadyH.nil
  go_simp
  (with_reducible refine KA.out.mono ?_)
  rintro e w2 ⟨⟨A2, c2, rfl⟩, q5⟩
  have hs2 := HS.out.below q5 HS.out.lt
  have HQ := Lib.hid (HBZ.out.trans (q5.mono HBZ.out.size))
  clear q5
  go_wp2_with fail
  refine hK.out _ _ hs2 (fun _ => ?_)
  clear hK K
  try simp only [List.getElem_toArray, List.getElem_cons_zero, List.getElem_cons_succ, Act.put, List.setIfInBounds_toArray, List.set_cons_zero, List.set_cons_succ]
  refine wpAnyH_take (i := 4) (oi := _) (v := .slice A2 0 c2) rfl (by kernel_rfl) (by kernel_rfl) (by kernel_rfl) (fun _ _ _ h => h) (Or.inl ⟨by rfl, by intro w hSw; go_simp⟩) hs2 ?_
  simp only [List.getElem_toArray, List.getElem_cons_zero, List.getElem_cons_succ, Act.put, List.setIfInBounds_toArray, List.set_cons_zero, List.set_cons_succ]
  refine wpAnyH_done (by kernel_rfl) ?_ _
  go_wp2_with fail
  go_ret
  exact ⟨⟨_, _, rfl⟩, HQ.out⟩
theorem lshelf_nil (at_ : Int) (w : World) (ha : In64 at_) : Calls Tryz.prog 25 #[.pointer none, .int .i64 at_] w fun e w' => (∃ A c, e = .returned (.slice A 0 c)) ∧ Below w.heap.size w w' := by
  have KH := Lib.hid (lheld_nil w)
  have KA := Lib.hid (indexNilOk.shelf at_ w ha)
  clear ha
  go_enter Tryz.func25, Tryz.ntmps25
  go_wp2_with fail
  refine KH.out.mono ?_
  rintro e wy ⟨rfl, hwy⟩
  obtain rfl : w = wy := hwy.symm
  clear KH
  go_wp2_with fail
  refine KA.out.mono ?_
  rintro e w1 ⟨⟨A1, c1, rfl⟩, hq⟩
  have HQ := Lib.hid hq
  clear hq KA
  go_wp2_with fail
  go_ret
  exact ⟨⟨_, _, rfl⟩, HQ.out⟩
theorem lall_nil (w : World) : Calls Tryz.prog 20 #[.pointer none] w fun e w' => (∃ A c, e = .returned (.slice A 0 c)) ∧ Below w.heap.size w w' := by
  have KH := Lib.hid (lheld_nil w)
  have KA := Lib.hid (indexNilOk.all w)
  go_enter Tryz.func20, Tryz.ntmps20
  go_wp2_with fail
  refine KH.out.mono ?_
  rintro e wy ⟨rfl, hwy⟩
  obtain rfl : w = wy := hwy.symm
  clear KH
  go_wp2_with fail
  refine KA.out.mono ?_
  rintro e w1 ⟨⟨A1, c1, rfl⟩, hq⟩
  have HQ := Lib.hid hq
  clear hq KA
  go_wp2_with fail
  go_ret
  exact ⟨⟨_, _, rfl⟩, HQ.out⟩
theorem llen_nil (w : World) : Calls Tryz.prog 21 #[.pointer none] w fun e w' => e = .returned (.int .i64 0) ∧ Below w.heap.size w w' := by
  have KH := Lib.hid (lheld_nil w)
  have KA := Lib.hid (indexNilOk.len w)
  go_enter Tryz.func21, Tryz.ntmps21
  go_wp2_with fail
  refine KH.out.mono ?_
  rintro e wy ⟨rfl, hwy⟩
  obtain rfl : w = wy := hwy.symm
  clear KH
  go_wp2_with fail
  refine KA.out.mono ?_
  rintro e w1 ⟨rfl, hq⟩
  have HQ := Lib.hid hq
  clear hq KA
  go_wp2_with fail
  go_ret
  exact ⟨rfl, HQ.out⟩
theorem finderNilOk : FinderNilOk where
  put := fun k q w hk _ => lput_nil k q w hk
  drop := fun k w _ => ldrop_nil k w
  find := fun k d w _ _ => lfind_nil k d w
  anew := lanew_nil
  blur := fun A b n c w _ _ _ _ => lblur_nil A n c w
  cost := lcost_nil
  twins := fun D w hD => ltwins_nil D w hD
  shelf := fun at_ w ha => lshelf_nil at_ w ha
  all := lall_nil
  len := llen_nil
end Go.Proofs.YtoofhaoaogoomaaGreat
