/- A key is put into the group of a shelf. No statement of the seat is proved here. -/
import Derived.Test.YtoofhaoaogoomaaGreatZLBC
namespace Go.Proofs.YtoofhaoaogoomaaGreat
open Go Go.Maps Go.RowKit
set_option linter.unusedVariables false
set_option maxRecDepth 100000

set_option maxRecDepth 100000 in
set_option maxHeartbeats 4000000 in
theorem addH_any (w : World) (b : Nat) (F : Nat → Prop) (R : Int → KeyT → Prop) (d : Int) (hd : In64 d) (k : KeyT) (hk : k.Ok) (h : Grp mkH w b F R) (hR : Room R) :
    Calls Tryz.prog 58 #[.map (some b), .int .i64 d, kv k] w fun e w' => e = .returned (.tuple #[]) ∧ ∃ F', Grp mkH w' b F' (fun d' k' => R d' k' ∨ (d' = d ∧ k' = k)) ∧ (∀ g, F' g → F g ∨ w.heap.size ≤ g) ∧ Only F w w' := by
  obtain ⟨T, hT⟩ := h
  obtain ⟨X, hX⟩ : ∃ X, kcs k = X := ⟨_, rfl⟩
  have hXl : X.length = 33 := by rw [← hX]; exact kcs_length hk
  obtain ⟨w2, hw2⟩ : ∃ w2, w.alloc (.cells X.toArray 29) = w2 := ⟨_, rfl⟩
  obtain ⟨sb, hsb⟩ : ∃ sb, w.heap.size = sb := ⟨_, rfl⟩
  have hbw : Below w.heap.size w w2 := hw2 ▸ (Below.refl _ _).alloc (Nat.le_refl _) _
  have hk2 : Blk w2 sb 29 X.toArray := by rw [← hsb, ← hw2]; exact Blk.new w _ _
  have hT2 := hT.keep fun g hg => hbw.block g (hT.lt g hg)
  have hl1 := hT.roomT hR
  have hs2 : w2.heap.size = sb + 1 := by rw [← hw2]; simp [hsb]
  have HXS := Lib.hid (show (Tryz.prog.info? 29).map (·.size) = some X.length from by rw [hXl]; exact key_size)
  obtain ⟨fk, hfk⟩ := key_desc'
  have HF := Lib.hid hfk
  have HW := Lib.hid (And.intro hw2 hsb)
  have HB := Lib.hid hbw
  have HK2 := Lib.hid hk2
  have HR := Lib.hid hR
  have HL := Lib.hid hl1
  have HZ := Lib.hid hs2
  unfold kv
  rw [hX]
  by_cases hin : ∃ x, (d, x) ∈ T
  · obtain ⟨x, hx⟩ := hin
    obtain ⟨K, q1, q2, q3⟩ := hT2.each _ hx
    have HT := Lib.hid hT2
    have HM := Lib.hid hT2.map
    have HG := Lib.hid (show mkH.encV (getM mkH (tm T) d) = .map (some x) by rw [hT.get hx]; rfl)
    have HQ := Lib.hid (And.intro q1 (And.intro q2 q3))
    have HX := Lib.hid hx
    have hcmp := set_some x
    have HXQ := Lib.hid (show X = kcs k from hX.symm)
    have HLK2 := Lib.hid (roomK hR (us_once q1) q3)
    clear hT hT2 hX hXl hw2 hsb hk2 hbw hl1 hR q1 q2 q3 hx hfk hs2
    go_enter Tryz.func58, Tryz.ntmps58
    go_upto_region 1 with fail
    rw [HW.out.1, HW.out.2]
    go_wp2_with (first
      | (refine wpList_load_mid rfl 29 (.tmp 5) rfl sb 0 rfl X (.struct fk) (range_of_blk HK2.out) HF.out rfl HXS.out ?_)
      | (refine wpList_look_g _ rfl (.tmp 6) (.tmp 7) rfl okH rfl HM.out d hd rfl (.map (some x)) HG.out ?_)
      | (refine wpList_look_g _ rfl (.tmp 13) (.tmp 14) rfl okH rfl HM.out d hd rfl (.map (some x)) HG.out ?_)
      | (refine wpList_put_g w2 rfl (.tmp 15) (.tmp 16) (.tmp 17) rfl okS rfl HQ.out.1 (by have := HLK2.out; rw [us_length]; unfold maxLen; omega) k hk (show _ = Value.agg (kcs k).toArray by rw [← HXQ.out]; rfl) () rfl ?_; intro w3 m1 m2 m3; have HM1 := Lib.hid m1; have HM2 := Lib.hid m2; clear m1 m2 m3))
    (try simp only [Exit.inBlock, Exit.then])
    refine bodyPost_end (results_none rfl _ _ _) rfl ?_
    obtain ⟨b1, b2, b3, b4⟩ := HT.out.blocks HX.out
    have hk3 : ∀ g, g < w2.heap.size → g ≠ x → w3.heap[g]? = w2.heap[g]? := fun g hg hne => HM2.out.block g hg fun e => hne (by injection e)
    have hg := HT.out.add_in HX.out HQ.out.2.2 hk3 HM1.out
    exact ⟨rfl, F, ⟨T, hg⟩, fun g hg => .inl hg, (Only.of_below (F := F) HB.out).trans (only_grown (F := F) HM2.out b3) fun g hg => .inl hg⟩
  · have hno : ∀ x, (d, x) ∉ T := fun x hx => hin ⟨x, hx⟩
    have HNO := Lib.hid hno
    have HT := Lib.hid hT2
    have HM := Lib.hid hT2.map
    have HG := Lib.hid (show mkH.encV (getM mkH (tm T) d) = .map none by rw [hT.none_ rfl hno]; rfl)
    have HM3 := Lib.hid (show MapL mkH (w2.alloc (.map #[] 0)) b (tm T) from hT2.map.blk ((World.grownBy_alloc w2 (.map #[] 0) none).block b hT2.map.lt (by simp)))
    have HS3 := Lib.hid (show (w2.alloc (.map #[] 0)).heap.size = sb + 2 by simp [hs2])
    have HBL := Lib.hid (show b < sb by rw [← hsb]; exact hT.map.lt)
    have hcmp := set_none
    have hmm := @run_makeMap Tryz.prog
    have HXQ := Lib.hid (show X = kcs k from hX.symm)
    clear hT hT2 hX hXl hw2 hsb hk2 hbw hl1 hR hfk hs2 hin hno
    go_enter Tryz.func58, Tryz.ntmps58
    go_upto_region 1 with fail
    rw [HW.out.1, HW.out.2]
    go_upto_region 3 with (first
      | (refine wpList_look_g _ rfl (.tmp 6) (.tmp 7) rfl okH rfl HM.out d hd rfl (.map none) HG.out ?_)
      | (refine wpList_put_g (M := mkH) _ rfl (.tmp 10) (.tmp 11) (.tmp 12) rfl okH rfl (HM3.out) (by have := HL.out; rw [tm_length]; unfold maxLen; omega) d hd rfl (some w2.heap.size) rfl ?_; intro w3 m1 m2 m3))
    have hs3 := HS3.out
    have hp3 : ∀ g, g < sb + 1 → g ≠ b → w3.heap[g]? = w2.heap[g]? := fun g hg hne => (m2.block g (by rw [hs3]; omega) fun e => hne (by injection e)).trans ((World.grownBy_alloc w2 (.map #[] 0) none).block g (by rw [HZ.out]; exact hg) (by simp))
    have hbl : b < sb := HBL.out
    have hk4 := HK2.out.same (hp3 sb (by omega) (by omega))
    have hnew : MapL mkS w3 (sb + 1) (us []) := by
      have h1 := MapL.made mkS w2
      rw [HZ.out] at h1
      exact h1.blk (m2.block (sb + 1) (by rw [hs3]; omega) fun e => by injection e with e; omega)
    rw [HZ.out] at m1 ⊢
    have HM1 := Lib.hid m1
    have HM2 := Lib.hid m2
    have HK4 := Lib.hid hk4
    have HNEW := Lib.hid hnew
    have HP3 := Lib.hid hp3
    have HBL2 := Lib.hid hbl
    have HG3 := Lib.hid (show mkH.encV (getM mkH (putM (tm T) d (some (sb + 1))) d) = .map (some (sb + 1)) by rw [getM_of m1.once (mem_putM.2 (.inl rfl))]; rfl)
    clear m1 m2 m3 hk4 hnew hp3 hs3 hbl
    go_wp2_with (first
      | (refine wpList_load_mid rfl 29 (.tmp 5) rfl sb 0 rfl X (.struct fk) (range_of_blk HK4.out) HF.out rfl HXS.out ?_)
      | (refine wpList_look_g _ rfl (.tmp 13) (.tmp 14) rfl okH rfl HM1.out d hd rfl (.map (some (sb + 1))) HG3.out ?_)
      | (refine wpList_put_g w3 rfl (.tmp 15) (.tmp 16) (.tmp 17) rfl okS rfl HNEW.out (by rw [us_length]; unfold maxLen; decide) k hk (show _ = Value.agg (kcs k).toArray by rw [← HXQ.out]; rfl) () rfl ?_; intro w4 m1 m2 m3; have HM4 := Lib.hid m1; have HM5 := Lib.hid m2; clear m1 m2 m3))
    (try simp only [Exit.inBlock, Exit.then])
    refine bodyPost_end (results_none rfl _ _ _) rfl ?_
    have hbl : b < sb := HBL2.out
    have hb4 : ∀ g, g < w3.heap.size → g ≠ sb + 1 → w4.heap[g]? = w3.heap[g]? := fun g hg hne => HM5.out.block g hg fun e => hne (by injection e)
    have hz3 : sb + 2 ≤ w3.heap.size := by
      have := HM2.out.size
      rw [HS3.out] at this
      exact this
    have hg := HT.out.add_new HNO.out (x := sb + 1) (k := k) (by rw [HZ.out]; exact Nat.le_refl _)
      (fun g hg hne => (hb4 g (by rw [HZ.out] at hg; omega) (by rw [HZ.out] at hg; omega)).trans (HP3.out g (by rw [HZ.out] at hg; exact hg) hne)) (HM1.out.blk (hb4 b (by omega) (by omega))) HM4.out
    refine ⟨rfl, _, ⟨_, hg⟩, fun g hg => ?_, ?_⟩
    · rcases hg with h1 | rfl
      · exact .inl h1
      · rw [HW.out.2]; exact .inr (by omega)
    · have hFb : F b := (HT.out.foot b).2 (.inl rfl)
      have o1 : Only F w w2 := Only.of_below HB.out
      have o2 : Only F w2 (w2.alloc (.map #[] 0)) := Only.of_below ((Below.refl _ _).alloc (Nat.le_refl _) _)
      have o3 : Only F (w2.alloc (.map #[] 0)) w3 := only_grown HM2.out hFb
      have o4 : Only (fun g => g = sb + 1) w3 w4 := only_grown HM5.out rfl
      refine ((o1.trans o2 fun g hg => .inl hg).trans o3 fun g hg => .inl hg).trans o4 ?_
      rintro g rfl
      rw [HW.out.2]; exact .inr (by omega)
end Go.Proofs.YtoofhaoaogoomaaGreat
/- A key is taken out of the group of a fingerprint. No statement of the seat is proved here. -/
namespace Go.Proofs.YtoofhaoaogoomaaGreat
open Go Go.Maps Go.RowKit
set_option linter.unusedVariables false
set_option maxRecDepth 100000

set_option maxRecDepth 100000 in
set_option maxHeartbeats 4000000 in
theorem dropS_any (w : World) (b : Nat) (F : Nat → Prop) (R : List UInt8 → KeyT → Prop) (d : List UInt8) (hd : d.length = 32) (k : KeyT) (hk : k.Ok) (h : Grp mkT w b F R) (hin : R d k) :
    Calls Tryz.prog 67 #[.map (some b), .agg (bv d).toArray, kv k] w fun e w' => e = .returned (.tuple #[]) ∧ ∃ F', Grp mkT w' b F' (fun d' k' => R d' k' ∧ (d' = d → ¬ k' = k)) ∧ (∀ g, F' g → F g) ∧ Only F w w' := by
  obtain ⟨T, hT⟩ := h
  obtain ⟨S, hS⟩ : ∃ S, bv d = S := ⟨_, rfl⟩
  obtain ⟨X, hX⟩ : ∃ X, kcs k = X := ⟨_, rfl⟩
  have hSl : S.length = 32 := by rw [← hS, bv_length]; exact hd
  have hXl : X.length = 33 := by rw [← hX]; exact kcs_length hk
  obtain ⟨w1, hw1⟩ : ∃ w1, w.alloc (.cells S.toArray 26) = w1 := ⟨_, rfl⟩
  obtain ⟨w2, hw2⟩ : ∃ w2, w1.alloc (.cells X.toArray 29) = w2 := ⟨_, rfl⟩
  obtain ⟨sb, hsb⟩ : ∃ sb, w.heap.size = sb := ⟨_, rfl⟩
  have hs1 : w1.heap.size = sb + 1 := by rw [← hw1, ← hsb]; simp
  have hb1 : Below w.heap.size w w1 := hw1 ▸ (Below.refl _ _).alloc (Nat.le_refl _) _
  have hb2 : Below w1.heap.size w1 w2 := hw2 ▸ (Below.refl _ _).alloc (Nat.le_refl _) _
  have hk1 : Blk w2 sb 26 S.toArray := by rw [← hsb]; exact (hw1 ▸ Blk.new w _ _ : Blk w1 w.heap.size _ _).below hb2 (by rw [hs1, hsb]; omega)
  have hk2 : Blk w2 (sb + 1) 29 X.toArray := by rw [← hs1, ← hw2]; exact Blk.new w1 _ _
  have hbw : Below w.heap.size w w2 := hb1.trans (hb2.mono hb1.size)
  have hT2 := hT.keep fun g hg => hbw.block g (hT.lt g hg)
  have hs2 : w2.heap.size = sb + 2 := by rw [← hw2]; simp [hs1]
  have HSS := Lib.hid (show (Tryz.prog.info? 26).map (·.size) = some S.length from by rw [hSl]; exact sum_size')
  have HXS := Lib.hid (show (Tryz.prog.info? 29).map (·.size) = some X.length from by rw [hXl]; exact key_size)
  obtain ⟨ns, es, hfs⟩ := sum_desc'
  obtain ⟨fk, hfk⟩ := key_desc'
  have HF := Lib.hid (And.intro hfs hfk)
  have HW := Lib.hid (And.intro hw1 (And.intro hw2 (And.intro hsb hs1)))
  have HB := Lib.hid hbw
  have HK1 := Lib.hid hk1
  have HK2 := Lib.hid hk2
  have HZ := Lib.hid hs2
  unfold kv
  rw [hS, hX]
  obtain ⟨x, hx⟩ := hT2.all _ _ hin
  obtain ⟨K, q1, q2, q3⟩ := hT2.each _ hx
  obtain ⟨n, hn⟩ : ∃ n, (delM (us K) k).length = n := ⟨_, rfl⟩
  obtain ⟨b1, b2, b3, b4⟩ := hT2.blocks hx
  have HT := Lib.hid hT2
  have HM := Lib.hid hT2.map
  have HG := Lib.hid (show mkT.encV (getM mkT (tm T) d) = .map (some x) by rw [hT.get hx]; rfl)
  have HQ := Lib.hid (And.intro q1 (And.intro q2 q3))
  have HX := Lib.hid hx
  have HN := Lib.hid hn
  have HBX := Lib.hid (And.intro b1 (And.intro b2 (And.intro b3 (show x < sb from by
    rw [← hsb]; exact hT.lt x b3))))
  have HBB := Lib.hid (show b < sb by rw [← hsb]; exact hT.map.lt)
  have HLK := Lib.hid (show (Instr.lookup 103 (.map (some b)) (.agg S.toArray) false).run Tryz.prog w2.drew = .ok (.map (some x)) w2.drew from by
    have := (show MapL mkT w2.drew b (tm T) from hT2.map.blk rfl).look okT (q := d) hd
    rw [hT.get hx] at this
    rw [← hS]; exact this)
  have HSQ := Lib.hid (show S = bv d from hS.symm)
  have HXQ := Lib.hid (show X = kcs k from hX.symm)
  clear hT hT2 hS hX hSl hXl hw1 hw2 hsb hs1 hb1 hb2 hk1 hk2 hbw q1 q2 q3 hx hfs hfk hs2 hin hn b1 b2 b3 b4
  go_enter Tryz.func67, Tryz.ntmps67
  go_upto_region 1 with fail
  rw [HW.out.1, HW.out.2.1, HW.out.2.2.1]
  refine wp_region_still_tail 4 (by kernel_rfl) (by kernel_rfl) ?_
  simp only [List.take_succ_cons, List.take_zero, List.drop_succ_cons, List.drop_zero]
  still_step
  refine wpStill_load_mid rfl 26 (.tmp 4) rfl sb 0 rfl S (.array ns es) (range_of_blk (show Blk w2.drew sb 26 S.toArray from HK1.out)) HF.out.1 rfl HSS.out ?_
  refine wpStill_look rfl 103 (.tmp 6) (.tmp 7) false rfl _ _ _ rfl rfl HLK.out ?_
  refine wpStill_load_mid rfl 29 (.tmp 5) rfl (sb + 1) 0 rfl X (.struct fk) (range_of_blk (show Blk w2.drew (sb + 1) 29 X.toArray from HK2.out)) HF.out.2 rfl HXS.out ?_
  refine wpStill_nil ?_
  change wpList _ _ _ _ _ w2.drew
  refine wpList_del_g w2.drew rfl (.tmp 8) (.tmp 9) rfl okS rfl (show MapL mkS w2.drew x (us K) from HQ.out.1.blk rfl) k hk (show _ = Value.agg (kcs k).toArray by rw [← HXQ.out]; rfl) ?_
  intro w3 m1 m2 m3
  have HM1 := Lib.hid m1
  have HM2 := Lib.hid (grown_undrew m2)
  have hk3 : ∀ g, g < w2.heap.size → g ≠ x → w3.heap[g]? = w2.heap[g]? := fun g hg hne => HM2.out.block g hg fun e => hne (by injection e)
  have HK3 := Lib.hid hk3
  have HR1 := Lib.hid (HK1.out.same (hk3 sb (by rw [HZ.out]; omega) (by have := HBX.out.2.2.2; omega)))
  have HMB := Lib.hid (show MapL mkT w3 b (tm T) from HM.out.blk (hk3 b (by have := HBB.out; rw [HZ.out]; omega) (fun e => HBX.out.1 e.symm)))
  clear m1 m2 m3 hk3
  by_cases hn0 : n = 0
  · subst hn0
    go_wp2_with (first
      | (refine wpList_load_mid rfl 26 (.tmp 4) rfl sb 0 rfl S (.array ns es) (range_of_blk HR1.out) HF.out.1 rfl HSS.out ?_)
      | (refine wpList_look_g _ rfl (.tmp 10) (.tmp 11) rfl okT rfl HMB.out d hd (show _ = Value.agg (bv d).toArray by rw [← HSQ.out]; rfl) (.map (some x)) HG.out ?_)
      | (refine wpList_len_g _ rfl (.tmp 12) rfl okS rfl HM1.out ?_; rw [HN.out])
      | (refine wpList_del_g (M := mkT) w3 rfl (.tmp 15) (.tmp 16) rfl okT rfl HMB.out d hd (show _ = Value.agg (bv d).toArray by rw [← HSQ.out]; rfl) ?_; intro w4 m1 m2 m3; have HM3 := Lib.hid m1; have HM4 := Lib.hid m2; clear m1 m2 m3))
    (try simp only [Exit.inBlock, Exit.then])
    refine bodyPost_end (results_none rfl _ _ _) rfl ?_
    have hFb : F b := (HT.out.foot b).2 (.inl rfl)
    have hg := HT.out.drop_last (w' := w4) (k := k) HX.out HQ.out.2.2 (fun g hg h1 h2 => (HM4.out.block g (Nat.lt_of_lt_of_le hg HM2.out.size) fun e => h2 (by injection e)).trans (HK3.out g hg h1)) HM3.out HN.out
    exact ⟨rfl, _, ⟨_, hg⟩, fun g hg => hg.1, ((Only.of_below (F := F) HB.out).trans (only_grown (F := F) HM2.out HBX.out.2.2.1) fun g hg => .inl hg).trans (only_grown (F := F) HM4.out hFb) fun g hg => .inl hg⟩
  · go_wp2_with (first
      | (refine wpList_load_mid rfl 26 (.tmp 4) rfl sb 0 rfl S (.array ns es) (range_of_blk HR1.out) HF.out.1 rfl HSS.out ?_)
      | (refine wpList_look_g _ rfl (.tmp 10) (.tmp 11) rfl okT rfl HMB.out d hd (show _ = Value.agg (bv d).toArray by rw [← HSQ.out]; rfl) (.map (some x)) HG.out ?_)
      | (refine wpList_len_g _ rfl (.tmp 12) rfl okS rfl HM1.out ?_; rw [HN.out]))
    (try simp only [Exit.inBlock, Exit.then])
    refine bodyPost_end (results_none rfl _ _ _) rfl ?_
    have hg := HT.out.drop_in HX.out HQ.out.2.2 HK3.out HM1.out (by rw [HN.out]; exact hn0)
    exact ⟨rfl, F, ⟨T, hg⟩, fun g hg => hg, (Only.of_below (F := F) HB.out).trans (only_grown (F := F) HM2.out HBX.out.2.2.1) fun g hg => .inl hg⟩
end Go.Proofs.YtoofhaoaogoomaaGreat
/- A key is taken out of the group of a shelf. No statement of the seat is proved here. -/
namespace Go.Proofs.YtoofhaoaogoomaaGreat
open Go Go.Maps Go.RowKit
set_option linter.unusedVariables false
set_option maxRecDepth 100000

set_option maxRecDepth 100000 in
set_option maxHeartbeats 4000000 in
theorem dropH_any (w : World) (b : Nat) (F : Nat → Prop) (R : Int → KeyT → Prop) (d : Int) (hd : In64 d) (k : KeyT) (hk : k.Ok) (h : Grp mkH w b F R) (hin : R d k) :
    Calls Tryz.prog 68 #[.map (some b), .int .i64 d, kv k] w fun e w' => e = .returned (.tuple #[]) ∧ ∃ F', Grp mkH w' b F' (fun d' k' => R d' k' ∧ (d' = d → ¬ k' = k)) ∧ (∀ g, F' g → F g) ∧ Only F w w' := by
  obtain ⟨T, hT⟩ := h
  obtain ⟨X, hX⟩ : ∃ X, kcs k = X := ⟨_, rfl⟩
  have hXl : X.length = 33 := by rw [← hX]; exact kcs_length hk
  obtain ⟨w2, hw2⟩ : ∃ w2, w.alloc (.cells X.toArray 29) = w2 := ⟨_, rfl⟩
  obtain ⟨sb, hsb⟩ : ∃ sb, w.heap.size = sb := ⟨_, rfl⟩
  have hbw : Below w.heap.size w w2 := hw2 ▸ (Below.refl _ _).alloc (Nat.le_refl _) _
  have hk2 : Blk w2 sb 29 X.toArray := by rw [← hsb, ← hw2]; exact Blk.new w _ _
  have hT2 := hT.keep fun g hg => hbw.block g (hT.lt g hg)
  have hs2 : w2.heap.size = sb + 1 := by rw [← hw2]; simp [hsb]
  have HXS := Lib.hid (show (Tryz.prog.info? 29).map (·.size) = some X.length from by rw [hXl]; exact key_size)
  obtain ⟨fk, hfk⟩ := key_desc'
  have HF := Lib.hid hfk
  have HW := Lib.hid (And.intro hw2 hsb)
  have HB := Lib.hid hbw
  have HK2 := Lib.hid hk2
  have HZ := Lib.hid hs2
  unfold kv
  rw [hX]
  obtain ⟨x, hx⟩ := hT2.all _ _ hin
  obtain ⟨K, q1, q2, q3⟩ := hT2.each _ hx
  obtain ⟨n, hn⟩ : ∃ n, (delM (us K) k).length = n := ⟨_, rfl⟩
  obtain ⟨b1, b2, b3, b4⟩ := hT2.blocks hx
  have HT := Lib.hid hT2
  have HM := Lib.hid hT2.map
  have HG := Lib.hid (show mkH.encV (getM mkH (tm T) d) = .map (some x) by rw [hT.get hx]; rfl)
  have HQ := Lib.hid (And.intro q1 (And.intro q2 q3))
  have HX := Lib.hid hx
  have HN := Lib.hid hn
  have HBX := Lib.hid (And.intro b1 (And.intro b2 (And.intro b3 (show x < sb from by
    rw [← hsb]; exact hT.lt x b3))))
  have HBB := Lib.hid (show b < sb by rw [← hsb]; exact hT.map.lt)
  have HXQ := Lib.hid (show X = kcs k from hX.symm)
  clear hT hT2 hX hXl hw2 hsb hk2 hbw q1 q2 q3 hx hfk hs2 hin hn b1 b2 b3 b4
  go_enter Tryz.func68, Tryz.ntmps68
  go_upto_region 1 with fail
  rw [HW.out.1, HW.out.2]
  go_upto_region 2 with (first
    | (refine wpList_load_mid rfl 29 (.tmp 5) rfl sb 0 rfl X (.struct fk) (range_of_blk HK2.out) HF.out rfl HXS.out ?_)
    | (refine wpList_look_g _ rfl (.tmp 6) (.tmp 7) rfl okH rfl HM.out d hd rfl (.map (some x)) HG.out ?_)
    | (refine wpList_del_g w2 rfl (.tmp 8) (.tmp 9) rfl okS rfl HQ.out.1 k hk (show _ = Value.agg (kcs k).toArray by rw [← HXQ.out]; rfl) ?_; intro w3 m1 m2 m3))
  have HM1 := Lib.hid m1
  have HM2 := Lib.hid m2
  have hk3 : ∀ g, g < w2.heap.size → g ≠ x → w3.heap[g]? = w2.heap[g]? := fun g hg hne => HM2.out.block g hg fun e => hne (by injection e)
  have HK3 := Lib.hid hk3
  have HMB := Lib.hid (show MapL mkH w3 b (tm T) from HM.out.blk (hk3 b (by have := HBB.out; rw [HZ.out]; omega) (fun e => HBX.out.1 e.symm)))
  clear m1 m2 m3 hk3
  by_cases hn0 : n = 0
  · subst hn0
    go_wp2_with (first
      | (refine wpList_look_g _ rfl (.tmp 10) (.tmp 11) rfl okH rfl HMB.out d hd rfl (.map (some x)) HG.out ?_)
      | (refine wpList_len_g _ rfl (.tmp 12) rfl okS rfl HM1.out ?_; rw [HN.out])
      | (refine wpList_del_g (M := mkH) w3 rfl (.tmp 15) (.tmp 16) rfl okH rfl HMB.out d hd rfl ?_; intro w4 m1 m2 m3; have HM3 := Lib.hid m1; have HM4 := Lib.hid m2; clear m1 m2 m3))
    (try simp only [Exit.inBlock, Exit.then])
    refine bodyPost_end (results_none rfl _ _ _) rfl ?_
    have hFb : F b := (HT.out.foot b).2 (.inl rfl)
    have hg := HT.out.drop_last (w' := w4) (k := k) HX.out HQ.out.2.2 (fun g hg h1 h2 => (HM4.out.block g (Nat.lt_of_lt_of_le hg HM2.out.size) fun e => h2 (by injection e)).trans (HK3.out g hg h1)) HM3.out HN.out
    exact ⟨rfl, _, ⟨_, hg⟩, fun g hg => hg.1, ((Only.of_below (F := F) HB.out).trans (only_grown (F := F) HM2.out HBX.out.2.2.1) fun g hg => .inl hg).trans (only_grown (F := F) HM4.out hFb) fun g hg => .inl hg⟩
  · go_wp2_with (first
      | (refine wpList_look_g _ rfl (.tmp 10) (.tmp 11) rfl okH rfl HMB.out d hd rfl (.map (some x)) HG.out ?_)
      | (refine wpList_len_g _ rfl (.tmp 12) rfl okS rfl HM1.out ?_; rw [HN.out]))
    (try simp only [Exit.inBlock, Exit.then])
    refine bodyPost_end (results_none rfl _ _ _) rfl ?_
    have hg := HT.out.drop_in HX.out HQ.out.2.2 HK3.out HM1.out (by rw [HN.out]; exact hn0)
    exact ⟨rfl, F, ⟨T, hg⟩, fun g hg => hg, (Only.of_below (F := F) HB.out).trans (only_grown (F := F) HM2.out HBX.out.2.2.1) fun g hg => .inl hg⟩
end Go.Proofs.YtoofhaoaogoomaaGreat
/- The landed index as a state; New, Len. No statement of the seat is proved here. -/
namespace Go.Proofs.YtoofhaoaogoomaaGreat
open Go Go.Maps Go.RowKit
set_option linter.unusedVariables false
set_option linter.unusedSimpArgs false
set_option maxRecDepth 100000

def RT (L : List RowT) (d : List UInt8) (k : KeyT) : Prop := k.1 = d ∧ ∃ p, (k, p) ∈ L
def RH (L : List RowT) (i : Int) (k : KeyT) : Prop := ∃ p : Int × Int, p.1 = i ∧ (k, p) ∈ L
/-- The index at block g, with its three maps. -/
structure IstB (w : World) (g bp bt bs : Nat) (FT FH : Nat → Prop) (L : List RowT) : Prop where
  blk : Blk w g 107 #[.map (some bp), .map (some bt), .map (some bs)]
  places : MapL mkP w bp L
  tw : Grp mkT w bt FT (RT L)
  sh : Grp mkH w bs FH (RH L)
  ok : RowsOk L
  far : ¬ FT bp ∧ ¬ FH bp ∧ (∀ x, FT x → ¬ FH x)
def IstF (g bp : Nat) (FT FH : Nat → Prop) (x : Nat) : Prop := x = g ∨ x = bp ∨ FT x ∨ FH x
def Ist (w : World) (s : Addr) (F : Nat → Prop) (L : List RowT) : Prop := ∃ g bp bt bs FT FH, s = ⟨g, 0, none⟩ ∧ (∀ x, F x ↔ IstF g bp FT FH x) ∧ IstB w g bp bt bs FT FH L
theorem Grp.lt {G : Type} {t k : TypeId} {M : MK Tryz.prog t k 128 G (Option Nat)} {w : World} {b : Nat} {F : Nat → Prop} {R : G → KeyT → Prop} (h : Grp M w b F R) : ∀ g, F g → g < w.heap.size := by
  obtain ⟨T, hT⟩ := h
  exact hT.lt
theorem Grp.keep {G : Type} {t k : TypeId} {M : MK Tryz.prog t k 128 G (Option Nat)} {w w' : World} {b : Nat} {F : Nat → Prop} {R : G → KeyT → Prop} (h : Grp M w b F R) (hk : ∀ g, F g → w'.heap[g]? = w.heap[g]?) : Grp M w' b F R := by
  obtain ⟨T, hT⟩ := h
  exact ⟨T, hT.keep hk⟩
theorem Grp.self {G : Type} {t k : TypeId} {M : MK Tryz.prog t k 128 G (Option Nat)} {w : World} {b : Nat} {F : Nat → Prop} {R : G → KeyT → Prop} (h : Grp M w b F R) : F b := by
  obtain ⟨T, hT⟩ := h
  exact (hT.foot b).2 (.inl rfl)
theorem Grp.rel {G : Type} {t k : TypeId} {M : MK Tryz.prog t k 128 G (Option Nat)} {w : World} {b : Nat} {F : Nat → Prop} {R R' : G → KeyT → Prop} (h : Grp M w b F R) (hr : ∀ d k, R d k ↔ R' d k) : Grp M w b F R' := by
  have : R = R' := by funext d k; exact propext (hr d k)
  rw [← this]; exact h
section
variable {w w' : World} {g bp bt bs : Nat} {FT FH : Nat → Prop} {L : List RowT}
theorem grp_ne_blk {G : Type} {t k : TypeId} {M : MK Tryz.prog t k 128 G (Option Nat)} {b : Nat} {F : Nat → Prop} {R : G → KeyT → Prop} {u : TypeId} {cs : Array Value} (h : Grp M w b F R) (hk : Blk w g u cs) : ¬ F g := by
  obtain ⟨T, hT⟩ := h
  intro hF
  rcases (hT.foot g).1 hF with rfl | hm
  · exact map_ne_blk hT.map hk rfl
  · obtain ⟨x, hx, rfl⟩ := List.mem_map.1 hm
    obtain ⟨K, k1, _⟩ := hT.each x hx
    exact map_ne_blk k1 hk rfl
theorem IstB.lt (h : IstB w g bp bt bs FT FH L) : ∀ x, IstF g bp FT FH x → x < w.heap.size := by
  rintro x (rfl | rfl | hx | hx)
  · exact h.blk.lt
  · exact h.places.lt
  · exact h.tw.lt x hx
  · exact h.sh.lt x hx
theorem IstB.keep (h : IstB w g bp bt bs FT FH L) (hk : ∀ x, IstF g bp FT FH x → w'.heap[x]? = w.heap[x]?) : IstB w' g bp bt bs FT FH L :=
  ⟨h.blk.same (hk g (.inl rfl)), h.places.blk (hk bp (.inr (.inl rfl))), h.tw.keep fun x hx => hk x (.inr (.inr (.inl hx))), h.sh.keep fun x hx => hk x (.inr (.inr (.inr hx))), h.ok, h.far⟩
theorem IstB.on (h : IstB w g bp bt bs FT FH L) (hb : Below w.heap.size w w') : IstB w' g bp bt bs FT FH L := h.keep fun x hx => hb.block x (h.lt x hx)
end
theorem Ist.lt {w : World} {s : Addr} {F : Nat → Prop} {L : List RowT} (h : Ist w s F L) : ∀ g, F g → g < w.heap.size := by
  obtain ⟨g, bp, bt, bs, FT, FH, _, hF, hi⟩ := h
  exact fun x hx => hi.lt x ((hF x).1 hx)
theorem Ist.keep {w w' : World} {s : Addr} {F : Nat → Prop} {L : List RowT} (h : Ist w s F L) (hk : ∀ g, F g → w'.heap[g]? = w.heap[g]?) : Ist w' s F L := by
  obtain ⟨g, bp, bt, bs, FT, FH, hs, hF, hi⟩ := h
  exact ⟨g, bp, bt, bs, FT, FH, hs, hF, hi.keep fun x hx => hk x ((hF x).2 hx)⟩
theorem Ist.ok {w : World} {s : Addr} {F : Nat → Prop} {L : List RowT} (h : Ist w s F L) : RowsOk L := by
  obtain ⟨g, bp, bt, bs, FT, FH, hs, hF, hi⟩ := h
  exact hi.ok
theorem grp_made {G : Type} {t k : TypeId} (M : MK Tryz.prog t k 128 G (Option Nat)) {w : World} {b : Nat} {R : G → KeyT → Prop} (h : MapL M w b []) (hR : ∀ d k, ¬ R d k) : Grp M w b (fun x => x = b) R :=
  ⟨[], h, by simp, by simp, by simp, fun d k h => absurd h (hR d k), fun x => by simp⟩
set_option maxRecDepth 100000 in
set_option maxHeartbeats 1000000 in
theorem new_any (w : World) : Calls Tryz.prog 29 #[] w fun e w' => ∃ s F, e = .returned (.pointer (some s)) ∧ Ist w' s F [] ∧ (∀ g, F g → w.heap.size ≤ g) ∧ Below w.heap.size w w' := by
  have hmm := @run_makeMap Tryz.prog
  obtain ⟨w1, hw1⟩ : ∃ w1, w.alloc (.map #[] 0) = w1 := ⟨_, rfl⟩
  obtain ⟨w2, hw2⟩ : ∃ w2, w1.alloc (.map #[] 0) = w2 := ⟨_, rfl⟩
  obtain ⟨w3, hw3⟩ : ∃ w3, w2.alloc (.map #[] 0) = w3 := ⟨_, rfl⟩
  obtain ⟨w4, hw4⟩ : ∃ w4, w3.alloc (.cells #[.map (some w.heap.size), .map (some w1.heap.size), .map (some w2.heap.size)] 107) = w4 := ⟨_, rfl⟩
  have hb1 : Below w.heap.size w w1 := hw1 ▸ (Below.refl _ _).alloc (Nat.le_refl _) _
  have hb2 : Below w1.heap.size w1 w2 := hw2 ▸ (Below.refl _ _).alloc (Nat.le_refl _) _
  have hb3 : Below w2.heap.size w2 w3 := hw3 ▸ (Below.refl _ _).alloc (Nat.le_refl _) _
  have hb4 : Below w3.heap.size w3 w4 := hw4 ▸ (Below.refl _ _).alloc (Nat.le_refl _) _
  have h1 : MapL mkP w1 w.heap.size [] := hw1 ▸ MapL.made mkP w
  have h2 : MapL mkT w2 w1.heap.size [] := hw2 ▸ MapL.made mkT w1
  have h3 : MapL mkH w3 w2.heap.size [] := hw3 ▸ MapL.made mkH w2
  have s1 : w1.heap.size = w.heap.size + 1 := by rw [← hw1]; simp
  have s2 : w2.heap.size = w.heap.size + 2 := by rw [← hw2]; simp [s1]
  have s3 : w3.heap.size = w.heap.size + 3 := by rw [← hw3]; simp [s2]
  have hi : IstB w4 w3.heap.size w.heap.size w1.heap.size w2.heap.size (fun x => x = w1.heap.size) (fun x => x = w2.heap.size) [] :=
    ⟨by rw [← hw4]; exact Blk.new _ _ _, h1.blk ((hb4.block _ (by omega)).trans ((hb3.block _ (by omega)).trans (hb2.block _ (by omega)))),
      grp_made mkT (h2.blk ((hb4.block _ (by omega)).trans (hb3.block _ (by omega)))) (fun d k h => by obtain ⟨_, _, h⟩ := h; cases h), grp_made mkH (h3.blk (hb4.block _ (by omega))) (fun d k h => by obtain ⟨_, _, h⟩ := h; cases h),
      RowsOk.nil, by omega, by omega, fun x e1 e2 => by omega⟩
  have HI := Lib.hid hi
  have HS := Lib.hid (And.intro s1 (And.intro s2 s3))
  have HB := Lib.hid (show Below w.heap.size w w4 from hb1.trans ((hb2.mono hb1.size).trans ((hb3.mono (by omega)).trans (hb4.mono (by omega)))))
  have HW := Lib.hid (And.intro hw1 (And.intro hw2 (And.intro hw3 hw4)))
  clear hi s1 s2 s3 hb1 hb2 hb3 hb4 h1 h2 h3 hw1 hw2 hw3 hw4
  go_enter Tryz.func29, Tryz.ntmps29
  go_wp2_with fail
  obtain ⟨e1, e2, e3, e4⟩ := HW.out
  obtain ⟨s1, s2, s3⟩ := HS.out
  rw [s1, s2] at e4
  rw [e1, e2, e3, show w.heap.size + 1 + 1 = w.heap.size + 2 from rfl, e4]
  go_ret
  refine ⟨⟨w.heap.size + 3, 0, none⟩, _, rfl, ⟨w3.heap.size, _, _, _, _, _, by rw [s3], fun x => Iff.rfl, HI.out⟩, ?_, HB.out⟩
  rintro x (rfl | rfl | rfl | rfl) <;> omega
set_option maxRecDepth 100000 in
set_option maxHeartbeats 1000000 in
theorem len_any (w : World) (s : Addr) (F : Nat → Prop) (L : List RowT) (h : Ist w s F L) : Calls Tryz.prog 53 #[.pointer (some s)] w fun e w' => e = .returned (.int .i64 (L.length : Nat)) ∧ Below w.heap.size w w' := by
  obtain ⟨g, bp, bt, bs, FT, FH, rfl, hF, hi⟩ := h
  have c0 : w.cell? ⟨g, 0, none⟩ = some (.map (some bp)) := hi.blk.cell 0
  have HP := Lib.hid hi.places
  clear hi hF
  go_enter Tryz.func53, Tryz.ntmps53
  go_wp2_with (refine wpList_len_g _ rfl (.tmp 8) rfl okP rfl HP.out ?_)
  go_ret
  exact ⟨rfl, Below.refl _ _⟩
end Go.Proofs.YtoofhaoaogoomaaGreat
