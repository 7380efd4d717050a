/- IndexNil's walk, told from what the package does. No statement of the seat is proved here. -/
import Derived.Test.YteieaindejcfbaaIxShown
import Derived.Test.YteieaindejcfbaaMidWant
namespace Go.Proofs.Yteieaindejcfbaa
open Go.RowKit
set_option linter.unusedVariables false
set_option linter.unusedSimpArgs false

theorem sum_desc : ∃ n e, Try.prog.underlying 24 = some (.array n e) := ⟨_, _, Try.underlying24⟩
theorem sum_size : (Try.prog.info? 24).map (·.size) = some 32 := by kernel_rfl
theorem range_sum {w : World} {g o : Nat} {k : KeyT} (h : w.rangeAt g o (kcs k)) : w.rangeAt g o (bv k.1) := fun j u hu => h j u (by
  have hj := (List.getElem?_eq_some_iff.1 hu).1
  unfold kcs
  rw [List.getElem?_append_left hj]
  exact hu)
section
variable {It : World → Addr → (Nat → Prop) → List RowT → Prop}
set_option maxRecDepth 100000 in
set_option maxHeartbeats 4000000 in
theorem nil_walk (K : IndexesOk It) (Z : IndexNilOk) (k : KeyT) (hk : KeyT.Ok k) (p : Int × Int) (hp : PlOk p) (w : World) :
    Calls Try.prog 6 #[kv k, pv p] w fun e w' => e = .returned (.bool true) ∧ Below w.heap.size w w' := by
  obtain ⟨X, hX⟩ : ∃ X, kcs k = X := ⟨_, rfl⟩
  obtain ⟨Y, hY⟩ : ∃ Y, bv k.1 = Y := ⟨_, rfl⟩
  have hXl : X.length = 33 := by rw [← hX]; exact kcs_length hk
  have hYl : Y.length = 32 := by rw [← hY, bv_length]; exact hk.1
  have KP := Lib.hid (fun W => Z.put k p W hk hp)
  have KG := Lib.hid (fun W => Z.get k W hk)
  have KD := Lib.hid (fun W => Z.drop k W hk)
  have KT := Lib.hid (fun W => Z.twins k.1 W hk.1)
  have KS := Lib.hid (fun W => Z.shelf p.1 W hp.1)
  unfold kv pv
  unfold kv pv at KP
  unfold kv pv at KG
  unfold kv at KD
  rw [hX] at KP KG KD ⊢
  rw [hY] at KT
  obtain ⟨w1, hw1⟩ : ∃ w1, w.alloc (.cells X.toArray 27) = w1 := ⟨_, rfl⟩
  obtain ⟨kb, hkb⟩ : ∃ kb, w.heap.size = kb := ⟨_, rfl⟩
  have hb1 : Below w.heap.size w w1 := hw1 ▸ (Below.refl _ _).alloc (Nat.le_refl _) _
  have hk1 : Blk w1 kb 27 X.toArray := by rw [← hw1, ← hkb]; exact Blk.new w _ _
  obtain ⟨w2, hw2⟩ : ∃ w2, w1.alloc (.cells (pvs p).toArray 37) = w2 := ⟨_, rfl⟩
  obtain ⟨pb, hpb⟩ : ∃ pb, w1.heap.size = pb := ⟨_, rfl⟩
  have hb2 : Below w1.heap.size w1 w2 := hw2 ▸ (Below.refl _ _).alloc (Nat.le_refl _) _
  have hk2 : Blk w2 pb 37 (pvs p).toArray := by rw [← hw2, ← hpb]; exact Blk.new w1 _ _
  have HB := Lib.hid (show ∀ W, Below w2.heap.size w2 W → (W.rangeAt kb 0 X ∧ W.rangeAt kb 0 Y) ∧ Blk W pb 37 (pvs p).toArray ∧ Below w.heap.size w W from fun W hW => by
    have h1 := (hk1.below hb2 hk1.lt).below hW (hk1.below hb2 hk1.lt).lt
    refine ⟨⟨range_of_blk h1, ?_⟩, hk2.below hW hk2.lt, (hb1.trans (hb2.mono hb1.size)).trans (hW.mono (hb1.trans (hb2.mono hb1.size)).size)⟩
    rw [← hY]
    exact range_sum (by rw [hX]; exact range_of_blk h1))
  have HW := Lib.hid (And.intro (And.intro hw1 hkb) (And.intro hw2 (show kb + 1 = pb by rw [← hkb, ← hpb, ← hw1]; simp)))
  have HKS := Lib.hid (show (Try.prog.info? 27).map (·.size) = some X.length from by rw [hXl]; exact key_size)
  have HSS := Lib.hid (show (Try.prog.info? 24).map (·.size) = some Y.length from by rw [hYl]; exact sum_size)
  obtain ⟨fs, hfs⟩ := key_desc
  obtain ⟨an, ae, hsd⟩ := sum_desc
  have HF := Lib.hid (And.intro hfs hsd)
  clear hX hY hXl hYl hw1 hkb hb1 hk1 hw2 hpb hb2 hk2 hfs hsd
  obtain ⟨p1, p2⟩ := p
  unfold pvs at *
  simp only at *
  go_enter Try.func6, Try.ntmps6
  go_upto_region 1 with fail
  rw [HW.out.1.1, HW.out.1.2, HW.out.2.1, HW.out.2.2]
  have R := Lib.hid (HB.out _ (Below.refl _ _))
  go_wp2_with (first | refine wpList_mid_want (by rfl) 27 (.tmp 2) rfl kb 0 rfl X (.struct fs) R.out.1.1 HF.out.1 rfl HKS.out ?_ | refine wpList_mid_want (by rfl) 24 (.tmp 34) rfl kb 0 rfl Y (.array an ae) R.out.1.2 HF.out.2 rfl HSS.out ?_)
  refine (KG.out w2).mono ?_
  rintro e w3 ⟨rfl, hb3⟩
  have hb4 := hb3.trans ((show Below w3.heap.size w3 (w3.alloc (.cells #[.int .i64 0, .int .i64 0] 37)) from (Below.refl _ _).alloc (Nat.le_refl _) _).mono hb3.size)
  obtain ⟨w4, hw4⟩ : ∃ w4, w3.alloc (.cells #[.int .i64 0, .int .i64 0] 37) = w4 := ⟨_, rfl⟩
  rw [hw4] at hb4
  have HW4 := Lib.hid hw4
  have H4 := Lib.hid hb4
  clear hb3 hb4 hw4 R
  go_upto_region 3 with fail
  rw [HW4.out]
  go_wp2_with fail
  refine (shown_any K w4).mono ?_
  rintro e w5 ⟨rfl, h5⟩
  have H5 := Lib.hid (H4.out.trans (h5.mono H4.out.size))
  have R := Lib.hid (HB.out _ H5.out)
  have hp0 := R.out.2.1.cell 0
  have hp1 := R.out.2.1.cell 1
  clear h5
  go_wp2_with (first | refine wpList_mid_want (by rfl) 27 (.tmp 2) rfl kb 0 rfl X (.struct fs) R.out.1.1 HF.out.1 rfl HKS.out ?_ | refine wpList_mid_want (by rfl) 24 (.tmp 34) rfl kb 0 rfl Y (.array an ae) R.out.1.2 HF.out.2 rfl HSS.out ?_)
  refine (KP.out w5).mono ?_
  rintro e w6 ⟨rfl, h6⟩
  have H6 := Lib.hid (H5.out.trans (h6.mono H5.out.size))
  clear h6 R hp0 hp1
  have R := Lib.hid (HB.out _ H6.out)
  go_wp2_with (first | refine wpList_mid_want (by rfl) 27 (.tmp 2) rfl kb 0 rfl X (.struct fs) R.out.1.1 HF.out.1 rfl HKS.out ?_ | refine wpList_mid_want (by rfl) 24 (.tmp 34) rfl kb 0 rfl Y (.array an ae) R.out.1.2 HF.out.2 rfl HSS.out ?_)
  refine (KD.out w6).mono ?_
  rintro e w7 ⟨rfl, h7⟩
  have H7 := Lib.hid (H6.out.trans (h7.mono H6.out.size))
  clear h7 R
  have R := Lib.hid (HB.out _ H7.out)
  go_wp2_with (first | refine wpList_mid_want (by rfl) 27 (.tmp 2) rfl kb 0 rfl X (.struct fs) R.out.1.1 HF.out.1 rfl HKS.out ?_ | refine wpList_mid_want (by rfl) 24 (.tmp 34) rfl kb 0 rfl Y (.array an ae) R.out.1.2 HF.out.2 rfl HSS.out ?_)
  refine (KT.out w7).mono ?_
  rintro e w8 ⟨⟨A8, c8, rfl⟩, h8⟩
  have H8 := Lib.hid (H7.out.trans (h8.mono H7.out.size))
  clear h8 R
  have R := Lib.hid (HB.out _ H8.out)
  have hp0 := R.out.2.1.cell 0
  go_wp2_with fail
  refine (KS.out w8).mono ?_
  rintro e w9 ⟨⟨A9, c9, rfl⟩, h9⟩
  have H9 := Lib.hid (H8.out.trans (h9.mono H8.out.size))
  clear h9 R hp0
  go_wp2_with fail
  refine (Z.len w9).mono ?_
  rintro e w10 ⟨rfl, h10⟩
  have H10 := Lib.hid (H9.out.trans (h10.mono H9.out.size))
  clear h10
  go_wp2_with fail
  refine (Z.all w10).mono ?_
  rintro e w11 ⟨⟨A11, c11, rfl⟩, h11⟩
  have H11 := Lib.hid (HB.out _ (H10.out.trans (h11.mono H10.out.size)))
  clear h11
  go_wp2_with fail
  go_ret
  exact ⟨rfl, H11.out.2.2⟩
end
end Go.Proofs.Yteieaindejcfbaa
