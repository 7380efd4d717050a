/- FindTwins' walk, told from what the package does (written by gen/gen_fdtwins.py). No statement of the seat is proved here. -/
import Derived.Test.YtoofhaoaogoomaaZMAF
import Derived.Test.YtoofhaoaogoomaaZMAG
import Derived.Test.YtoofhaoaogoomaaZMAH
import Derived.Test.YtoofhaoaogoomaaYMid
import Derived.Test.YtoofhaoaogoomaaZMAC
import Derived.Deep.RegionHeld
import Derived.Laws.Bits64
namespace Go.Proofs.Ytoofhaoaogoomaa
open Go.RowKit
set_option linter.unusedVariables false
set_option linter.unusedSimpArgs false

theorem below_setRow {B : Nat} {w W : World} {d : Nat} {cs : Array Value} (h : Below B w W) (hd : B ≤ d) : Below B w (W.setRow d cs) :=
  ⟨h.os, h.tape, h.output, by simpa [World.setRow] using h.size, fun k hk => (setRow_other _ _ _ _ (by omega)).trans (h.block k hk)⟩
theorem hws_one (a b c : Int) : (hws a b c).toArray.all (·.oneCell') = true := by
  simp
  exact ⟨rfl, rfl, rfl⟩
theorem xor_d (a b : Nat) (ha : a < 18446744073709551616) (hb : b < 18446744073709551616) : ∃ d : Nat, bits .xor .u64 (a : Int) (b : Int) = (d : Int) ∧ d < 18446744073709551616 :=
  ⟨a ^^^ b, bits_xor_u64_nat a b ha hb, by
    have := Nat.xor_lt_two_pow (n := 64) (x := a) (y := b) (by omega) (by omega)
    omega⟩
abbrev hz : Array Value := #[.int .i64 0, .int .i64 0, .int .i64 0]
section
variable {Ft : World → Addr → (Nat → Prop) → FS → Prop}
set_option maxRecDepth 100000 in
set_option maxHeartbeats 20000000 in
theorem twins_walk (K : FindersOk Ft) (qa qb qc ra rb rc : Int) (hqa : In64 qa) (hqb : In64 qb) (hqc : In64 qc) (hra : In64 ra) (hrb : In64 rb) (hrc : In64 rc) (A : Option Addr) (n c : Nat) (ls : List FAct) (hl : ls.length = n) (hc : n ≤ c) (hm : c ≤ maxLen) (dd : Nat) (hdd : dd < 18446744073709551616) (w : World) (hr : RdF w w.heap.size A ls) :
    Calls Try.prog 4 #[.agg (hws qa qb qc).toArray, .agg (hws ra rb rc).toArray, .slice A n c, .int .u64 dd] w fun e w' => e = .returned (.bool true) ∧ Below w.heap.size w w' := by
  obtain ⟨fs, hfs⟩ := key_desc
  obtain ⟨fp, hfp⟩ := place_desc
  obtain ⟨fa, hfa⟩ := fact_desc
  obtain ⟨fh, hfh⟩ := how_desc
  have HF := Lib.hid (And.intro hfs (And.intro hfp (And.intro hfa hfh)))
  have HLS := Lib.hid (And.intro hl hr)
  obtain ⟨w0, hw0⟩ : ∃ w0, w.alloc (.cells (hws qa qb qc).toArray 23) = w0 := ⟨_, rfl⟩
  obtain ⟨w1, hw1⟩ : ∃ w1, w0.alloc (.cells (hws ra rb rc).toArray 23) = w1 := ⟨_, rfl⟩
  obtain ⟨hb, hhb⟩ : ∃ hb, w.heap.size = hb := ⟨_, rfl⟩
  have hs0 : w0.heap.size = hb + 1 := by rw [← hw0, ← hhb]; simp
  have hb0 : Below w.heap.size w w0 := hw0 ▸ (Below.refl _ _).alloc (Nat.le_refl _) _
  have hb01 : Below w0.heap.size w0 w1 := hw1 ▸ (Below.refl _ _).alloc (Nat.le_refl _) _
  have hb1 : Below w.heap.size w w1 := hb0.trans (hb01.mono hb0.size)
  have hk1 : Blk w1 hb 23 (hws qa qb qc).toArray := by rw [← hhb]; exact (hw0 ▸ Blk.new w _ _ : Blk w0 w.heap.size _ _).below hb01 (by rw [hs0, hhb]; omega)
  have hk2 : Blk w1 (hb + 1) 23 (hws ra rb rc).toArray := by rw [← hs0, ← hw1]; exact Blk.new w0 _ _
  have HW1 := Lib.hid (And.intro hw0 (And.intro hw1 (And.intro hhb (And.intro hs0 (And.intro hb1 (And.intro hk1 hk2))))))
  have HHS := Lib.hid (show ∀ a b c : Int, (Try.prog.info? 23).map (·.size) = some (hws a b c).length from fun _ _ _ => how_size)
  have KS := Lib.hid (shown_any K w1)
  have KR1 := fun W => Lib.hid (right_any qa qb qc hqa hqb hqc W)
  have KR2 := fun W => Lib.hid (right_any ra rb rc hra hrb hrc W)
  clear hfs hfp hfa hfh hl hr hw0 hw1 hhb hs0 hb0 hb01 hb1 hk1 hk2
  go_enter Try.func4, Try.ntmps4
  go_upto_region 1 with fail
  rw [HW1.out.1, HW1.out.2.2.1, HW1.out.2.1]
  go_wp2_with fail
  refine KS.out.mono ?_
  rintro e w2 ⟨rfl, hb2⟩
  have HB2 := Lib.hid (HW1.out.2.2.2.2.1.trans (hb2.mono HW1.out.2.2.2.2.1.size))
  have HR1 := Lib.hid (show ∀ W, Below w2.heap.size w2 W → W.rangeAt hb 0 (hws qa qb qc) from fun W hW => range_of_blk (HW1.out.2.2.2.2.2.1.below (hb2.trans (hW.mono hb2.size)) HW1.out.2.2.2.2.2.1.lt))
  have HR2 := Lib.hid (show ∀ W, Below w2.heap.size w2 W → W.rangeAt (hb + 1) 0 (hws ra rb rc) from fun W hW => range_of_blk (HW1.out.2.2.2.2.2.2.below (hb2.trans (hW.mono hb2.size)) HW1.out.2.2.2.2.2.2.lt))
  clear hb2 KS
  go_upto_region 2 with fail
  go_cut [10, 11] from 23 (fun u v wx => ∃ (g1 g2 x1 y1 z1 x2 y2 z2 : Nat), u = .pointer (some ⟨g1, 0, none⟩) ∧ v = .pointer (some ⟨g2, 0, none⟩) ∧ x1 ≤ 2000 ∧ y1 ≤ 30 ∧ z1 ≤ 19 ∧ x2 ≤ 2000 ∧ y2 ≤ 30 ∧ z2 ≤ 19 ∧ Hid (Blk wx g1 23 (hws x1 y1 z1).toArray ∧ Blk wx g2 23 (hws x2 y2 z2).toArray ∧ Below w2.heap.size w2 wx))
  case first =>
    have b0 : Below w2.heap.size w2 w2.drew := ⟨rfl, rfl, rfl, Nat.le_refl _, fun _ _ => rfl⟩
    refine wp_region_held_drew (S := fun W => Below w2.heap.size w2 W) (by kernel_rfl) b0 (fun hHeld => ?_)
    refine wpAnyH_take (i := 0) (oi := _) (v := .agg (hws qa qb qc).toArray) rfl (by kernel_rfl) (by kernel_rfl) (by kernel_rfl) (fun _ _ _ h => h) (yields_mid (by rfl) 23 (.tmp 4) rfl hb 0 rfl (hws qa qb qc) (.struct fh) (fun W hW => HR1.out W hW) HF.out.2.2.2 rfl (HHS.out _ _ _)) b0 ?_
    simp only [List.getElem_toArray, List.getElem_cons_zero, List.getElem_cons_succ, Act.put, List.setIfInBounds_toArray, List.set_cons_zero, List.set_cons_succ]
    refine wpAnyH_take (i := 2) (oi := _) (v := .agg (hws ra rb rc).toArray) rfl (by kernel_rfl) (by kernel_rfl) (by kernel_rfl) (fun _ _ _ h => h) (yields_mid (by rfl) 23 (.tmp 5) rfl (hb + 1) 0 rfl (hws ra rb rc) (.struct fh) (fun W hW => HR2.out W hW) HF.out.2.2.2 rfl (HHS.out _ _ _)) b0 ?_
    simp only [List.getElem_toArray, List.getElem_cons_zero, List.getElem_cons_succ, Act.put, List.setIfInBounds_toArray, List.set_cons_zero, List.set_cons_succ]
    obtain ⟨W0, hW0⟩ : ∃ W0, w2.drew = W0 := ⟨_, rfl⟩
    rw [hW0] at b0 ⊢
    have B0 := Lib.hid b0
    clear b0 hHeld hW0
    refine wpAnyH_ready (rs := [1, 4, 5]) (by kernel_rfl) (by simp) ?_
    refine AllReadyH.cons rfl (fun K hK => ?_) (AllReadyH.cons rfl (fun K hK => ?_) (AllReadyH.cons rfl (fun K hK => ?_) AllReadyH.nil))
    · go_simp
      refine (KR1 W0).out.mono ?_
      rintro e W1 ⟨x1, y1, z1, hx1, hy1, hz1, rfl, hbs⟩
      have B1 := Lib.hid (B0.out.trans (hbs.mono B0.out.size))
      have C1 := Lib.hid (And.intro hx1 (And.intro hy1 hz1))
      clear hbs hx1 hy1 hz1
      go_wp2_with fail
      refine hK.out _ _ B1.out (fun _ => ?_)
      clear hK K
      try simp only [List.getElem_toArray, List.getElem_cons_zero, List.getElem_cons_succ, Act.put, List.setIfInBounds_toArray, List.set_cons_zero, List.set_cons_succ]
      refine wpAnyH_ready (rs := [3, 4, 5]) (by kernel_rfl) (by simp) ?_
      refine AllReadyH.cons rfl (fun K hK => ?_) (AllReadyH.cons rfl (fun K hK => ?_) (AllReadyH.cons rfl (fun K hK => ?_) AllReadyH.nil))
      · go_simp
        refine (KR2 W1).out.mono ?_
        rintro e W2 ⟨x2, y2, z2, hx2, hy2, hz2, rfl, hbs⟩
        have B2 := Lib.hid (B1.out.trans (hbs.mono B1.out.size))
        have C2 := Lib.hid (And.intro hx2 (And.intro hy2 hz2))
        clear hbs hx2 hy2 hz2
        go_wp2_with fail
        refine hK.out _ _ B2.out (fun _ => ?_)
        clear hK K
        try simp only [List.getElem_toArray, List.getElem_cons_zero, List.getElem_cons_succ, Act.put, List.setIfInBounds_toArray, List.set_cons_zero, List.set_cons_succ]
        refine wpAnyH_ready (rs := [4, 5]) (by kernel_rfl) (by simp) ?_
        refine AllReadyH.cons rfl (fun K hK => ?_) (AllReadyH.cons rfl (fun K hK => ?_) AllReadyH.nil)
        · go_simp
          obtain ⟨W3, hW⟩ : ∃ W, W2.alloc (.cells hz 23) = W := ⟨_, rfl⟩
          obtain ⟨g4, hg4⟩ : ∃ g, W2.heap.size = g := ⟨_, rfl⟩
          have hbs : Below W2.heap.size W2 W3 := hW ▸ (Below.refl _ _).alloc (Nat.le_refl _) _
          have B3 := Lib.hid (B2.out.trans (hbs.mono B2.out.size))
          have G4 := Lib.hid (show Blk W3 g4 23 hz from by rw [← hW, ← hg4]; exact Blk.new W2 _ _)
          have GB4 := Lib.hid (show w2.heap.size ≤ g4 from by rw [← hg4]; exact B2.out.size)
          rw [hW, hg4]
          clear hbs hW hg4
          refine hK.out _ _ B3.out (fun _ => ?_)
          clear hK K
          try simp only [List.getElem_toArray, List.getElem_cons_zero, List.getElem_cons_succ, Act.put, List.setIfInBounds_toArray, List.set_cons_zero, List.set_cons_succ]
          refine wpAnyH_ready (rs := [5]) (by kernel_rfl) (by simp) ?_
          refine AllReadyH.cons rfl (fun K hK => ?_) AllReadyH.nil
          · go_simp
            obtain ⟨W4, hW⟩ : ∃ W, W3.alloc (.cells hz 23) = W := ⟨_, rfl⟩
            obtain ⟨g5, hg5⟩ : ∃ g, W3.heap.size = g := ⟨_, rfl⟩
            have hbs : Below W3.heap.size W3 W4 := hW ▸ (Below.refl _ _).alloc (Nat.le_refl _) _
            have NE := Lib.hid (show g4 ≠ g5 from fun e => by have := G4.out.lt; omega)
            have B4 := Lib.hid (B3.out.trans (hbs.mono B3.out.size))
            have G4 := Lib.hid (G4.out.below hbs G4.out.lt)
            have G5 := Lib.hid (show Blk W4 g5 23 hz from by rw [← hW, ← hg5]; exact Blk.new W3 _ _)
            have GB5 := Lib.hid (show w2.heap.size ≤ g5 from by rw [← hg5]; exact B3.out.size)
            rw [hW, hg5]
            clear hbs hW hg5
            refine hK.out _ _ B4.out (fun _ => ?_)
            clear hK K
            try simp only [List.getElem_toArray, List.getElem_cons_zero, List.getElem_cons_succ, Act.put, List.setIfInBounds_toArray, List.set_cons_zero, List.set_cons_succ]
            refine wpAnyH_ready (rs := [6]) (by kernel_rfl) (by simp) ?_
            refine AllReadyH.cons rfl (fun K hK => ?_) AllReadyH.nil
            refine wp_store_row 23 (.tmp 10) (.tmp 24) rfl g4 (hws x1 y1 z1).toArray rfl rfl 23 hz G4.out how_size rfl (hws_one _ _ _) ?_
            have S6 := Lib.hid (show Below w2.heap.size w2 (W4.setRow g4 (hws x1 y1 z1).toArray) ∧ Blk (W4.setRow g4 (hws x1 y1 z1).toArray) g4 23 (hws x1 y1 z1).toArray ∧ Blk (W4.setRow g4 (hws x1 y1 z1).toArray) g5 23 hz from ⟨below_setRow B4.out GB4.out, setRow_heap _ _ _ _ _ _ G4.out, G5.out.same (setRow_other _ _ _ _ fun e => NE.out e.symm)⟩)
            obtain ⟨V6, hV6⟩ : ∃ V, W4.setRow g4 (hws x1 y1 z1).toArray = V := ⟨_, rfl⟩
            rw [hV6] at S6 ⊢
            refine hK.out _ _ S6.out.1 (fun _ => ?_)
            clear hK K
            try simp only [List.getElem_toArray, List.getElem_cons_zero, List.getElem_cons_succ, Act.put, List.setIfInBounds_toArray, List.set_cons_zero, List.set_cons_succ]
            refine wpAnyH_ready (rs := [7]) (by kernel_rfl) (by simp) ?_
            refine AllReadyH.cons rfl (fun K hK => ?_) AllReadyH.nil
            refine wp_store_row 23 (.tmp 11) (.tmp 26) rfl g5 (hws x2 y2 z2).toArray rfl rfl 23 hz S6.out.2.2 how_size rfl (hws_one _ _ _) ?_
            have S7 := Lib.hid (show Blk (V6.setRow g5 (hws x2 y2 z2).toArray) g4 23 (hws x1 y1 z1).toArray ∧ Blk (V6.setRow g5 (hws x2 y2 z2).toArray) g5 23 (hws x2 y2 z2).toArray ∧ Below w2.heap.size w2 (V6.setRow g5 (hws x2 y2 z2).toArray) from ⟨S6.out.2.1.same (setRow_other _ _ _ _ NE.out), setRow_heap _ _ _ _ _ _ S6.out.2.2, below_setRow S6.out.1 GB5.out⟩)
            refine hK.out _ _ S7.out.2.2 (fun _ => ?_)
            clear hK K
            try simp only [List.getElem_toArray, List.getElem_cons_zero, List.getElem_cons_succ, Act.put, List.setIfInBounds_toArray, List.set_cons_zero, List.set_cons_succ]
            refine wpAnyH_done (by kernel_rfl) ?_ _
            go_wp2_with fail
            go_meet
            exact ⟨g4, g5, x1, y1, z1, x2, y2, z2, rfl, rfl, C1.out.1, C1.out.2.1, C1.out.2.2, C2.out.1, C2.out.2.1, C2.out.2.2, S7⟩
        · go_simp
          obtain ⟨W3, hW⟩ : ∃ W, W2.alloc (.cells hz 23) = W := ⟨_, rfl⟩
          obtain ⟨g5, hg5⟩ : ∃ g, W2.heap.size = g := ⟨_, rfl⟩
          have hbs : Below W2.heap.size W2 W3 := hW ▸ (Below.refl _ _).alloc (Nat.le_refl _) _
          have B3 := Lib.hid (B2.out.trans (hbs.mono B2.out.size))
          have G5 := Lib.hid (show Blk W3 g5 23 hz from by rw [← hW, ← hg5]; exact Blk.new W2 _ _)
          have GB5 := Lib.hid (show w2.heap.size ≤ g5 from by rw [← hg5]; exact B2.out.size)
          rw [hW, hg5]
          clear hbs hW hg5
          refine hK.out _ _ B3.out (fun _ => ?_)
          clear hK K
          try simp only [List.getElem_toArray, List.getElem_cons_zero, List.getElem_cons_succ, Act.put, List.setIfInBounds_toArray, List.set_cons_zero, List.set_cons_succ]
          refine wpAnyH_ready (rs := [4]) (by kernel_rfl) (by simp) ?_
          refine AllReadyH.cons rfl (fun K hK => ?_) AllReadyH.nil
          · go_simp
            obtain ⟨W4, hW⟩ : ∃ W, W3.alloc (.cells hz 23) = W := ⟨_, rfl⟩
            obtain ⟨g4, hg4⟩ : ∃ g, W3.heap.size = g := ⟨_, rfl⟩
            have hbs : Below W3.heap.size W3 W4 := hW ▸ (Below.refl _ _).alloc (Nat.le_refl _) _
            have NE := Lib.hid (show g5 ≠ g4 from fun e => by have := G5.out.lt; omega)
            have B4 := Lib.hid (B3.out.trans (hbs.mono B3.out.size))
            have G5 := Lib.hid (G5.out.below hbs G5.out.lt)
            have G4 := Lib.hid (show Blk W4 g4 23 hz from by rw [← hW, ← hg4]; exact Blk.new W3 _ _)
            have GB4 := Lib.hid (show w2.heap.size ≤ g4 from by rw [← hg4]; exact B3.out.size)
            rw [hW, hg4]
            clear hbs hW hg4
            refine hK.out _ _ B4.out (fun _ => ?_)
            clear hK K
            try simp only [List.getElem_toArray, List.getElem_cons_zero, List.getElem_cons_succ, Act.put, List.setIfInBounds_toArray, List.set_cons_zero, List.set_cons_succ]
            refine wpAnyH_ready (rs := [6]) (by kernel_rfl) (by simp) ?_
            refine AllReadyH.cons rfl (fun K hK => ?_) AllReadyH.nil
            refine wp_store_row 23 (.tmp 10) (.tmp 24) rfl g4 (hws x1 y1 z1).toArray rfl rfl 23 hz G4.out how_size rfl (hws_one _ _ _) ?_
            have S6 := Lib.hid (show Below w2.heap.size w2 (W4.setRow g4 (hws x1 y1 z1).toArray) ∧ Blk (W4.setRow g4 (hws x1 y1 z1).toArray) g4 23 (hws x1 y1 z1).toArray ∧ Blk (W4.setRow g4 (hws x1 y1 z1).toArray) g5 23 hz from ⟨below_setRow B4.out GB4.out, setRow_heap _ _ _ _ _ _ G4.out, G5.out.same (setRow_other _ _ _ _ fun e => NE.out.symm e.symm)⟩)
            obtain ⟨V6, hV6⟩ : ∃ V, W4.setRow g4 (hws x1 y1 z1).toArray = V := ⟨_, rfl⟩
            rw [hV6] at S6 ⊢
            refine hK.out _ _ S6.out.1 (fun _ => ?_)
            clear hK K
            try simp only [List.getElem_toArray, List.getElem_cons_zero, List.getElem_cons_succ, Act.put, List.setIfInBounds_toArray, List.set_cons_zero, List.set_cons_succ]
            refine wpAnyH_ready (rs := [7]) (by kernel_rfl) (by simp) ?_
            refine AllReadyH.cons rfl (fun K hK => ?_) AllReadyH.nil
            refine wp_store_row 23 (.tmp 11) (.tmp 26) rfl g5 (hws x2 y2 z2).toArray rfl rfl 23 hz S6.out.2.2 how_size rfl (hws_one _ _ _) ?_
            have S7 := Lib.hid (show Blk (V6.setRow g5 (hws x2 y2 z2).toArray) g4 23 (hws x1 y1 z1).toArray ∧ Blk (V6.setRow g5 (hws x2 y2 z2).toArray) g5 23 (hws x2 y2 z2).toArray ∧ Below w2.heap.size w2 (V6.setRow g5 (hws x2 y2 z2).toArray) from ⟨S6.out.2.1.same (setRow_other _ _ _ _ NE.out.symm), setRow_heap _ _ _ _ _ _ S6.out.2.2, below_setRow S6.out.1 GB5.out⟩)
            refine hK.out _ _ S7.out.2.2 (fun _ => ?_)
            clear hK K
            try simp only [List.getElem_toArray, List.getElem_cons_zero, List.getElem_cons_succ, Act.put, List.setIfInBounds_toArray, List.set_cons_zero, List.set_cons_succ]
            refine wpAnyH_done (by kernel_rfl) ?_ _
            go_wp2_with fail
            go_meet
            exact ⟨g4, g5, x1, y1, z1, x2, y2, z2, rfl, rfl, C1.out.1, C1.out.2.1, C1.out.2.2, C2.out.1, C2.out.2.1, C2.out.2.2, S7⟩
      · go_simp
        obtain ⟨W2, hW⟩ : ∃ W, W1.alloc (.cells hz 23) = W := ⟨_, rfl⟩
        obtain ⟨g4, hg4⟩ : ∃ g, W1.heap.size = g := ⟨_, rfl⟩
        have hbs : Below W1.heap.size W1 W2 := hW ▸ (Below.refl _ _).alloc (Nat.le_refl _) _
        have B2 := Lib.hid (B1.out.trans (hbs.mono B1.out.size))
        have G4 := Lib.hid (show Blk W2 g4 23 hz from by rw [← hW, ← hg4]; exact Blk.new W1 _ _)
        have GB4 := Lib.hid (show w2.heap.size ≤ g4 from by rw [← hg4]; exact B1.out.size)
        rw [hW, hg4]
        clear hbs hW hg4
        refine hK.out _ _ B2.out (fun _ => ?_)
        clear hK K
        try simp only [List.getElem_toArray, List.getElem_cons_zero, List.getElem_cons_succ, Act.put, List.setIfInBounds_toArray, List.set_cons_zero, List.set_cons_succ]
        refine wpAnyH_ready (rs := [3, 5]) (by kernel_rfl) (by simp) ?_
        refine AllReadyH.cons rfl (fun K hK => ?_) (AllReadyH.cons rfl (fun K hK => ?_) AllReadyH.nil)
        · go_simp
          refine (KR2 W2).out.mono ?_
          rintro e W3 ⟨x2, y2, z2, hx2, hy2, hz2, rfl, hbs⟩
          have B3 := Lib.hid (B2.out.trans (hbs.mono B2.out.size))
          have G4 := Lib.hid (G4.out.below hbs G4.out.lt)
          have C2 := Lib.hid (And.intro hx2 (And.intro hy2 hz2))
          clear hbs hx2 hy2 hz2
          go_wp2_with fail
          refine hK.out _ _ B3.out (fun _ => ?_)
          clear hK K
          try simp only [List.getElem_toArray, List.getElem_cons_zero, List.getElem_cons_succ, Act.put, List.setIfInBounds_toArray, List.set_cons_zero, List.set_cons_succ]
          refine wpAnyH_ready (rs := [5]) (by kernel_rfl) (by simp) ?_
          refine AllReadyH.cons rfl (fun K hK => ?_) AllReadyH.nil
          · go_simp
            obtain ⟨W4, hW⟩ : ∃ W, W3.alloc (.cells hz 23) = W := ⟨_, rfl⟩
            obtain ⟨g5, hg5⟩ : ∃ g, W3.heap.size = g := ⟨_, rfl⟩
            have hbs : Below W3.heap.size W3 W4 := hW ▸ (Below.refl _ _).alloc (Nat.le_refl _) _
            have NE := Lib.hid (show g4 ≠ g5 from fun e => by have := G4.out.lt; omega)
            have B4 := Lib.hid (B3.out.trans (hbs.mono B3.out.size))
            have G4 := Lib.hid (G4.out.below hbs G4.out.lt)
            have G5 := Lib.hid (show Blk W4 g5 23 hz from by rw [← hW, ← hg5]; exact Blk.new W3 _ _)
            have GB5 := Lib.hid (show w2.heap.size ≤ g5 from by rw [← hg5]; exact B3.out.size)
            rw [hW, hg5]
            clear hbs hW hg5
            refine hK.out _ _ B4.out (fun _ => ?_)
            clear hK K
            try simp only [List.getElem_toArray, List.getElem_cons_zero, List.getElem_cons_succ, Act.put, List.setIfInBounds_toArray, List.set_cons_zero, List.set_cons_succ]
            refine wpAnyH_ready (rs := [6]) (by kernel_rfl) (by simp) ?_
            refine AllReadyH.cons rfl (fun K hK => ?_) AllReadyH.nil
            refine wp_store_row 23 (.tmp 10) (.tmp 24) rfl g4 (hws x1 y1 z1).toArray rfl rfl 23 hz G4.out how_size rfl (hws_one _ _ _) ?_
            have S6 := Lib.hid (show Below w2.heap.size w2 (W4.setRow g4 (hws x1 y1 z1).toArray) ∧ Blk (W4.setRow g4 (hws x1 y1 z1).toArray) g4 23 (hws x1 y1 z1).toArray ∧ Blk (W4.setRow g4 (hws x1 y1 z1).toArray) g5 23 hz from ⟨below_setRow B4.out GB4.out, setRow_heap _ _ _ _ _ _ G4.out, G5.out.same (setRow_other _ _ _ _ fun e => NE.out e.symm)⟩)
            obtain ⟨V6, hV6⟩ : ∃ V, W4.setRow g4 (hws x1 y1 z1).toArray = V := ⟨_, rfl⟩
            rw [hV6] at S6 ⊢
            refine hK.out _ _ S6.out.1 (fun _ => ?_)
            clear hK K
            try simp only [List.getElem_toArray, List.getElem_cons_zero, List.getElem_cons_succ, Act.put, List.setIfInBounds_toArray, List.set_cons_zero, List.set_cons_succ]
            refine wpAnyH_ready (rs := [7]) (by kernel_rfl) (by simp) ?_
            refine AllReadyH.cons rfl (fun K hK => ?_) AllReadyH.nil
            refine wp_store_row 23 (.tmp 11) (.tmp 26) rfl g5 (hws x2 y2 z2).toArray rfl rfl 23 hz S6.out.2.2 how_size rfl (hws_one _ _ _) ?_
            have S7 := Lib.hid (show Blk (V6.setRow g5 (hws x2 y2 z2).toArray) g4 23 (hws x1 y1 z1).toArray ∧ Blk (V6.setRow g5 (hws x2 y2 z2).toArray) g5 23 (hws x2 y2 z2).toArray ∧ Below w2.heap.size w2 (V6.setRow g5 (hws x2 y2 z2).toArray) from ⟨S6.out.2.1.same (setRow_other _ _ _ _ NE.out), setRow_heap _ _ _ _ _ _ S6.out.2.2, below_setRow S6.out.1 GB5.out⟩)
            refine hK.out _ _ S7.out.2.2 (fun _ => ?_)
            clear hK K
            try simp only [List.getElem_toArray, List.getElem_cons_zero, List.getElem_cons_succ, Act.put, List.setIfInBounds_toArray, List.set_cons_zero, List.set_cons_succ]
            refine wpAnyH_done (by kernel_rfl) ?_ _
            go_wp2_with fail
            go_meet
            exact ⟨g4, g5, x1, y1, z1, x2, y2, z2, rfl, rfl, C1.out.1, C1.out.2.1, C1.out.2.2, C2.out.1, C2.out.2.1, C2.out.2.2, S7⟩
        · go_simp
          obtain ⟨W3, hW⟩ : ∃ W, W2.alloc (.cells hz 23) = W := ⟨_, rfl⟩
          obtain ⟨g5, hg5⟩ : ∃ g, W2.heap.size = g := ⟨_, rfl⟩
          have hbs : Below W2.heap.size W2 W3 := hW ▸ (Below.refl _ _).alloc (Nat.le_refl _) _
          have NE := Lib.hid (show g4 ≠ g5 from fun e => by have := G4.out.lt; omega)
          have B3 := Lib.hid (B2.out.trans (hbs.mono B2.out.size))
          have G4 := Lib.hid (G4.out.below hbs G4.out.lt)
          have G5 := Lib.hid (show Blk W3 g5 23 hz from by rw [← hW, ← hg5]; exact Blk.new W2 _ _)
          have GB5 := Lib.hid (show w2.heap.size ≤ g5 from by rw [← hg5]; exact B2.out.size)
          rw [hW, hg5]
          clear hbs hW hg5
          refine hK.out _ _ B3.out (fun _ => ?_)
          clear hK K
          try simp only [List.getElem_toArray, List.getElem_cons_zero, List.getElem_cons_succ, Act.put, List.setIfInBounds_toArray, List.set_cons_zero, List.set_cons_succ]
          refine wpAnyH_ready (rs := [3]) (by kernel_rfl) (by simp) ?_
          refine AllReadyH.cons rfl (fun K hK => ?_) AllReadyH.nil
          · go_simp
            refine (KR2 W3).out.mono ?_
            rintro e W4 ⟨x2, y2, z2, hx2, hy2, hz2, rfl, hbs⟩
            have B4 := Lib.hid (B3.out.trans (hbs.mono B3.out.size))
            have G4 := Lib.hid (G4.out.below hbs G4.out.lt)
            have G5 := Lib.hid (G5.out.below hbs G5.out.lt)
            have C2 := Lib.hid (And.intro hx2 (And.intro hy2 hz2))
            clear hbs hx2 hy2 hz2
            go_wp2_with fail
            refine hK.out _ _ B4.out (fun _ => ?_)
            clear hK K
            try simp only [List.getElem_toArray, List.getElem_cons_zero, List.getElem_cons_succ, Act.put, List.setIfInBounds_toArray, List.set_cons_zero, List.set_cons_succ]
            refine wpAnyH_ready (rs := [6]) (by kernel_rfl) (by simp) ?_
            refine AllReadyH.cons rfl (fun K hK => ?_) AllReadyH.nil
            refine wp_store_row 23 (.tmp 10) (.tmp 24) rfl g4 (hws x1 y1 z1).toArray rfl rfl 23 hz G4.out how_size rfl (hws_one _ _ _) ?_
            have S6 := Lib.hid (show Below w2.heap.size w2 (W4.setRow g4 (hws x1 y1 z1).toArray) ∧ Blk (W4.setRow g4 (hws x1 y1 z1).toArray) g4 23 (hws x1 y1 z1).toArray ∧ Blk (W4.setRow g4 (hws x1 y1 z1).toArray) g5 23 hz from ⟨below_setRow B4.out GB4.out, setRow_heap _ _ _ _ _ _ G4.out, G5.out.same (setRow_other _ _ _ _ fun e => NE.out e.symm)⟩)
            obtain ⟨V6, hV6⟩ : ∃ V, W4.setRow g4 (hws x1 y1 z1).toArray = V := ⟨_, rfl⟩
            rw [hV6] at S6 ⊢
            refine hK.out _ _ S6.out.1 (fun _ => ?_)
            clear hK K
            try simp only [List.getElem_toArray, List.getElem_cons_zero, List.getElem_cons_succ, Act.put, List.setIfInBounds_toArray, List.set_cons_zero, List.set_cons_succ]
            refine wpAnyH_ready (rs := [7]) (by kernel_rfl) (by simp) ?_
            refine AllReadyH.cons rfl (fun K hK => ?_) AllReadyH.nil
            refine wp_store_row 23 (.tmp 11) (.tmp 26) rfl g5 (hws x2 y2 z2).toArray rfl rfl 23 hz S6.out.2.2 how_size rfl (hws_one _ _ _) ?_
            have S7 := Lib.hid (show Blk (V6.setRow g5 (hws x2 y2 z2).toArray) g4 23 (hws x1 y1 z1).toArray ∧ Blk (V6.setRow g5 (hws x2 y2 z2).toArray) g5 23 (hws x2 y2 z2).toArray ∧ Below w2.heap.size w2 (V6.setRow g5 (hws x2 y2 z2).toArray) from ⟨S6.out.2.1.same (setRow_other _ _ _ _ NE.out), setRow_heap _ _ _ _ _ _ S6.out.2.2, below_setRow S6.out.1 GB5.out⟩)
            refine hK.out _ _ S7.out.2.2 (fun _ => ?_)
            clear hK K
            try simp only [List.getElem_toArray, List.getElem_cons_zero, List.getElem_cons_succ, Act.put, List.setIfInBounds_toArray, List.set_cons_zero, List.set_cons_succ]
            refine wpAnyH_done (by kernel_rfl) ?_ _
            go_wp2_with fail
            go_meet
            exact ⟨g4, g5, x1, y1, z1, x2, y2, z2, rfl, rfl, C1.out.1, C1.out.2.1, C1.out.2.2, C2.out.1, C2.out.2.1, C2.out.2.2, S7⟩
      · go_simp
        obtain ⟨W2, hW⟩ : ∃ W, W1.alloc (.cells hz 23) = W := ⟨_, rfl⟩
        obtain ⟨g5, hg5⟩ : ∃ g, W1.heap.size = g := ⟨_, rfl⟩
        have hbs : Below W1.heap.size W1 W2 := hW ▸ (Below.refl _ _).alloc (Nat.le_refl _) _
        have B2 := Lib.hid (B1.out.trans (hbs.mono B1.out.size))
        have G5 := Lib.hid (show Blk W2 g5 23 hz from by rw [← hW, ← hg5]; exact Blk.new W1 _ _)
        have GB5 := Lib.hid (show w2.heap.size ≤ g5 from by rw [← hg5]; exact B1.out.size)
        rw [hW, hg5]
        clear hbs hW hg5
        refine hK.out _ _ B2.out (fun _ => ?_)
        clear hK K
        try simp only [List.getElem_toArray, List.getElem_cons_zero, List.getElem_cons_succ, Act.put, List.setIfInBounds_toArray, List.set_cons_zero, List.set_cons_succ]
        refine wpAnyH_ready (rs := [3, 4]) (by kernel_rfl) (by simp) ?_
        refine AllReadyH.cons rfl (fun K hK => ?_) (AllReadyH.cons rfl (fun K hK => ?_) AllReadyH.nil)
        · go_simp
          refine (KR2 W2).out.mono ?_
          rintro e W3 ⟨x2, y2, z2, hx2, hy2, hz2, rfl, hbs⟩
          have B3 := Lib.hid (B2.out.trans (hbs.mono B2.out.size))
          have G5 := Lib.hid (G5.out.below hbs G5.out.lt)
          have C2 := Lib.hid (And.intro hx2 (And.intro hy2 hz2))
          clear hbs hx2 hy2 hz2
          go_wp2_with fail
          refine hK.out _ _ B3.out (fun _ => ?_)
          clear hK K
          try simp only [List.getElem_toArray, List.getElem_cons_zero, List.getElem_cons_succ, Act.put, List.setIfInBounds_toArray, List.set_cons_zero, List.set_cons_succ]
          refine wpAnyH_ready (rs := [4]) (by kernel_rfl) (by simp) ?_
          refine AllReadyH.cons rfl (fun K hK => ?_) AllReadyH.nil
          · go_simp
            obtain ⟨W4, hW⟩ : ∃ W, W3.alloc (.cells hz 23) = W := ⟨_, rfl⟩
            obtain ⟨g4, hg4⟩ : ∃ g, W3.heap.size = g := ⟨_, rfl⟩
            have hbs : Below W3.heap.size W3 W4 := hW ▸ (Below.refl _ _).alloc (Nat.le_refl _) _
            have NE := Lib.hid (show g5 ≠ g4 from fun e => by have := G5.out.lt; omega)
            have B4 := Lib.hid (B3.out.trans (hbs.mono B3.out.size))
            have G5 := Lib.hid (G5.out.below hbs G5.out.lt)
            have G4 := Lib.hid (show Blk W4 g4 23 hz from by rw [← hW, ← hg4]; exact Blk.new W3 _ _)
            have GB4 := Lib.hid (show w2.heap.size ≤ g4 from by rw [← hg4]; exact B3.out.size)
            rw [hW, hg4]
            clear hbs hW hg4
            refine hK.out _ _ B4.out (fun _ => ?_)
            clear hK K
            try simp only [List.getElem_toArray, List.getElem_cons_zero, List.getElem_cons_succ, Act.put, List.setIfInBounds_toArray, List.set_cons_zero, List.set_cons_succ]
            refine wpAnyH_ready (rs := [6]) (by kernel_rfl) (by simp) ?_
            refine AllReadyH.cons rfl (fun K hK => ?_) AllReadyH.nil
            refine wp_store_row 23 (.tmp 10) (.tmp 24) rfl g4 (hws x1 y1 z1).toArray rfl rfl 23 hz G4.out how_size rfl (hws_one _ _ _) ?_
            have S6 := Lib.hid (show Below w2.heap.size w2 (W4.setRow g4 (hws x1 y1 z1).toArray) ∧ Blk (W4.setRow g4 (hws x1 y1 z1).toArray) g4 23 (hws x1 y1 z1).toArray ∧ Blk (W4.setRow g4 (hws x1 y1 z1).toArray) g5 23 hz from ⟨below_setRow B4.out GB4.out, setRow_heap _ _ _ _ _ _ G4.out, G5.out.same (setRow_other _ _ _ _ fun e => NE.out.symm e.symm)⟩)
            obtain ⟨V6, hV6⟩ : ∃ V, W4.setRow g4 (hws x1 y1 z1).toArray = V := ⟨_, rfl⟩
            rw [hV6] at S6 ⊢
            refine hK.out _ _ S6.out.1 (fun _ => ?_)
            clear hK K
            try simp only [List.getElem_toArray, List.getElem_cons_zero, List.getElem_cons_succ, Act.put, List.setIfInBounds_toArray, List.set_cons_zero, List.set_cons_succ]
            refine wpAnyH_ready (rs := [7]) (by kernel_rfl) (by simp) ?_
            refine AllReadyH.cons rfl (fun K hK => ?_) AllReadyH.nil
            refine wp_store_row 23 (.tmp 11) (.tmp 26) rfl g5 (hws x2 y2 z2).toArray rfl rfl 23 hz S6.out.2.2 how_size rfl (hws_one _ _ _) ?_
            have S7 := Lib.hid (show Blk (V6.setRow g5 (hws x2 y2 z2).toArray) g4 23 (hws x1 y1 z1).toArray ∧ Blk (V6.setRow g5 (hws x2 y2 z2).toArray) g5 23 (hws x2 y2 z2).toArray ∧ Below w2.heap.size w2 (V6.setRow g5 (hws x2 y2 z2).toArray) from ⟨S6.out.2.1.same (setRow_other _ _ _ _ NE.out.symm), setRow_heap _ _ _ _ _ _ S6.out.2.2, below_setRow S6.out.1 GB5.out⟩)
            refine hK.out _ _ S7.out.2.2 (fun _ => ?_)
            clear hK K
            try simp only [List.getElem_toArray, List.getElem_cons_zero, List.getElem_cons_succ, Act.put, List.setIfInBounds_toArray, List.set_cons_zero, List.set_cons_succ]
            refine wpAnyH_done (by kernel_rfl) ?_ _
            go_wp2_with fail
            go_meet
            exact ⟨g4, g5, x1, y1, z1, x2, y2, z2, rfl, rfl, C1.out.1, C1.out.2.1, C1.out.2.2, C2.out.1, C2.out.2.1, C2.out.2.2, S7⟩
        · go_simp
          obtain ⟨W3, hW⟩ : ∃ W, W2.alloc (.cells hz 23) = W := ⟨_, rfl⟩
          obtain ⟨g4, hg4⟩ : ∃ g, W2.heap.size = g := ⟨_, rfl⟩
          have hbs : Below W2.heap.size W2 W3 := hW ▸ (Below.refl _ _).alloc (Nat.le_refl _) _
          have NE := Lib.hid (show g5 ≠ g4 from fun e => by have := G5.out.lt; omega)
          have B3 := Lib.hid (B2.out.trans (hbs.mono B2.out.size))
          have G5 := Lib.hid (G5.out.below hbs G5.out.lt)
          have G4 := Lib.hid (show Blk W3 g4 23 hz from by rw [← hW, ← hg4]; exact Blk.new W2 _ _)
          have GB4 := Lib.hid (show w2.heap.size ≤ g4 from by rw [← hg4]; exact B2.out.size)
          rw [hW, hg4]
          clear hbs hW hg4
          refine hK.out _ _ B3.out (fun _ => ?_)
          clear hK K
          try simp only [List.getElem_toArray, List.getElem_cons_zero, List.getElem_cons_succ, Act.put, List.setIfInBounds_toArray, List.set_cons_zero, List.set_cons_succ]
          refine wpAnyH_ready (rs := [3]) (by kernel_rfl) (by simp) ?_
          refine AllReadyH.cons rfl (fun K hK => ?_) AllReadyH.nil
          · go_simp
            refine (KR2 W3).out.mono ?_
            rintro e W4 ⟨x2, y2, z2, hx2, hy2, hz2, rfl, hbs⟩
            have B4 := Lib.hid (B3.out.trans (hbs.mono B3.out.size))
            have G4 := Lib.hid (G4.out.below hbs G4.out.lt)
            have G5 := Lib.hid (G5.out.below hbs G5.out.lt)
            have C2 := Lib.hid (And.intro hx2 (And.intro hy2 hz2))
            clear hbs hx2 hy2 hz2
            go_wp2_with fail
            refine hK.out _ _ B4.out (fun _ => ?_)
            clear hK K
            try simp only [List.getElem_toArray, List.getElem_cons_zero, List.getElem_cons_succ, Act.put, List.setIfInBounds_toArray, List.set_cons_zero, List.set_cons_succ]
            refine wpAnyH_ready (rs := [6]) (by kernel_rfl) (by simp) ?_
            refine AllReadyH.cons rfl (fun K hK => ?_) AllReadyH.nil
            refine wp_store_row 23 (.tmp 10) (.tmp 24) rfl g4 (hws x1 y1 z1).toArray rfl rfl 23 hz G4.out how_size rfl (hws_one _ _ _) ?_
            have S6 := Lib.hid (show Below w2.heap.size w2 (W4.setRow g4 (hws x1 y1 z1).toArray) ∧ Blk (W4.setRow g4 (hws x1 y1 z1).toArray) g4 23 (hws x1 y1 z1).toArray ∧ Blk (W4.setRow g4 (hws x1 y1 z1).toArray) g5 23 hz from ⟨below_setRow B4.out GB4.out, setRow_heap _ _ _ _ _ _ G4.out, G5.out.same (setRow_other _ _ _ _ fun e => NE.out.symm e.symm)⟩)
            obtain ⟨V6, hV6⟩ : ∃ V, W4.setRow g4 (hws x1 y1 z1).toArray = V := ⟨_, rfl⟩
            rw [hV6] at S6 ⊢
            refine hK.out _ _ S6.out.1 (fun _ => ?_)
            clear hK K
            try simp only [List.getElem_toArray, List.getElem_cons_zero, List.getElem_cons_succ, Act.put, List.setIfInBounds_toArray, List.set_cons_zero, List.set_cons_succ]
            refine wpAnyH_ready (rs := [7]) (by kernel_rfl) (by simp) ?_
            refine AllReadyH.cons rfl (fun K hK => ?_) AllReadyH.nil
            refine wp_store_row 23 (.tmp 11) (.tmp 26) rfl g5 (hws x2 y2 z2).toArray rfl rfl 23 hz S6.out.2.2 how_size rfl (hws_one _ _ _) ?_
            have S7 := Lib.hid (show Blk (V6.setRow g5 (hws x2 y2 z2).toArray) g4 23 (hws x1 y1 z1).toArray ∧ Blk (V6.setRow g5 (hws x2 y2 z2).toArray) g5 23 (hws x2 y2 z2).toArray ∧ Below w2.heap.size w2 (V6.setRow g5 (hws x2 y2 z2).toArray) from ⟨S6.out.2.1.same (setRow_other _ _ _ _ NE.out.symm), setRow_heap _ _ _ _ _ _ S6.out.2.2, below_setRow S6.out.1 GB5.out⟩)
            refine hK.out _ _ S7.out.2.2 (fun _ => ?_)
            clear hK K
            try simp only [List.getElem_toArray, List.getElem_cons_zero, List.getElem_cons_succ, Act.put, List.setIfInBounds_toArray, List.set_cons_zero, List.set_cons_succ]
            refine wpAnyH_done (by kernel_rfl) ?_ _
            go_wp2_with fail
            go_meet
            exact ⟨g4, g5, x1, y1, z1, x2, y2, z2, rfl, rfl, C1.out.1, C1.out.2.1, C1.out.2.2, C2.out.1, C2.out.2.1, C2.out.2.2, S7⟩
    · go_simp
      obtain ⟨W1, hW⟩ : ∃ W, W0.alloc (.cells hz 23) = W := ⟨_, rfl⟩
      obtain ⟨g4, hg4⟩ : ∃ g, W0.heap.size = g := ⟨_, rfl⟩
      have hbs : Below W0.heap.size W0 W1 := hW ▸ (Below.refl _ _).alloc (Nat.le_refl _) _
      have B1 := Lib.hid (B0.out.trans (hbs.mono B0.out.size))
      have G4 := Lib.hid (show Blk W1 g4 23 hz from by rw [← hW, ← hg4]; exact Blk.new W0 _ _)
      have GB4 := Lib.hid (show w2.heap.size ≤ g4 from by rw [← hg4]; exact B0.out.size)
      rw [hW, hg4]
      clear hbs hW hg4
      refine hK.out _ _ B1.out (fun _ => ?_)
      clear hK K
      try simp only [List.getElem_toArray, List.getElem_cons_zero, List.getElem_cons_succ, Act.put, List.setIfInBounds_toArray, List.set_cons_zero, List.set_cons_succ]
      refine wpAnyH_ready (rs := [1, 5]) (by kernel_rfl) (by simp) ?_
      refine AllReadyH.cons rfl (fun K hK => ?_) (AllReadyH.cons rfl (fun K hK => ?_) AllReadyH.nil)
      · go_simp
        refine (KR1 W1).out.mono ?_
        rintro e W2 ⟨x1, y1, z1, hx1, hy1, hz1, rfl, hbs⟩
        have B2 := Lib.hid (B1.out.trans (hbs.mono B1.out.size))
        have G4 := Lib.hid (G4.out.below hbs G4.out.lt)
        have C1 := Lib.hid (And.intro hx1 (And.intro hy1 hz1))
        clear hbs hx1 hy1 hz1
        go_wp2_with fail
        refine hK.out _ _ B2.out (fun _ => ?_)
        clear hK K
        try simp only [List.getElem_toArray, List.getElem_cons_zero, List.getElem_cons_succ, Act.put, List.setIfInBounds_toArray, List.set_cons_zero, List.set_cons_succ]
        refine wpAnyH_ready (rs := [3, 5]) (by kernel_rfl) (by simp) ?_
        refine AllReadyH.cons rfl (fun K hK => ?_) (AllReadyH.cons rfl (fun K hK => ?_) AllReadyH.nil)
        · go_simp
          refine (KR2 W2).out.mono ?_
          rintro e W3 ⟨x2, y2, z2, hx2, hy2, hz2, rfl, hbs⟩
          have B3 := Lib.hid (B2.out.trans (hbs.mono B2.out.size))
          have G4 := Lib.hid (G4.out.below hbs G4.out.lt)
          have C2 := Lib.hid (And.intro hx2 (And.intro hy2 hz2))
          clear hbs hx2 hy2 hz2
          go_wp2_with fail
          refine hK.out _ _ B3.out (fun _ => ?_)
          clear hK K
          try simp only [List.getElem_toArray, List.getElem_cons_zero, List.getElem_cons_succ, Act.put, List.setIfInBounds_toArray, List.set_cons_zero, List.set_cons_succ]
          refine wpAnyH_ready (rs := [5]) (by kernel_rfl) (by simp) ?_
          refine AllReadyH.cons rfl (fun K hK => ?_) AllReadyH.nil
          · go_simp
            obtain ⟨W4, hW⟩ : ∃ W, W3.alloc (.cells hz 23) = W := ⟨_, rfl⟩
            obtain ⟨g5, hg5⟩ : ∃ g, W3.heap.size = g := ⟨_, rfl⟩
            have hbs : Below W3.heap.size W3 W4 := hW ▸ (Below.refl _ _).alloc (Nat.le_refl _) _
            have NE := Lib.hid (show g4 ≠ g5 from fun e => by have := G4.out.lt; omega)
            have B4 := Lib.hid (B3.out.trans (hbs.mono B3.out.size))
            have G4 := Lib.hid (G4.out.below hbs G4.out.lt)
            have G5 := Lib.hid (show Blk W4 g5 23 hz from by rw [← hW, ← hg5]; exact Blk.new W3 _ _)
            have GB5 := Lib.hid (show w2.heap.size ≤ g5 from by rw [← hg5]; exact B3.out.size)
            rw [hW, hg5]
            clear hbs hW hg5
            refine hK.out _ _ B4.out (fun _ => ?_)
            clear hK K
            try simp only [List.getElem_toArray, List.getElem_cons_zero, List.getElem_cons_succ, Act.put, List.setIfInBounds_toArray, List.set_cons_zero, List.set_cons_succ]
            refine wpAnyH_ready (rs := [6]) (by kernel_rfl) (by simp) ?_
            refine AllReadyH.cons rfl (fun K hK => ?_) AllReadyH.nil
            refine wp_store_row 23 (.tmp 10) (.tmp 24) rfl g4 (hws x1 y1 z1).toArray rfl rfl 23 hz G4.out how_size rfl (hws_one _ _ _) ?_
            have S6 := Lib.hid (show Below w2.heap.size w2 (W4.setRow g4 (hws x1 y1 z1).toArray) ∧ Blk (W4.setRow g4 (hws x1 y1 z1).toArray) g4 23 (hws x1 y1 z1).toArray ∧ Blk (W4.setRow g4 (hws x1 y1 z1).toArray) g5 23 hz from ⟨below_setRow B4.out GB4.out, setRow_heap _ _ _ _ _ _ G4.out, G5.out.same (setRow_other _ _ _ _ fun e => NE.out e.symm)⟩)
            obtain ⟨V6, hV6⟩ : ∃ V, W4.setRow g4 (hws x1 y1 z1).toArray = V := ⟨_, rfl⟩
            rw [hV6] at S6 ⊢
            refine hK.out _ _ S6.out.1 (fun _ => ?_)
            clear hK K
            try simp only [List.getElem_toArray, List.getElem_cons_zero, List.getElem_cons_succ, Act.put, List.setIfInBounds_toArray, List.set_cons_zero, List.set_cons_succ]
            refine wpAnyH_ready (rs := [7]) (by kernel_rfl) (by simp) ?_
            refine AllReadyH.cons rfl (fun K hK => ?_) AllReadyH.nil
            refine wp_store_row 23 (.tmp 11) (.tmp 26) rfl g5 (hws x2 y2 z2).toArray rfl rfl 23 hz S6.out.2.2 how_size rfl (hws_one _ _ _) ?_
            have S7 := Lib.hid (show Blk (V6.setRow g5 (hws x2 y2 z2).toArray) g4 23 (hws x1 y1 z1).toArray ∧ Blk (V6.setRow g5 (hws x2 y2 z2).toArray) g5 23 (hws x2 y2 z2).toArray ∧ Below w2.heap.size w2 (V6.setRow g5 (hws x2 y2 z2).toArray) from ⟨S6.out.2.1.same (setRow_other _ _ _ _ NE.out), setRow_heap _ _ _ _ _ _ S6.out.2.2, below_setRow S6.out.1 GB5.out⟩)
            refine hK.out _ _ S7.out.2.2 (fun _ => ?_)
            clear hK K
            try simp only [List.getElem_toArray, List.getElem_cons_zero, List.getElem_cons_succ, Act.put, List.setIfInBounds_toArray, List.set_cons_zero, List.set_cons_succ]
            refine wpAnyH_done (by kernel_rfl) ?_ _
            go_wp2_with fail
            go_meet
            exact ⟨g4, g5, x1, y1, z1, x2, y2, z2, rfl, rfl, C1.out.1, C1.out.2.1, C1.out.2.2, C2.out.1, C2.out.2.1, C2.out.2.2, S7⟩
        · go_simp
          obtain ⟨W3, hW⟩ : ∃ W, W2.alloc (.cells hz 23) = W := ⟨_, rfl⟩
          obtain ⟨g5, hg5⟩ : ∃ g, W2.heap.size = g := ⟨_, rfl⟩
          have hbs : Below W2.heap.size W2 W3 := hW ▸ (Below.refl _ _).alloc (Nat.le_refl _) _
          have NE := Lib.hid (show g4 ≠ g5 from fun e => by have := G4.out.lt; omega)
          have B3 := Lib.hid (B2.out.trans (hbs.mono B2.out.size))
          have G4 := Lib.hid (G4.out.below hbs G4.out.lt)
          have G5 := Lib.hid (show Blk W3 g5 23 hz from by rw [← hW, ← hg5]; exact Blk.new W2 _ _)
          have GB5 := Lib.hid (show w2.heap.size ≤ g5 from by rw [← hg5]; exact B2.out.size)
          rw [hW, hg5]
          clear hbs hW hg5
          refine hK.out _ _ B3.out (fun _ => ?_)
          clear hK K
          try simp only [List.getElem_toArray, List.getElem_cons_zero, List.getElem_cons_succ, Act.put, List.setIfInBounds_toArray, List.set_cons_zero, List.set_cons_succ]
          refine wpAnyH_ready (rs := [3]) (by kernel_rfl) (by simp) ?_
          refine AllReadyH.cons rfl (fun K hK => ?_) AllReadyH.nil
          · go_simp
            refine (KR2 W3).out.mono ?_
            rintro e W4 ⟨x2, y2, z2, hx2, hy2, hz2, rfl, hbs⟩
            have B4 := Lib.hid (B3.out.trans (hbs.mono B3.out.size))
            have G4 := Lib.hid (G4.out.below hbs G4.out.lt)
            have G5 := Lib.hid (G5.out.below hbs G5.out.lt)
            have C2 := Lib.hid (And.intro hx2 (And.intro hy2 hz2))
            clear hbs hx2 hy2 hz2
            go_wp2_with fail
            refine hK.out _ _ B4.out (fun _ => ?_)
            clear hK K
            try simp only [List.getElem_toArray, List.getElem_cons_zero, List.getElem_cons_succ, Act.put, List.setIfInBounds_toArray, List.set_cons_zero, List.set_cons_succ]
            refine wpAnyH_ready (rs := [6]) (by kernel_rfl) (by simp) ?_
            refine AllReadyH.cons rfl (fun K hK => ?_) AllReadyH.nil
            refine wp_store_row 23 (.tmp 10) (.tmp 24) rfl g4 (hws x1 y1 z1).toArray rfl rfl 23 hz G4.out how_size rfl (hws_one _ _ _) ?_
            have S6 := Lib.hid (show Below w2.heap.size w2 (W4.setRow g4 (hws x1 y1 z1).toArray) ∧ Blk (W4.setRow g4 (hws x1 y1 z1).toArray) g4 23 (hws x1 y1 z1).toArray ∧ Blk (W4.setRow g4 (hws x1 y1 z1).toArray) g5 23 hz from ⟨below_setRow B4.out GB4.out, setRow_heap _ _ _ _ _ _ G4.out, G5.out.same (setRow_other _ _ _ _ fun e => NE.out e.symm)⟩)
            obtain ⟨V6, hV6⟩ : ∃ V, W4.setRow g4 (hws x1 y1 z1).toArray = V := ⟨_, rfl⟩
            rw [hV6] at S6 ⊢
            refine hK.out _ _ S6.out.1 (fun _ => ?_)
            clear hK K
            try simp only [List.getElem_toArray, List.getElem_cons_zero, List.getElem_cons_succ, Act.put, List.setIfInBounds_toArray, List.set_cons_zero, List.set_cons_succ]
            refine wpAnyH_ready (rs := [7]) (by kernel_rfl) (by simp) ?_
            refine AllReadyH.cons rfl (fun K hK => ?_) AllReadyH.nil
            refine wp_store_row 23 (.tmp 11) (.tmp 26) rfl g5 (hws x2 y2 z2).toArray rfl rfl 23 hz S6.out.2.2 how_size rfl (hws_one _ _ _) ?_
            have S7 := Lib.hid (show Blk (V6.setRow g5 (hws x2 y2 z2).toArray) g4 23 (hws x1 y1 z1).toArray ∧ Blk (V6.setRow g5 (hws x2 y2 z2).toArray) g5 23 (hws x2 y2 z2).toArray ∧ Below w2.heap.size w2 (V6.setRow g5 (hws x2 y2 z2).toArray) from ⟨S6.out.2.1.same (setRow_other _ _ _ _ NE.out), setRow_heap _ _ _ _ _ _ S6.out.2.2, below_setRow S6.out.1 GB5.out⟩)
            refine hK.out _ _ S7.out.2.2 (fun _ => ?_)
            clear hK K
            try simp only [List.getElem_toArray, List.getElem_cons_zero, List.getElem_cons_succ, Act.put, List.setIfInBounds_toArray, List.set_cons_zero, List.set_cons_succ]
            refine wpAnyH_done (by kernel_rfl) ?_ _
            go_wp2_with fail
            go_meet
            exact ⟨g4, g5, x1, y1, z1, x2, y2, z2, rfl, rfl, C1.out.1, C1.out.2.1, C1.out.2.2, C2.out.1, C2.out.2.1, C2.out.2.2, S7⟩
      · go_simp
        obtain ⟨W2, hW⟩ : ∃ W, W1.alloc (.cells hz 23) = W := ⟨_, rfl⟩
        obtain ⟨g5, hg5⟩ : ∃ g, W1.heap.size = g := ⟨_, rfl⟩
        have hbs : Below W1.heap.size W1 W2 := hW ▸ (Below.refl _ _).alloc (Nat.le_refl _) _
        have NE := Lib.hid (show g4 ≠ g5 from fun e => by have := G4.out.lt; omega)
        have B2 := Lib.hid (B1.out.trans (hbs.mono B1.out.size))
        have G4 := Lib.hid (G4.out.below hbs G4.out.lt)
        have G5 := Lib.hid (show Blk W2 g5 23 hz from by rw [← hW, ← hg5]; exact Blk.new W1 _ _)
        have GB5 := Lib.hid (show w2.heap.size ≤ g5 from by rw [← hg5]; exact B1.out.size)
        rw [hW, hg5]
        clear hbs hW hg5
        refine hK.out _ _ B2.out (fun _ => ?_)
        clear hK K
        try simp only [List.getElem_toArray, List.getElem_cons_zero, List.getElem_cons_succ, Act.put, List.setIfInBounds_toArray, List.set_cons_zero, List.set_cons_succ]
        refine wpAnyH_ready (rs := [1]) (by kernel_rfl) (by simp) ?_
        refine AllReadyH.cons rfl (fun K hK => ?_) AllReadyH.nil
        · go_simp
          refine (KR1 W2).out.mono ?_
          rintro e W3 ⟨x1, y1, z1, hx1, hy1, hz1, rfl, hbs⟩
          have B3 := Lib.hid (B2.out.trans (hbs.mono B2.out.size))
          have G4 := Lib.hid (G4.out.below hbs G4.out.lt)
          have G5 := Lib.hid (G5.out.below hbs G5.out.lt)
          have C1 := Lib.hid (And.intro hx1 (And.intro hy1 hz1))
          clear hbs hx1 hy1 hz1
          go_wp2_with fail
          refine hK.out _ _ B3.out (fun _ => ?_)
          clear hK K
          try simp only [List.getElem_toArray, List.getElem_cons_zero, List.getElem_cons_succ, Act.put, List.setIfInBounds_toArray, List.set_cons_zero, List.set_cons_succ]
          refine wpAnyH_ready (rs := [3]) (by kernel_rfl) (by simp) ?_
          refine AllReadyH.cons rfl (fun K hK => ?_) AllReadyH.nil
          · go_simp
            refine (KR2 W3).out.mono ?_
            rintro e W4 ⟨x2, y2, z2, hx2, hy2, hz2, rfl, hbs⟩
            have B4 := Lib.hid (B3.out.trans (hbs.mono B3.out.size))
            have G4 := Lib.hid (G4.out.below hbs G4.out.lt)
            have G5 := Lib.hid (G5.out.below hbs G5.out.lt)
            have C2 := Lib.hid (And.intro hx2 (And.intro hy2 hz2))
            clear hbs hx2 hy2 hz2
            go_wp2_with fail
            refine hK.out _ _ B4.out (fun _ => ?_)
            clear hK K
            try simp only [List.getElem_toArray, List.getElem_cons_zero, List.getElem_cons_succ, Act.put, List.setIfInBounds_toArray, List.set_cons_zero, List.set_cons_succ]
            refine wpAnyH_ready (rs := [6]) (by kernel_rfl) (by simp) ?_
            refine AllReadyH.cons rfl (fun K hK => ?_) AllReadyH.nil
            refine wp_store_row 23 (.tmp 10) (.tmp 24) rfl g4 (hws x1 y1 z1).toArray rfl rfl 23 hz G4.out how_size rfl (hws_one _ _ _) ?_
            have S6 := Lib.hid (show Below w2.heap.size w2 (W4.setRow g4 (hws x1 y1 z1).toArray) ∧ Blk (W4.setRow g4 (hws x1 y1 z1).toArray) g4 23 (hws x1 y1 z1).toArray ∧ Blk (W4.setRow g4 (hws x1 y1 z1).toArray) g5 23 hz from ⟨below_setRow B4.out GB4.out, setRow_heap _ _ _ _ _ _ G4.out, G5.out.same (setRow_other _ _ _ _ fun e => NE.out e.symm)⟩)
            obtain ⟨V6, hV6⟩ : ∃ V, W4.setRow g4 (hws x1 y1 z1).toArray = V := ⟨_, rfl⟩
            rw [hV6] at S6 ⊢
            refine hK.out _ _ S6.out.1 (fun _ => ?_)
            clear hK K
            try simp only [List.getElem_toArray, List.getElem_cons_zero, List.getElem_cons_succ, Act.put, List.setIfInBounds_toArray, List.set_cons_zero, List.set_cons_succ]
            refine wpAnyH_ready (rs := [7]) (by kernel_rfl) (by simp) ?_
            refine AllReadyH.cons rfl (fun K hK => ?_) AllReadyH.nil
            refine wp_store_row 23 (.tmp 11) (.tmp 26) rfl g5 (hws x2 y2 z2).toArray rfl rfl 23 hz S6.out.2.2 how_size rfl (hws_one _ _ _) ?_
            have S7 := Lib.hid (show Blk (V6.setRow g5 (hws x2 y2 z2).toArray) g4 23 (hws x1 y1 z1).toArray ∧ Blk (V6.setRow g5 (hws x2 y2 z2).toArray) g5 23 (hws x2 y2 z2).toArray ∧ Below w2.heap.size w2 (V6.setRow g5 (hws x2 y2 z2).toArray) from ⟨S6.out.2.1.same (setRow_other _ _ _ _ NE.out), setRow_heap _ _ _ _ _ _ S6.out.2.2, below_setRow S6.out.1 GB5.out⟩)
            refine hK.out _ _ S7.out.2.2 (fun _ => ?_)
            clear hK K
            try simp only [List.getElem_toArray, List.getElem_cons_zero, List.getElem_cons_succ, Act.put, List.setIfInBounds_toArray, List.set_cons_zero, List.set_cons_succ]
            refine wpAnyH_done (by kernel_rfl) ?_ _
            go_wp2_with fail
            go_meet
            exact ⟨g4, g5, x1, y1, z1, x2, y2, z2, rfl, rfl, C1.out.1, C1.out.2.1, C1.out.2.2, C2.out.1, C2.out.2.1, C2.out.2.2, S7⟩
    · go_simp
      obtain ⟨W1, hW⟩ : ∃ W, W0.alloc (.cells hz 23) = W := ⟨_, rfl⟩
      obtain ⟨g5, hg5⟩ : ∃ g, W0.heap.size = g := ⟨_, rfl⟩
      have hbs : Below W0.heap.size W0 W1 := hW ▸ (Below.refl _ _).alloc (Nat.le_refl _) _
      have B1 := Lib.hid (B0.out.trans (hbs.mono B0.out.size))
      have G5 := Lib.hid (show Blk W1 g5 23 hz from by rw [← hW, ← hg5]; exact Blk.new W0 _ _)
      have GB5 := Lib.hid (show w2.heap.size ≤ g5 from by rw [← hg5]; exact B0.out.size)
      rw [hW, hg5]
      clear hbs hW hg5
      refine hK.out _ _ B1.out (fun _ => ?_)
      clear hK K
      try simp only [List.getElem_toArray, List.getElem_cons_zero, List.getElem_cons_succ, Act.put, List.setIfInBounds_toArray, List.set_cons_zero, List.set_cons_succ]
      refine wpAnyH_ready (rs := [1, 4]) (by kernel_rfl) (by simp) ?_
      refine AllReadyH.cons rfl (fun K hK => ?_) (AllReadyH.cons rfl (fun K hK => ?_) AllReadyH.nil)
      · go_simp
        refine (KR1 W1).out.mono ?_
        rintro e W2 ⟨x1, y1, z1, hx1, hy1, hz1, rfl, hbs⟩
        have B2 := Lib.hid (B1.out.trans (hbs.mono B1.out.size))
        have G5 := Lib.hid (G5.out.below hbs G5.out.lt)
        have C1 := Lib.hid (And.intro hx1 (And.intro hy1 hz1))
        clear hbs hx1 hy1 hz1
        go_wp2_with fail
        refine hK.out _ _ B2.out (fun _ => ?_)
        clear hK K
        try simp only [List.getElem_toArray, List.getElem_cons_zero, List.getElem_cons_succ, Act.put, List.setIfInBounds_toArray, List.set_cons_zero, List.set_cons_succ]
        refine wpAnyH_ready (rs := [3, 4]) (by kernel_rfl) (by simp) ?_
        refine AllReadyH.cons rfl (fun K hK => ?_) (AllReadyH.cons rfl (fun K hK => ?_) AllReadyH.nil)
        · go_simp
          refine (KR2 W2).out.mono ?_
          rintro e W3 ⟨x2, y2, z2, hx2, hy2, hz2, rfl, hbs⟩
          have B3 := Lib.hid (B2.out.trans (hbs.mono B2.out.size))
          have G5 := Lib.hid (G5.out.below hbs G5.out.lt)
          have C2 := Lib.hid (And.intro hx2 (And.intro hy2 hz2))
          clear hbs hx2 hy2 hz2
          go_wp2_with fail
          refine hK.out _ _ B3.out (fun _ => ?_)
          clear hK K
          try simp only [List.getElem_toArray, List.getElem_cons_zero, List.getElem_cons_succ, Act.put, List.setIfInBounds_toArray, List.set_cons_zero, List.set_cons_succ]
          refine wpAnyH_ready (rs := [4]) (by kernel_rfl) (by simp) ?_
          refine AllReadyH.cons rfl (fun K hK => ?_) AllReadyH.nil
          · go_simp
            obtain ⟨W4, hW⟩ : ∃ W, W3.alloc (.cells hz 23) = W := ⟨_, rfl⟩
            obtain ⟨g4, hg4⟩ : ∃ g, W3.heap.size = g := ⟨_, rfl⟩
            have hbs : Below W3.heap.size W3 W4 := hW ▸ (Below.refl _ _).alloc (Nat.le_refl _) _
            have NE := Lib.hid (show g5 ≠ g4 from fun e => by have := G5.out.lt; omega)
            have B4 := Lib.hid (B3.out.trans (hbs.mono B3.out.size))
            have G5 := Lib.hid (G5.out.below hbs G5.out.lt)
            have G4 := Lib.hid (show Blk W4 g4 23 hz from by rw [← hW, ← hg4]; exact Blk.new W3 _ _)
            have GB4 := Lib.hid (show w2.heap.size ≤ g4 from by rw [← hg4]; exact B3.out.size)
            rw [hW, hg4]
            clear hbs hW hg4
            refine hK.out _ _ B4.out (fun _ => ?_)
            clear hK K
            try simp only [List.getElem_toArray, List.getElem_cons_zero, List.getElem_cons_succ, Act.put, List.setIfInBounds_toArray, List.set_cons_zero, List.set_cons_succ]
            refine wpAnyH_ready (rs := [6]) (by kernel_rfl) (by simp) ?_
            refine AllReadyH.cons rfl (fun K hK => ?_) AllReadyH.nil
            refine wp_store_row 23 (.tmp 10) (.tmp 24) rfl g4 (hws x1 y1 z1).toArray rfl rfl 23 hz G4.out how_size rfl (hws_one _ _ _) ?_
            have S6 := Lib.hid (show Below w2.heap.size w2 (W4.setRow g4 (hws x1 y1 z1).toArray) ∧ Blk (W4.setRow g4 (hws x1 y1 z1).toArray) g4 23 (hws x1 y1 z1).toArray ∧ Blk (W4.setRow g4 (hws x1 y1 z1).toArray) g5 23 hz from ⟨below_setRow B4.out GB4.out, setRow_heap _ _ _ _ _ _ G4.out, G5.out.same (setRow_other _ _ _ _ fun e => NE.out.symm e.symm)⟩)
            obtain ⟨V6, hV6⟩ : ∃ V, W4.setRow g4 (hws x1 y1 z1).toArray = V := ⟨_, rfl⟩
            rw [hV6] at S6 ⊢
            refine hK.out _ _ S6.out.1 (fun _ => ?_)
            clear hK K
            try simp only [List.getElem_toArray, List.getElem_cons_zero, List.getElem_cons_succ, Act.put, List.setIfInBounds_toArray, List.set_cons_zero, List.set_cons_succ]
            refine wpAnyH_ready (rs := [7]) (by kernel_rfl) (by simp) ?_
            refine AllReadyH.cons rfl (fun K hK => ?_) AllReadyH.nil
            refine wp_store_row 23 (.tmp 11) (.tmp 26) rfl g5 (hws x2 y2 z2).toArray rfl rfl 23 hz S6.out.2.2 how_size rfl (hws_one _ _ _) ?_
            have S7 := Lib.hid (show Blk (V6.setRow g5 (hws x2 y2 z2).toArray) g4 23 (hws x1 y1 z1).toArray ∧ Blk (V6.setRow g5 (hws x2 y2 z2).toArray) g5 23 (hws x2 y2 z2).toArray ∧ Below w2.heap.size w2 (V6.setRow g5 (hws x2 y2 z2).toArray) from ⟨S6.out.2.1.same (setRow_other _ _ _ _ NE.out.symm), setRow_heap _ _ _ _ _ _ S6.out.2.2, below_setRow S6.out.1 GB5.out⟩)
            refine hK.out _ _ S7.out.2.2 (fun _ => ?_)
            clear hK K
            try simp only [List.getElem_toArray, List.getElem_cons_zero, List.getElem_cons_succ, Act.put, List.setIfInBounds_toArray, List.set_cons_zero, List.set_cons_succ]
            refine wpAnyH_done (by kernel_rfl) ?_ _
            go_wp2_with fail
            go_meet
            exact ⟨g4, g5, x1, y1, z1, x2, y2, z2, rfl, rfl, C1.out.1, C1.out.2.1, C1.out.2.2, C2.out.1, C2.out.2.1, C2.out.2.2, S7⟩
        · go_simp
          obtain ⟨W3, hW⟩ : ∃ W, W2.alloc (.cells hz 23) = W := ⟨_, rfl⟩
          obtain ⟨g4, hg4⟩ : ∃ g, W2.heap.size = g := ⟨_, rfl⟩
          have hbs : Below W2.heap.size W2 W3 := hW ▸ (Below.refl _ _).alloc (Nat.le_refl _) _
          have NE := Lib.hid (show g5 ≠ g4 from fun e => by have := G5.out.lt; omega)
          have B3 := Lib.hid (B2.out.trans (hbs.mono B2.out.size))
          have G5 := Lib.hid (G5.out.below hbs G5.out.lt)
          have G4 := Lib.hid (show Blk W3 g4 23 hz from by rw [← hW, ← hg4]; exact Blk.new W2 _ _)
          have GB4 := Lib.hid (show w2.heap.size ≤ g4 from by rw [← hg4]; exact B2.out.size)
          rw [hW, hg4]
          clear hbs hW hg4
          refine hK.out _ _ B3.out (fun _ => ?_)
          clear hK K
          try simp only [List.getElem_toArray, List.getElem_cons_zero, List.getElem_cons_succ, Act.put, List.setIfInBounds_toArray, List.set_cons_zero, List.set_cons_succ]
          refine wpAnyH_ready (rs := [3]) (by kernel_rfl) (by simp) ?_
          refine AllReadyH.cons rfl (fun K hK => ?_) AllReadyH.nil
          · go_simp
            refine (KR2 W3).out.mono ?_
            rintro e W4 ⟨x2, y2, z2, hx2, hy2, hz2, rfl, hbs⟩
            have B4 := Lib.hid (B3.out.trans (hbs.mono B3.out.size))
            have G4 := Lib.hid (G4.out.below hbs G4.out.lt)
            have G5 := Lib.hid (G5.out.below hbs G5.out.lt)
            have C2 := Lib.hid (And.intro hx2 (And.intro hy2 hz2))
            clear hbs hx2 hy2 hz2
            go_wp2_with fail
            refine hK.out _ _ B4.out (fun _ => ?_)
            clear hK K
            try simp only [List.getElem_toArray, List.getElem_cons_zero, List.getElem_cons_succ, Act.put, List.setIfInBounds_toArray, List.set_cons_zero, List.set_cons_succ]
            refine wpAnyH_ready (rs := [6]) (by kernel_rfl) (by simp) ?_
            refine AllReadyH.cons rfl (fun K hK => ?_) AllReadyH.nil
            refine wp_store_row 23 (.tmp 10) (.tmp 24) rfl g4 (hws x1 y1 z1).toArray rfl rfl 23 hz G4.out how_size rfl (hws_one _ _ _) ?_
            have S6 := Lib.hid (show Below w2.heap.size w2 (W4.setRow g4 (hws x1 y1 z1).toArray) ∧ Blk (W4.setRow g4 (hws x1 y1 z1).toArray) g4 23 (hws x1 y1 z1).toArray ∧ Blk (W4.setRow g4 (hws x1 y1 z1).toArray) g5 23 hz from ⟨below_setRow B4.out GB4.out, setRow_heap _ _ _ _ _ _ G4.out, G5.out.same (setRow_other _ _ _ _ fun e => NE.out.symm e.symm)⟩)
            obtain ⟨V6, hV6⟩ : ∃ V, W4.setRow g4 (hws x1 y1 z1).toArray = V := ⟨_, rfl⟩
            rw [hV6] at S6 ⊢
            refine hK.out _ _ S6.out.1 (fun _ => ?_)
            clear hK K
            try simp only [List.getElem_toArray, List.getElem_cons_zero, List.getElem_cons_succ, Act.put, List.setIfInBounds_toArray, List.set_cons_zero, List.set_cons_succ]
            refine wpAnyH_ready (rs := [7]) (by kernel_rfl) (by simp) ?_
            refine AllReadyH.cons rfl (fun K hK => ?_) AllReadyH.nil
            refine wp_store_row 23 (.tmp 11) (.tmp 26) rfl g5 (hws x2 y2 z2).toArray rfl rfl 23 hz S6.out.2.2 how_size rfl (hws_one _ _ _) ?_
            have S7 := Lib.hid (show Blk (V6.setRow g5 (hws x2 y2 z2).toArray) g4 23 (hws x1 y1 z1).toArray ∧ Blk (V6.setRow g5 (hws x2 y2 z2).toArray) g5 23 (hws x2 y2 z2).toArray ∧ Below w2.heap.size w2 (V6.setRow g5 (hws x2 y2 z2).toArray) from ⟨S6.out.2.1.same (setRow_other _ _ _ _ NE.out.symm), setRow_heap _ _ _ _ _ _ S6.out.2.2, below_setRow S6.out.1 GB5.out⟩)
            refine hK.out _ _ S7.out.2.2 (fun _ => ?_)
            clear hK K
            try simp only [List.getElem_toArray, List.getElem_cons_zero, List.getElem_cons_succ, Act.put, List.setIfInBounds_toArray, List.set_cons_zero, List.set_cons_succ]
            refine wpAnyH_done (by kernel_rfl) ?_ _
            go_wp2_with fail
            go_meet
            exact ⟨g4, g5, x1, y1, z1, x2, y2, z2, rfl, rfl, C1.out.1, C1.out.2.1, C1.out.2.2, C2.out.1, C2.out.2.1, C2.out.2.2, S7⟩
      · go_simp
        obtain ⟨W2, hW⟩ : ∃ W, W1.alloc (.cells hz 23) = W := ⟨_, rfl⟩
        obtain ⟨g4, hg4⟩ : ∃ g, W1.heap.size = g := ⟨_, rfl⟩
        have hbs : Below W1.heap.size W1 W2 := hW ▸ (Below.refl _ _).alloc (Nat.le_refl _) _
        have NE := Lib.hid (show g5 ≠ g4 from fun e => by have := G5.out.lt; omega)
        have B2 := Lib.hid (B1.out.trans (hbs.mono B1.out.size))
        have G5 := Lib.hid (G5.out.below hbs G5.out.lt)
        have G4 := Lib.hid (show Blk W2 g4 23 hz from by rw [← hW, ← hg4]; exact Blk.new W1 _ _)
        have GB4 := Lib.hid (show w2.heap.size ≤ g4 from by rw [← hg4]; exact B1.out.size)
        rw [hW, hg4]
        clear hbs hW hg4
        refine hK.out _ _ B2.out (fun _ => ?_)
        clear hK K
        try simp only [List.getElem_toArray, List.getElem_cons_zero, List.getElem_cons_succ, Act.put, List.setIfInBounds_toArray, List.set_cons_zero, List.set_cons_succ]
        refine wpAnyH_ready (rs := [1]) (by kernel_rfl) (by simp) ?_
        refine AllReadyH.cons rfl (fun K hK => ?_) AllReadyH.nil
        · go_simp
          refine (KR1 W2).out.mono ?_
          rintro e W3 ⟨x1, y1, z1, hx1, hy1, hz1, rfl, hbs⟩
          have B3 := Lib.hid (B2.out.trans (hbs.mono B2.out.size))
          have G4 := Lib.hid (G4.out.below hbs G4.out.lt)
          have G5 := Lib.hid (G5.out.below hbs G5.out.lt)
          have C1 := Lib.hid (And.intro hx1 (And.intro hy1 hz1))
          clear hbs hx1 hy1 hz1
          go_wp2_with fail
          refine hK.out _ _ B3.out (fun _ => ?_)
          clear hK K
          try simp only [List.getElem_toArray, List.getElem_cons_zero, List.getElem_cons_succ, Act.put, List.setIfInBounds_toArray, List.set_cons_zero, List.set_cons_succ]
          refine wpAnyH_ready (rs := [3]) (by kernel_rfl) (by simp) ?_
          refine AllReadyH.cons rfl (fun K hK => ?_) AllReadyH.nil
          · go_simp
            refine (KR2 W3).out.mono ?_
            rintro e W4 ⟨x2, y2, z2, hx2, hy2, hz2, rfl, hbs⟩
            have B4 := Lib.hid (B3.out.trans (hbs.mono B3.out.size))
            have G4 := Lib.hid (G4.out.below hbs G4.out.lt)
            have G5 := Lib.hid (G5.out.below hbs G5.out.lt)
            have C2 := Lib.hid (And.intro hx2 (And.intro hy2 hz2))
            clear hbs hx2 hy2 hz2
            go_wp2_with fail
            refine hK.out _ _ B4.out (fun _ => ?_)
            clear hK K
            try simp only [List.getElem_toArray, List.getElem_cons_zero, List.getElem_cons_succ, Act.put, List.setIfInBounds_toArray, List.set_cons_zero, List.set_cons_succ]
            refine wpAnyH_ready (rs := [6]) (by kernel_rfl) (by simp) ?_
            refine AllReadyH.cons rfl (fun K hK => ?_) AllReadyH.nil
            refine wp_store_row 23 (.tmp 10) (.tmp 24) rfl g4 (hws x1 y1 z1).toArray rfl rfl 23 hz G4.out how_size rfl (hws_one _ _ _) ?_
            have S6 := Lib.hid (show Below w2.heap.size w2 (W4.setRow g4 (hws x1 y1 z1).toArray) ∧ Blk (W4.setRow g4 (hws x1 y1 z1).toArray) g4 23 (hws x1 y1 z1).toArray ∧ Blk (W4.setRow g4 (hws x1 y1 z1).toArray) g5 23 hz from ⟨below_setRow B4.out GB4.out, setRow_heap _ _ _ _ _ _ G4.out, G5.out.same (setRow_other _ _ _ _ fun e => NE.out.symm e.symm)⟩)
            obtain ⟨V6, hV6⟩ : ∃ V, W4.setRow g4 (hws x1 y1 z1).toArray = V := ⟨_, rfl⟩
            rw [hV6] at S6 ⊢
            refine hK.out _ _ S6.out.1 (fun _ => ?_)
            clear hK K
            try simp only [List.getElem_toArray, List.getElem_cons_zero, List.getElem_cons_succ, Act.put, List.setIfInBounds_toArray, List.set_cons_zero, List.set_cons_succ]
            refine wpAnyH_ready (rs := [7]) (by kernel_rfl) (by simp) ?_
            refine AllReadyH.cons rfl (fun K hK => ?_) AllReadyH.nil
            refine wp_store_row 23 (.tmp 11) (.tmp 26) rfl g5 (hws x2 y2 z2).toArray rfl rfl 23 hz S6.out.2.2 how_size rfl (hws_one _ _ _) ?_
            have S7 := Lib.hid (show Blk (V6.setRow g5 (hws x2 y2 z2).toArray) g4 23 (hws x1 y1 z1).toArray ∧ Blk (V6.setRow g5 (hws x2 y2 z2).toArray) g5 23 (hws x2 y2 z2).toArray ∧ Below w2.heap.size w2 (V6.setRow g5 (hws x2 y2 z2).toArray) from ⟨S6.out.2.1.same (setRow_other _ _ _ _ NE.out.symm), setRow_heap _ _ _ _ _ _ S6.out.2.2, below_setRow S6.out.1 GB5.out⟩)
            refine hK.out _ _ S7.out.2.2 (fun _ => ?_)
            clear hK K
            try simp only [List.getElem_toArray, List.getElem_cons_zero, List.getElem_cons_succ, Act.put, List.setIfInBounds_toArray, List.set_cons_zero, List.set_cons_succ]
            refine wpAnyH_done (by kernel_rfl) ?_ _
            go_wp2_with fail
            go_meet
            exact ⟨g4, g5, x1, y1, z1, x2, y2, z2, rfl, rfl, C1.out.1, C1.out.2.1, C1.out.2.2, C2.out.1, C2.out.2.1, C2.out.2.2, S7⟩
  case rest =>
    obtain ⟨g1, g2, x1, y1, z1, x2, y2, z2, rfl, rfl, hx1, hy1, hz1, hx2, hy2, hz2, hc7⟩ := hcut
    have HC := Lib.hid hc7.out
    have c10 : wc.cell? ⟨g1, 0, none⟩ = some (.int .i64 x1) := HC.out.1.cell 0
    have c11 : wc.cell? ⟨g1, 1, none⟩ = some (.int .i64 y1) := HC.out.1.cell 1
    have c12 : wc.cell? ⟨g1, 2, none⟩ = some (.int .i64 z1) := HC.out.1.cell 2
    have HBC := Lib.hid (HB2.out.trans (HC.out.2.2.mono HB2.out.size))
    have KN := Lib.hid (K.new x1 y1 z1 wc (by omega) (by omega) (by omega))
    have HX2 := Lib.hid (show x2 ≤ 1048576 ∧ y2 ≤ 30 ∧ z2 ≤ 4096 from by omega)
    clear hx1 hy1 hz1 hx2 hy2 hz2 hc7 KR1 KR2 HR1 HR2
    go_wp2_with fail
    refine KN.out.mono ?_
    rintro e w5 ⟨s, F, rfl, h5, hF5, hb5⟩
    have hg2 := HC.out.2.1.below hb5 HC.out.2.1.lt
    have c20 : w5.cell? ⟨g2, 0, none⟩ = some (.int .i64 x2) := hg2.cell 0
    have c21 : w5.cell? ⟨g2, 1, none⟩ = some (.int .i64 y2) := hg2.cell 1
    have c22 : w5.cell? ⟨g2, 2, none⟩ = some (.int .i64 z2) := hg2.cell 2
    have KN2 := Lib.hid (fnew2 K (HBC.out.trans (hb5.mono HBC.out.size)) h5 (fun g hg => Nat.le_trans HBC.out.size (hF5 g hg)) x2 y2 z2 HX2.out.1 HX2.out.2.1 HX2.out.2.2)
    clear h5 hF5 hb5 hg2 KN c10 c11 c12
    go_wp2_with fail
    refine KN2.out.mono ?_
    rintro e w6 ⟨t, rfl, h7⟩
    have H7 := Lib.hid h7
    have KF := Lib.hid (few_any A n c ls HLS.out.1 hc hm w6 ((HLS.out.2.below h7.bel).more h7.bel.size))
    clear h7 KN2 c20 c21 c22
    go_wp2_with fail
    refine KF.out.mono ?_
    rintro e w7 ⟨m, hmn, hm150, rfl, rfl⟩
    have HM := Lib.hid (And.intro hmn hm150)
    clear KF
    go_wp2_with fail
    go_loopw [64] (fun i wr => ∃ (j : Nat) (f x : FS), j ≤ m ∧ i = .int .i64 j ∧ Hid (TwoB Ft Ft w wr s t f x [] ∧ x.L = f.L ∧ f.L.length ≤ j ∧ (f.asked ≤ j ∧ f.loads ≤ j) ∧ x.asked ≤ j ∧ x.loads ≤ j)) (fun i _ => m - (intOf i).toNat)
    case atStart => exact ⟨0, newF x1 y1 z1, newF x2 y2 z2, Nat.zero_le _, rfl, Lib.hid ⟨H7.out, rfl, Nat.le_refl _, ⟨Nat.le_refl _, Nat.le_refl _⟩, Nat.le_refl _, Nat.le_refl _⟩⟩
    case round =>
      clear H7
      obtain ⟨j, f, x, hj, rfl, hst⟩ := hrel
      by_cases hlt : j < m
      · have hjx : j < ls.length := by rw [HLS.out.1]; omega
        obtain ⟨hst1, hst2, hst3, hst4, hst5⟩ := hst.out
        have hbel := hst1.bel
        obtain ⟨g, off, hA, hg, hra, hok2⟩ := (HLS.out.2.below hbel).at_ hjx
        clear hok2
        have hok := HLS.out.2.each _ (List.getElem_mem hjx)
        obtain ⟨a, hae⟩ : ∃ a, ls[j] = a := ⟨_, rfl⟩
        rw [hae] at hra hok
        subst hA
        obtain ⟨V, hV⟩ : ∃ V, fcs a = V := ⟨_, rfl⟩
        have hVl : V.length = 38 := by rw [← hV]; exact fcs_length hok.row
        rw [hV] at hra
        have HRA := Lib.hid hra
        have HKS := Lib.hid (show (Try.prog.info? 46).map (·.size) = some V.length from by rw [hVl]; exact fact_size)
        have HKS2 := Lib.hid (show (Try.prog.info? 46).map (·.size) = some V.toArray.size from by rw [List.size_toArray, hVl]; exact fact_size)
        have HOLD := Lib.hid (show fz.size = V.toArray.size from fz_size.trans (by rw [List.size_toArray, hVl]))
        have HBZ := Lib.hid (Blk.new wr 46 fz)
        have HONE := Lib.hid (show V.toArray.all (·.oneCell') = true from by rw [← hV]; exact fcs_one)
        obtain ⟨w8, hw8⟩ : ∃ w8, wr.alloc (.cells V.toArray 46) = w8 := ⟨_, rfl⟩
        obtain ⟨ab, hab⟩ : ∃ ab, wr.heap.size = ab := ⟨_, rfl⟩
        have h8 := hst1.box K.firm K.firm hab hw8
        have HW8 := Lib.hid (And.intro hw8 hab)
        obtain ⟨X, hX⟩ : ∃ X, kcs a.row.1 = X := ⟨_, rfl⟩
        have HXS := Lib.hid (show (Try.prog.info? 38).map (·.size) = some X.length from by rw [← hX, kcs_length hok.row.key]; exact key_size)
        have HBV := Lib.hid (range_of_blk (h8.blk List.mem_cons_self))
        have HRW := Lib.hid (show ∀ W, Blk W ab 46 V.toArray → W.rangeAt ab 1 X ∧ W.cell? ⟨ab, 0, none⟩ = some (.int .u8 a.kind) ∧ W.cell? ⟨ab, 36, none⟩ = some (.int .u64 a.draw) from fun W h => by
          have h0 := range_of_blk h
          rw [← hV] at h0
          have h1 := fcs_row h0
          rw [Nat.zero_add] at h1
          have h2 := range_key h1
          rw [hX] at h2
          have h4 := fcs_draw hok.row h0
          rw [Nat.zero_add] at h4
          exact ⟨h2, fcs_kind h0, h4⟩)
        have KD := does_any K K.firm h8 (by have := HM.out.2; omega) a hok
        have KD2 := fun (W : World) (f' : FS) (h : TwoB Ft Ft w W s t f' x [(ab, Obj.cells V.toArray 46 (0, 0))]) => does_any K K.firm h.swap (by have := HM.out.2; rw [hst2]; omega) a hok
        rw [hV] at KD
        simp only [hV] at KD2
        replace KD := Lib.hid KD
        replace KD2 := Lib.hid KD2
        have HOK := Lib.hid (And.intro hok hX)
        have HST := Lib.hid (And.intro hst2 (And.intro hst3 (And.intro hst4 hst5)))
        have HJ := Lib.hid (show j < 150 by have := HM.out.2; omega)
        have hi1 : (0 : Int) ≤ (j : Int) := by omega
        have hi2 : (j : Int) < (m : Int) := by omega
        have hi3 : (j : Int) < (n : Int) := by have := HM.out.1; omega
        have hkd := hok.kind
        clear hst hst1 hst2 hst3 hst4 hst5 hbel hra hok hae hjx hV hVl hw8 hab h8 hX hg
        go_wp2_with (first
          | refine wpList_load_mid rfl 46 (.tmp 66) rfl g (off + j * 38) rfl V (.struct fa) HRA.out HF.out.2.2.1 rfl HKS.out ?_
          | (refine wpList_store_row rfl 46 (.tmp 17) (.tmp 67) rfl wr.heap.size V.toArray rfl rfl 46 fz HBZ.out HKS2.out HOLD.out HONE.out ?_; rw [setRow_alloc, HW8.out.1, HW8.out.2])
          | refine wpList_load_mid rfl 46 (.tmp 17) rfl ab 0 rfl V (.struct fa) HBV.out HF.out.2.2.1 rfl HKS.out ?_)
        refine KD.out.mono ?_
        rintro e w9 ⟨rfl, h9⟩
        have H9 := Lib.hid h9
        have R9 := Lib.hid (HRW.out w9 (h9.blk List.mem_cons_self))
        have HB9 := Lib.hid (range_of_blk (h9.blk List.mem_cons_self))
        have c0 := R9.out.2.1
        have HFL := Lib.hid (show (doesF f a).L.length ≤ j + 1 ∧ (doesF f a).asked ≤ j ∧ (doesF f a).loads ≤ j ∧ j < 150 from by
          have e1 := does_len f a
          have e2 := does_cost f a
          have e3 := HST.out
          have e4 := HJ.out
          omega)
        have HDL := Lib.hid (And.intro (does_L f a) (does_L x a))
        obtain ⟨kd, hkk⟩ : ∃ kd, a.kind = kd := ⟨_, rfl⟩
        rw [hkk] at hkd c0 HDL
        obtain ⟨r, hrr⟩ : ∃ r, kd % 5 = r := ⟨_, rfl⟩
        have hri : (kd : Int) % 5 = (r : Int) := by omega
        have hr5 : r < 5 := by omega
        rw [hrr] at HDL
        clear h9 KD hkk hrr
        by_cases hr2 : r < 2
        · have hri0 : (kd : Int) % 5 < 2 := by omega
          go_wp2_with (refine wpList_load_mid rfl 46 (.tmp 17) rfl ab 0 rfl V (.struct fa) HB9.out HF.out.2.2.1 rfl HKS.out ?_)
          refine (KD2.out w9 _ H9.out).mono ?_
          rintro e w10 ⟨rfl, h10⟩
          obtain ⟨x', hx'⟩ : ∃ x', doesF x a = x' := ⟨_, rfl⟩
          have HXL := Lib.hid (show x'.L = (doesF f a).L ∧ x'.asked ≤ j ∧ x'.loads ≤ j from by
            have e2 := does_cost x a
            have e3 := HST.out
            rw [hx'] at e2
            refine ⟨?_, by omega, by omega⟩
            rw [← hx', HDL.out.1, HDL.out.2, e3.1])
          rw [hx'] at h10
          have H10 := Lib.hid (show TwoB Ft Ft w w10 s t (doesF f a) x' [(ab, Obj.cells V.toArray 46 (0, 0))] from h10.swap)
          clear h10 R9 c0 H9 hx' KD2 HB9
          have KFF := Lib.hid (show Calls Try.prog 15 #[.pointer (some s), .agg X.toArray, .int .u64 a.draw] w10 _ from by
            have := ffindL K K.firm H10.out (by have := HFL.out; omega) (by have := HFL.out; omega) (by have := HFL.out; omega) a.row.1 HOK.out.1.row.key a.draw HOK.out.1.draw
            unfold kv at this
            rw [HOK.out.2] at this
            exact this)
          have R10 := Lib.hid (HRW.out w10 (H10.out.blk List.mem_cons_self))
          have c36 := R10.out.2.2
          go_wp2_with (refine wpList_load_mid rfl 38 (.tmp 81) rfl ab 1 rfl X (.struct fs) R10.out.1 HF.out.1 rfl HXS.out ?_)
          refine KFF.out.mono ?_
          rintro e w11 ⟨rfl, h11⟩
          obtain ⟨⟨v1, v2⟩, hg⟩ : ∃ p, getX (doesF f a).L a.row.1 = p := ⟨_, rfl⟩
          obtain ⟨hs, hhs⟩ : ∃ b, hasX (doesF f a).L a.row.1 = b := ⟨_, rfl⟩
          rw [hg, hhs]
          unfold pv
          obtain ⟨w12, hw12⟩ : ∃ w12, w11.alloc (.cells #[.int .i64 v1, .int .i64 v2] 40) = w12 := ⟨_, rfl⟩
          obtain ⟨pb, hpb⟩ : ∃ pb, w11.heap.size = pb := ⟨_, rfl⟩
          have h12 := h11.box K.firm K.firm hpb hw12
          have HPI := Lib.hid (show In64 v1 ∧ In64 v2 from by
            have := getX_ok (fgoodL K H10.out).rows a.row.1
            rw [hg] at this
            exact this)
          have KG := Lib.hid (show ∀ d : Nat, d < 18446744073709551616 → Calls Try.prog 15 #[.pointer (some t), .agg X.toArray, .int .u64 d] w12 fun e w' => e = .returned (.tuple #[.agg #[.int .i64 v1, .int .i64 v2], .bool hs]) ∧ TwoB Ft Ft w w' t s (nextF x' a.row.1 d) (nextF (doesF f a) a.row.1 a.draw) [(pb, Obj.cells #[.int .i64 v1, .int .i64 v2] 40 (0, 0)), (ab, Obj.cells V.toArray 46 (0, 0))] from fun d hd => by
            have := ffindL K K.firm h12.swap (by have e1 := HFL.out; have e2 := HXL.out.1; rw [e2]; omega) (by have := HXL.out; omega) (by have := HXL.out; omega) a.row.1 HOK.out.1.row.key d hd
            unfold kv at this
            rw [HOK.out.2, HXL.out.1, hg, hhs] at this
            exact this)
          have R12 := Lib.hid (HRW.out w12 (h12.blk (List.mem_cons_of_mem _ List.mem_cons_self)))
          have c36b := R12.out.2.2
          have HW12 := Lib.hid (And.intro hw12 hpb)
          clear h11 h12 hw12 hpb hg hhs KFF R10 c36
          go_upto_region 14 with fail
          rw [HW12.out.1, HW12.out.2]
          go_wp2_with (refine wpList_load_mid rfl 38 (.tmp 91) rfl ab 1 rfl X (.struct fs) R12.out.1 HF.out.1 rfl HXS.out ?_)
          obtain ⟨d2, hd2, hd3⟩ : ∃ d2 : Nat, bits .xor .u64 ((a.draw : Nat) : Int) ((dd : Nat) : Int) = ((d2 : Nat) : Int) ∧ d2 < 18446744073709551616 := xor_d _ _ HOK.out.1.draw hdd
          rw [hd2]
          refine (KG.out d2 hd3).mono ?_
          rintro e w13 ⟨rfl, h13⟩
          obtain ⟨w14, hw14⟩ : ∃ w14, w13.alloc (.cells #[.int .i64 v1, .int .i64 v2] 40) = w14 := ⟨_, rfl⟩
          obtain ⟨qb, hqb⟩ : ∃ qb, w13.heap.size = qb := ⟨_, rfl⟩
          have h14 := h13.box K.firm K.firm hqb hw14
          have HPB := Lib.hid (show w14.rangeAt pb 0 [.int .i64 v1, .int .i64 v2] ∧ w14.rangeAt qb 0 [.int .i64 v1, .int .i64 v2] from ⟨range_of_blk (cs := [.int .i64 v1, .int .i64 v2]) (h14.blk (List.mem_cons_of_mem _ List.mem_cons_self)), range_of_blk (cs := [.int .i64 v1, .int .i64 v2]) (h14.blk List.mem_cons_self)⟩)
          have HGS := Lib.hid (show (Try.prog.info? 40).map (·.size) = some ([Value.int .i64 v1, Value.int .i64 v2]).length from place_size)
          have HW14 := Lib.hid (And.intro hw14 hqb)
          have HNX := Lib.hid (show TwoB Ft Ft w w14 s t (nextF (doesF f a) a.row.1 a.draw) (nextF x' a.row.1 d2) [] ∧ (nextF x' a.row.1 d2).L = (nextF (doesF f a) a.row.1 a.draw).L ∧ (nextF (doesF f a) a.row.1 a.draw).L.length ≤ j + 1 ∧ ((nextF (doesF f a) a.row.1 a.draw).asked ≤ j + 1 ∧ (nextF (doesF f a) a.row.1 a.draw).loads ≤ j + 1) ∧ (nextF x' a.row.1 d2).asked ≤ j + 1 ∧ (nextF x' a.row.1 d2).loads ≤ j + 1 from by
            have n1 := next_cost (doesF f a) a.row.1 a.draw
            have n2 := HFL.out
            have n3 := next_cost x' a.row.1 d2
            have n4 := HXL.out
            rw [next_L, next_L]
            exact ⟨h14.drop.drop.drop.swap, n4.1, by omega, by omega, by omega⟩)
          clear h13 h14 hw14 hqb KG R12 c36b hd2 hd3
          go_upto_region 15 with fail
          rw [HW14.out.1, HW14.out.2]
          have QEP : ∀ W : World, (Op.equalIn 10000 40 (.agg #[.int .i64 v1, .int .i64 v2]) (.agg #[.int .i64 v1, .int .i64 v2])).run Try.prog W = .ok true W := fun W => by
            have := place_eq (a := (v1, v2)) (b := (v1, v2)) HPI.out HPI.out W
            rw [decide_eq_true rfl] at this
            exact this
          have QGP : Try.prog.eqGuardType Try.prog.depth 40 = false := place_guard
          cases hs with
          | true =>
            go_wp2_with (first | refine wpList_load_mid rfl 40 (.tmp 18) rfl pb 0 rfl [.int .i64 v1, .int .i64 v2] (.struct fp) HPB.out.1 HF.out.2.1 rfl HGS.out ?_ | refine wpList_load_mid rfl 40 (.tmp 20) rfl qb 0 rfl [.int .i64 v1, .int .i64 v2] (.struct fp) HPB.out.2 HF.out.2.1 rfl HGS.out ?_)
            go_roundw
            case rel => exact ⟨j + 1, _, _, by omega, by go_num, HNX⟩
            case measure => simp [intOf]; omega
          | false =>
            go_wp2_with (first | refine wpList_load_mid rfl 40 (.tmp 18) rfl pb 0 rfl [.int .i64 v1, .int .i64 v2] (.struct fp) HPB.out.1 HF.out.2.1 rfl HGS.out ?_ | refine wpList_load_mid rfl 40 (.tmp 20) rfl qb 0 rfl [.int .i64 v1, .int .i64 v2] (.struct fp) HPB.out.2 HF.out.2.1 rfl HGS.out ?_)
            go_roundw
            case rel => exact ⟨j + 1, _, _, by omega, by go_num, HNX⟩
            case measure => simp [intOf]; omega
        · have hri0 : ¬ (kd : Int) % 5 < 2 := by omega
          have hr0 : ¬ r = 0 := by omega
          have hr1 : ¬ r = 1 := by omega
          go_upto_region 13 with fail
          obtain ⟨w10, hw10⟩ : ∃ w10, w9 = w10 := ⟨_, rfl⟩
          rw [hw10]
          obtain ⟨x', hx'⟩ : ∃ x', x = x' := ⟨_, rfl⟩
          have HXL := Lib.hid (show x'.L = (doesF f a).L ∧ x'.asked ≤ j ∧ x'.loads ≤ j from by
            have e3 := HST.out
            rw [hx'] at e3
            refine ⟨?_, by omega, by omega⟩
            rw [HDL.out.1, if_neg hr0, if_neg hr1, e3.1])
          have H10 := Lib.hid (show TwoB Ft Ft w w10 s t (doesF f a) x' [(ab, Obj.cells V.toArray 46 (0, 0))] from by rw [← hw10, ← hx']; exact H9.out)
          clear R9 c0 H9 hw10 hx' KD2 HB9
          have KFF := Lib.hid (show Calls Try.prog 15 #[.pointer (some s), .agg X.toArray, .int .u64 a.draw] w10 _ from by
            have := ffindL K K.firm H10.out (by have := HFL.out; omega) (by have := HFL.out; omega) (by have := HFL.out; omega) a.row.1 HOK.out.1.row.key a.draw HOK.out.1.draw
            unfold kv at this
            rw [HOK.out.2] at this
            exact this)
          have R10 := Lib.hid (HRW.out w10 (H10.out.blk List.mem_cons_self))
          have c36 := R10.out.2.2
          go_wp2_with (refine wpList_load_mid rfl 38 (.tmp 81) rfl ab 1 rfl X (.struct fs) R10.out.1 HF.out.1 rfl HXS.out ?_)
          refine KFF.out.mono ?_
          rintro e w11 ⟨rfl, h11⟩
          obtain ⟨⟨v1, v2⟩, hg⟩ : ∃ p, getX (doesF f a).L a.row.1 = p := ⟨_, rfl⟩
          obtain ⟨hs, hhs⟩ : ∃ b, hasX (doesF f a).L a.row.1 = b := ⟨_, rfl⟩
          rw [hg, hhs]
          unfold pv
          obtain ⟨w12, hw12⟩ : ∃ w12, w11.alloc (.cells #[.int .i64 v1, .int .i64 v2] 40) = w12 := ⟨_, rfl⟩
          obtain ⟨pb, hpb⟩ : ∃ pb, w11.heap.size = pb := ⟨_, rfl⟩
          have h12 := h11.box K.firm K.firm hpb hw12
          have HPI := Lib.hid (show In64 v1 ∧ In64 v2 from by
            have := getX_ok (fgoodL K H10.out).rows a.row.1
            rw [hg] at this
            exact this)
          have KG := Lib.hid (show ∀ d : Nat, d < 18446744073709551616 → Calls Try.prog 15 #[.pointer (some t), .agg X.toArray, .int .u64 d] w12 fun e w' => e = .returned (.tuple #[.agg #[.int .i64 v1, .int .i64 v2], .bool hs]) ∧ TwoB Ft Ft w w' t s (nextF x' a.row.1 d) (nextF (doesF f a) a.row.1 a.draw) [(pb, Obj.cells #[.int .i64 v1, .int .i64 v2] 40 (0, 0)), (ab, Obj.cells V.toArray 46 (0, 0))] from fun d hd => by
            have := ffindL K K.firm h12.swap (by have e1 := HFL.out; have e2 := HXL.out.1; rw [e2]; omega) (by have := HXL.out; omega) (by have := HXL.out; omega) a.row.1 HOK.out.1.row.key d hd
            unfold kv at this
            rw [HOK.out.2, HXL.out.1, hg, hhs] at this
            exact this)
          have R12 := Lib.hid (HRW.out w12 (h12.blk (List.mem_cons_of_mem _ List.mem_cons_self)))
          have c36b := R12.out.2.2
          have HW12 := Lib.hid (And.intro hw12 hpb)
          clear h11 h12 hw12 hpb hg hhs KFF R10 c36
          go_upto_region 14 with fail
          rw [HW12.out.1, HW12.out.2]
          go_wp2_with (refine wpList_load_mid rfl 38 (.tmp 91) rfl ab 1 rfl X (.struct fs) R12.out.1 HF.out.1 rfl HXS.out ?_)
          obtain ⟨d2, hd2, hd3⟩ : ∃ d2 : Nat, bits .xor .u64 ((a.draw : Nat) : Int) ((dd : Nat) : Int) = ((d2 : Nat) : Int) ∧ d2 < 18446744073709551616 := xor_d _ _ HOK.out.1.draw hdd
          rw [hd2]
          refine (KG.out d2 hd3).mono ?_
          rintro e w13 ⟨rfl, h13⟩
          obtain ⟨w14, hw14⟩ : ∃ w14, w13.alloc (.cells #[.int .i64 v1, .int .i64 v2] 40) = w14 := ⟨_, rfl⟩
          obtain ⟨qb, hqb⟩ : ∃ qb, w13.heap.size = qb := ⟨_, rfl⟩
          have h14 := h13.box K.firm K.firm hqb hw14
          have HPB := Lib.hid (show w14.rangeAt pb 0 [.int .i64 v1, .int .i64 v2] ∧ w14.rangeAt qb 0 [.int .i64 v1, .int .i64 v2] from ⟨range_of_blk (cs := [.int .i64 v1, .int .i64 v2]) (h14.blk (List.mem_cons_of_mem _ List.mem_cons_self)), range_of_blk (cs := [.int .i64 v1, .int .i64 v2]) (h14.blk List.mem_cons_self)⟩)
          have HGS := Lib.hid (show (Try.prog.info? 40).map (·.size) = some ([Value.int .i64 v1, Value.int .i64 v2]).length from place_size)
          have HW14 := Lib.hid (And.intro hw14 hqb)
          have HNX := Lib.hid (show TwoB Ft Ft w w14 s t (nextF (doesF f a) a.row.1 a.draw) (nextF x' a.row.1 d2) [] ∧ (nextF x' a.row.1 d2).L = (nextF (doesF f a) a.row.1 a.draw).L ∧ (nextF (doesF f a) a.row.1 a.draw).L.length ≤ j + 1 ∧ ((nextF (doesF f a) a.row.1 a.draw).asked ≤ j + 1 ∧ (nextF (doesF f a) a.row.1 a.draw).loads ≤ j + 1) ∧ (nextF x' a.row.1 d2).asked ≤ j + 1 ∧ (nextF x' a.row.1 d2).loads ≤ j + 1 from by
            have n1 := next_cost (doesF f a) a.row.1 a.draw
            have n2 := HFL.out
            have n3 := next_cost x' a.row.1 d2
            have n4 := HXL.out
            rw [next_L, next_L]
            exact ⟨h14.drop.drop.drop.swap, n4.1, by omega, by omega, by omega⟩)
          clear h13 h14 hw14 hqb KG R12 c36b hd2 hd3
          go_upto_region 15 with fail
          rw [HW14.out.1, HW14.out.2]
          have QEP : ∀ W : World, (Op.equalIn 10000 40 (.agg #[.int .i64 v1, .int .i64 v2]) (.agg #[.int .i64 v1, .int .i64 v2])).run Try.prog W = .ok true W := fun W => by
            have := place_eq (a := (v1, v2)) (b := (v1, v2)) HPI.out HPI.out W
            rw [decide_eq_true rfl] at this
            exact this
          have QGP : Try.prog.eqGuardType Try.prog.depth 40 = false := place_guard
          cases hs with
          | true =>
            go_wp2_with (first | refine wpList_load_mid rfl 40 (.tmp 18) rfl pb 0 rfl [.int .i64 v1, .int .i64 v2] (.struct fp) HPB.out.1 HF.out.2.1 rfl HGS.out ?_ | refine wpList_load_mid rfl 40 (.tmp 20) rfl qb 0 rfl [.int .i64 v1, .int .i64 v2] (.struct fp) HPB.out.2 HF.out.2.1 rfl HGS.out ?_)
            go_roundw
            case rel => exact ⟨j + 1, _, _, by omega, by go_num, HNX⟩
            case measure => simp [intOf]; omega
          | false =>
            go_wp2_with (first | refine wpList_load_mid rfl 40 (.tmp 18) rfl pb 0 rfl [.int .i64 v1, .int .i64 v2] (.struct fp) HPB.out.1 HF.out.2.1 rfl HGS.out ?_ | refine wpList_load_mid rfl 40 (.tmp 20) rfl qb 0 rfl [.int .i64 v1, .int .i64 v2] (.struct fp) HPB.out.2 HF.out.2.1 rfl HGS.out ?_)
            go_roundw
            case rel => exact ⟨j + 1, _, _, by omega, by go_num, HNX⟩
            case measure => simp [intOf]; omega
      · obtain rfl : j = m := by omega
        obtain ⟨hst1, hst2, hst3, hst4, hst5⟩ := hst.out
        obtain ⟨N, hN⟩ : ∃ N, f.L.length = N := ⟨_, rfl⟩
        have KL := flenL K K.firm hst1 (by have := HM.out.2; omega)
        rw [hN] at KL
        replace KL := Lib.hid KL
        have HN := Lib.hid (And.intro hN (And.intro hst2 (show N ≤ 150 by have := HM.out.2; omega)))
        clear hst hst1 hst2 hst3 hst4 hst5 hN
        go_wp2_with fail
        refine KL.out.mono ?_
        rintro e wB ⟨rfl, hB⟩
        have KL2 := flenL K K.firm hB.swap (by rw [HN.out.2.1, HN.out.1]; have := HN.out.2.2; omega)
        rw [HN.out.2.1, HN.out.1] at KL2
        replace KL2 := Lib.hid KL2
        clear hB KL
        go_wp2_with fail
        refine KL2.out.mono ?_
        rintro e wC ⟨rfl, hC⟩
        have HB := Lib.hid hC.bel
        clear hC KL2
        go_wp2_with fail
        go_ret
        exact ⟨rfl, HB.out⟩
end
end Go.Proofs.Ytoofhaoaogoomaa
