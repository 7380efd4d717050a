/- The contract of the package's Copy. No statement of the seat is proved here. -/
import Derived.Test.YtdnconakpajdgaaDskLandG
namespace Go.Proofs.Ytdnconakpajdgaa
open Go.RowKit
set_option linter.unusedVariables false
set_option linter.unusedSimpArgs false

section
variable {w : World} {d : Nat} {An : Option Addr} {cn : Nat} {As : Option Addr} {cs : Nat} {Ap : Option Addr} {cp : Nat} {n : Nat} {N Sf : Nat → List UInt8} {ps : List (Nat × List UInt8)} {fl : Fl}
/-- The stores into the new block. -/
theorem copy_end {w1 w2 w3 w4 : World} {cb : Nat} {A1 A2 A3 : Option Addr} {c1 c2 c3 : Nat} (h : LD w d An cn As cs Ap cp n N Sf ps fl) (hcb : w.heap.size = cb) (hb1 : Below w.heap.size w w1) (hz : w1.heap.size = cb + 1) (hk : Blk w1 cb 57 (lcells An cn As cs Ap cp n ps.length fl))
    (hb2 : Below w1.heap.size w1 w2) (ho1 : w2.ownsRow w1.heap.size 64 128 (.slice A1 n c1) n (secs n N)) (hb3 : Below w2.heap.size w2 w3) (ho2 : w3.ownsRow w2.heap.size 64 128 (.slice A2 n c2) n (secs n Sf)) (hb4 : Below w3.heap.size w3 w4) (ho3 : w4.ownsRow w3.heap.size 67 129 (.slice A3 ps.length c3) ps.length (wcs ps)) :
    ∃ w5 w6 w7, w4.setCell ⟨cb, 0, none⟩ (.slice A1 n c1) = w5 ∧ w5.setCell ⟨cb, 1, none⟩ (.slice A2 n c2) = w6 ∧ w6.setCell ⟨cb, 2, none⟩ (.slice A3 ps.length c3) = w7 ∧
      (w4.cell? ⟨cb, 0, none⟩ = some (.slice An n cn) ∧ w4.frozen? ⟨cb, 0, none⟩ = false) ∧ (w5.cell? ⟨cb, 1, none⟩ = some (.slice As n cs) ∧ w5.frozen? ⟨cb, 1, none⟩ = false) ∧ (w6.cell? ⟨cb, 2, none⟩ = some (.slice Ap ps.length cp) ∧ w6.frozen? ⟨cb, 2, none⟩ = false) ∧
      Blk w5 d 57 (lcells An cn As cs Ap cp n ps.length fl) ∧ Blk w6 d 57 (lcells An cn As cs Ap cp n ps.length fl) ∧ Blk w7 d 57 (lcells An cn As cs Ap cp n ps.length fl) ∧
      LD w7 cb A1 c1 A2 c2 A3 c3 n N Sf ps fl ∧ Below w.heap.size w w7 ∧ ∀ g, LF cb A1 c1 A2 c2 A3 c3 n ps.length g → w.heap.size ≤ g := by
  have hz12 := hb2.size
  have hz23 := hb3.size
  have hz34 := hb4.size
  have hdl := h.blk.lt
  have b14 : Below w1.heap.size w1 w4 := hb2.trans ((hb3.mono hb2.size).trans (hb4.mono (Nat.le_trans hb2.size hb3.size)))
  have b24 : Below w2.heap.size w2 w4 := hb3.trans (hb4.mono hb3.size)
  have hk4 : Blk w4 cb 57 (lcells An cn As cs Ap cp n ps.length fl) := hk.below b14 (by omega)
  have hd4 : Blk w4 d 57 (lcells An cn As cs Ap cp n ps.length fl) := (h.blk.below hb1 hdl).below b14 (by have := hb1.size; omega)
  have hne : d ≠ cb := by omega
  have hb : Below w.heap.size w w4 := hb1.trans (b14.mono hb1.size)
  have hk5 := hk4.set_ 0 (.slice A1 n c1)
  have hk6 := hk5.set_ 1 (.slice A2 n c2)
  have hk7 := hk6.set_ 2 (.slice A3 ps.length c3)
  have hd5 : Blk (w4.setCell ⟨cb, 0, none⟩ (.slice A1 n c1)) d 57 (lcells An cn As cs Ap cp n ps.length fl) := hd4.same (setCell_block hne)
  have hd6 : Blk ((w4.setCell ⟨cb, 0, none⟩ (.slice A1 n c1)).setCell ⟨cb, 1, none⟩ (.slice A2 n c2)) d 57 (lcells An cn As cs Ap cp n ps.length fl) := hd5.same (setCell_block hne)
  have hd7 : Blk (((w4.setCell ⟨cb, 0, none⟩ (.slice A1 n c1)).setCell ⟨cb, 1, none⟩ (.slice A2 n c2)).setCell ⟨cb, 2, none⟩ (.slice A3 ps.length c3)) d 57 (lcells An cn As cs Ap cp n ps.length fl) := hd6.same (setCell_block hne)
  have set3 : ∀ k, k ≠ cb → (((w4.setCell ⟨cb, 0, none⟩ (.slice A1 n c1)).setCell ⟨cb, 1, none⟩ (.slice A2 n c2)).setCell ⟨cb, 2, none⟩ (.slice A3 ps.length c3)).heap[k]? = w4.heap[k]? := fun k hk => ((setCell_block hk).trans (setCell_block hk)).trans (setCell_block hk)
  have g1 : ∀ g, (Value.slice A1 n c1).ownBlock = some g → w1.heap.size ≤ g ∧ g < w2.heap.size := fun g hg => World.ownsRow.lt ho1 g hg
  have g2 : ∀ g, (Value.slice A2 n c2).ownBlock = some g → w2.heap.size ≤ g ∧ g < w3.heap.size := fun g hg => World.ownsRow.lt ho2 g hg
  have g3 : ∀ g, (Value.slice A3 ps.length c3).ownBlock = some g → w3.heap.size ≤ g ∧ g < w4.heap.size := fun g hg => World.ownsRow.lt ho3 g hg
  have r1 := ownsRow_same (w' := w4) ho1 fun g hg hl => b24.block g hl
  have r2 := ownsRow_same (w' := w4) ho2 fun g hg hl => hb4.block g hl
  refine ⟨_, _, _, rfl, rfl, rfl, ⟨hk4.cell 0, hk4.frozen 0⟩, ⟨hk5.cell 1, hk5.frozen 1⟩, ⟨hk6.cell 2, hk6.frozen 2⟩, hd5, hd6, hd7, ⟨hk7, ?_, ?_, ?_, ?_⟩, ((hb.setCell (Nat.le_of_eq hcb) _).setCell (Nat.le_of_eq hcb) _).setCell (Nat.le_of_eq hcb) _, ?_⟩
  · exact ownsRow_base (ownsRow_same r1 fun g hg _ => set3 g (by have := g1 g hg; omega)) (Nat.zero_le _)
  · exact ownsRow_base (ownsRow_same r2 fun g hg _ => set3 g (by have := g2 g hg; omega)) (Nat.zero_le _)
  · exact ownsRow_base (ownsRow_same ho3 fun g hg _ => set3 g (by have := g3 g hg; omega)) (Nat.zero_le _)
  · intro g hg e
    have := g1 g hg
    have := g2 g e
    omega
  · intro g hg
    rcases hg with rfl | hg | hg | hg
    · omega
    · have := g1 g hg; omega
    · have := g2 g hg; omega
    · have := g3 g hg; omega
set_option maxRecDepth 100000 in
set_option maxHeartbeats 4000000 in
theorem copy_any (h : LD w d An cn As cs Ap cp n N Sf ps fl) (hn : n ≤ 16384) (hp0 : ps.length ≤ 100000) :
    Calls Try.prog 13 #[.pointer (some ⟨d, 0, none⟩)] w fun e w' => ∃ d' An' cn' As' cs' Ap' cp', e = .returned (.pointer (some ⟨d', 0, none⟩)) ∧ LD w' d' An' cn' As' cs' Ap' cp' n N Sf ps fl ∧ Below w.heap.size w w' ∧ ∀ g, LF d' An' cn' As' cs' Ap' cp' n ps.length g → w.heap.size ≤ g := by
  obtain ⟨p, hp⟩ : ∃ p, ps.length = p := ⟨_, rfl⟩
  have HP := Lib.hid hp
  obtain ⟨dead, cut, left, cnt⟩ := fl
  have HH := Lib.hid h
  obtain ⟨cb, hcb⟩ : ∃ cb, w.heap.size = cb := ⟨_, rfl⟩
  obtain ⟨w1, hw1⟩ : ∃ w1, w.alloc (.cells #[.slice An n cn, .slice As n cs, .slice Ap p cp, .bool dead, .bool cut, .int .i64 left, .int .i64 (cnt : Nat)] 57) = w1 := ⟨_, rfl⟩
  have hb1 : Below w.heap.size w w1 := hw1 ▸ (Below.refl _ _).alloc (Nat.le_refl _) _
  have HK1 := Lib.hid (show Blk w1 cb 57 (lcells An cn As cs Ap cp n p ⟨dead, cut, left, cnt⟩) by rw [← hw1, ← hcb]; exact Blk.new w _ _)
  have HB1 := Lib.hid (show Below w.heap.size w w1 ∧ w1.heap.size = cb + 1 from ⟨hb1, by rw [← hw1, ← hcb]; exact Array.size_push ..⟩)
  have HB1D : Below w1.heap.size w1 w1.drew := ⟨rfl, rfl, rfl, Nat.le_refl _, fun _ _ => rfl⟩
  have HC := Lib.hid (fun W (hb : Below w1.heap.size w1 W) => (show W.cell? ⟨d, 0, none⟩ = some (.slice An n cn) ∧ W.cell? ⟨d, 1, none⟩ = some (.slice As n cs) ∧ W.cell? ⟨d, 2, none⟩ = some (.slice Ap p cp) from by
    have h := (HH.out.below HB1.out.1).below hb
    exact ⟨h.blk.cell 0, h.blk.cell 1, by rw [← hp]; exact h.blk.cell 2⟩))
  have KN := Lib.hid (fun W (hb : Below w1.heap.size w1 W) => clone_secs An n cn N hn W ((HH.out.below HB1.out.1).below hb).now)
  have KS := Lib.hid (fun W (hb : Below w1.heap.size w1 W) => clone_secs As n cs Sf hn W ((HH.out.below HB1.out.1).below hb).safe)
  have KP := Lib.hid (fun W (hb : Below w1.heap.size w1 W) => (show Calls Try.prog 28 #[.slice Ap p cp] W fun e w' => ∃ A' c', e = .returned (.slice A' p c') ∧ w'.ownsRow W.heap.size 67 129 (.slice A' p c') p (wcs ps) ∧ Below W.heap.size W w' from by
    have h := ((HH.out.below HB1.out.1).below hb).put
    rw [hp] at h hp0
    exact clone_wcs Ap p cp ps hp0 W h))
  have hc0 : w.cell? ⟨d, 0, none⟩ = some (.slice An n cn) := h.blk.cell 0
  have hc1 : w.cell? ⟨d, 1, none⟩ = some (.slice As n cs) := h.blk.cell 1
  have hc2 : w.cell? ⟨d, 2, none⟩ = some (.slice Ap p cp) := by rw [← hp]; exact h.blk.cell 2
  have hc3 : w.cell? ⟨d, 3, none⟩ = some (.bool dead) := h.blk.cell 3
  have hc4 : w.cell? ⟨d, 4, none⟩ = some (.bool cut) := h.blk.cell 4
  have hc5 : w.cell? ⟨d, 5, none⟩ = some (.int .i64 left) := h.blk.cell 5
  have hc6 : w.cell? ⟨d, 6, none⟩ = some (.int .i64 (cnt : Nat)) := h.blk.cell 6
  have HW1 := Lib.hid hw1
  have HCB := Lib.hid hcb
  rw [hp]
  have PF := Lib.hid (fun w2 w3 w4 A1 c1 A2 c2 A3 c3 hb2 ho1 hb3 ho2 hb4 ho3 => copy_end (w1 := w1) (w2 := w2) (w3 := w3) (w4 := w4) (A1 := A1) (c1 := c1) (A2 := A2) (c2 := c2) (A3 := A3) (c3 := c3) h hcb hb1 HB1.out.2 (by rw [hp]; exact HK1.out) hb2 ho1 hb3 ho2 hb4 ho3)
  rw [hp] at PF
  clear h hw1 hb1 hcb hp
  go_enter Try.func13, Try.ntmps13
  go_wp2_with fail
  rw [HW1.out, HCB.out]
  have hs1 := HC.out _ HB1D
  clear hc0 hc1 hc2 hc3 hc4 hc5 hc6
  (go_region_held (fun W => W.cell? ⟨d, 0, none⟩ = some (.slice An n cn) ∧ W.cell? ⟨d, 1, none⟩ = some (.slice As n cs) ∧ W.cell? ⟨d, 2, none⟩ = some (.slice Ap p cp)) (first | exact HC.out _ (by assumption) | exact hs5 | exact hs6 | exact hs7 | fail) (first
    | (go_at_call 28; (with_reducible refine (KP.out _ hb3).mono ?_); rintro e w4 ⟨A3, c3, rfl, ho3, hb4x⟩; have hb4 := hb3.trans (hb4x.mono hb3.size); have hs4 := HC.out _ hb4; obtain ⟨w5, w6, w7, e5, e6, e7, ⟨q40, f40⟩, ⟨q51, f51⟩, ⟨q62, f62⟩, d5, d6, d7, hend⟩ := PF.out _ _ _ _ _ _ _ _ _ hb2 ho1 hb3x ho2 hb4x ho3; have hs5 : w5.cell? ⟨d, 0, none⟩ = some (.slice An n cn) ∧ w5.cell? ⟨d, 1, none⟩ = some (.slice As n cs) ∧ w5.cell? ⟨d, 2, none⟩ = some (.slice Ap p cp) := ⟨d5.cell 0, d5.cell 1, d5.cell 2⟩; have hs6 : w6.cell? ⟨d, 0, none⟩ = some (.slice An n cn) ∧ w6.cell? ⟨d, 1, none⟩ = some (.slice As n cs) ∧ w6.cell? ⟨d, 2, none⟩ = some (.slice Ap p cp) := ⟨d6.cell 0, d6.cell 1, d6.cell 2⟩; have hs7 : w7.cell? ⟨d, 0, none⟩ = some (.slice An n cn) ∧ w7.cell? ⟨d, 1, none⟩ = some (.slice As n cs) ∧ w7.cell? ⟨d, 2, none⟩ = some (.slice Ap p cp) := ⟨d7.cell 0, d7.cell 1, d7.cell 2⟩)
    | (go_at_call 27; (with_reducible refine (KS.out _ hb2).mono ?_); rintro e w3 ⟨A2, c2, rfl, ho2, hb3x⟩; have hb3 := hb2.trans (hb3x.mono hb2.size); have hs3 := HC.out _ hb3)
    | (go_at_call 27; (with_reducible refine (KN.out _ HB1D).mono ?_); rintro e w2 ⟨A1, c1, rfl, ho1, hb2x⟩; have hb2 := HB1D.trans (hb2x.mono HB1D.size); have hs2 := HC.out _ hb2)))
  have HE := Lib.hid hend
  clear hs1 hs2 hs3 hs4 hs5 hs6 hs7 q40 f40 q51 f51 q62 f62 d5 d6 d7 hend hb2 hb3 hb4 hb2x hb3x hb4x ho1 ho2 ho3 HB1D e5 e6 e7
  go_wp2_with fail
  go_ret
  exact ⟨_, _, _, _, _, _, _, rfl, HE.out.1, HE.out.2.1, HE.out.2.2⟩
end
end Go.Proofs.Ytdnconakpajdgaa
