/- The contract of the package's Flush. No statement of the seat is proved here. -/
import Derived.Test.YtdnconakpajdgaaDskLandE
namespace Go.Proofs.Ytdnconakpajdgaa
open Go.RowKit
set_option linter.unusedVariables false
set_option linter.unusedSimpArgs false

section
variable {w : World} {d : Nat} {An : Option Addr} {cn : Nat} {As : Option Addr} {cs : Nat} {Ap : Option Addr} {cp : Nat} {n : Nat} {N Sf : Nat → List UInt8} {ps : List (Nat × List UInt8)} {fl : Fl}
set_option maxHeartbeats 1000000 in
theorem lflush_dead (h : LD w d An cn As cs Ap cp n N Sf ps fl) (hc : fl.cnt ≤ 100000) (hl : In64 fl.left) (hp : fl.cut = true → 0 ≤ fl.left) (hb : (beginF fl).2 = false) :
    Calls Try.prog 24 #[.pointer (some ⟨d, 0, none⟩)] w fun e w' => e = .returned (.int .i64 6) ∧ LD w' d An cn As cs Ap cp n N Sf ps (beginF fl).1 ∧ w.grownBy w' (some d) := by
  have KB0 := begin_any h hc hl hp
  rw [hb] at KB0
  have KB := Lib.hid KB0
  clear KB0 h hc hl hp hb
  go_enter Try.func24, Try.ntmps24
  go_wp2_with fail
  (with_reducible refine KB.out.mono ?_)
  rintro e w1 ⟨rfl, h1, hg1⟩
  have H1 := Lib.hid (And.intro h1 hg1)
  clear h1 hg1 KB
  go_wp2_with fail
  go_ret
  exact ⟨rfl, H1.out⟩
/-- The write of a round, in a block of its own. -/
theorem LD.box (h : LD w d An cn As cs Ap cp n N Sf ps fl) (q : Nat × List UInt8) : ∃ w5 wb, w.alloc (.cells (wc q).toArray 67) = w5 ∧ w.heap.size = wb ∧ Below w.heap.size w w5 ∧ Blk w5 wb 67 (wc q).toArray ∧ LD w5 d An cn As cs Ap cp n N Sf ps fl :=
  have hb : Below w.heap.size w (w.alloc (.cells (wc q).toArray 67)) := (Below.refl _ _).alloc (Nat.le_refl _) _
  ⟨_, _, rfl, rfl, hb, Blk.new w _ _, h.below hb⟩
set_option maxRecDepth 100000 in
set_option maxHeartbeats 4000000 in
theorem lflush_good (h : LD w d An cn As cs Ap cp n N Sf ps fl) (hn : n ≤ 16384) (hS : ∀ i, (Sf i).length = 128) (hq : ∀ q ∈ ps, q.1 < n ∧ q.2.length = 128) (hp0 : ps.length ≤ 100000) (hc : fl.cnt ≤ 100000) (hl : In64 fl.left) (hp : fl.cut = true → 0 ≤ fl.left) (hb : (beginF fl).2 = true) :
    Calls Try.prog 24 #[.pointer (some ⟨d, 0, none⟩)] w fun e w' => e = .returned (.int .i64 0) ∧ Only (LF d An cn As cs Ap cp n ps.length) w w' ∧ LD w' d An cn As cs none 0 n N (flushL ps Sf) [] (beginF fl).1 := by
  have KB0 := begin_any h hc hl hp
  rw [hb] at KB0
  have KB := Lib.hid KB0
  obtain ⟨iz, hiz, hzz⟩ := write_zero2
  obtain ⟨fs, hfs⟩ := write_desc
  obtain ⟨sn, se, hsd⟩ := sector_desc
  have HZ := Lib.hid (And.intro hiz (And.intro hzz (And.intro hfs hsd)))
  have HQ := Lib.hid hq
  have HSS := Lib.hid hS
  obtain ⟨p, hp1⟩ : ∃ p, ps.length = p := ⟨_, rfl⟩
  have HP := Lib.hid hp1
  have hp2 : p ≤ 100000 := by omega
  rw [hp1]
  clear KB0 h hc hl hp hb hiz hzz hfs hsd hq hS hp1 hp0
  go_enter Try.func24, Try.ntmps24
  go_wp2_with fail
  (with_reducible refine KB.out.mono ?_)
  rintro e w1 ⟨rfl, h1, hg1⟩
  have hc2 : w1.cell? ⟨d, 2, none⟩ = some (.slice Ap p cp) := by rw [← HP.out]; exact h1.blk.cell 2
  have H1 := Lib.hid (show Only (LF d An cn As cs Ap cp n p) w w1 ∧ LD w1 d An cn As cs Ap cp n N Sf ps (beginF fl).1 from ⟨only_grown hg1 (.inl rfl), h1⟩)
  clear h1 hg1 KB
  go_wp2_with fail
  go_loopw [15] (fun i wr => ∃ j : Nat, j ≤ p ∧ i = .int .i64 j ∧ Hid (Only (LF d An cn As cs Ap cp n p) w wr ∧ LD wr d An cn As cs Ap cp n N (flushL (ps.take j) Sf) ps (beginF fl).1)) (fun i _ => p - (intOf i).toNat)
  case atStart => exact ⟨0, Nat.zero_le _, rfl, Lib.hid H1.out⟩
  case round =>
    clear H1 hc2
    obtain ⟨j, hj, rfl, hst⟩ := hrel
    by_cases hlt : j < p
    · have hjl : j < ps.length := by rw [HP.out]; exact hlt
      obtain ⟨q, hqe⟩ : ∃ q, ps[j] = q := ⟨_, rfl⟩
      have hqm := HQ.out q (by rw [← hqe]; exact List.getElem_mem hjl)
      obtain ⟨Y, hY⟩ : ∃ Y, flushL (ps.take j) Sf = Y := ⟨_, rfl⟩
      have hYl : ∀ i, (Y i).length = 128 := by rw [← hY]; exact flushL_len _ _ HSS.out fun p hp => (HQ.out p (List.mem_of_mem_take hp)).2
      have HTK := Lib.hid (show flushL (ps.take (j + 1)) Sf = updS Y q.1 q.2 by rw [List.take_succ_eq_append_getElem hjl, hqe, flushL_snoc, hY])
      rw [hY] at hst
      obtain ⟨gp, hAp, _, hrp⟩ := hst.out.2.at_put (fun p hp => (HQ.out p hp).2) hjl
      rw [hqe] at hrp
      have HRP := Lib.hid hrp
      obtain ⟨w5, wb, hw5, hwb, hb5, hk5, h5⟩ := hst.out.2.box q
      obtain ⟨gs, hAs, hos, _, hth⟩ := h5.at_safe hYl hqm.1
      have k0 : w5.cell? ⟨d, 1, none⟩ = some (.slice As n cs) := h5.blk.cell 1
      have k1 : w5.cell? ⟨wb, 0, none⟩ = some (.int .i64 (q.1 : Nat)) := hk5.cell 0
      have HRD := Lib.hid (range_data hk5)
      have HTH := Lib.hid (show w5.drew.there gs (q.1 * 128) (bv q.2).toArray.size by rw [List.size_toArray, bv_length, hqm.2]; exact hth)
      have HSZ := Lib.hid (show (Try.prog.info? 64).map (·.size) = some (bv q.2).length by rw [bv_length, hqm.2]; exact sector_size)
      have HSZ2 := Lib.hid (show (Try.prog.info? 64).map (·.size) = some (bv q.2).toArray.size by rw [List.size_toArray, bv_length, hqm.2]; exact sector_size)
      have HSW := Lib.hid (show (Try.prog.info? 67).map (·.size) = some (wc q).length by rw [wc_length hqm.2]; exact write_size)
      have HSW2 := Lib.hid (show (Try.prog.info? 67).map (·.size) = some (wc q).toArray.size by rw [List.size_toArray, wc_length hqm.2]; exact write_size)
      have HOLD := Lib.hid (show (wc (0, z128)).toArray.size = (wc q).toArray.size by rw [List.size_toArray, List.size_toArray, wc_length hqm.2, wc_length (p := (0, z128)) z128_length])
      have HBZ := Lib.hid (Blk.new wr 67 (wc (0, z128)).toArray)
      have HW5 := Lib.hid hw5
      have HWB := Lib.hid hwb
      obtain ⟨w6, hw6⟩ : ∃ w6, w5.drew.setCells gs (q.1 * 128) (bv q.2) = w6 := ⟨_, rfl⟩
      have HW6 := Lib.hid hw6
      have HN := Lib.hid (show Only (LF d An cn As cs Ap cp n p) w w6 ∧ LD w6 d An cn As cs Ap cp n N (updS Y q.1 q.2) ps (beginF fl).1 by
        have h := LD.set_safe (w := w5.drew) (h5.keep fun _ _ => rfl) hYl hqm.1 hos (u := q.2) (by rw [hqm.2]; exact Nat.le_refl _)
        rw [upd_full (hYl _) hqm.2, hw6] at h
        have o1 : Only (LF d An cn As cs Ap cp n p) wr w5.drew := ⟨hb5.os, hb5.tape, hb5.output, hb5.size, fun k hk _ => hb5.block k hk⟩
        have o2 := only_grown (F := LF d An cn As cs Ap cp n p) (grown_cells gs (bv q.2) (q.1 * 128) w5.drew) (.inr (.inr (.inl hos)))
        rw [hw6] at o2
        exact ⟨only_trans (only_trans hst.out.1 o1) o2, h⟩)
      have hi1 : (0 : Int) ≤ (j : Int) := by omega
      have hi2 : (j : Int) < (p : Int) := by omega
      have hqn := hqm.1
      obtain ⟨qa, hqa⟩ : ∃ qa, q.1 = qa := ⟨_, rfl⟩
      rw [hqa] at k1 HTH HW6 HN HTK hqn
      have hi3 : (0 : Int) ≤ (qa : Int) := by omega
      have hi4 : (qa : Int) < (n : Int) := by omega
      subst hAp hAs
      have hcp : wr.cell? ⟨d, 2, none⟩ = some (.slice (some ⟨gp, 0, none⟩) p cp) := by rw [← HP.out]; exact hst.out.2.blk.cell 2
      clear hst hrp hw5 hwb hb5 hk5 h5 hos hth hw6 hqm hqe hjl hYl hY hqa hqn
      go_wp2_with (first
        | refine wpList_load_mid rfl 67 (.tmp 17) rfl gp (j * 129) rfl (wc q) (.struct fs) HRP.out HZ.out.2.2.1 rfl HSW.out ?_
        | refine wpList_alloc_z rfl 67 rfl iz _ HZ.out.1 HZ.out.2.1 ?_
        | (refine wpList_store_row rfl 67 (.tmp 4) (.tmp 18) rfl wr.heap.size (wc q).toArray rfl rfl 67 _ HBZ.out HSW2.out HOLD.out (all_oneCell_toArray (wc_one _)) ?_; rw [setRow_alloc, HW5.out, HWB.out]))
      refine wp_region_still_tail 9 (by kernel_rfl) (by kernel_rfl) ?_
      simp only [List.take_succ_cons, List.take_zero, List.drop_succ_cons, List.drop_zero]
      repeat (first | refine wpStill_load_mid rfl 64 (.tmp 25) rfl wb 1 rfl (bv q.2) (.array sn se) HRD.out HZ.out.2.2.2 rfl HSZ.out ?_ | still_step)
      refine wpStill_nil ?_
      change wpList _ _ _ _ _ w5.drew
      refine wpList_store_mid rfl 64 (.tmp 27) (.tmp 26) rfl gs (qa * 128) (bv q.2).toArray rfl rfl HTH.out HSZ2.out (all_oneCell_toArray (bv_one _)) ?_
      rw [List.toList_toArray, HW6.out]
      go_wp2_with fail
      go_roundw
      case rel => exact ⟨j + 1, by omega, by go_num, Lib.hid (by rw [HTK.out]; exact HN.out)⟩
      case measure => simp [intOf]; omega
    · obtain rfl : p = j := by omega
      have htk : ps.take p = ps := List.take_of_length_le (by rw [HP.out]; exact Nat.le_refl _)
      rw [htk] at hst
      have HN := Lib.hid (show Only (LF d An cn As cs Ap cp n p) w (wr.setCell ⟨d, 2, none⟩ (.slice none 0 0)) ∧ LD (wr.setCell ⟨d, 2, none⟩ (.slice none 0 0)) d An cn As cs none 0 n N (flushL ps Sf) [] (beginF fl).1 from
        ⟨only_trans hst.out.1 (only_grown (grown_cell wr d 2 _) (.inl rfl)), hst.out.2.clear⟩)
      have hcp : wr.cell? ⟨d, 2, none⟩ = some (.slice Ap p cp) := by rw [← HP.out]; exact hst.out.2.blk.cell 2
      have hf2 := hst.out.2.blk.frozen 2
      clear hst htk
      go_wp2_with fail
      go_ret
      exact ⟨rfl, HN.out⟩
end
end Go.Proofs.Ytdnconakpajdgaa
