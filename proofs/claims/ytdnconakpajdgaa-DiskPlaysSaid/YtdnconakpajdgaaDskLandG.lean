/- The contract of the package's Crash. No statement of the seat is proved here. -/
import Derived.Test.YtdnconakpajdgaaDskLandF
namespace Go.Proofs.Ytdnconakpajdgaa
open Go.RowKit
set_option linter.unusedVariables false
set_option linter.unusedSimpArgs false

/-- What is read behind a crash: of each sector that was written what is safe then. -/
def crashN (f : Nat → Nat) : Nat → List (Nat × List UInt8) → (Nat → List UInt8) → (Nat → List UInt8) → Nat → List UInt8
  | _, [], N, _ => N
  | i, p :: ps, N, s => crashN f (i + 1) ps (updS N p.1 (p.2.take (f i) ++ (s p.1).drop (f i))) (updS s p.1 (p.2.take (f i) ++ (s p.1).drop (f i)))
theorem crashN_snoc (f : Nat → Nat) : ∀ (i : Nat) (ps : List (Nat × List UInt8)) (N s : Nat → List UInt8) (p : Nat × List UInt8), crashN f i (ps ++ [p]) N s = updS (crashN f i ps N s) p.1 (p.2.take (f (i + ps.length)) ++ (crashL f i ps s p.1).drop (f (i + ps.length)))
  | i, [], N, s, p => rfl
  | i, q :: ps, N, s, p => by
    show crashN f (i + 1) (ps ++ [p]) _ _ = _
    rw [crashN_snoc f (i + 1) ps _ _ p, List.length_cons, show i + 1 + ps.length = i + (ps.length + 1) by omega]
    rfl
theorem crashN_len (f : Nat → Nat) : ∀ (i : Nat) (ps : List (Nat × List UInt8)) (N s : Nat → List UInt8), (∀ i, (N i).length = 128) → (∀ i, (s i).length = 128) → (∀ p ∈ ps, p.2.length = 128) → ∀ j, (crashN f i ps N s j).length = 128
  | _, [], N, s, hN, _, _ => hN
  | i, p :: ps, N, s, hN, hs, hp => crashN_len f (i + 1) ps _ _ (updS_len hN (torn_len (hp p (by simp)) (hs _))) (updS_len hs (torn_len (hp p (by simp)) (hs _))) fun q hq => hp q (by simp [hq])
theorem crashN_eq (f : Nat → Nat) {k : Nat} : ∀ (i : Nat) (ps : List (Nat × List UInt8)) (N s : Nat → List UInt8), (N k = s k ∨ ∃ p ∈ ps, p.1 = k) → crashN f i ps N s k = crashL f i ps s k
  | _, [], N, s, h => by
    rcases h with h | ⟨p, hp, _⟩
    · exact h
    · cases hp
  | i, p :: ps, N, s, h => by
    refine crashN_eq f (i + 1) ps _ _ ?_
    by_cases e : k = p.1
    · left
      unfold updS
      rw [if_pos e, if_pos e]
    · rcases h with h | ⟨q, hq, h⟩
      · left
        unfold updS
        rw [if_neg e, if_neg e]
        exact h
      · rcases List.mem_cons.1 hq with hq | hq
        · subst hq; exact absurd h.symm e
        · exact .inr ⟨q, hq, h⟩
theorem crashN_now {S : DS} (f : Nat → Nat) (k : Nat) : crashN f 0 S.put (nowS S) S.safe k = crashL f 0 S.put S.safe k := by
  refine crashN_eq f 0 S.put _ _ ?_
  by_cases h : ∃ p ∈ S.put, p.1 = k
  · exact .inr h
  · exact .inl (flushL_other S.put S.safe fun p hp e => h ⟨p, hp, e⟩)
section
variable {w : World} {d : Nat} {An : Option Addr} {cn : Nat} {As : Option Addr} {cs : Nat} {Ap : Option Addr} {cp : Nat} {n : Nat} {N Sf : Nat → List UInt8} {ps : List (Nat × List UInt8)} {fl : Fl}
/-- The first bytes are copied into the sector that is safe. -/
theorem torn_copy {w5 : World} {gs wb qa y : Nat} {q : Nat × List UInt8} (hk : Blk w5 wb 67 (wc q).toArray) (hq : q.2.length = 128) (hth : w5.there gs (qa * 128) 128) (hy : y ≤ 128) (ty : TypeId) :
    (Builtin.copy_ #[32, 32] ty #[.slice (some ⟨gs, qa * 128, none⟩) 128 128, .slice (some ⟨wb, 1, none⟩) y 128]).run Try.prog w5 = .ok (.int .i64 (y : Nat)) (w5.setCells gs (qa * 128) (bv (q.2.take y))) := by
  have hu8 : (Try.prog.info? 5).map (·.size) = some 1 := by kernel_rfl
  have hl : (bv (q.2.take y)).length = y := by rw [bv_length, List.length_take, hq]; omega
  have hr := range_data hk
  have := run_copy_cells (P := Try.prog) w5 32 32 ty 5 gs (qa * 128) 128 128 ⟨wb, 1, none⟩ y 128 (bv (q.2.take y)) Try.underlying32 hu8 (by rw [hl]; exact (Nat.min_eq_left hy).symm)
    (fun j v hv => by
      rw [Addr.add_mid]
      refine hr j v ?_
      unfold bv at hv ⊢
      rw [List.map_take, List.getElem?_take] at hv
      split at hv
      · exact hv
      · cases hv) (fun j hj => (hth j (by omega)).1) (fun j hj => (hth j (by omega)).2) (bv_one _)
  rw [hl] at this
  exact this
set_option maxRecDepth 100000 in
set_option maxHeartbeats 4000000 in
theorem crash_any (h : LD w d An cn As cs Ap cp n N Sf ps fl) (hn : n ≤ 16384) (hN : ∀ i, (N i).length = 128) (hS : ∀ i, (Sf i).length = 128) (hq : ∀ q ∈ ps, q.1 < n ∧ q.2.length = 128) (hp0 : ps.length ≤ 100000)
    (A1 : Option Addr) (n1 c1 : Nat) (fs1 : List Int) (hl1 : fs1.length = n1) (hc1 : n1 ≤ c1) (hm1 : c1 ≤ maxLen) (hin : ∀ x ∈ fs1, In64 x) (hr1 : RdV w w.heap.size A1 (iv fs1)) (ho1 : Out (LF d An cn As cs Ap cp n ps.length) A1 n1) :
    Calls Try.prog 14 #[.pointer (some ⟨d, 0, none⟩), .slice A1 n1 c1] w fun e w' => e = .returned (.tuple #[]) ∧ Only (LF d An cn As cs Ap cp n ps.length) w w' ∧ LD w' d An cn As cs none 0 n (crashN (fateL fs1) 0 ps N Sf) (crashL (fateL fs1) 0 ps Sf) [] ⟨false, false, 0, fl.cnt⟩ := by
  obtain ⟨iz, hiz, hzz⟩ := write_zero2
  obtain ⟨fs, hfs⟩ := write_desc
  obtain ⟨sn, se, hsd⟩ := sector_desc
  have HZ := Lib.hid (And.intro hiz (And.intro hzz (And.intro hfs hsd)))
  have HQ := Lib.hid hq
  have HSS := Lib.hid (And.intro hN hS)
  obtain ⟨p, hp1⟩ : ∃ p, ps.length = p := ⟨_, rfl⟩
  rw [hp1] at ho1
  have HP := Lib.hid hp1
  have HH := Lib.hid h
  have HR1 := Lib.hid hr1
  have HL1 := Lib.hid (And.intro hl1 ho1)
  have HIN := Lib.hid hin
  have hp2 : p ≤ 100000 := by omega
  have hc63 : c1 ≤ 9223372036854775807 := by unfold maxLen at hm1; omega
  have hc2 : w.cell? ⟨d, 2, none⟩ = some (.slice Ap p cp) := by rw [← hp1]; exact h.blk.cell 2
  rw [hp1]
  clear h hiz hzz hfs hsd hq hS hN hp1 hp0 hr1 hl1 ho1 hm1 hin
  go_enter Try.func14, Try.ntmps14
  go_wp2_with fail
  go_loopw [14] (fun i wr => ∃ j : Nat, j ≤ p ∧ i = .int .i64 j ∧ Hid (Only (LF d An cn As cs Ap cp n p) w wr ∧ LD wr d An cn As cs Ap cp n (crashN (fateL fs1) 0 (ps.take j) N Sf) (crashL (fateL fs1) 0 (ps.take j) Sf) ps fl)) (fun i _ => p - (intOf i).toNat)
  case atStart => exact ⟨0, Nat.zero_le _, rfl, Lib.hid ⟨only_refl _ _, HH.out⟩⟩
  case round =>
    clear HH hc2
    obtain ⟨j, hj, rfl, hst⟩ := hrel
    by_cases hlt : j < p
    · have hjl : j < ps.length := by rw [HP.out]; exact hlt
      obtain ⟨q, hqe⟩ : ∃ q, ps[j] = q := ⟨_, rfl⟩
      have hqm := HQ.out q (by rw [← hqe]; exact List.getElem_mem hjl)
      obtain ⟨Y, hY⟩ : ∃ Y, crashL (fateL fs1) 0 (ps.take j) Sf = Y := ⟨_, rfl⟩
      obtain ⟨X, hX⟩ : ∃ X, crashN (fateL fs1) 0 (ps.take j) N Sf = X := ⟨_, rfl⟩
      have hYl : ∀ i, (Y i).length = 128 := by rw [← hY]; exact crashL_len _ _ _ _ HSS.out.2 fun p hp => (HQ.out p (List.mem_of_mem_take hp)).2
      have hXl : ∀ i, (X i).length = 128 := by rw [← hX]; exact crashN_len _ _ _ _ _ HSS.out.1 HSS.out.2 fun p hp => (HQ.out p (List.mem_of_mem_take hp)).2
      obtain ⟨y, hy⟩ : ∃ y, fateL fs1 j = y := ⟨_, rfl⟩
      have hyl : y ≤ 128 := by rw [← hy]; exact fateL_le _ _
      have HTK := Lib.hid (show crashL (fateL fs1) 0 (ps.take (j + 1)) Sf = updS Y q.1 (q.2.take y ++ (Y q.1).drop y) ∧ crashN (fateL fs1) 0 (ps.take (j + 1)) N Sf = updS X q.1 (q.2.take y ++ (Y q.1).drop y) by
        have e : (ps.take j).length = j := by rw [List.length_take]; omega
        rw [List.take_succ_eq_append_getElem hjl, hqe, crashL_snoc, crashN_snoc, hY, hX, e, Nat.zero_add, hy]
        exact ⟨rfl, rfl⟩)
      rw [hY, hX] at hst
      obtain ⟨gp, hAp, _, hrp⟩ := hst.out.2.at_put (fun p hp => (HQ.out p hp).2) hjl
      rw [hqe] at hrp
      have HRP := Lib.hid hrp
      obtain ⟨w5, wb, hw5, hwb, hb5, hk5, h5⟩ := hst.out.2.box q
      obtain ⟨gs, hAs, hos, _, hth⟩ := h5.at_safe hYl hqm.1
      obtain ⟨gn, hAn, hon, _, _⟩ := h5.at_now hXl hqm.1
      have HSW := Lib.hid (show (Try.prog.info? 67).map (·.size) = some (wc q).length by rw [wc_length hqm.2]; exact write_size)
      have HSW2 := Lib.hid (show (Try.prog.info? 67).map (·.size) = some (wc q).toArray.size by rw [List.size_toArray, wc_length hqm.2]; exact write_size)
      have HOLD := Lib.hid (show (wc (0, z128)).toArray.size = (wc q).toArray.size by rw [List.size_toArray, List.size_toArray, wc_length hqm.2, wc_length (p := (0, z128)) z128_length])
      have HBZ := Lib.hid (Blk.new wr 67 (wc (0, z128)).toArray)
      have HW5 := Lib.hid hw5
      have HWB := Lib.hid hwb
      obtain ⟨V, hV⟩ : ∃ V, q.2.take y ++ (Y q.1).drop y = V := ⟨_, rfl⟩
      have hVl : V.length = 128 := by rw [← hV]; exact torn_len hqm.2 (hYl _)
      rw [hV] at HTK
      -- behind the copy
      obtain ⟨w6, hw6⟩ : ∃ w6, w5.drew.setCells gs (q.1 * 128) (bv (q.2.take y)) = w6 := ⟨_, rfl⟩
      have hcr : ∀ ty, (Builtin.copy_ #[32, 32] ty #[.slice (some ⟨gs, q.1 * 128, none⟩) 128 128, .slice (some ⟨wb, 1, none⟩) y 128]).run Try.prog w5.drew = .ok (.int .i64 (y : Nat)) w6 := fun ty => by
        rw [← hw6]
        exact torn_copy (show Blk w5.drew wb 67 (wc q).toArray from hk5) hqm.2 hth hyl ty
      have hwne : ∀ g, LF d An cn As cs Ap cp n p g → g ≠ wb := fun g hg e => by
        have := hst.out.2.lt g (by rw [HP.out]; exact hg)
        omega
      have h6 : Only (LF d An cn As cs Ap cp n p) w w6 ∧ LD w6 d An cn As cs Ap cp n X (updS Y q.1 V) ps fl ∧ Blk w6 wb 67 (wc q).toArray := by
        have h := LD.set_safe (w := w5.drew) (h5.keep fun _ _ => rfl) hYl hqm.1 hos (u := q.2.take y) (by rw [List.length_take, hqm.2]; omega)
        have e : (q.2.take y).length = y := by rw [List.length_take, hqm.2]; omega
        rw [e, hV, hw6] at h
        have o1 : Only (LF d An cn As cs Ap cp n p) wr w5.drew := ⟨hb5.os, hb5.tape, hb5.output, hb5.size, fun k hk _ => hb5.block k hk⟩
        have hgr := grown_cells gs (bv (q.2.take y)) (q.1 * 128) w5.drew
        rw [hw6] at hgr
        have o2 := only_grown (F := LF d An cn As cs Ap cp n p) hgr (.inr (.inr (.inl hos)))
        exact ⟨only_trans (only_trans hst.out.1 o1) o2, h, (show Blk w5.drew wb 67 (wc q).toArray from hk5).same (hgr.block wb (show wb < w5.drew.heap.size from hk5.lt) fun e => hwne gs (.inr (.inr (.inl hos))) (Option.some.inj e.symm))⟩
      -- behind the round, from any world that holds the sector
      have HEND := Lib.hid (fun (W : World) (hW : Only (LF d An cn As cs Ap cp n p) w W ∧ LD W d An cn As cs Ap cp n X (updS Y q.1 V) ps fl ∧ Blk W wb 67 (wc q).toArray) => (show (W.cell? ⟨d, 0, none⟩ = some (.slice An n cn) ∧ W.cell? ⟨d, 1, none⟩ = some (.slice As n cs) ∧ W.cell? ⟨wb, 0, none⟩ = some (.int .i64 (q.1 : Nat))) ∧ W.rangeAt gs (q.1 * 128) (bv V) ∧ W.drew.there gn (q.1 * 128) (bv V).toArray.size ∧
          Only (LF d An cn As cs Ap cp n p) w (W.drew.setCells gn (q.1 * 128) (bv V)) ∧ LD (W.drew.setCells gn (q.1 * 128) (bv V)) d An cn As cs Ap cp n (updS X q.1 V) (updS Y q.1 V) ps fl from by
        obtain ⟨gs', hAs', _, hra', _⟩ := hW.2.1.at_safe (updS_len hYl hVl) hqm.1
        obtain ⟨gn', hAn', hon', _, hth'⟩ := hW.2.1.at_now hXl hqm.1
        rw [hAs] at hAs'
        injection hAs' with e
        injection e with e _ _
        subst e
        rw [hAn] at hAn'
        injection hAn' with e
        injection e with e _ _
        subst e
        have e1 : updS Y q.1 V q.1 = V := by rw [updS, if_pos rfl]
        rw [e1] at hra'
        have h := LD.set_now (w := W.drew) (hW.2.1.keep fun _ _ => rfl) hXl hqm.1 hon' (u := V) (by rw [hVl]; exact Nat.le_refl _)
        rw [upd_full (hXl _) hVl] at h
        exact ⟨⟨hW.2.1.blk.cell 0, hW.2.1.blk.cell 1, hW.2.2.cell 0⟩, hra', by rw [List.size_toArray, bv_length, hVl]; exact hth', only_trans (only_trans hW.1 (show Only (LF d An cn As cs Ap cp n p) W W.drew from ⟨rfl, rfl, rfl, Nat.le_refl _, fun _ _ _ => rfl⟩)) (only_grown (grown_cells gn (bv V) (q.1 * 128) W.drew) (.inr (.inl hon'))), h⟩))
      have H6 := Lib.hid h6
      have H5 := Lib.hid (show y = 0 → Only (LF d An cn As cs Ap cp n p) w w5 ∧ LD w5 d An cn As cs Ap cp n X (updS Y q.1 V) ps fl ∧ Blk w5 wb 67 (wc q).toArray from fun y0 => by
        have e : updS Y q.1 V = Y := by
          funext k
          unfold updS
          split
          · rename_i e; rw [← hV, y0, e]; rfl
          · rfl
        rw [e]
        exact ⟨only_trans hst.out.1 ⟨hb5.os, hb5.tape, hb5.output, hb5.size, fun k hk _ => hb5.block k hk⟩, h5, hk5⟩)
      have HSV := Lib.hid (show (Try.prog.info? 64).map (·.size) = some (bv V).length by rw [bv_length, hVl]; exact sector_size)
      have HSV2 := Lib.hid (show (Try.prog.info? 64).map (·.size) = some (bv V).toArray.size by rw [List.size_toArray, bv_length, hVl]; exact sector_size)
      have k0 : w5.cell? ⟨d, 1, none⟩ = some (.slice As n cs) := h5.blk.cell 1
      have k1 : w5.cell? ⟨wb, 0, none⟩ = some (.int .i64 (q.1 : Nat)) := hk5.cell 0
      have hrdv := rdv_only hst.out.1 HR1.out (by rw [iv_length, HL1.out.1]; exact fun ad e h0 hf => HL1.out.2 ad e h0 hf)
      have HRV := Lib.hid (show RdV w5 w.heap.size A1 (iv fs1) from fun h0 => by
        obtain ⟨g, off, e, hg, hc⟩ := hrdv h0
        exact ⟨g, off, e, hg, fun j hj => (hb5.cell (p := ⟨g, off + j, none⟩) (Nat.lt_of_lt_of_le hg hst.out.1.size)).trans (hc j hj)⟩)
      have hi1 : (0 : Int) ≤ (j : Int) := by omega
      have hi2 : (j : Int) < (p : Int) := by omega
      have hqn := hqm.1
      obtain ⟨qa, hqa⟩ : ∃ qa, q.1 = qa := ⟨_, rfl⟩
      rw [hqa] at k1 hcr HEND HTK hqn H6 H5
      have hi3 : (0 : Int) ≤ (qa : Int) := by omega
      have hi4 : (qa : Int) < (n : Int) := by omega
      have hcp : wr.cell? ⟨d, 2, none⟩ = some (.slice Ap p cp) := by rw [← HP.out]; exact hst.out.2.blk.cell 2
      have HY := Lib.hid hy
      subst hAp hAs hAn
      clear hst hrp hw5 hwb hb5 hk5 h5 hos hon hth hw6 hqm hqe hjl hYl hXl hY hX hqa hqn hVl hV h6 hwne hrdv hy
      by_cases hjn : j < n1
      · have hjf : j < fs1.length := by rw [HL1.out.1]; exact hjn
        obtain ⟨gf, of, hA1, _, hcf⟩ := HRV.out (by rw [iv_length]; omega)
        have hcx := hcf j (by rw [iv_length]; exact hjf)
        obtain ⟨x, hx⟩ : ∃ x, fs1[j] = x := ⟨_, rfl⟩
        have hfx : w5.cell? ⟨gf, of + j, none⟩ = some (.int .i64 x) := by
          have e : (iv fs1)[j]'(by rw [iv_length]; exact hjf) = .int .i64 x := by simp [iv, hx]
          rw [hcx, e]
        have HYX := Lib.hid (show y = fateI x by rw [← HY.out, fateL, List.getElem?_eq_getElem hjf, hx])
        subst hA1
        have hjn' : (j : Int) < (n1 : Int) := by omega
        clear hcf hcx hx hjf
        obtain ⟨M, hM⟩ : ∃ M, (if x < 0 then (0 : Int) else x) = M := ⟨_, rfl⟩
        have hmn : (if (128 : Int) < M then (128 : Int) else M) = (y : Int) := by
          have := HYX.out
          unfold fateI at this
          split at hM <;> split <;> omega
        have hy0 : (0 : Int) ≤ (y : Int) := by omega
        have hy1 : (y : Int) ≤ 128 := by omega
        go_wp2_with (first
          | refine wpList_load_mid rfl 67 (.tmp 17) rfl gp (j * 129) rfl (wc q) (.struct fs) HRP.out HZ.out.2.2.1 rfl HSW.out ?_
          | refine wpList_alloc_z rfl 67 rfl iz _ HZ.out.1 HZ.out.2.1 ?_
          | (refine wpList_store_row rfl 67 (.tmp 5) (.tmp 18) rfl wr.heap.size (wc q).toArray rfl rfl 67 _ HBZ.out HSW2.out HOLD.out (all_oneCell_toArray (wc_one _)) ?_; rw [setRow_alloc, HW5.out, HWB.out]))
        refine wp_region_still_tail 11 (by kernel_rfl) (by kernel_rfl) ?_
        simp only [List.take_succ_cons, List.take_zero, List.drop_succ_cons, List.drop_zero]
        repeat still_step
        refine wpStill_nil ?_
        change wpList _ _ _ _ _ w5.drew
        generalize w5.drew = wd at *
        go_wp2_with fail
        have HE := Lib.hid (HEND.out _ H6.out)
        obtain ⟨e0, e1, e2⟩ := HE.out.1
        obtain ⟨w7, hw7⟩ : ∃ w7, (w6).drew.setCells gn (qa * 128) (bv V) = w7 := ⟨_, rfl⟩
        have HW7 := Lib.hid hw7
        have HTH := Lib.hid HE.out.2.2.1
        have HRA := Lib.hid HE.out.2.1
        have HN := Lib.hid (hw7 ▸ HE.out.2.2.2)
        clear HE hw7
        refine wp_region_still_tail 15 (by kernel_rfl) (by kernel_rfl) ?_
        simp only [List.take_succ_cons, List.take_zero, List.drop_succ_cons, List.drop_zero]
        repeat (first | refine wpStill_load_mid rfl 64 (.tmp 53) rfl gs (qa * 128) rfl (bv V) (.array sn se) HRA.out HZ.out.2.2.2 rfl HSV.out ?_ | still_step)
        refine wpStill_nil ?_
        change wpList _ _ _ _ _ (w6).drew
        refine wpList_store_mid rfl 64 (.tmp 55) (.tmp 54) rfl gn (qa * 128) (bv V).toArray rfl rfl HTH.out HSV2.out (all_oneCell_toArray (bv_one _)) ?_
        rw [List.toList_toArray, HW7.out]
        go_wp2_with fail
        go_roundw
        case rel => exact ⟨j + 1, by omega, by go_num, Lib.hid (by rw [HTK.out.1, HTK.out.2]; exact HN.out)⟩
        case measure => simp [intOf]; omega
      · have hjn' : ¬ (j : Int) < (n1 : Int) := by omega
        have y0 : y = 0 := by rw [← HY.out, fateL, List.getElem?_eq_none (by rw [HL1.out.1]; omega)]
        go_wp2_with (first
          | refine wpList_load_mid rfl 67 (.tmp 17) rfl gp (j * 129) rfl (wc q) (.struct fs) HRP.out HZ.out.2.2.1 rfl HSW.out ?_
          | refine wpList_alloc_z rfl 67 rfl iz _ HZ.out.1 HZ.out.2.1 ?_
          | (refine wpList_store_row rfl 67 (.tmp 5) (.tmp 18) rfl wr.heap.size (wc q).toArray rfl rfl 67 _ HBZ.out HSW2.out HOLD.out (all_oneCell_toArray (wc_one _)) ?_; rw [setRow_alloc, HW5.out, HWB.out]))
        have HE := Lib.hid (HEND.out _ (H5.out y0))
        obtain ⟨e0, e1, e2⟩ := HE.out.1
        obtain ⟨w7, hw7⟩ : ∃ w7, (w5).drew.setCells gn (qa * 128) (bv V) = w7 := ⟨_, rfl⟩
        have HW7 := Lib.hid hw7
        have HTH := Lib.hid HE.out.2.2.1
        have HRA := Lib.hid HE.out.2.1
        have HN := Lib.hid (hw7 ▸ HE.out.2.2.2)
        clear HE hw7
        refine wp_region_still_tail 15 (by kernel_rfl) (by kernel_rfl) ?_
        simp only [List.take_succ_cons, List.take_zero, List.drop_succ_cons, List.drop_zero]
        repeat (first | refine wpStill_load_mid rfl 64 (.tmp 53) rfl gs (qa * 128) rfl (bv V) (.array sn se) HRA.out HZ.out.2.2.2 rfl HSV.out ?_ | still_step)
        refine wpStill_nil ?_
        change wpList _ _ _ _ _ (w5).drew
        refine wpList_store_mid rfl 64 (.tmp 55) (.tmp 54) rfl gn (qa * 128) (bv V).toArray rfl rfl HTH.out HSV2.out (all_oneCell_toArray (bv_one _)) ?_
        rw [List.toList_toArray, HW7.out]
        go_wp2_with fail
        go_roundw
        case rel => exact ⟨j + 1, by omega, by go_num, Lib.hid (by rw [HTK.out.1, HTK.out.2]; exact HN.out)⟩
        case measure => simp [intOf]; omega
    · obtain rfl : p = j := by omega
      have htk : ps.take p = ps := List.take_of_length_le (by rw [HP.out]; exact Nat.le_refl _)
      rw [htk] at hst
      have hcp : wr.cell? ⟨d, 2, none⟩ = some (.slice Ap p cp) := by rw [← HP.out]; exact hst.out.2.blk.cell 2
      have hc3 : wr.cell? ⟨d, 3, none⟩ = some (.bool fl.dead) := hst.out.2.blk.cell 3
      have hc4 : wr.cell? ⟨d, 4, none⟩ = some (.bool fl.cut) := hst.out.2.blk.cell 4
      have hc5 : wr.cell? ⟨d, 5, none⟩ = some (.int .i64 fl.left) := hst.out.2.blk.cell 5
      have hf2 := hst.out.2.blk.frozen 2
      have hf3 := hst.out.2.blk.frozen 3
      have hf4 := hst.out.2.blk.frozen 4
      have hf5 := hst.out.2.blk.frozen 5
      obtain ⟨dead, cut, left, cnt⟩ := fl
      have HN := Lib.hid ((((hst.out.2.clear).flag (fl' := ⟨false, cut, left, cnt⟩) 3 (.bool false) rfl).flag (fl' := ⟨false, false, left, cnt⟩) 4 (.bool false) rfl).flag (fl' := ⟨false, false, 0, cnt⟩) 5 (.int .i64 0) rfl)
      have HO := Lib.hid (only_trans hst.out.1 (only_trans (only_trans (only_trans (only_grown (F := LF d An cn As cs Ap cp n p) (grown_cell wr d 2 (.slice none 0 0)) (.inl rfl)) (only_grown (grown_cell _ d 3 (.bool false)) (.inl rfl))) (only_grown (grown_cell _ d 4 (.bool false)) (.inl rfl))) (only_grown (grown_cell _ d 5 (.int .i64 0)) (.inl rfl))))
      clear hst htk
      go_wp2_with fail
      go_end0
      exact ⟨rfl, HO.out, HN.out⟩
end
end Go.Proofs.Ytdnconakpajdgaa
