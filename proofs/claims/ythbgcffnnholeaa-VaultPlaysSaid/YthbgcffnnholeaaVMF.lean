/- The contract of the package's Crash. No statement of the seat is proved here. -/
import Derived.Test.YthbgcffnnholeaaVMD
namespace Go.Proofs.Ythbgcffnnholeaa
open Go.RowKit
set_option linter.unusedVariables false
set_option linter.unusedSimpArgs false

/-- What is read behind a crash: of each sector that was written what is safe then. -/
def crashN (f : Nat → Nat) : Nat → List (Nat × List UInt8) → (Nat → List UInt8) → (Nat → List UInt8) → Nat → List UInt8
  | _, [], N, _ => N
  | i, p :: ps, N, s => crashN f (i + 1) ps (updS N p.1 (p.2.take (f i) ++ (s p.1).drop (f i))) (updS s p.1 (p.2.take (f i) ++ (s p.1).drop (f i)))
theorem crashN_snoc (f : Nat → Nat) : ∀ (i : Nat) (ps : List (Nat × List UInt8)) (N s : Nat → List UInt8) (p : Nat × List UInt8), crashN f i (ps ++ [p]) N s = updS (crashN f i ps N s) p.1 (p.2.take (f (i + ps.length)) ++ (crashL f i ps s p.1).drop (f (i + ps.length)))
  | i, [], N, s, p => rfl
  | i, q :: ps, N, s, p => by
    show crashN f (i + 1) (ps ++ [p]) _ _ = _
    rw [crashN_snoc f (i + 1) ps _ _ p, List.length_cons, show i + 1 + ps.length = i + (ps.length + 1) by omega]
    rfl
theorem crashN_len (f : Nat → Nat) : ∀ (i : Nat) (ps : List (Nat × List UInt8)) (N s : Nat → List UInt8), (∀ i, (N i).length = 128) → (∀ i, (s i).length = 128) → (∀ p ∈ ps, p.2.length = 128) → ∀ j, (crashN f i ps N s j).length = 128
  | _, [], N, s, hN, _, _ => hN
  | i, p :: ps, N, s, hN, hs, hp => crashN_len f (i + 1) ps _ _ (updS_len hN (torn_len (hp p (by simp)) (hs _))) (updS_len hs (torn_len (hp p (by simp)) (hs _))) fun q hq => hp q (by simp [hq])
theorem crashN_eq (f : Nat → Nat) {k : Nat} : ∀ (i : Nat) (ps : List (Nat × List UInt8)) (N s : Nat → List UInt8), (N k = s k ∨ ∃ p ∈ ps, p.1 = k) → crashN f i ps N s k = crashL f i ps s k
  | _, [], N, s, h => by
    rcases h with h | ⟨p, hp, _⟩
    · exact h
    · cases hp
  | i, p :: ps, N, s, h => by
    refine crashN_eq f (i + 1) ps _ _ ?_
    by_cases e : k = p.1
    · left
      unfold updS
      rw [if_pos e, if_pos e]
    · rcases h with h | ⟨q, hq, h⟩
      · left
        unfold updS
        rw [if_neg e, if_neg e]
        exact h
      · rcases List.mem_cons.1 hq with hq | hq
        · subst hq; exact absurd h.symm e
        · exact .inr ⟨q, hq, h⟩
theorem crashN_now {S : DS} (f : Nat → Nat) (k : Nat) : crashN f 0 S.put (nowS S) S.safe k = crashL f 0 S.put S.safe k := by
  refine crashN_eq f 0 S.put _ _ ?_
  by_cases h : ∃ p ∈ S.put, p.1 = k
  · exact .inr h
  · exact .inl (flushL_other S.put S.safe fun p hp e => h ⟨p, hp, e⟩)
section
variable {w : World} {d : Nat} {An : Option Addr} {cn : Nat} {As : Option Addr} {cs : Nat} {Ap : Option Addr} {cp : Nat} {n : Nat} {N Sf : Nat → List UInt8} {ps : List (Nat × List UInt8)} {fl : Fl}
/-- The first bytes are copied into the sector that is safe. -/
theorem torn_copy {w5 : World} {gs wb qa y : Nat} {q : Nat × List UInt8} (hk : Blk w5 wb 91 (wc q).toArray) (hq : q.2.length = 128) (hth : w5.there gs (qa * 128) 128) (hy : y ≤ 128) (ty : TypeId) :
    (Builtin.copy_ #[42, 42] ty #[.slice (some ⟨gs, qa * 128, none⟩) 128 128, .slice (some ⟨wb, 1, none⟩) y 128]).run Try.prog w5 = .ok (.int .i64 (y : Nat)) (w5.setCells gs (qa * 128) (bv (q.2.take y))) := by
  have hu8 : (Try.prog.info? 5).map (·.size) = some 1 := by kernel_rfl
  have hl : (bv (q.2.take y)).length = y := by rw [bv_length, List.length_take, hq]; omega
  have hr := range_data hk
  have := run_copy_cells (P := Try.prog) w5 42 42 ty 5 gs (qa * 128) 128 128 ⟨wb, 1, none⟩ y 128 (bv (q.2.take y)) Try.underlying42 hu8 (by rw [hl]; exact (Nat.min_eq_left hy).symm)
    (fun j v hv => by
      rw [Addr.add_mid]
      refine hr j v ?_
      unfold bv at hv ⊢
      rw [List.map_take, List.getElem?_take] at hv
      split at hv
      · exact hv
      · cases hv) (fun j hj => (hth j (by omega)).1) (fun j hj => (hth j (by omega)).2) (bv_one _)
  rw [hl] at this
  exact this
set_option maxRecDepth 100000 in
set_option maxHeartbeats 4000000 in
theorem crash_any (h : LD w d An cn As cs Ap cp n N Sf ps fl) (hn : n ≤ 16384) (hN : ∀ i, (N i).length = 128) (hS : ∀ i, (Sf i).length = 128) (hq : ∀ q ∈ ps, q.1 < n ∧ q.2.length = 128) (hp0 : ps.length ≤ 100000)
    (A1 : Option Addr) (n1 c1 : Nat) (fs1 : List Int) (hl1 : fs1.length = n1) (hc1 : n1 ≤ c1) (hm1 : c1 ≤ maxLen) (hin : ∀ x ∈ fs1, In64 x) (hr1 : RdV w w.heap.size A1 (iv fs1)) (ho1 : Out (LF d An cn As cs Ap cp n ps.length) A1 n1) :
    Calls Try.prog 26 #[.pointer (some ⟨d, 0, none⟩), .slice A1 n1 c1] w fun e w' => e = .returned (.tuple #[]) ∧ Only (LF d An cn As cs Ap cp n ps.length) w w' ∧ LD w' d An cn As cs none 0 n (crashN (fateL fs1) 0 ps N Sf) (crashL (fateL fs1) 0 ps Sf) [] ⟨false, false, 0, fl.cnt⟩ := by
  obtain ⟨iz, hiz, hzz⟩ := write_zero2
  obtain ⟨fs, hfs⟩ := write_desc
  obtain ⟨sn, se, hsd⟩ := sector_desc
  have HZ := Lib.hid (And.intro hiz (And.intro hzz (And.intro hfs hsd)))
  have HQ := Lib.hid hq
  have HSS := Lib.hid (And.intro hN hS)
  obtain ⟨p, hp1⟩ : ∃ p, ps.length = p := ⟨_, rfl⟩
  rw [hp1] at ho1
  have HP := Lib.hid hp1
  have HH := Lib.hid h
  have HR1 := Lib.hid hr1
  have HL1 := Lib.hid (And.intro hl1 ho1)
  have HIN := Lib.hid hin
  have hp2 : p ≤ 100000 := by omega
  have hc63 : c1 ≤ 9223372036854775807 := by unfold maxLen at hm1; omega
  have hc2 : w.cell? ⟨d, 2, none⟩ = some (.slice Ap p cp) := by rw [← hp1]; exact h.blk.cell 2
  rw [hp1]
  clear h hiz hzz hfs hsd hq hS hN hp1 hp0 hr1 hl1 ho1 hm1 hin
  go_enter Try.func26, Try.ntmps26
  go_wp2_with fail
  go_loopw [14] (fun i wr => ∃ j : Nat, j ≤ p ∧ i = .int .i64 j ∧ Hid (Only (LF d An cn As cs Ap cp n p) w wr ∧ LD wr d An cn As cs Ap cp n (crashN (fateL fs1) 0 (ps.take j) N Sf) (crashL (fateL fs1) 0 (ps.take j) Sf) ps fl)) (fun i _ => p - (intOf i).toNat)
  case atStart => exact ⟨0, Nat.zero_le _, rfl, Lib.hid ⟨only_refl _ _, HH.out⟩⟩
  case round =>
    clear HH hc2
    obtain ⟨j, hj, rfl, hst⟩ := hrel
    by_cases hlt : j < p
    · have hjl : j < ps.length := by rw [HP.out]; exact hlt
      obtain ⟨q, hqe⟩ : ∃ q, ps[j] = q := ⟨_, rfl⟩
      have hqm := HQ.out q (by rw [← hqe]; exact List.getElem_mem hjl)
      obtain ⟨Y, hY⟩ : ∃ Y, crashL (fateL fs1) 0 (ps.take j) Sf = Y := ⟨_, rfl⟩
      obtain ⟨X, hX⟩ : ∃ X, crashN (fateL fs1) 0 (ps.take j) N Sf = X := ⟨_, rfl⟩
      have hYl : ∀ i, (Y i).length = 128 := by rw [← hY]; exact crashL_len _ _ _ _ HSS.out.2 fun p hp => (HQ.out p (List.mem_of_mem_take hp)).2
      have hXl : ∀ i, (X i).length = 128 := by rw [← hX]; exact crashN_len _ _ _ _ _ HSS.out.1 HSS.out.2 fun p hp => (HQ.out p (List.mem_of_mem_take hp)).2
      obtain ⟨y, hy⟩ : ∃ y, fateL fs1 j = y := ⟨_, rfl⟩
      have hyl : y ≤ 128 := by rw [← hy]; exact fateL_le _ _
      have HTK := Lib.hid (show crashL (fateL fs1) 0 (ps.take (j + 1)) Sf = updS Y q.1 (q.2.take y ++ (Y q.1).drop y) ∧ crashN (fateL fs1) 0 (ps.take (j + 1)) N Sf = updS X q.1 (q.2.take y ++ (Y q.1).drop y) by
        have e : (ps.take j).length = j := by rw [List.length_take]; omega
        rw [List.take_succ_eq_append_getElem hjl, hqe, crashL_snoc, crashN_snoc, hY, hX, e, Nat.zero_add, hy]
        exact ⟨rfl, rfl⟩)
      rw [hY, hX] at hst
      obtain ⟨gp, hAp, _, hrp⟩ := hst.out.2.at_put (fun p hp => (HQ.out p hp).2) hjl
      rw [hqe] at hrp
      have HRP := Lib.hid hrp
      obtain ⟨w5, wb, hw5, hwb, hb5, hk5, h5⟩ := hst.out.2.box q
      obtain ⟨gs, hAs, hos, _, hth⟩ := h5.at_safe hYl hqm.1
      obtain ⟨gn, hAn, hon, _, _⟩ := h5.at_now hXl hqm.1
      have HSW := Lib.hid (show (Try.prog.info? 91).map (·.size) = some (wc q).length by rw [wc_length hqm.2]; exact write_size)
      have HSW2 := Lib.hid (show (Try.prog.info? 91).map (·.size) = some (wc q).toArray.size by rw [List.size_toArray, wc_length hqm.2]; exact write_size)
      have HOLD := Lib.hid (show (wc (0, z128)).toArray.size = (wc q).toArray.size by rw [List.size_toArray, List.size_toArray, wc_length hqm.2, wc_length (p := (0, z128)) z128_length])
      have HBZ := Lib.hid (Blk.new wr 91 (wc (0, z128)).toArray)
      have HW5 := Lib.hid hw5
      have HWB := Lib.hid hwb
      obtain ⟨V, hV⟩ : ∃ V, q.2.take y ++ (Y q.1).drop y = V := ⟨_, rfl⟩
      have hVl : V.length = 128 := by rw [← hV]; exact torn_len hqm.2 (hYl _)
      rw [hV] at HTK
      -- behind the copy
      obtain ⟨w6, hw6⟩ : ∃ w6, w5.drew.setCells gs (q.1 * 128) (bv (q.2.take y)) = w6 := ⟨_, rfl⟩
      have hcr : ∀ ty, (Builtin.copy_ #[42, 42] ty #[.slice (some ⟨gs, q.1 * 128, none⟩) 128 128, .slice (some ⟨wb, 1, none⟩) y 128]).run Try.prog w5.drew = .ok (.int .i64 (y : Nat)) w6 := fun ty => by
        rw [← hw6]
        exact torn_copy (show Blk w5.drew wb 91 (wc q).toArray from hk5) hqm.2 hth hyl ty
      have hwne : ∀ g, LF d An cn As cs Ap cp n p g → g ≠ wb := fun g hg e => by
        have := hst.out.2.lt g (by rw [HP.out]; exact hg)
        omega
      have h6 : Only (LF d An cn As cs Ap cp n p) w w6 ∧ LD w6 d An cn As cs Ap cp n X (updS Y q.1 V) ps fl ∧ Blk w6 wb 91 (wc q).toArray := by
        have h := LD.set_safe (w := w5.drew) (h5.keep fun _ _ => rfl) hYl hqm.1 hos (u := q.2.take y) (by rw [List.length_take, hqm.2]; omega)
        have e : (q.2.take y).length = y := by rw [List.length_take, hqm.2]; omega
        rw [e, hV, hw6] at h
        have o1 : Only (LF d An cn As cs Ap cp n p) wr w5.drew := ⟨hb5.os, hb5.tape, hb5.output, hb5.size, fun k hk _ => hb5.block k hk⟩
        have hgr := grown_cells gs (bv (q.2.take y)) (q.1 * 128) w5.drew
        rw [hw6] at hgr
        have o2 := only_grown (F := LF d An cn As cs Ap cp n p) hgr (.inr (.inr (.inl hos)))
        exact ⟨only_trans (only_trans hst.out.1 o1) o2, h, (show Blk w5.drew wb 91 (wc q).toArray from hk5).same (hgr.block wb (show wb < w5.drew.heap.size from hk5.lt) fun e => hwne gs (.inr (.inr (.inl hos))) (Option.some.inj e.symm))⟩
      -- behind the round, from any world that holds the sector
      have HEND := Lib.hid (fun (W : World) (hW : Only (LF d An cn As cs Ap cp n p) w W ∧ LD W d An cn As cs Ap cp n X (updS Y q.1 V) ps fl ∧ Blk W wb 91 (wc q).toArray) => (show (W.cell? ⟨d, 0, none⟩ = some (.slice An n cn) ∧ W.cell? ⟨d, 1, none⟩ = some (.slice As n cs) ∧ W.cell? ⟨wb, 0, none⟩ = some (.int .i64 (q.1 : Nat))) ∧ W.rangeAt gs (q.1 * 128) (bv V) ∧ W.drew.there gn (q.1 * 128) (bv V).toArray.size ∧
          Only (LF d An cn As cs Ap cp n p) w (W.drew.setCells gn (q.1 * 128) (bv V)) ∧ LD (W.drew.setCells gn (q.1 * 128) (bv V)) d An cn As cs Ap cp n (updS X q.1 V) (updS Y q.1 V) ps fl from by
        obtain ⟨gs', hAs', _, hra', _⟩ := hW.2.1.at_safe (updS_len hYl hVl) hqm.1
        obtain ⟨gn', hAn', hon', _, hth'⟩ := hW.2.1.at_now hXl hqm.1
        rw [hAs] at hAs'
        injection hAs' with e
        injection e with e _ _
        subst e
        rw [hAn] at hAn'
        injection hAn' with e
        injection e with e _ _
        subst e
        have e1 : updS Y q.1 V q.1 = V := by rw [updS, if_pos rfl]
        rw [e1] at hra'
        have h := LD.set_now (w := W.drew) (hW.2.1.keep fun _ _ => rfl) hXl hqm.1 hon' (u := V) (by rw [hVl]; exact Nat.le_refl _)
        rw [upd_full (hXl _) hVl] at h
        exact ⟨⟨hW.2.1.blk.cell 0, hW.2.1.blk.cell 1, hW.2.2.cell 0⟩, hra', by rw [List.size_toArray, bv_length, hVl]; exact hth', only_trans (only_trans hW.1 (show Only (LF d An cn As cs Ap cp n p) W W.drew from ⟨rfl, rfl, rfl, Nat.le_refl _, fun _ _ _ => rfl⟩)) (only_grown (grown_cells gn (bv V) (q.1 * 128) W.drew) (.inr (.inl hon'))), h⟩))
      have H6 := Lib.hid h6
      have H5 := Lib.hid (show y = 0 → Only (LF d An cn As cs Ap cp n p) w w5 ∧ LD w5 d An cn As cs Ap cp n X (updS Y q.1 V) ps fl ∧ Blk w5 wb 91 (wc q).toArray from fun y0 => by
        have e : updS Y q.1 V = Y := by
          funext k
          unfold updS
          split
          · rename_i e; rw [← hV, y0, e]; rfl
          · rfl
        rw [e]
        exact ⟨only_trans hst.out.1 ⟨hb5.os, hb5.tape, hb5.output, hb5.size, fun k hk _ => hb5.block k hk⟩, h5, hk5⟩)
      have HSV := Lib.hid (show (Try.prog.info? 89).map (·.size) = some (bv V).length by rw [bv_length, hVl]; exact sector_size)
      have HSV2 := Lib.hid (show (Try.prog.info? 89).map (·.size) = some (bv V).toArray.size by rw [List.size_toArray, bv_length, hVl]; exact sector_size)
      have k0 : w5.cell? ⟨d, 1, none⟩ = some (.slice As n cs) := h5.blk.cell 1
      have k1 : w5.cell? ⟨wb, 0, none⟩ = some (.int .i64 (q.1 : Nat)) := hk5.cell 0
      have hrdv := rdv_only hst.out.1 HR1.out (by rw [iv_length, HL1.out.1]; exact fun ad e h0 hf => HL1.out.2 ad e h0 hf)
      have HRV := Lib.hid (show RdV w5 w.heap.size A1 (iv fs1) from fun h0 => by
        obtain ⟨g, off, e, hg, hc⟩ := hrdv h0
        exact ⟨g, off, e, hg, fun j hj => (hb5.cell (p := ⟨g, off + j, none⟩) (Nat.lt_of_lt_of_le hg hst.out.1.size)).trans (hc j hj)⟩)
      have hi1 : (0 : Int) ≤ (j : Int) := by omega
      have hi2 : (j : Int) < (p : Int) := by omega
      have hqn := hqm.1
      obtain ⟨qa, hqa⟩ : ∃ qa, q.1 = qa := ⟨_, rfl⟩
      rw [hqa] at k1 hcr HEND HTK hqn H6 H5
      have hi3 : (0 : Int) ≤ (qa : Int) := by omega
      have hi4 : (qa : Int) < (n : Int) := by omega
      have hcp : wr.cell? ⟨d, 2, none⟩ = some (.slice Ap p cp) := by rw [← HP.out]; exact hst.out.2.blk.cell 2
      have HY := Lib.hid hy
      subst hAp hAs hAn
      clear hst hrp hw5 hwb hb5 hk5 h5 hos hon hth hw6 hqm hqe hjl hYl hXl hY hX hqa hqn hVl hV h6 hwne hrdv hy
      by_cases hjn : j < n1
      · have hjf : j < fs1.length := by rw [HL1.out.1]; exact hjn
        obtain ⟨gf, of, hA1, _, hcf⟩ := HRV.out (by rw [iv_length]; omega)
        have hcx := hcf j (by rw [iv_length]; exact hjf)
        obtain ⟨x, hx⟩ : ∃ x, fs1[j] = x := ⟨_, rfl⟩
        have hfx : w5.cell? ⟨gf, of + j, none⟩ = some (.int .i64 x) := by
          have e : (iv fs1)[j]'(by rw [iv_length]; exact hjf) = .int .i64 x := by simp [iv, hx]
          rw [hcx, e]
        have HYX := Lib.hid (show y = fateI x by rw [← HY.out, fateL, List.getElem?_eq_getElem hjf, hx])
        subst hA1
        have hjn' : (j : Int) < (n1 : Int) := by omega
        clear hcf hcx hx hjf
        obtain ⟨M, hM⟩ : ∃ M, (if x < 0 then (0 : Int) else x) = M := ⟨_, rfl⟩
        have hmn : (if (128 : Int) < M then (128 : Int) else M) = (y : Int) := by
          have := HYX.out
          unfold fateI at this
          split at hM <;> split <;> omega
        have hy0 : (0 : Int) ≤ (y : Int) := by omega
        have hy1 : (y : Int) ≤ 128 := by omega
        go_wp2_with (first
          | refine wpList_load_mid rfl 91 (.tmp 17) rfl gp (j * 129) rfl (wc q) (.struct fs) HRP.out HZ.out.2.2.1 rfl HSW.out ?_
          | refine wpList_alloc_z rfl 91 rfl iz _ HZ.out.1 HZ.out.2.1 ?_
          | (refine wpList_store_row rfl 91 (.tmp 5) (.tmp 18) rfl wr.heap.size (wc q).toArray rfl rfl 91 _ HBZ.out HSW2.out HOLD.out (all_oneCell_toArray (wc_one _)) ?_; rw [setRow_alloc, HW5.out, HWB.out]))
        refine wp_region_still_tail 11 (by kernel_rfl) (by kernel_rfl) ?_
        simp only [List.take_succ_cons, List.take_zero, List.drop_succ_cons, List.drop_zero]
        repeat still_step
        refine wpStill_nil ?_
        change wpList _ _ _ _ _ w5.drew
        generalize w5.drew = wd at *
        go_wp2_with fail
        have HE := Lib.hid (HEND.out _ H6.out)
        obtain ⟨e0, e1, e2⟩ := HE.out.1
        obtain ⟨w7, hw7⟩ : ∃ w7, (w6).drew.setCells gn (qa * 128) (bv V) = w7 := ⟨_, rfl⟩
        have HW7 := Lib.hid hw7
        have HTH := Lib.hid HE.out.2.2.1
        have HRA := Lib.hid HE.out.2.1
        have HN := Lib.hid (hw7 ▸ HE.out.2.2.2)
        clear HE hw7
        refine wp_region_still_tail 15 (by kernel_rfl) (by kernel_rfl) ?_
        simp only [List.take_succ_cons, List.take_zero, List.drop_succ_cons, List.drop_zero]
        repeat (first | refine wpStill_load_mid rfl 89 (.tmp 53) rfl gs (qa * 128) rfl (bv V) (.array sn se) HRA.out HZ.out.2.2.2 rfl HSV.out ?_ | still_step)
        refine wpStill_nil ?_
        change wpList _ _ _ _ _ (w6).drew
        refine wpList_store_mid rfl 89 (.tmp 55) (.tmp 54) rfl gn (qa * 128) (bv V).toArray rfl rfl HTH.out HSV2.out (all_oneCell_toArray (bv_one _)) ?_
        rw [List.toList_toArray, HW7.out]
        go_wp2_with fail
        go_roundw
        case rel => exact ⟨j + 1, by omega, by go_num, Lib.hid (by rw [HTK.out.1, HTK.out.2]; exact HN.out)⟩
        case measure => simp [intOf]; omega
      · have hjn' : ¬ (j : Int) < (n1 : Int) := by omega
        have y0 : y = 0 := by rw [← HY.out, fateL, List.getElem?_eq_none (by rw [HL1.out.1]; omega)]
        go_wp2_with (first
          | refine wpList_load_mid rfl 91 (.tmp 17) rfl gp (j * 129) rfl (wc q) (.struct fs) HRP.out HZ.out.2.2.1 rfl HSW.out ?_
          | refine wpList_alloc_z rfl 91 rfl iz _ HZ.out.1 HZ.out.2.1 ?_
          | (refine wpList_store_row rfl 91 (.tmp 5) (.tmp 18) rfl wr.heap.size (wc q).toArray rfl rfl 91 _ HBZ.out HSW2.out HOLD.out (all_oneCell_toArray (wc_one _)) ?_; rw [setRow_alloc, HW5.out, HWB.out]))
        have HE := Lib.hid (HEND.out _ (H5.out y0))
        obtain ⟨e0, e1, e2⟩ := HE.out.1
        obtain ⟨w7, hw7⟩ : ∃ w7, (w5).drew.setCells gn (qa * 128) (bv V) = w7 := ⟨_, rfl⟩
        have HW7 := Lib.hid hw7
        have HTH := Lib.hid HE.out.2.2.1
        have HRA := Lib.hid HE.out.2.1
        have HN := Lib.hid (hw7 ▸ HE.out.2.2.2)
        clear HE hw7
        refine wp_region_still_tail 15 (by kernel_rfl) (by kernel_rfl) ?_
        simp only [List.take_succ_cons, List.take_zero, List.drop_succ_cons, List.drop_zero]
        repeat (first | refine wpStill_load_mid rfl 89 (.tmp 53) rfl gs (qa * 128) rfl (bv V) (.array sn se) HRA.out HZ.out.2.2.2 rfl HSV.out ?_ | still_step)
        refine wpStill_nil ?_
        change wpList _ _ _ _ _ (w5).drew
        refine wpList_store_mid rfl 89 (.tmp 55) (.tmp 54) rfl gn (qa * 128) (bv V).toArray rfl rfl HTH.out HSV2.out (all_oneCell_toArray (bv_one _)) ?_
        rw [List.toList_toArray, HW7.out]
        go_wp2_with fail
        go_roundw
        case rel => exact ⟨j + 1, by omega, by go_num, Lib.hid (by rw [HTK.out.1, HTK.out.2]; exact HN.out)⟩
        case measure => simp [intOf]; omega
    · obtain rfl : p = j := by omega
      have htk : ps.take p = ps := List.take_of_length_le (by rw [HP.out]; exact Nat.le_refl _)
      rw [htk] at hst
      have hcp : wr.cell? ⟨d, 2, none⟩ = some (.slice Ap p cp) := by rw [← HP.out]; exact hst.out.2.blk.cell 2
      have hc3 : wr.cell? ⟨d, 3, none⟩ = some (.bool fl.dead) := hst.out.2.blk.cell 3
      have hc4 : wr.cell? ⟨d, 4, none⟩ = some (.bool fl.cut) := hst.out.2.blk.cell 4
      have hc5 : wr.cell? ⟨d, 5, none⟩ = some (.int .i64 fl.left) := hst.out.2.blk.cell 5
      have hf2 := hst.out.2.blk.frozen 2
      have hf3 := hst.out.2.blk.frozen 3
      have hf4 := hst.out.2.blk.frozen 4
      have hf5 := hst.out.2.blk.frozen 5
      obtain ⟨dead, cut, left, cnt⟩ := fl
      have HN := Lib.hid ((((hst.out.2.clear).flag (fl' := ⟨false, cut, left, cnt⟩) 3 (.bool false) rfl).flag (fl' := ⟨false, false, left, cnt⟩) 4 (.bool false) rfl).flag (fl' := ⟨false, false, 0, cnt⟩) 5 (.int .i64 0) rfl)
      have HO := Lib.hid (only_trans hst.out.1 (only_trans (only_trans (only_trans (only_grown (F := LF d An cn As cs Ap cp n p) (grown_cell wr d 2 (.slice none 0 0)) (.inl rfl)) (only_grown (grown_cell _ d 3 (.bool false)) (.inl rfl))) (only_grown (grown_cell _ d 4 (.bool false)) (.inl rfl))) (only_grown (grown_cell _ d 5 (.int .i64 0)) (.inl rfl))))
      clear hst htk
      go_wp2_with fail
      go_end0
      exact ⟨rfl, HO.out, HN.out⟩
end
end Go.Proofs.Ythbgcffnnholeaa
/- The contract of the package's Copy. No statement of the seat is proved here. -/
namespace Go.Proofs.Ythbgcffnnholeaa
open Go.RowKit
set_option linter.unusedVariables false
set_option linter.unusedSimpArgs false

section
variable {w : World} {d : Nat} {An : Option Addr} {cn : Nat} {As : Option Addr} {cs : Nat} {Ap : Option Addr} {cp : Nat} {n : Nat} {N Sf : Nat → List UInt8} {ps : List (Nat × List UInt8)} {fl : Fl}
/-- The stores into the new block. -/
theorem copy_end {w1 w2 w3 w4 : World} {cb : Nat} {A1 A2 A3 : Option Addr} {c1 c2 c3 : Nat} (h : LD w d An cn As cs Ap cp n N Sf ps fl) (hcb : w.heap.size = cb) (hb1 : Below w.heap.size w w1) (hz : w1.heap.size = cb + 1) (hk : Blk w1 cb 70 (lcells An cn As cs Ap cp n ps.length fl))
    (hb2 : Below w1.heap.size w1 w2) (ho1 : w2.ownsRow w1.heap.size 89 128 (.slice A1 n c1) n (secs n N)) (hb3 : Below w2.heap.size w2 w3) (ho2 : w3.ownsRow w2.heap.size 89 128 (.slice A2 n c2) n (secs n Sf)) (hb4 : Below w3.heap.size w3 w4) (ho3 : w4.ownsRow w3.heap.size 91 129 (.slice A3 ps.length c3) ps.length (wcs ps)) :
    ∃ w5 w6 w7, w4.setCell ⟨cb, 0, none⟩ (.slice A1 n c1) = w5 ∧ w5.setCell ⟨cb, 1, none⟩ (.slice A2 n c2) = w6 ∧ w6.setCell ⟨cb, 2, none⟩ (.slice A3 ps.length c3) = w7 ∧
      (w4.cell? ⟨cb, 0, none⟩ = some (.slice An n cn) ∧ w4.frozen? ⟨cb, 0, none⟩ = false) ∧ (w5.cell? ⟨cb, 1, none⟩ = some (.slice As n cs) ∧ w5.frozen? ⟨cb, 1, none⟩ = false) ∧ (w6.cell? ⟨cb, 2, none⟩ = some (.slice Ap ps.length cp) ∧ w6.frozen? ⟨cb, 2, none⟩ = false) ∧
      Blk w5 d 70 (lcells An cn As cs Ap cp n ps.length fl) ∧ Blk w6 d 70 (lcells An cn As cs Ap cp n ps.length fl) ∧ Blk w7 d 70 (lcells An cn As cs Ap cp n ps.length fl) ∧
      LD w7 cb A1 c1 A2 c2 A3 c3 n N Sf ps fl ∧ Below w.heap.size w w7 ∧ ∀ g, LF cb A1 c1 A2 c2 A3 c3 n ps.length g → w.heap.size ≤ g := by
  have hz12 := hb2.size
  have hz23 := hb3.size
  have hz34 := hb4.size
  have hdl := h.blk.lt
  have b14 : Below w1.heap.size w1 w4 := hb2.trans ((hb3.mono hb2.size).trans (hb4.mono (Nat.le_trans hb2.size hb3.size)))
  have b24 : Below w2.heap.size w2 w4 := hb3.trans (hb4.mono hb3.size)
  have hk4 : Blk w4 cb 70 (lcells An cn As cs Ap cp n ps.length fl) := hk.below b14 (by omega)
  have hd4 : Blk w4 d 70 (lcells An cn As cs Ap cp n ps.length fl) := (h.blk.below hb1 hdl).below b14 (by have := hb1.size; omega)
  have hne : d ≠ cb := by omega
  have hb : Below w.heap.size w w4 := hb1.trans (b14.mono hb1.size)
  have hk5 := hk4.set_ 0 (.slice A1 n c1)
  have hk6 := hk5.set_ 1 (.slice A2 n c2)
  have hk7 := hk6.set_ 2 (.slice A3 ps.length c3)
  have hd5 : Blk (w4.setCell ⟨cb, 0, none⟩ (.slice A1 n c1)) d 70 (lcells An cn As cs Ap cp n ps.length fl) := hd4.same (setCell_block hne)
  have hd6 : Blk ((w4.setCell ⟨cb, 0, none⟩ (.slice A1 n c1)).setCell ⟨cb, 1, none⟩ (.slice A2 n c2)) d 70 (lcells An cn As cs Ap cp n ps.length fl) := hd5.same (setCell_block hne)
  have hd7 : Blk (((w4.setCell ⟨cb, 0, none⟩ (.slice A1 n c1)).setCell ⟨cb, 1, none⟩ (.slice A2 n c2)).setCell ⟨cb, 2, none⟩ (.slice A3 ps.length c3)) d 70 (lcells An cn As cs Ap cp n ps.length fl) := hd6.same (setCell_block hne)
  have set3 : ∀ k, k ≠ cb → (((w4.setCell ⟨cb, 0, none⟩ (.slice A1 n c1)).setCell ⟨cb, 1, none⟩ (.slice A2 n c2)).setCell ⟨cb, 2, none⟩ (.slice A3 ps.length c3)).heap[k]? = w4.heap[k]? := fun k hk => ((setCell_block hk).trans (setCell_block hk)).trans (setCell_block hk)
  have g1 : ∀ g, (Value.slice A1 n c1).ownBlock = some g → w1.heap.size ≤ g ∧ g < w2.heap.size := fun g hg => World.ownsRow.lt ho1 g hg
  have g2 : ∀ g, (Value.slice A2 n c2).ownBlock = some g → w2.heap.size ≤ g ∧ g < w3.heap.size := fun g hg => World.ownsRow.lt ho2 g hg
  have g3 : ∀ g, (Value.slice A3 ps.length c3).ownBlock = some g → w3.heap.size ≤ g ∧ g < w4.heap.size := fun g hg => World.ownsRow.lt ho3 g hg
  have r1 := ownsRow_same (w' := w4) ho1 fun g hg hl => b24.block g hl
  have r2 := ownsRow_same (w' := w4) ho2 fun g hg hl => hb4.block g hl
  refine ⟨_, _, _, rfl, rfl, rfl, ⟨hk4.cell 0, hk4.frozen 0⟩, ⟨hk5.cell 1, hk5.frozen 1⟩, ⟨hk6.cell 2, hk6.frozen 2⟩, hd5, hd6, hd7, ⟨hk7, ?_, ?_, ?_, ?_⟩, ((hb.setCell (Nat.le_of_eq hcb) _).setCell (Nat.le_of_eq hcb) _).setCell (Nat.le_of_eq hcb) _, ?_⟩
  · exact ownsRow_base (ownsRow_same r1 fun g hg _ => set3 g (by have := g1 g hg; omega)) (Nat.zero_le _)
  · exact ownsRow_base (ownsRow_same r2 fun g hg _ => set3 g (by have := g2 g hg; omega)) (Nat.zero_le _)
  · exact ownsRow_base (ownsRow_same ho3 fun g hg _ => set3 g (by have := g3 g hg; omega)) (Nat.zero_le _)
  · intro g hg e
    have := g1 g hg
    have := g2 g e
    omega
  · intro g hg
    rcases hg with rfl | hg | hg | hg
    · omega
    · have := g1 g hg; omega
    · have := g2 g hg; omega
    · have := g3 g hg; omega
end
end Go.Proofs.Ythbgcffnnholeaa
/- The package's disks do what the walks of the statements ask of them. No statement of the seat is proved here. -/
namespace Go.Proofs.Ythbgcffnnholeaa
open Go.RowKit
set_option linter.unusedVariables false
set_option linter.unusedSimpArgs false

theorem only_lf {w w' : World} {F : Nat → Prop} {d : Nat} {An : Option Addr} {cn : Nat} {As : Option Addr} {cs : Nat} {Ap : Option Addr} {cp n p : Nat} (hF : ∀ g, F g ↔ LF d An cn As cs Ap cp n p g) (h : Only (LF d An cn As cs Ap cp n p) w w') : Only F w w' :=
  ⟨h.os, h.tape, h.output, h.size, fun g hg hn => h.block g hg fun hf => hn ((hF g).2 hf)⟩
theorem writeE_bad {S : DS} {at_ : Int} {k : Nat} (h : badW S at_ k) : writeE S at_ k = 1 := by unfold writeE; rw [if_pos h]
theorem flushL_snoc_fun (ps : List (Nat × List UInt8)) (s : Nat → List UInt8) (p : Nat × List UInt8) : flushL (ps ++ [p]) s = updS (flushL ps s) p.1 p.2 := flushL_snoc ps s p
theorem doneS_off {S : DS} : (doneS S).off = S.off := rfl
set_option maxHeartbeats 1000000 in
theorem disksOk : DisksOk Lst where
  lt h := lst_lt h
  keep h hk := lst_keep h hk
  ok h := by
    obtain ⟨_, _, _, _, _, _, _, _, _, _, ho, _⟩ := h
    exact ho
  new n w hn := (new_good n hn w).mono fun e w' ⟨A, B, he, h1, h2, h3, h4⟩ => by
    refine ⟨_, _, he, ⟨_, _, _, _, _, _, _, _, rfl, h1, DS.Ok.new hn, ⟨rfl, rfl, ⟨by decide, by decide⟩, fun _ => rfl, fun h => by cases h⟩, fun g => Iff.rfl⟩, fun g hg => ?_, h4⟩
    rcases hg with rfl | hg | hg | hg
    · omega
    · have : A = g := by simpa [Value.ownBlock] using hg
      omega
    · have : B = g := by simpa [Value.ownBlock] using hg
      omega
    · cases hg
  bad n w hn := (new_bad n hn w).mono fun e w' ⟨he, hw⟩ => ⟨he, hw ▸ Below.refl _ _⟩
  write s F S at_ A n c b w h hf ha hl hnc hcm hr ho := by
    obtain ⟨d, An, cn, As, cs, Ap, cp, fl, rfl, hd, hk, hfl, hF⟩ := h
    have hn64 : n ≤ 9223372036854775807 := by unfold maxLen at hcm; omega
    by_cases hb : badW S at_ n
    · have e1 : writeS S at_ b = S := by unfold writeS; rw [hl, if_pos hb]
      rw [writeE_bad hb, e1]
      refine (write_bad hd hk.le at_ A n c hn64 hb).mono fun e w' ⟨he, hw⟩ => ⟨he, ?_⟩
      subst hw
      exact Turned.refl ⟨d, An, cn, As, cs, Ap, cp, fl, rfl, hd, hk, hfl, hF⟩
    · have hb' := hb
      unfold badW at hb'
      obtain ⟨t, rfl⟩ : ∃ t : Nat, at_ = t := ⟨at_.toNat, by omega⟩
      obtain ⟨hb1, hb2, hb3⟩ := hfl.begin hk
      cases hoff : (tickS S).off with
      | true =>
        have e0 : writeE S t n = 6 := by unfold writeE; rw [if_neg hb, if_pos hoff]
        have e1 : writeS S t b = tickS S := by unfold writeS; rw [hl, if_neg hb, if_pos hoff]
        rw [e0, e1]
        rw [hoff] at hb1
        refine (write_dead hd hk.le (by rw [hfl.cnt]; exact hf.2) hfl.i64 hfl.pos hb1 t (by omega) A n c (by omega)).mono fun e w' ⟨he, h1, hg⟩ => ⟨he, F, ?_, fun g hg => .inl hg, only_grown hg ((hF d).2 (.inl rfl))⟩
        refine ⟨d, An, cn, As, cs, Ap, cp, _, rfl, ?_, hk.tick, hb2 hoff, fun g => by rw [tickS_n, tickS_put]; exact hF g⟩
        have e2 : nowS (tickS S) = nowS S := by funext k; unfold nowS; rw [tickS_put, tickS_safe]
        rw [tickS_n, tickS_safe, tickS_put, e2]
        exact h1
      | false =>
        have hoff' : ¬ (tickS S).off = true := by rw [hoff]; decide
        have e0 : writeE S t n = 0 := by unfold writeE; rw [if_neg hb, if_neg hoff']
        have e1 : writeS S t b = doneS { tickS S with put := S.put ++ [(t, padS b)] } := by unfold writeS; rw [hl, if_neg hb, if_neg hoff']; rfl
        have hkw : (writeS S t b).Ok := hk.write t b
        rw [e0]
        rw [hoff] at hb1
        refine (write_good hd hk.le hk.now hf.1 (by rw [hfl.cnt]; exact hf.2) hfl.i64 hfl.pos hb1 t (by omega) A n c b hl (by omega) hnc hcm hr (fun ad e h0 hg => ho ad e h0 ((hF _).2 hg))).mono fun e w' ⟨he, hon, Ap', cp', h1, hat⟩ => ⟨he, ?_⟩
        refine ⟨LF d An cn As cs Ap' cp' S.n (S.put.length + 1), ⟨d, An, cn, As, cs, Ap', cp', _, rfl, ?_, hkw, hb3 hoff _ (by rw [e1]; exact hoff) (by rw [e1]; rfl) (by rw [e1]; rfl), fun g => ?_⟩, fun g hg => ?_, only_lf hF hon⟩
        · rw [e1]
          show LD w' d An cn As cs Ap' cp' (tickS S).n (flushL (S.put ++ [(t, padS b)]) (tickS S).safe) (tickS S).safe (S.put ++ [(t, padS b)]) _
          rw [tickS_n, tickS_safe, flushL_snoc_fun]
          exact h1
        · rw [e1]
          show _ ↔ LF d An cn As cs Ap' cp' (tickS S).n (S.put ++ [(t, padS b)]).length g
          rw [tickS_n, List.length_append]
          exact Iff.rfl
        · rcases hg with rfl | hg | hg | hg
          · exact .inl ((hF _).2 (.inl rfl))
          · exact .inl ((hF _).2 (.inr (.inl hg)))
          · exact .inl ((hF _).2 (.inr (.inr (.inl hg))))
          · exact (hat g hg).imp (fun h => (hF _).2 (.inr (.inr (.inr h)))) id
  flush s F S w h hf := by
    obtain ⟨d, An, cn, As, cs, Ap, cp, fl, rfl, hd, hk, hfl, hF⟩ := h
    obtain ⟨hb1, hb2, hb3⟩ := hfl.begin hk
    cases hoff : (tickS S).off with
    | true =>
      have e0 : flushE S = 6 := by unfold flushE; rw [if_pos hoff]
      have e1 : flushS S = tickS S := by unfold flushS; rw [if_pos hoff]
      rw [e0, e1]
      rw [hoff] at hb1
      refine (lflush_dead hd (by rw [hfl.cnt]; exact hf.2) hfl.i64 hfl.pos hb1).mono fun e w' ⟨he, h1, hg⟩ => ⟨he, F, ?_, fun g hg => .inl hg, only_grown hg ((hF d).2 (.inl rfl))⟩
      refine ⟨d, An, cn, As, cs, Ap, cp, _, rfl, ?_, hk.tick, hb2 hoff, fun g => by rw [tickS_n, tickS_put]; exact hF g⟩
      have e2 : nowS (tickS S) = nowS S := by funext k; unfold nowS; rw [tickS_put, tickS_safe]
      rw [tickS_n, tickS_safe, tickS_put, e2]
      exact h1
    | false =>
      have hoff' : ¬ (tickS S).off = true := by rw [hoff]; decide
      have e0 : flushE S = 0 := by unfold flushE; rw [if_neg hoff']
      have e1 : flushS S = doneS { tickS S with safe := flushL S.put S.safe, put := [] } := by unfold flushS; rw [if_neg hoff']
      have hkw : (flushS S).Ok := hk.flush
      rw [e0]
      rw [hoff] at hb1
      refine (lflush_good hd hk.le hk.safe (fun q hq => ⟨hk.at_ q hq, hk.put q hq⟩) hf.1 (by rw [hfl.cnt]; exact hf.2) hfl.i64 hfl.pos hb1).mono fun e w' ⟨he, hon, h1⟩ => ⟨he, ?_⟩
      refine ⟨LF d An cn As cs none 0 S.n 0, ⟨d, An, cn, As, cs, none, 0, _, rfl, ?_, hkw, hb3 hoff _ (by rw [e1]; exact hoff) (by rw [e1]; rfl) (by rw [e1]; rfl), fun g => ?_⟩, fun g hg => ?_, only_lf hF hon⟩
      · rw [e1]
        show LD w' d An cn As cs none 0 (tickS S).n (flushL [] (flushL S.put S.safe)) (flushL S.put S.safe) [] _
        rw [tickS_n]
        exact h1
      · rw [e1]
        show _ ↔ LF d An cn As cs none 0 (tickS S).n 0 g
        rw [tickS_n]
      · rcases hg with rfl | hg | hg | hg
        · exact .inl ((hF _).2 (.inl rfl))
        · exact .inl ((hF _).2 (.inr (.inl hg)))
        · exact .inl ((hF _).2 (.inr (.inr (.inl hg))))
        · cases hg
  read s F S at_ w h hf ha := by
    obtain ⟨d, An, cn, As, cs, Ap, cp, fl, rfl, hd, hk, hfl, hF⟩ := h
    by_cases hb : at_ < 0 ∨ (S.n : Int) ≤ at_
    · have e1 : readE S at_ = 1 := by unfold readE; rw [if_pos hb]
      have e2 : readS S at_ = [] := by unfold readS; rw [if_neg (by rw [e1]; decide)]
      rw [e1, e2]
      refine (read_bad hd hk.le at_ hb).mono fun e w' ⟨he, hw⟩ => ⟨none, 0, he, ?_, hw ▸ Below.refl _ _⟩
      exact World.ownsRow_nil _ _ _ _
    · obtain ⟨t, rfl⟩ : ∃ t : Nat, at_ = t := ⟨at_.toNat, by omega⟩
      cases ho : S.off with
      | true =>
        have e1 : readE S t = 6 := by unfold readE; rw [if_neg hb, if_pos ho]
        have e2 : readS S t = [] := by unfold readS; rw [if_neg (by rw [e1]; decide)]
        rw [e1, e2]
        refine (read_dead hd hk.le (by rw [hfl.dead, ho]) t (by omega)).mono fun e w' ⟨he, hw⟩ => ⟨none, 0, he, ?_, hw ▸ Below.refl _ _⟩
        exact World.ownsRow_nil _ _ _ _
      | false =>
        have e1 : readE S t = 0 := by unfold readE; rw [if_neg hb, if_neg (by rw [ho]; decide)]
        have e2 : readS S t = nowS S t := by unfold readS; rw [if_pos e1]; rfl
        have hl := hk.now t
        rw [e1, e2, hl]
        refine (read_good hd hk.le hk.now (by rw [hfl.dead, ho]) t (by omega)).mono fun e w' ⟨he, hw⟩ => ⟨some ⟨w.heap.size, 0, none⟩, 128, he, ?_, ?_⟩
        · subst hw
          have := World.ownsRow_lit (base := w.heap.size) (size := 1) (e := 89) w (bv (nowS S t)).toArray 128 (Nat.le_refl _) (by simp [maxLen]) (by rw [List.size_toArray, bv_length, hl])
          rwa [List.toList_toArray] at this
        · subst hw
          exact (Below.refl _ _).alloc (Nat.le_refl _) _
  cut s F S n w h hn := by
    obtain ⟨d, An, cn, As, cs, Ap, cp, fl, rfl, hd, hk, hfl, hF⟩ := h
    refine (cut_any hd n).mono fun e w' ⟨he, h1, hg⟩ => ⟨he, F, ?_, fun g hg => .inl hg, only_grown hg ((hF d).2 (.inl rfl))⟩
    have hkc : (cutS S n).Ok := hk.cut hn.2
    cases ho : S.off with
    | true =>
      have e1 : cutS S n = S := by unfold cutS; rw [if_pos ho]
      rw [e1]
      rw [hfl.dead, if_pos ho] at h1
      exact ⟨d, An, cn, As, cs, Ap, cp, fl, rfl, h1, hk, hfl, hF⟩
    | false =>
      have e1 : cutS S n = { S with left := max n (-1) } := by unfold cutS; rw [if_neg (by rw [ho]; decide)]
      rw [e1] at hkc ⊢
      rw [hfl.dead, if_neg (by rw [ho]; decide)] at h1
      refine ⟨d, An, cn, As, cs, Ap, cp, _, rfl, h1, hkc, ⟨rfl, hfl.cnt, hn, fun _ => ?_, fun h => by simpa using h⟩, hF⟩
      show max n (-1) = if decide (0 ≤ n) = true then n else -1
      by_cases h0 : 0 ≤ n
      · rw [if_pos (by simpa using h0)]; omega
      · rw [if_neg (by simpa using h0)]; omega
  crash s F S A n c l w h hf hl hnc hcm hr hi ho := by
    obtain ⟨d, An, cn, As, cs, Ap, cp, fl, rfl, hd, hk, hfl, hF⟩ := h
    refine (crash_any hd hk.le hk.now hk.safe (fun q hq => ⟨hk.at_ q hq, hk.put q hq⟩) hf.1 A n c l hl hnc hcm hi hr (fun ad e h0 hg => ho ad e h0 ((hF _).2 hg))).mono fun e w' ⟨he, hon, h1⟩ => ⟨he, LF d An cn As cs none 0 S.n 0, ?_, fun g hg => ?_, only_lf hF hon⟩
    · refine ⟨d, An, cn, As, cs, none, 0, ⟨false, false, 0, fl.cnt⟩, rfl, ?_, hk.crash l, ⟨rfl, hfl.cnt, (show -9223372036854775808 ≤ (0 : Int) ∧ (0 : Int) ≤ 9223372036854775807 by decide), fun _ => rfl, fun h => by cases h⟩, fun g => Iff.rfl⟩
      exact h1.as (fun i _ => crashN_now (fateL l) i) (fun i _ => rfl)
    · rcases hg with rfl | hg | hg | hg
      · exact .inl ((hF _).2 (.inl rfl))
      · exact .inl ((hF _).2 (.inr (.inl hg)))
      · exact .inl ((hF _).2 (.inr (.inr (.inl hg))))
      · cases hg
  size s F S w h := by
    obtain ⟨d, An, cn, As, cs, Ap, cp, fl, rfl, hd, hk, hfl, hF⟩ := h
    exact (size_any hd).mono fun e w' ⟨he, hw⟩ => ⟨he, hw ▸ Below.refl _ _⟩
  dead s F S w h := by
    obtain ⟨d, An, cn, As, cs, Ap, cp, fl, rfl, hd, hk, hfl, hF⟩ := h
    exact (dead_any hd).mono fun e w' ⟨he, hw⟩ => ⟨by rw [he, hfl.dead], hw ▸ Below.refl _ _⟩
  count s F S w h := by
    obtain ⟨d, An, cn, As, cs, Ap, cp, fl, rfl, hd, hk, hfl, hF⟩ := h
    exact (done_any hd).mono fun e w' ⟨he, hw⟩ => ⟨by rw [he, hfl.cnt], hw ▸ Below.refl _ _⟩
end Go.Proofs.Ythbgcffnnholeaa
