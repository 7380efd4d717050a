/- The contract of the reference's Crash of package disk's statements. No statement of the seat is proved here. -/
import Derived.Test.YthbgcffnnholeaaVMB
namespace Go.Proofs.Ythbgcffnnholeaa
open Go.RowKit
set_option linter.unusedVariables false

theorem str_extract (l : List UInt8) (a e : Nat) : (⟨l.toArray⟩ : ByteArray).extract a e = ⟨((l.take e).drop a).toArray⟩ := by
  apply ByteArray.ext
  rw [ByteArray.data_extract]
  show l.toArray.extract a e = _
  rw [List.extract_toArray]
  congr 1
  rw [List.extract_eq_take_drop, List.drop_take]
theorem put_size : (Try.prog.info? 93).map (·.size) = some 2 := by kernel_rfl
theorem put_desc : ∃ fs, Try.prog.underlying 93 = some (.struct fs) := ⟨_, Try.underlying93⟩
section
variable {w : World} {d : Nat} {As : Option Addr} {cs : Nat} {Ap : Option Addr} {cp : Nat} {S : DS}
theorem rf_safe {S S' : DS} (hn : S'.n = S.n) (hp : S'.put = S.put) (g : Nat) : RF d As cs Ap cp S' g ↔ RF d As cs Ap cp S g := by unfold RF; rw [hn, hp]
set_option maxRecDepth 100000 in
set_option maxHeartbeats 2000000 in
theorem rcrash_any (h : RD w d As cs Ap cp S) (hk : S.Ok) (hn : S.put.length ≤ 100000) (A1 : Option Addr) (n1 c1 : Nat) (fs1 : List Int) (hl1 : fs1.length = n1) (hc1 : n1 ≤ c1) (hm1 : c1 ≤ maxLen) (hin : ∀ x ∈ fs1, In64 x) (hr1 : RdV w w.heap.size A1 (iv fs1)) (ho1 : Out (RF d As cs Ap cp S) A1 n1) :
    Calls Try.prog 27 #[.pointer (some ⟨d, 0, none⟩), .slice A1 n1 c1] w fun e w' => e = .returned (.tuple #[]) ∧ Only (RF d As cs Ap cp S) w w' ∧ RD w' d As cs none 0 (crashS S fs1) := by
  obtain ⟨p, hp⟩ : ∃ p, S.put.length = p := ⟨_, rfl⟩
  have HP := Lib.hid hp
  have HH := Lib.hid h
  have HK := Lib.hid hk
  have HR1 := Lib.hid hr1
  have HL1 := Lib.hid (And.intro hl1 ho1)
  have hp1 : p ≤ 100000 := by omega
  have hc63 : c1 ≤ 9223372036854775807 := by unfold maxLen at hm1; omega
  clear hp h hk hr1 hl1 ho1 hm1 hn
  go_enter Try.func27, Try.ntmps27
  go_wp2_with fail
  go_loopw [4] (fun i wr => ∃ j : Nat, j ≤ p ∧ i = .int .i64 j ∧ Hid (Only (RF d As cs Ap cp S) w wr ∧ RD wr d As cs Ap cp { S with safe := crashL (fateL fs1) 0 (S.put.take j) S.safe })) (fun i _ => p - (intOf i).toNat)
  case atStart => exact ⟨0, Nat.zero_le _, rfl, Lib.hid ⟨only_refl _ _, HH.out⟩⟩
  case round =>
    clear HH
    obtain ⟨j, hj, rfl, hst⟩ := hrel
    have hd1 : wr.cell? ⟨d, 1, none⟩ = some (.slice Ap p cp) := by rw [← HP.out]; exact hst.out.2.blk.cell 1
    by_cases hlt : j < p
    · have hjl : j < S.put.length := by rw [HP.out]; exact hlt
      obtain ⟨q, hqe⟩ : ∃ q, S.put[j] = q := ⟨_, rfl⟩
      have hqm : q ∈ S.put := by rw [← hqe]; exact List.getElem_mem hjl
      have hqn : q.1 < S.n := HK.out.at_ q hqm
      have hql : q.2.length = 128 := HK.out.put q hqm
      obtain ⟨Y, hY⟩ : ∃ Y, crashL (fateL fs1) 0 (S.put.take j) S.safe = Y := ⟨_, rfl⟩
      have hYl : (Y q.1).length = 128 := by rw [← hY]; exact crashL_len _ _ _ _ HK.out.safe (fun p hp => HK.out.put p (List.mem_of_mem_take hp)) _
      rw [hY] at hst
      obtain ⟨y, hy⟩ : ∃ y, fateL fs1 j = y := ⟨_, rfl⟩
      have hyl : y ≤ 128 := by rw [← hy]; exact fateL_le _ _
      have HTK := Lib.hid (show crashL (fateL fs1) 0 (S.put.take (j + 1)) S.safe = updS Y q.1 (q.2.take y ++ (Y q.1).drop y) by
        rw [List.take_succ_eq_append_getElem hjl, hqe, crashL_snoc, hY]
        have e : (S.put.take j).length = j := by rw [List.length_take]; omega
        rw [e, Nat.zero_add, hy])
      have hqp := pcs_at hjl
      rw [hqe] at hqp
      obtain ⟨gp, hAp, hop, hgpl, hrow⟩ := row_at hst.out.2.put (show 0 < S.put.length by omega)
      have h0 := (hrow _ _ hqp.1).1
      have h1 := (hrow _ _ hqp.2).1
      obtain ⟨gs, hAs, hos, _, hrs⟩ := row_at hst.out.2.safe (show 0 < S.n by omega)
      have hs := hrs _ _ (sts_get Y hqn)
      have hcs : wr.cell? ⟨d, 0, none⟩ = some (.slice As S.n cs) := hst.out.2.blk.cell 0
      obtain ⟨qa, hqa⟩ : ∃ qa, q.1 = qa := ⟨_, rfl⟩
      obtain ⟨qb, hqb⟩ : ∃ qb : ByteArray, (⟨q.2.toArray⟩ : ByteArray) = qb := ⟨_, rfl⟩
      obtain ⟨yb, hyb⟩ : ∃ yb : ByteArray, (⟨(Y qa).toArray⟩ : ByteArray) = yb := ⟨_, rfl⟩
      rw [hqa] at h0 hs hqn hYl HTK
      have h1 : wr.cell? ⟨gp, j * 2 + 1, none⟩ = some (.string qb) := by rw [← hqb]; exact h1
      have hs1 : wr.cell? ⟨gs, qa, none⟩ = some (.string yb) := by rw [← hyb]; exact hs.1
      have hqs : qb.size = 128 := by rw [← hqb]; exact hql
      have hys : yb.size = 128 := by rw [← hyb]; exact hYl
      have hrp : wr.rangeAt gp (j * 2) [.int .i64 (qa : Nat), .string qb] := fun u v hv => by
        match u, hv with
        | 0, hv => injection hv with hv; rw [← hv]; exact h0
        | 1, hv => injection hv with hv; rw [← hv]; exact h1
      have HRP := Lib.hid hrp
      have HBZ := Lib.hid (Blk.new wr 93 #[.int .i64 0, .string ⟨#[]⟩])
      obtain ⟨w5, hw5⟩ : ∃ w5, wr.alloc (.cells #[.int .i64 (qa : Nat), .string qb] 93) = w5 := ⟨_, rfl⟩
      obtain ⟨xb, hxb⟩ : ∃ xb, wr.heap.size = xb := ⟨_, rfl⟩
      have hb5 : Below wr.heap.size wr w5 := hw5 ▸ (Below.refl _ _).alloc (Nat.le_refl _) _
      have hbk5 : Blk w5 xb 93 #[.int .i64 (qa : Nat), .string qb] := by rw [← hw5, ← hxb]; exact Blk.new wr _ _
      have hd5 := rd_keep hst.out.2 fun g hg => hb5.block g (rf_lt hst.out.2 g hg)
      have HW5 := Lib.hid hw5
      have HXB := Lib.hid hxb
      obtain ⟨k0, k1, k2, k3, k4, k5⟩ : w5.drew.cell? ⟨d, 0, none⟩ = some (.slice As S.n cs) ∧ w5.drew.cell? ⟨xb, 0, none⟩ = some (.int .i64 (qa : Nat)) ∧ w5.drew.cell? ⟨xb, 1, none⟩ = some (.string qb) ∧ w5.drew.cell? ⟨gs, qa, none⟩ = some (.string yb) ∧ w5.drew.frozen? ⟨gs, qa, none⟩ = false ∧ w5.drew.cell? ⟨d, 1, none⟩ = some (.slice Ap p cp) :=
        ⟨hd5.blk.cell 0, hbk5.cell 0, hbk5.cell 1, (by
          obtain ⟨gs', hAs', _, _, hrs5⟩ := row_at hd5.safe (show 0 < S.n by omega)
          rw [hAs] at hAs'
          injection hAs' with hAs'
          injection hAs' with e _ _
          subst e
          have := (hrs5 _ _ (sts_get Y hqn)).1
          rw [← hyb]; exact this), (by
          obtain ⟨gs', hAs', _, _, hrs5⟩ := row_at hd5.safe (show 0 < S.n by omega)
          rw [hAs] at hAs'
          injection hAs' with hAs'
          injection hAs' with e _ _
          subst e
          exact (hrs5 _ _ (sts_get Y hqn)).2), by rw [← HP.out]; exact hd5.blk.cell 1⟩
      have HEX := Lib.hid (show ∀ e : Nat, e ≤ 128 → qb.extract 0 e ++ yb.extract e 128 = ⟨(q.2.take e ++ (Y qa).drop e).toArray⟩ from fun e he => by
        rw [← hqb, ← hyb, str_extract, str_extract, ByteArray.mk_append_mk, List.drop_zero, List.take_of_length_le (by omega : (Y qa).length ≤ 128)])
      have HE0 := Lib.hid (show yb.extract 0 128 = ⟨(q.2.take 0 ++ (Y qa).drop 0).toArray⟩ by
        rw [← hyb, str_extract, List.drop_zero, List.drop_zero, List.take_zero, List.nil_append, List.take_of_length_le (by omega : (Y qa).length ≤ 128)])
      have HE1 := Lib.hid (show qb.extract 0 128 = ⟨(q.2.take 128 ++ (Y qa).drop 128).toArray⟩ by
        rw [← hqb, str_extract, List.drop_zero, List.drop_of_length_le (by omega : (Y qa).length ≤ 128), List.append_nil])
      have HN := Lib.hid (show ∀ v : List UInt8, Only (RF d As cs Ap cp S) w (w5.drew.setCell ⟨gs, qa, none⟩ (st v)) ∧ RD (w5.drew.setCell ⟨gs, qa, none⟩ (st v)) d As cs Ap cp { S with safe := updS Y qa v } from fun v => by
        have hd : RD w5.drew d As cs Ap cp { S with safe := Y } := rd_keep hd5 fun g _ => rfl
        have ho : Only (RF d As cs Ap cp S) w w5.drew := only_trans (hst.out.1.trans (Only.of_below (F := RF d As cs Ap cp S) hb5) fun g hg => .inl hg) ⟨rfl, rfl, rfl, Nat.le_refl _, fun _ _ _ => rfl⟩
        exact ⟨only_trans ho (only_grown (grown_cell w5.drew gs qa (st v)) (.inr (.inl hos))), rd_safe hd hos v⟩)
      have hi1 : (0 : Int) ≤ (j : Int) := by omega
      have hi2 : (j : Int) < (p : Int) := by omega
      have hi3 : (0 : Int) ≤ (qa : Int) := by omega
      have hi4 : (qa : Int) < (S.n : Int) := by omega
      have hrdv := rdv_only hst.out.1 HR1.out (by rw [iv_length, HL1.out.1]; exact HL1.out.2)
      have HRV := Lib.hid hrdv
      have HY := Lib.hid hy
      obtain ⟨fsd, hfsd⟩ := put_desc
      have HFD := Lib.hid hfsd
      rw [hAs] at k0 hcs
      rw [hAp] at hd1 k5
      obtain ⟨sn, hsn⟩ : ∃ sn, S.n = sn := ⟨_, rfl⟩
      rw [hsn] at k0 hi4 hcs
      clear hst hqp hrow hrs hs h0 h1 hs1 hqa hqb hyb hqe hqm hjl hop hos hAp hAs hrp hw5 hxb hb5 hbk5 hd5 hrdv hfsd hqn hql hYl hY hsn hgpl hy
      by_cases hjn : j < n1
      · have hjf : j < fs1.length := by rw [HL1.out.1]; exact hjn
        obtain ⟨gf, of, hA1, _, hcf⟩ := HRV.out (by rw [iv_length]; omega)
        have hcx := hcf j (by rw [iv_length]; exact hjf)
        obtain ⟨x, hx⟩ : ∃ x, fs1[j] = x := ⟨_, rfl⟩
        have hfx : wr.cell? ⟨gf, of + j, none⟩ = some (.int .i64 x) := by
          have e : (iv fs1)[j]'(by rw [iv_length]; exact hjf) = .int .i64 x := by simp [iv, hx]
          rw [hcx, e]
        have HYX := Lib.hid (show y = fateI x by rw [← HY.out, fateL, List.getElem?_eq_getElem hjf, hx])
        subst hA1
        have hjn' : (j : Int) < (n1 : Int) := by omega
        clear hcf hcx hx hjf
        by_cases hx0 : x ≤ 0
        · obtain rfl : y = 0 := by have := HYX.out; unfold fateI at this; omega
          have g1 : ¬ (128 : Int) < x := by omega
          have g2 : ¬ (0 : Int) < x := by omega
          go_wp2_with (first
            | refine wpList_load_mid rfl 93 (.tmp 31) rfl gp (j * 2) rfl [.int .i64 (qa : Nat), .string qb] (.struct fsd) HRP.out HFD.out rfl put_size ?_
            | (refine wpList_store_row rfl 93 (.tmp 6) (.tmp 32) rfl wr.heap.size #[.int .i64 (qa : Nat), .string qb] rfl rfl 93 #[.int .i64 0, .string ⟨#[]⟩] HBZ.out put_size rfl rfl ?_; rw [setRow_alloc, HW5.out, HXB.out]))
          rw [HW5.out, HXB.out]
          refine wp_region_still_tail 22 (by kernel_rfl) (by kernel_rfl) ?_
          simp only [List.take_succ_cons, List.take_zero, List.drop_succ_cons, List.drop_zero]
          repeat still_step
          refine wpStill_nil ?_
          change wpList _ _ _ _ _ w5.drew
          generalize w5.drew = wd at *
          go_wp2_with fail
          go_roundw
          case rel => exact ⟨j + 1, by omega, by go_num, Lib.hid (by rw [HTK.out, HE0.out]; exact HN.out _)⟩
          case measure => simp [intOf]; omega
        · by_cases hx1 : 128 < x
          · obtain rfl : y = 128 := by have := HYX.out; unfold fateI at this; omega
            have g2 : (0 : Int) < x := by omega
            go_wp2_with (first
              | refine wpList_load_mid rfl 93 (.tmp 31) rfl gp (j * 2) rfl [.int .i64 (qa : Nat), .string qb] (.struct fsd) HRP.out HFD.out rfl put_size ?_
              | (refine wpList_store_row rfl 93 (.tmp 6) (.tmp 32) rfl wr.heap.size #[.int .i64 (qa : Nat), .string qb] rfl rfl 93 #[.int .i64 0, .string ⟨#[]⟩] HBZ.out put_size rfl rfl ?_; rw [setRow_alloc, HW5.out, HXB.out]))
            rw [HW5.out, HXB.out]
            refine wp_region_still_tail 22 (by kernel_rfl) (by kernel_rfl) ?_
            simp only [List.take_succ_cons, List.take_zero, List.drop_succ_cons, List.drop_zero]
            repeat still_step
            refine wpStill_nil ?_
            change wpList _ _ _ _ _ w5.drew
            generalize w5.drew = wd at *
            go_wp2_with fail
            go_roundw
            case rel => exact ⟨j + 1, by omega, by go_num, Lib.hid (by rw [HTK.out, HE1.out]; exact HN.out _)⟩
            case measure => simp [intOf]; omega
          · by_cases hx2 : x = 128
            · subst hx2
              obtain rfl : y = 128 := by have := HYX.out; unfold fateI at this; omega
              go_wp2_with (first
                | refine wpList_load_mid rfl 93 (.tmp 31) rfl gp (j * 2) rfl [.int .i64 (qa : Nat), .string qb] (.struct fsd) HRP.out HFD.out rfl put_size ?_
                | (refine wpList_store_row rfl 93 (.tmp 6) (.tmp 32) rfl wr.heap.size #[.int .i64 (qa : Nat), .string qb] rfl rfl 93 #[.int .i64 0, .string ⟨#[]⟩] HBZ.out put_size rfl rfl ?_; rw [setRow_alloc, HW5.out, HXB.out]))
              rw [HW5.out, HXB.out]
              refine wp_region_still_tail 22 (by kernel_rfl) (by kernel_rfl) ?_
              simp only [List.take_succ_cons, List.take_zero, List.drop_succ_cons, List.drop_zero]
              repeat still_step
              refine wpStill_nil ?_
              change wpList _ _ _ _ _ w5.drew
              generalize w5.drew = wd at *
              go_wp2_with fail
              go_roundw
              case rel => exact ⟨j + 1, by omega, by go_num, Lib.hid (by rw [HTK.out, HE1.out]; exact HN.out _)⟩
              case measure => simp [intOf]; omega
            · obtain rfl : x = (y : Int) := by have := HYX.out; unfold fateI at this; omega
              have g1 : ¬ (128 : Int) < (y : Int) := by omega
              have g2 : (0 : Int) < (y : Int) := by omega
              have g3 : y < 128 := by omega
              go_wp2_with (first
                | refine wpList_load_mid rfl 93 (.tmp 31) rfl gp (j * 2) rfl [.int .i64 (qa : Nat), .string qb] (.struct fsd) HRP.out HFD.out rfl put_size ?_
                | (refine wpList_store_row rfl 93 (.tmp 6) (.tmp 32) rfl wr.heap.size #[.int .i64 (qa : Nat), .string qb] rfl rfl 93 #[.int .i64 0, .string ⟨#[]⟩] HBZ.out put_size rfl rfl ?_; rw [setRow_alloc, HW5.out, HXB.out]))
              rw [HW5.out, HXB.out]
              refine wp_region_still_tail 22 (by kernel_rfl) (by kernel_rfl) ?_
              simp only [List.take_succ_cons, List.take_zero, List.drop_succ_cons, List.drop_zero]
              repeat still_step
              refine wpStill_nil ?_
              change wpList _ _ _ _ _ w5.drew
              generalize w5.drew = wd at *
              go_wp2_with fail
              go_roundw
              case rel => exact ⟨j + 1, by omega, by go_num, Lib.hid (by rw [HTK.out, HEX.out y (by omega)]; exact HN.out _)⟩
              case measure => simp [intOf]; omega
      · have hjn' : ¬ (j : Int) < (n1 : Int) := by omega
        obtain rfl : y = 0 := by rw [← HY.out, fateL, List.getElem?_eq_none (by rw [HL1.out.1]; omega)]
        go_wp2_with (first
          | refine wpList_load_mid rfl 93 (.tmp 31) rfl gp (j * 2) rfl [.int .i64 (qa : Nat), .string qb] (.struct fsd) HRP.out HFD.out rfl put_size ?_
          | (refine wpList_store_row rfl 93 (.tmp 6) (.tmp 32) rfl wr.heap.size #[.int .i64 (qa : Nat), .string qb] rfl rfl 93 #[.int .i64 0, .string ⟨#[]⟩] HBZ.out put_size rfl rfl ?_; rw [setRow_alloc, HW5.out, HXB.out]))
        rw [HW5.out, HXB.out]
        refine wp_region_still_tail 22 (by kernel_rfl) (by kernel_rfl) ?_
        simp only [List.take_succ_cons, List.take_zero, List.drop_succ_cons, List.drop_zero]
        repeat still_step
        refine wpStill_nil ?_
        change wpList _ _ _ _ _ w5.drew
        generalize w5.drew = wd at *
        go_wp2_with fail
        go_roundw
        case rel => exact ⟨j + 1, by omega, by go_num, Lib.hid (by rw [HTK.out, HE0.out]; exact HN.out _)⟩
        case measure => simp [intOf]; omega
    · obtain rfl : p = j := by omega
      have htk : S.put.take p = S.put := List.take_of_length_le (by rw [HP.out]; exact Nat.le_refl _)
      rw [htk] at hst
      have hf1 := hst.out.2.blk.frozen 1
      have hf2 := hst.out.2.blk.frozen 2
      have hf3 := hst.out.2.blk.frozen 3
      have hd2 : wr.cell? ⟨d, 2, none⟩ = some (.bool S.off) := hst.out.2.blk.cell 2
      have hd3 : wr.cell? ⟨d, 3, none⟩ = some (.int .i64 S.left) := hst.out.2.blk.cell 3
      have h1 := rd_clear hst.out.2
      have h2 := rd_put (S' := { S with safe := crashL (fateL fs1) 0 S.put S.safe, put := [], off := false }) h1 2 (.bool false) rfl rfl rfl rfl
      have h3 := rd_put (S' := crashS S fs1) h2 3 (.int .i64 (-1)) rfl rfl rfl rfl
      have HN := Lib.hid (And.intro (only_trans (only_trans (only_trans hst.out.1 (only_grown (grown_cell wr d 1 (.slice none 0 0)) (.inl rfl))) (only_grown (grown_cell _ d 2 (.bool false)) (.inl rfl))) (only_grown (grown_cell _ d 3 (.int .i64 (-1))) (.inl rfl))) h3)
      clear hst htk h1 h2 h3
      go_wp2_with fail
      go_end0
      exact ⟨rfl, HN.out.1, HN.out.2⟩
end
end Go.Proofs.Ythbgcffnnholeaa
