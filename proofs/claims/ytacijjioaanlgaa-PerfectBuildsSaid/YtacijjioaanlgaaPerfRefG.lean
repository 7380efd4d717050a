/- The contracts of the reference's group and twice for package perfect. No statement of the seat is proved here. -/
import Derived.Test.YtacijjioaanlgaaPerfRefH
import Derived.Test.YtacijjioaanlgaaPerfKeep
import Derived.Test.YtacijjioaanlgaaRowLaws
namespace Go.Proofs.Ytacijjioaanlgaa
open Go.RowKit Go.Maps Go.Sort
set_option linter.unusedVariables false

theorem rhash_zero (k : KeyT) (hk : k.Ok) (w : World) :
    Calls Try.prog 10 #[.int .u64 0, .agg (kcs k).toArray] w fun e w' => e = .returned (.int .u64 (HH 0 k)) ∧ Below w.heap.size w w' := rhash_any 0 (by decide) k hk w
set_option maxRecDepth 100000 in
set_option maxHeartbeats 1000000 in
theorem rgroup_any (n : Nat) (hn0 : 0 < n) (hn : n ≤ 4611686018427387904) (k : KeyT) (hk : k.Ok) (w : World) :
    Calls Try.prog 25 #[.agg (kcs k).toArray, .int .i64 n] w fun e w' => e = .returned (.int .i64 ((HH 0 k % n : Nat))) ∧ Below w.heap.size w w' := by
  have hb := Blk.new w 27 (kcs k).toArray
  have hbl := (Below.refl w.heap.size w).alloc (Nat.le_refl _) (.cells (kcs k).toArray 27)
  have K := Lib.hid (rhash_zero k hk (w.alloc (.cells (kcs k).toArray 27)))
  have hlt : HH 0 k < 18446744073709551616 := HH_lt (by decide) k
  have hm : HH 0 k % n < n := Nat.mod_lt _ hn0
  have HB := Lib.hid hb
  have HBL := Lib.hid hbl
  have HKS := Lib.hid (show (Try.prog.info? 27).map (·.size) = some (kcs k).toArray.size by rw [List.size_toArray, kcs_length hk]; exact key_size)
  obtain ⟨fs, hfs⟩ := key_desc
  have HF := Lib.hid hfs
  clear hb hbl hfs
  generalize HH 0 k = V at *
  go_enter Try.func25, Try.ntmps25
  go_wp2_with (refine wpList_load_row rfl 27 (.tmp 2) rfl w.heap.size rfl 27 (kcs k).toArray (0, 0) (.struct fs) HB.out HF.out rfl HKS.out ?_)
  (with_reducible refine K.out.mono ?_)
  rintro e w2 ⟨rfl, hb2⟩
  have HB2 := Lib.hid (HBL.out.trans (hb2.mono HBL.out.size))
  clear hb2
  go_wp2
  go_ret
  exact ⟨pf_ret (by rw [Int.natCast_emod]), HB2.out⟩
set_option maxRecDepth 100000 in
set_option maxHeartbeats 1000000 in
theorem rtwice_any (A : Option Addr) (ks : List KeyT) (n c : Nat) (hl : ks.length = n) (hc : n ≤ c) (hn : n ≤ 16384) (w : World) (hr : RdK w w.heap.size A ks) :
    Calls Try.prog 24 #[.slice A n c] w fun e w' => e = .returned (.bool (decide (¬ ks.Nodup))) ∧ Below w.heap.size w w' := by
  have HL := Lib.hid hl
  have HR := Lib.hid hr
  obtain ⟨fs, hfs⟩ := key_desc
  have HF := Lib.hid hfs
  have eqg := key_guard
  obtain ⟨R, hR⟩ : ∃ R, decide (¬ ks.Nodup) = R := ⟨_, rfl⟩
  have HRR := Lib.hid hR
  rw [hR]
  clear hl hr hfs hR
  go_enter Try.func24, Try.ntmps24
  go_wp2_with fail
  go_loopw [3] (fun i wr => ∃ j : Nat, j ≤ n ∧ i = .int .i64 j ∧ Hid ((ks.take j).Nodup) ∧ Below w.heap.size w wr) (fun i _ => n - (intOf i).toNat)
  case atStart => exact ⟨0, Nat.zero_le _, rfl, Lib.hid (by simp), Below.refl _ _⟩
  case round =>
    obtain ⟨j, hj, rfl, hnd, hbel⟩ := hrel
    by_cases hlt : j < n
    · have hjx : j < ks.length := by rw [HL.out]; exact hlt
      obtain ⟨x, hx⟩ : ∃ x, ks[j] = x := ⟨_, rfl⟩
      have HX := Lib.hid hx
      have HBEL := Lib.hid hbel
      clear hbel hx
      go_wp2_with fail
      go_loopw [4] (fun i wr => ∃ p : Nat, p ≤ j ∧ i = .int .i64 p ∧ Hid (x ∉ ks.take p) ∧ Below w.heap.size w wr) (fun i _ => j - (intOf i).toNat)
      case atStart => exact ⟨0, Nat.zero_le _, rfl, Lib.hid (by simp), HBEL.out⟩
      case round =>
        clear HBEL
        obtain ⟨p, hp, rfl, hni, hbel⟩ := hrel
        by_cases hpj : p < j
        · have hpx : p < ks.length := by omega
          obtain ⟨g, off, hA, hg, hra, hok⟩ := (HR.out.below hbel).at_ hjx
          obtain ⟨g', off', hA', _, hra', hok'⟩ := (HR.out.below hbel).at_ hpx
          rw [hA] at hA'
          injection hA' with hA'
          injection hA' with e1 e2 _
          subst e1; subst e2
          obtain ⟨y, hy⟩ : ∃ y, ks[p] = y := ⟨_, rfl⟩
          rw [HX.out] at hra hok
          rw [hy] at hra' hok'
          have HTP := Lib.hid (show ks.take (p + 1) = ks.take p ++ [y] by rw [List.take_succ_eq_append_getElem hpx, hy])
          have HYM := Lib.hid (show x = y → ¬ ks.Nodup from fun e hN => by
            have h1 := (List.pairwise_iff_getElem.1 hN) p j hpx hjx hpj
            rw [hy, HX.out] at h1
            exact h1 e.symm)
          have hgw : g < wr.heap.size := Nat.lt_of_lt_of_le hg hbel.size
          have HKS := Lib.hid (show (Try.prog.info? 27).map (·.size) = some (kcs x).length by rw [kcs_length hok]; exact key_size)
          have HKY := Lib.hid (show (Try.prog.info? 27).map (·.size) = some (kcs y).length by rw [kcs_length hok']; exact key_size)
          have R1 := Lib.hid (range_base (w := wr) (b := g) (off := off + j * 33) (cs := kcs x) fun W hW => fun t v hv => by rw [hW.cell (p := ⟨g, off + j * 33 + t, none⟩) hgw]; exact hra t v hv)
          have R2 := Lib.hid (range_base (w := wr) (b := g) (off := off + p * 33) (cs := kcs y) fun W hW => fun t v hv => by rw [hW.cell (p := ⟨g, off + p * 33 + t, none⟩) hgw]; exact hra' t v hv)
          obtain ⟨r, hre⟩ : ∃ r, decide (x = y) = r := ⟨_, rfl⟩
          have QE := Lib.hid (show ∀ W, (Op.equal 27 (.agg (kcs x).toArray) (.agg (kcs y).toArray)).run Try.prog W = .ok r W from fun W => by rw [key_eq hok hok' W, hre])
          have HRE := Lib.hid hre
          have HBEL := Lib.hid hbel
          subst hA
          have hi1 : (0 : Int) ≤ (j : Int) := by omega
          have hi2 : (j : Int) < (n : Int) := by omega
          have hi3 : (0 : Int) ≤ (p : Int) := by omega
          have hi4 : (p : Int) < (n : Int) := by omega
          clear hra hra' hok hok' hy hre hbel hpx
          go_wp2_with fail
          refine wp_region_quiet_below (by kernel_rfl) (by kernel_rfl) ?_
          repeat (first
            | (go_big_quiet_want; refine quiet_load_mid 27 (.tmp 18) rfl g (off + j * 33) rfl (kcs x) (.struct fs) R1.out HF.out rfl HKS.out (by simp only [Act.put, List.setIfInBounds_toArray, List.set_cons_succ, List.set_cons_zero]; rfl) ?_; go_big_quiet_on)
            | (go_big_quiet_want; refine quiet_load_mid 27 (.tmp 22) rfl g (off + p * 33) rfl (kcs y) (.struct fs) R2.out HF.out rfl HKY.out (by simp only [Act.put, List.setIfInBounds_toArray, List.set_cons_succ, List.set_cons_zero]; rfl) ?_; go_big_quiet_on)
            | (go_big_quiet_want; refine quiet_eql_row 27 27 (.tmp 19) (.tmp 23) rfl (kcs x).toArray (kcs y).toArray rfl rfl eqg r QE.out (by simp only [Act.put, List.setIfInBounds_toArray, List.set_cons_succ, List.set_cons_zero]; rfl) ?_; go_big_quiet_on)
            | go_big_quiet_step (fail))
          refine wpQuiet_nil ?_
          intro _ hw'
          obtain ⟨⟨dq, osq⟩, hw''⟩ := hw'
          subst hw''
          have HBQ := Lib.hid (HBEL.out.trans ((below_regrown wr dq osq).mono HBEL.out.size))
          clear R1 R2
          generalize Go.Sort.grow (redrawn wr dq) osq = wq at *
          cases r with
          | true =>
            go_wp2_with fail
            go_ret
            exact ⟨by rw [← HRR.out, decide_eq_true (HYM.out (of_decide_eq_true HRE.out))]; rfl, HBQ.out⟩
          | false =>
            go_wp2_with fail
            go_roundw
            case rel => exact ⟨p + 1, by omega, by go_num, Lib.hid (by rw [HTP.out, List.mem_append, List.mem_singleton]; exact fun h => h.elim hni.out (of_decide_eq_false HRE.out)), HBQ.out⟩
            case measure => simp [intOf]; omega
        · obtain rfl : j = p := by omega
          have HND := Lib.hid (show (ks.take (j + 1)).Nodup by
            rw [List.take_succ_eq_append_getElem hjx, HX.out]
            exact List.nodup_append.2 ⟨hnd.out, by simp, fun a ha b hb e => hni.out (by rw [List.mem_singleton.1 hb] at e; rw [← e]; exact ha)⟩)
          have HBEL := Lib.hid hbel
          clear hbel hni hnd
          go_wp2_with fail
          go_roundw
          case rel => exact ⟨j + 1, by omega, by go_num, HND, HBEL.out⟩
          case measure => simp [intOf]; omega
    · obtain rfl : n = j := by omega
      have HBEL := Lib.hid hbel
      have HN := Lib.hid (show ks.Nodup by have := hnd.out; rwa [List.take_of_length_le (by rw [HL.out]; exact Nat.le_refl _)] at this)
      clear hbel hnd
      go_wp2_with fail
      go_ret
      exact ⟨by rw [← HRR.out, decide_eq_false (fun h => h HN.out)]; rfl, HBEL.out⟩
end Go.Proofs.Ytacijjioaanlgaa
