/- The contract of repeats of package perfect. No statement of the seat is proved here. -/
import Derived.Test.YtacijjioaanlgaaPerfHash
import Derived.Test.YtacijjioaanlgaaKeyMap
namespace Go.Proofs.Ytacijjioaanlgaa
open Go.RowKit Go.Maps
set_option linter.unusedVariables false

theorem mkMap_set (n : Nat) (W : World) : (Instr.makeMap 71 (some (.int .i64 (n : Nat)))).run Try.prog W = .ok (.map (some W.heap.size)) (W.alloc (.map #[] 0)) := by
  simp [Instr.makeMap, run_underlying Try.underlying71, asInt, go_sem]
set_option maxRecDepth 100000 in
set_option maxHeartbeats 1000000 in
theorem repeats_any (A : Option Addr) (ks : List KeyT) (n c : Nat) (hl : ks.length = n) (hc : n ≤ c) (hm : c ≤ maxLen) (hn : n ≤ 16384) (w : World) (hr : RdK w w.heap.size A ks) :
    Calls Try.prog 20 #[.slice A n c] w fun e w' => e = .returned (.bool (decide (¬ ks.Nodup))) ∧ Below w.heap.size w w' := by
  have hm63 : c ≤ 9223372036854775807 := by unfold maxLen at hm; omega
  have hnm : n < maxLen := by unfold maxLen; omega
  have hmm := mkMap_set n
  have HL := Lib.hid hl
  have HR := Lib.hid hr
  have HSZ := Lib.hid (size_kset ks hr.each)
  obtain ⟨fs, hfs⟩ := key_desc
  have HF := Lib.hid hfs
  have HM0 := Lib.hid (World.ownsMap_made w Try.prog 27 (unitElem (H := Unit)))
  have HB0 := Lib.hid ((Below.refl w.heap.size w).alloc (Nat.le_refl _) (.map #[] 0))
  clear hl hr hfs hm
  go_enter Try.func20, Try.ntmps20
  go_wp2_with fail
  go_loopw [11] (fun i wr => ∃ j : Nat, j ≤ n ∧ i = .int .i64 j ∧ wr.ownsMap Try.prog 27 (unitElem (H := Unit)) w.heap.size j (kset (ks.take j)) ∧ Below w.heap.size w wr) (fun i _ => n - (intOf i).toNat)
  case atStart => exact ⟨0, Nat.zero_le _, rfl, HM0.out, HB0.out⟩
  case round =>
    obtain ⟨j, hj, rfl, hown, hbel⟩ := hrel
    by_cases hlt : j < n
    · have hjx : j < ks.length := by rw [HL.out]; exact hlt
      obtain ⟨g, off, rfl, hg, hra, hok⟩ := (HR.out.below hbel).at_ hjx
      have HTK := Lib.hid (show kset (ks.take (j + 1)) = (kset (ks.take j)).put (kl ks[j]) (.agg []) by rw [List.take_succ_eq_append_getElem hjx, kset_snoc])
      generalize ks[j] = x at *
      have HKS := Lib.hid (show (Try.prog.info? 27).map (·.size) = some (kcs x).length by rw [kcs_length hok]; exact key_size)
      have HKS2 := Lib.hid (show (Try.prog.info? 27).map (·.size) = some (kcs x).toArray.size by rw [List.size_toArray]; exact HKS.out)
      have HOLD := Lib.hid (show (kz 0).size = (kcs x).toArray.size from (show (kz 0).size = 33 from rfl).trans (by rw [List.size_toArray, kcs_length hok]))
      have HRA := Lib.hid hra
      have HB1 := Lib.hid (Blk.new wr 27 (kcs x).toArray)
      have HBZ := Lib.hid (Blk.new wr 27 (kz 0))
      have HONE := Lib.hid (kcs_one (k := x))
      have HOWN := Lib.hid (hown.alloc (.cells (kcs x).toArray 27))
      have HBEL := Lib.hid (hbel.alloc hbel.size (.cells (kcs x).toArray 27))
      have HKL := Lib.hid (kl_is hok)
      have hi1 : (0 : Int) ≤ (j : Int) := by omega
      have hi2 : (j : Int) < (n : Int) := by omega
      have hjm : j < maxLen := by unfold maxLen; omega
      clear hra hown hbel hok hnm
      go_wp2_with (first
        | refine wpList_load_mid rfl 27 (.tmp 13) rfl g (off + j * 33) rfl (kcs x) (.struct fs) HRA.out HF.out rfl HKS.out ?_
        | (refine wpList_store_row rfl 27 (.tmp 5) (.tmp 14) rfl wr.heap.size (kcs x).toArray rfl rfl 27 (kz 0) HBZ.out HKS2.out HOLD.out HONE.out ?_; rw [setRow_alloc])
        | refine wpList_load_row rfl 27 (.tmp 5) rfl wr.heap.size rfl 27 (kcs x).toArray (0, 0) (.struct fs) HB1.out HF.out rfl HKS2.out ?_
        | (at_mapUpdate; refine wpList_mapUpdate_own _ rfl _ _ _ 71 rfl 27 72 keyLaw Try.underlying71 _ w.heap.size j _ rfl HOWN.out hjm _ _ _ rfl rfl HKL.out _ [] unitElem_mk ?_; intro w1 hown1 hgrow1)
        | fail)
      have HX := Lib.hid (And.intro hown1 (HBEL.out.grown hgrow1 HBEL.out.size (fun k e => by injection e with e; omega)))
      clear hown1 hgrow1
      go_roundw
      case rel => exact ⟨j + 1, by omega, by go_num, by rw [HTK.out]; exact HX.out.1, HX.out.2⟩
      case measure => simp [intOf]; omega
    · obtain rfl : n = j := by omega
      rw [List.take_of_length_le (by rw [HL.out]; exact Nat.le_refl _)] at hown
      have HBEL := Lib.hid hbel
      have HOWN := Lib.hid hown
      clear hown hbel
      go_wp2_with (at_len; refine wpList_len_own _ rfl _ 71 rfl 27 72 Try.underlying71 _ w.heap.size n _ rfl HOWN.out ?_)
      go_ret
      refine ⟨?_, HBEL.out⟩
      have h1 := HSZ.out
      rw [HL.out] at h1
      have e : decide (Maps.size (kset ks) < n) = decide (¬ ks.Nodup) := by rw [decide_eq_decide]; exact h1.1
      rw [← e]; rfl
end Go.Proofs.Ytacijjioaanlgaa
