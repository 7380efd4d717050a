/- The contract of spill of package perfect. No statement of the seat is proved here. -/
import Derived.Test.YtacijjioaanlgaaPerfTake
import Derived.Test.YtacijjioaanlgaaKeyMap
import Derived.Test.YtacijjioaanlgaaStillMid
namespace Go.Proofs.Ytacijjioaanlgaa
open Go.RowKit Go.Maps
set_option linter.unusedVariables false

/-- In w the block b is a map from keys to numbers, filled one by one. -/
abbrev Held (w : World) (b : Nat) (al : List (KeyT × Nat)) : Prop := w.ownsMap Try.prog 27 (plainElem (H := Unit) Try.prog 3) b al.length (kmap al)
theorem cell_of_map {w : World} {b n : Nat} {P : Program} {k : TypeId} {R : Value → Option (DataW Unit × List MemPlace)} {D : DataW Unit} (h : w.ownsMap P k R b n D) (i : Nat) : w.cell? ⟨b, i, none⟩ = none := by
  obtain ⟨es, clock, hb, _⟩ := h
  simp [World.cell?, hb]
theorem RdK.elsewhere {w w' : World} {B b : Nat} {A : Option Addr} {ks : List KeyT} (h : RdK w B A ks) (hB : B ≤ w.heap.size) (hno : ∀ i (v : Int), w.cell? ⟨b, i, none⟩ ≠ some (.int .u8 v)) (hg : w.grownBy w' (some b)) : RdK w' B A ks := by
  refine ⟨fun hn => ?_, h.each⟩
  obtain ⟨g, off, e, hl, hc⟩ := h.rows hn
  refine ⟨g, off, e, hl, fun j hj i v hv => ?_⟩
  have hne : g ≠ b := by
    rintro rfl
    have hk0 : 0 < ks.length := by simpa using hn
    exact hno _ _ (hc 0 hn 0 (.int .u8 (ks[0].1[0]'(by have := (h.each _ (List.getElem_mem hk0)).1; omega)).toNat) (by rw [List.getElem_map]; exact kcs_byte _))
  exact (World.cell?_of_block (hg.block g (by omega) (fun e => hne (by injection e)))).trans (hc j hj i v hv)
theorem blk_not_map {w : World} {a b n : Nat} {t : TypeId} {cs : Array Value} {P : Program} {k : TypeId} {R : Value → Option (DataW Unit × List MemPlace)} {D : DataW Unit} (h : Blk w a t cs) (hm : w.ownsMap P k R b n D) : a ≠ b := by
  rintro rfl
  obtain ⟨es, clock, hb, _⟩ := hm
  unfold Blk at h
  rw [h] at hb
  injection hb with hb
  cases hb
theorem map_kept {w w' : World} {b n g : Nat} {P : Program} {k : TypeId} {R : Value → Option (DataW Unit × List MemPlace)} {D : DataW Unit} {t : TypeId} {cs : Array Value} (h : w.ownsMap P k R b n D) (hg : w.grownBy w' (some g)) (hb : Blk w g t cs) : w'.ownsMap P k R b n D :=
  h.kept hg (fun e => blk_not_map hb h (by injection e with e; exact e.symm))
theorem map_below {w w' : World} {b n : Nat} {P : Program} {k : TypeId} {R : Value → Option (DataW Unit × List MemPlace)} {D : DataW Unit} (h : w.ownsMap P k R b n D) (hb : Below w.heap.size w w') : w'.ownsMap P k R b n D :=
  h.kept (row := none) ⟨hb.os, hb.tape, hb.output, hb.size, fun k hk _ => hb.block k hk⟩ (by simp)
theorem zeroInt (w : World) : (zeroValue 3).run Try.prog w = .ok (.int .i64 0) w := by kernel_rfl
set_option maxRecDepth 100000 in
set_option maxHeartbeats 2000000 in
theorem spill_any (mb pm u n m c : Nat) (v0 v1 : Value) (hn : n ≤ 16384) (A : Option Addr) (ks : List KeyT) (hl : ks.length = m) (hc : m ≤ c) (hm : c ≤ maxLen) (U : Nat → Bool) (hfree : m ≤ (freeL n U).length) (w : World)
    (hr : RdK w w.heap.size A ks) (hu : Used w u n U) (hmb : Blk w mb 56 #[v0, v1, .map (some pm)]) (hown : Held w pm []) :
    Calls Try.prog 23 #[.pointer (some ⟨mb, 0, none⟩), .slice A m c, .slice (some ⟨u, 0, none⟩) n n] w fun e w' => e = .returned (.tuple #[]) ∧ Held w' pm ((ks.zip (freeL n U)).take m) ∧ w.grownBy w' (some pm) := by
  have hm63 : c ≤ 9223372036854775807 := by unfold maxLen at hm; omega
  have hn63 : n ≤ 9223372036854775807 := by omega
  have hml : m ≤ 16384 := by
    have h1 : (freeL n U).length ≤ n := by
      have := List.length_filter_le (fun p => !U p) (List.range n)
      rw [List.length_range] at this
      exact this
    omega
  obtain ⟨fs, hfs⟩ := key_desc
  obtain ⟨F, hF⟩ : ∃ F, freeL n U = F := ⟨_, rfl⟩
  have HFL := Lib.hid (show ∀ a j, (freeL a U).length = j → j < m → a < n from fun a j h1 h2 => freeL_lt h1 (by omega))
  have HFG := Lib.hid (show ∀ a j, (freeL a U).length = j → j < m → U a = false → F[j]? = some a from fun a j h1 h2 h3 => hF ▸ freeL_get h1 (freeL_lt h1 (by omega)) h3)
  have HFS := Lib.hid (show ∀ a, U a = true → (freeL (a + 1) U).length = (freeL a U).length from fun a h => by rw [freeL_succ, h]; simp)
  have HFN := Lib.hid (show ∀ a, U a = false → (freeL (a + 1) U).length = (freeL a U).length + 1 from fun a h => by rw [freeL_succ, h]; simp)
  rw [hF]
  have HFM := Lib.hid (show m ≤ F.length from hF ▸ hfree)
  have HL := Lib.hid hl
  have HR := Lib.hid hr
  have HU := Lib.hid hu
  have HMB := Lib.hid hmb
  have HOWN := Lib.hid hown
  have HF := Lib.hid hfs
  clear hl hr hu hfs hm hfree hF hmb hown
  go_enter Try.func23, Try.ntmps23
  go_wp2_with fail
  go_loopw [6, 11] (fun a i wr => ∃ j at_ : Nat, j ≤ m ∧ i = .int .i64 j ∧ a = .int .i64 at_ ∧ (freeL at_ U).length = j ∧ Held wr pm ((ks.zip F).take j) ∧ w.grownBy wr (some pm)) (fun _ i _ => m - (intOf i).toNat)
  case atStart => exact ⟨0, 0, Nat.zero_le _, rfl, rfl, rfl, HOWN.out, World.grownBy.refl _ _⟩
  case round =>
    obtain ⟨j, at_, hj, rfl, rfl, hcnt, hown, hgr⟩ := hrel
    by_cases hlt : j < m
    · have hjx : j < ks.length := by rw [HL.out]; exact hlt
      obtain ⟨g, off, rfl, hg, hra, hok⟩ := ((HR.out.elsewhere (Nat.le_refl _) (fun i v => by rw [cell_of_map HOWN.out i]; simp) hgr).more hgr.size).at_ hjx
      obtain ⟨x, hx⟩ : ∃ x, ks[j] = x := ⟨_, rfl⟩
      rw [hx] at hra hok
      have HX := Lib.hid (show ks[j]? = some x by rw [List.getElem?_eq_getElem hjx, hx])
      have HKS := Lib.hid (show (Try.prog.info? 27).map (·.size) = some (kcs x).length by rw [kcs_length hok]; exact key_size)
      have HKS2 := Lib.hid (show (Try.prog.info? 27).map (·.size) = some (kcs x).toArray.size by rw [List.size_toArray]; exact HKS.out)
      have HOLD := Lib.hid (show (kz 0).size = (kcs x).toArray.size from (show (kz 0).size = 33 from rfl).trans (by rw [List.size_toArray, kcs_length hok]))
      have HRA := Lib.hid hra
      obtain ⟨w1, hw1⟩ : ∃ w1, wr.alloc (.cells (kcs x).toArray 27) = w1 := ⟨_, rfl⟩
      obtain ⟨kb, hkb⟩ : ∃ kb, wr.heap.size = kb := ⟨_, rfl⟩
      have HB1 := Lib.hid (show Blk w1 kb 27 (kcs x).toArray by rw [← hw1, ← hkb]; exact Blk.new wr 27 (kcs x).toArray)
      have HBZ := Lib.hid (Blk.new wr 27 (kz 0))
      have HONE := Lib.hid (kcs_one (k := x))
      have hbx : Below wr.heap.size wr w1 := hw1 ▸ (Below.refl wr.heap.size wr).alloc (Nat.le_refl _) (.cells (kcs x).toArray 27)
      have HGR := Lib.hid (gby_trans hgr (below_grown hbx pm))
      have hus := blk_grownOther HU.out HGR.out (blk_not_map HU.out HOWN.out)
      have HUS := Lib.hid hus
      have HMS := Lib.hid (blk_grownOther HMB.out HGR.out (blk_not_map HMB.out HOWN.out))
      have HHW := Lib.hid (show Held w1 pm ((ks.zip F).take j) from hw1 ▸ hown.alloc (.cells (kcs x).toArray 27))
      have HW1 := Lib.hid hw1
      have HKB := Lib.hid hkb
      have HKL := Lib.hid (kl_is hok)
      have HCNT := Lib.hid hcnt
      have hi1 : (0 : Int) ≤ (j : Int) := by omega
      have hi2 : (j : Int) < (m : Int) := by omega
      clear hra hok hus hgr hbx hown hcnt hx hw1 hkb
      go_wp2_with (first
        | refine wpList_load_mid rfl 27 (.tmp 13) rfl g (off + j * 33) rfl (kcs x) (.struct fs) HRA.out HF.out rfl HKS.out ?_
        | (refine wpList_store_row rfl 27 (.tmp 8) (.tmp 14) rfl wr.heap.size (kcs x).toArray rfl rfl 27 (kz 0) HBZ.out HKS2.out HOLD.out HONE.out ?_; rw [setRow_alloc]))
      simp only [Act.put]
      rw [HW1.out, HKB.out]
      go_loop [6] (fun a => ∃ at_ : Nat, a = .int .i64 at_ ∧ (freeL at_ U).length = j) (fun a => n - (intOf a).toNat)
      case atStart => exact ⟨at_, rfl, HCNT.out⟩
      case round =>
        clear HCNT
        obtain ⟨a, rfl, hcnt⟩ := hrel
        have han := HFL.out a j hcnt hlt
        have hcu := Used.at_ HUS.out han
        have ha1 : (0 : Int) ≤ (a : Int) := by omega
        have ha2 : (a : Int) < (n : Int) := by omega
        cases hUa : U a
        · rw [hUa] at hcu
          have HG := Lib.hid (HFG.out a j hcnt hlt hUa)
          have HC := Lib.hid (show (freeL (a + 1) U).length = j + 1 by rw [HFN.out a hUa, hcnt])
          clear hUa hcnt
          go_wp2_with fail
          obtain ⟨hc0, hc1, hc2⟩ : w1.drew.cell? ⟨mb, 0, none⟩ = some v0 ∧ w1.drew.cell? ⟨mb, 1, none⟩ = some v1 ∧ w1.drew.cell? ⟨mb, 2, none⟩ = some (.map (some pm)) := ⟨HMS.out.cell 0, HMS.out.cell 1, HMS.out.cell 2⟩
          have HRB := Lib.hid (show w1.drew.rangeAt kb 0 (kcs x) from range_of_blk (w := w1) HB1.out)
          refine wp_region_still_tail 6 (by kernel_rfl) (by kernel_rfl) ?_
          simp only [List.take_succ_cons, List.take_zero, List.drop_succ_cons, List.drop_zero]
          repeat (first | refine wpStill_load_mid rfl 27 (.tmp 8) rfl kb 0 rfl (kcs x) (.struct fs) HRB.out HF.out rfl HKS.out ?_ | still_step)
          refine wpStill_nil ?_
          change wpList _ _ _ _ _ w1.drew
          have HJ := Lib.hid (show w1.drew.ownsMap Try.prog 27 (plainElem (H := Unit) Try.prog 3) pm j (kmap ((ks.zip F).take j)) from HHW.out.mono (by rw [List.length_take]; omega))
          have hjm : j < maxLen := by unfold maxLen; omega
          have hwf := plainElem_int (H := Unit) (P := Try.prog) Try.underlying3 (a := (a : Int)) (WalkArith.wf_i64 (by omega))
          have HWF := Lib.hid hwf
          clear hwf hc0 hc1 hc2
          have hgd : w1.grownBy w1.drew (some pm) := ⟨rfl, rfl, rfl, Nat.le_refl _, fun _ _ _ => rfl⟩
          have HGD := Lib.hid hgd
          generalize w1.drew = w1d at *
          clear hgd
          go_wp2_with (at_mapUpdate; refine wpList_mapUpdate_own _ rfl _ _ _ 54 rfl 27 3 keyLaw Try.underlying54 _ pm j _ rfl HJ.out hjm _ _ _ rfl rfl HKL.out _ [] HWF.out ?_; intro w2 hown2 hgrow2)
          have HX2 := Lib.hid (And.intro hown2 (gby_trans (gby_trans HGR.out HGD.out) hgrow2))
          clear hown2 hgrow2
          go_roundw
          case rel =>
            refine ⟨j + 1, a + 1, by omega, by go_num, by go_num, HC.out, ?_, HX2.out.2⟩
            have e1 : (ks.zip F).take (j + 1) = (ks.zip F).take j ++ [(x, a)] := by
              have h1 : (ks.zip F)[j]? = some (x, a) := by
                rw [List.getElem?_zip_eq_some]; exact ⟨HX.out, HG.out⟩
              rw [List.take_add_one, h1]; rfl
            have e2 : ((ks.zip F).take (j + 1)).length = j + 1 := by
              have := HFM.out
              rw [List.length_take, List.length_zip, HL.out]; omega
            show World.ownsMap _ _ _ _ _ _ _
            rw [e2, e1, kmap_snoc]
            exact HX2.out.1
          case measure => simp [intOf]; omega
        · rw [hUa] at hcu
          have HC := Lib.hid (show (freeL (a + 1) U).length = j by rw [HFS.out a hUa, hcnt])
          clear hUa hcnt
          go_wp2_with fail
          go_round
          case rel => exact ⟨a + 1, by go_num, HC.out⟩
          case measure => simp [intOf]; omega
    · obtain rfl : m = j := by omega
      have H := Lib.hid (And.intro hown hgr)
      clear hown hgr hcnt
      go_wp2_with fail
      go_end0
      exact ⟨rfl, H.out.1, H.out.2⟩
end Go.Proofs.Ytacijjioaanlgaa
