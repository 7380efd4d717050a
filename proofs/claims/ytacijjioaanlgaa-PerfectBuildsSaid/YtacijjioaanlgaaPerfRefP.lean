/- The contract of the reference's Place for package perfect. No statement of the seat is proved here. -/
import Derived.Test.YtacijjioaanlgaaPerfRefO
namespace Go.Proofs.Ytacijjioaanlgaa
open Go.RowKit Go.Maps Go.Sort
set_option linter.unusedVariables false

theorem find_zip {α β : Type} [DecidableEq α] {l : List α} {m : List β} (h : l.length = m.length) (hn : l.Nodup) {i : Nat} (hi : i < l.length) : (l.zip m).find? (fun x => decide (x.1 = l[i])) = some (l[i], m[i]'(by omega)) := by
  have hmem : (l[i], m[i]'(by omega)) ∈ l.zip m := by
    refine List.mem_iff_getElem?.2 ⟨i, ?_⟩
    rw [List.getElem?_zip_eq_some]
    exact ⟨List.getElem?_eq_getElem hi, List.getElem?_eq_getElem (by omega)⟩
  cases hf : (l.zip m).find? (fun x => decide (x.1 = l[i])) with
  | none => exact absurd (decide_eq_true rfl) (List.find?_eq_none.1 hf _ hmem)
  | some y =>
    have hy := List.mem_of_find?_eq_some hf
    have hyk : y.1 = l[i] := by simpa using List.find?_some hf
    obtain ⟨j, hj1, hj2⟩ := zip_mem hy
    rw [hyk] at hj1
    obtain ⟨hj3, hj4⟩ := List.getElem?_eq_some_iff.1 hj1
    obtain rfl : j = i := (List.getElem_inj hn).1 hj4
    rw [List.getElem?_eq_getElem (by omega)] at hj2
    congr 1
    exact Prod.ext hyk (Option.some.inj hj2).symm
theorem find_zip_none {α β : Type} [DecidableEq α] {l : List α} {m : List β} {k : α} (hk : k ∉ l) : (l.zip m).find? (fun x => decide (x.1 = k)) = none := by
  rw [List.find?_eq_none]
  intro x hx
  obtain ⟨j, hj1, _⟩ := zip_mem hx
  have := List.mem_of_getElem? hj1
  simp only [decide_eq_true_eq]
  intro e
  exact hk (e ▸ this)
/-- In w the four cells are the reference's Map of those keys. -/
structure RM (w : World) (n G : Nat) (s : BS) (db cd : Nat) (As : Option Addr) (cs : Nat) (Aa : Option Addr) (ca B : Nat) : Prop where
  lt : db < w.heap.size
  d : ∀ i, i < G → w.cell? ⟨db, i, none⟩ = some (.int .u64 (s.sd i : Nat))
  sp : RdK w w.heap.size As s.left
  at_ : OwnI w B Aa ca (freeL n s.U)
  cap : G ≤ cd
/-- The cells of it. -/
abbrev rmc (n G m db cd : Nat) (As : Option Addr) (cs : Nat) (Aa : Option Addr) (ca : Nat) : Array Value := #[.int .i64 n, .slice (some ⟨db, 0, none⟩) G cd, .slice As m cs, .slice Aa m ca]
section
variable {w w' : World} {n G db cd cs ca B : Nat} {s : BS} {As Aa : Option Addr}
theorem RM.on (h : RM w n G s db cd As cs Aa ca B) (hb : Below w.heap.size w w') : RM w' n G s db cd As cs Aa ca B :=
  ⟨Nat.lt_of_lt_of_le h.lt hb.size, fun i hi => by rw [hb.cell (p := ⟨db, i, none⟩) h.lt]; exact h.d i hi, (h.sp.below hb).more hb.size, ownsRow_below h.at_ hb, h.cap⟩
end
set_option maxRecDepth 100000 in
set_option maxHeartbeats 2000000 in
theorem rplace_any {n G : Nat} {ks : List KeyT} {O : List Nat} (hk : KeysOk n G ks O) (k : KeyT) (hko : k.Ok) (m db cd : Nat) (As : Option Addr) (cs : Nat) (Aa : Option Addr) (ca B : Nat) (w : World) (hml : (fB n G ks O).left.length = m) (h : RM w n G (fB n G ks O) db cd As cs Aa ca B) :
    Calls Try.prog 15 #[.agg (rmc n G m db cd As cs Aa ca), .agg (kcs k).toArray] w fun e w' => e = .returned (.int .i64 (placeB n G (fB n G ks O) k)) ∧ Below w.heap.size w w' := by
  have hG0 : 0 < G := by have := hk.grp; omega
  have hn := hk.le
  have hG1 : G ≤ 16384 := by have := hk.grp; omega
  have hfree : (freeL n (fB n G ks O).U).length = m := by rw [← hml]; exact hk.free
  have hnd := hk.left
  have hsd : ∀ i, (fB n G ks O).sd i ≤ 256 := fun i => sd_le n _ ks O i
  obtain ⟨w1, hw1⟩ : ∃ w1, (w.alloc (.cells (rmc n G m db cd As cs Aa ca) 40)).alloc (.cells (kcs k).toArray 27) = w1 := ⟨_, rfl⟩
  have hb0 : Below w.heap.size w (w.alloc (.cells (rmc n G m db cd As cs Aa ca) 40)) := (Below.refl _ _).alloc (Nat.le_refl _) _
  have hbm := Blk.new w 40 (rmc n G m db cd As cs Aa ca)
  have hb1 : Below (w.alloc (.cells (rmc n G m db cd As cs Aa ca) 40)).heap.size (w.alloc (.cells (rmc n G m db cd As cs Aa ca) 40)) w1 := hw1 ▸ (Below.refl _ _).alloc (Nat.le_refl _) _
  have hkb : Blk w1 (w.alloc (.cells (rmc n G m db cd As cs Aa ca) 40)).heap.size 27 (kcs k).toArray := hw1 ▸ Blk.new _ 27 _
  have hbm1 := hbm.below hb1 hbm.lt
  have hbx := hb0.trans (hb1.mono hb0.size)
  have h1 := h.on hbx
  have HW1 := Lib.hid hw1
  have hm0 := hbm1.cell 0
  have hm1 := hbm1.cell 1
  have hm2 := hbm1.cell 2
  have hm3 := hbm1.cell 3
  by_cases hn0 : n = 0
  · rw [placeB, if_pos hn0]
    subst hn0
    clear hw1 hb0 hb1 hbm h
    go_enter Try.func15, Try.ntmps15
    go_wp2_with fail
    go_ret
    exact ⟨rfl, HW1.out ▸ hbx⟩
  · obtain ⟨r, hre⟩ : ∃ r, placeB n G (fB n G ks O) k = r := ⟨_, rfl⟩
    rw [hre]
    rw [placeB, if_neg hn0] at hre
    generalize fB n G ks O = s at *
    have K0 := fun dd os => Lib.hid (told_base (w := w1) (fun W _ => rgroup_any G hG0 (by omega) k hko W) dd os)
    have hpG : HH 0 k % G < G := Nat.mod_lt _ hG0
    have hs := h1.d _ hpG
    have hd1 := hsd (HH 0 k % G)
    generalize HH 0 k % G = p at *
    generalize s.sd p = d at *
    have HRE := Lib.hid hre
    clear hre
    have R1 := Lib.hid (range_base (w := w1) (b := (w.alloc (.cells (rmc n G m db cd As cs Aa ca) 40)).heap.size) (off := 0) (cs := kcs k) fun W hW => range_of_blk (hkb.below hW hkb.lt))
    have HKS := Lib.hid (show (Try.prog.info? 27).map (·.size) = some (kcs k).length by rw [kcs_length hko]; exact key_size)
    obtain ⟨fs, hfs⟩ := key_desc
    have HF := Lib.hid hfs
    have d1 : ∀ q os, (grow (redrawn w1 q) os).cell? ⟨w.heap.size, 1, none⟩ = some (.slice (some ⟨db, 0, none⟩) G cd) := fun q os => cell_regrown hm1 q os
    have ds : ∀ q os, (grow (redrawn w1 q) os).cell? ⟨db, p, none⟩ = some (.int .u64 (d : Nat)) := fun q os => cell_regrown hs q os
    have HB := Lib.hid (And.intro hbx (And.intro hkb (And.intro hbm1 h1)))
    have hne : ¬ (n : Int) = 0 := by omega
    have hp1 : (0 : Int) ≤ (p : Int) := by omega
    have hp2 : (p : Int) < (G : Int) := by omega
    obtain ⟨kb, hkbe⟩ : ∃ kb, (w.alloc (.cells (rmc n G m db cd As cs Aa ca) 40)).heap.size = kb := ⟨_, rfl⟩
    have HKB := Lib.hid (show w.heap.size + 1 = kb by rw [← hkbe]; simp)
    rw [hkbe] at R1 HB
    clear hw1 hb0 hb1 hbm h h1 hbx hkb hbm1 hs hfs hm1 hm2 hm3 hkbe
    go_enter Try.func15, Try.ntmps15
    go_wp2_with fail
    rw [HW1.out, HKB.out]
    refine wp_region_quiet_below (by kernel_rfl) (by kernel_rfl) ?_
    repeat (first
      | (go_big_quiet_want; refine quiet_load_mid 27 (.tmp 3) rfl kb 0 rfl (kcs k) (.struct fs) R1.out HF.out rfl HKS.out (by simp only [Act.put, List.setIfInBounds_toArray, List.set_cons_succ, List.set_cons_zero]; rfl) ?_; go_big_quiet_on)
      | go_big_quiet_step (first | (go_at_call 25; with_reducible exact (K0 _ _).out)))
    refine wpQuiet_nil ?_
    intro _ hw'
    obtain ⟨⟨dq, osq⟩, hw''⟩ := hw'
    subst hw''
    have hbq := below_regrown w1 dq osq
    clear d1 ds K0 R1
    generalize Go.Sort.grow (redrawn w1 dq) osq = wq at *
    have h1q := HB.out.2.2.2.on hbq
    have hkq := HB.out.2.1.below hbq HB.out.2.1.lt
    have hmq := HB.out.2.2.1.below hbq HB.out.2.2.1.lt
    have hbw := HB.out.1.trans (hbq.mono HB.out.1.size)
    have R1 := Lib.hid (range_base (w := wq) (b := kb) (off := 0) (cs := kcs k) fun W hW => range_of_blk (hkq.below hW hkq.lt))
    have HBW := Lib.hid hbw
    have HH1 := Lib.hid h1q
    have HKQ := Lib.hid hkq
    have HMQ := Lib.hid hmq
    have hm0 := hmq.cell 0
    have hm2 := hmq.cell 2
    clear hbq h1q hkq hmq hbw
    by_cases hd0 : 0 < d
    · have hre := HRE.out
      rw [if_pos hd0] at hre
      have HRE := Lib.hid hre
      clear hre
      have hdi : (0 : Int) < (d : Int) := by omega
      have KD := fun dd os => Lib.hid (told_base (w := wq) (fun W _ => rhash_any d (by omega) k hko W) dd os)
      have D0 : ∀ q os, (grow (redrawn wq q) os).cell? ⟨w.heap.size, 0, none⟩ = some (.int .i64 n) := fun q os => cell_regrown hm0 q os
      have hlt : HH d k < 18446744073709551616 := HH_lt (by omega) k
      have hpm : HH d k % n < n := Nat.mod_lt _ (by omega)
      generalize HH d k = V at *
      clear hm0 hm2
      go_wp2_with fail
      refine wp_region_quiet_below (by kernel_rfl) (by kernel_rfl) ?_
      repeat (first
        | (go_big_quiet_want; refine quiet_load_mid 27 (.tmp 3) rfl kb 0 rfl (kcs k) (.struct fs) R1.out HF.out rfl HKS.out (by simp only [Act.put, List.setIfInBounds_toArray, List.set_cons_succ, List.set_cons_zero]; rfl) ?_; go_big_quiet_on)
        | go_big_quiet_step (first | (go_at_call 10; with_reducible exact (KD _ _).out)))
      refine wpQuiet_nil ?_
      intro _ hw'
      obtain ⟨⟨dq2, osq2⟩, hw''⟩ := hw'
      subst hw''
      go_wp2_with fail
      go_ret
      exact ⟨pf_ret (by rw [← HRE.out, Int.natCast_emod]), HBW.out.trans ((below_regrown wq dq2 osq2).mono HBW.out.size)⟩
    · obtain rfl : d = 0 := by omega
      have hre := HRE.out
      rw [if_neg hd0] at hre
      have HRE := Lib.hid hre
      have HML := Lib.hid hml
      have hmn : m ≤ n := by rw [← hfree]; exact Nat.le_trans (List.length_filter_le _ _) (by simp)
      have hm63 : m ≤ 9223372036854775807 := by omega
      have eqg := key_guard
      clear hd0 hre
      go_wp2_with fail
      go_loopw [6] (fun i wr => ∃ j : Nat, j ≤ m ∧ i = .int .i64 j ∧ Hid (k ∉ s.left.take j) ∧ Below wq.heap.size wq wr) (fun i _ => m - (intOf i).toNat)
      case atStart => exact ⟨0, Nat.zero_le _, rfl, Lib.hid (by simp), Below.refl _ _⟩
      case round =>
        obtain ⟨j, hj, rfl, hni, hbel⟩ := hrel
        have hmr := HMQ.out.below hbel HMQ.out.lt
        have hm2 := hmr.cell 2
        have hm3 := hmr.cell 3
        by_cases hlt : j < m
        · have hjl : j < s.left.length := by rw [hml]; exact hlt
          have hrm := HH1.out.on hbel
          obtain ⟨g, off, hAs, hg, hra, hok⟩ := hrm.sp.at_ hjl
          obtain ⟨ga, hAa, _, hga, hca⟩ := OwnI.at_ hrm.at_ (j := j) (by rw [hfree]; exact hlt)
          obtain ⟨x, hx⟩ : ∃ x, s.left[j] = x := ⟨_, rfl⟩
          obtain ⟨t, ht⟩ : ∃ t, (freeL n s.U)[j]'(by rw [hfree]; exact hlt) = t := ⟨_, rfl⟩
          have HFD := Lib.hid (show x = k → (t : Int) = r from fun e => by
            have h1 := find_zip (l := s.left) (m := freeL n s.U) (by rw [hml, hfree]) hnd hjl
            rw [hx, e, ht] at h1
            have h2 := HRE.out
            rw [alB, h1] at h2
            exact h2)
          have HTK := Lib.hid (show s.left.take (j + 1) = s.left.take j ++ [x] by rw [List.take_succ_eq_append_getElem hjl, hx])
          rw [hx] at hra hok
          rw [ht] at hca
          subst hAs
          subst hAa
          have hkr := HKQ.out.below hbel HKQ.out.lt
          have HKX := Lib.hid (show (Try.prog.info? 27).map (·.size) = some (kcs x).length by rw [kcs_length hok]; exact key_size)
          have R2 := Lib.hid (range_base (w := wr) (b := kb) (off := 0) (cs := kcs k) fun W hW => range_of_blk (hkr.below hW hkr.lt))
          have R3 := Lib.hid (range_base (w := wr) (b := g) (off := off + j * 33) (cs := kcs x) fun W hW => fun t v hv => by rw [hW.cell (p := ⟨g, off + j * 33 + t, none⟩) hg]; exact hra t v hv)
          obtain ⟨b, hbe⟩ : ∃ b, decide (x = k) = b := ⟨_, rfl⟩
          have QE := Lib.hid (show ∀ W, (Op.equal 27 (.agg (kcs x).toArray) (.agg (kcs k).toArray)).run Try.prog W = .ok b W from fun W => by rw [key_eq hok hko W, hbe])
          have HBE := Lib.hid hbe
          have D2 : ∀ q os, (grow (redrawn wr q) os).cell? ⟨w.heap.size, 2, none⟩ = some (.slice (some ⟨g, off, none⟩) m cs) := fun q os => cell_regrown hm2 q os
          have HBL := Lib.hid hbel
          have HC3 := Lib.hid (show ∀ W, Below wr.heap.size wr W → W.cell? ⟨w.heap.size, 3, none⟩ = some (.slice (some ⟨ga, 0, none⟩) m ca) ∧ W.cell? ⟨ga, j, none⟩ = some (.int .i64 (t : Nat)) from fun W hW => ⟨by rw [hW.cell (p := ⟨w.heap.size, 3, none⟩) hmr.lt]; exact hm3, by rw [hW.cell (p := ⟨ga, j, none⟩) hga]; exact hca⟩)
          have hi1 : (0 : Int) ≤ (j : Int) := by omega
          have hi2 : (j : Int) < (m : Int) := by omega
          clear hra hok hx ht hbe hbel hkr hrm hjl hm3 hca
          go_wp2_with fail
          refine wp_region_quiet_below (by kernel_rfl) (by kernel_rfl) ?_
          repeat (first
            | (go_big_quiet_want; refine quiet_load_mid 27 (.tmp 39) rfl g (off + j * 33) rfl (kcs x) (.struct fs) R3.out HF.out rfl HKX.out (by simp only [Act.put, List.setIfInBounds_toArray, List.set_cons_succ, List.set_cons_zero]; rfl) ?_; go_big_quiet_on)
            | (go_big_quiet_want; refine quiet_load_mid 27 (.tmp 3) rfl kb 0 rfl (kcs k) (.struct fs) R2.out HF.out rfl HKS.out (by simp only [Act.put, List.setIfInBounds_toArray, List.set_cons_succ, List.set_cons_zero]; rfl) ?_; go_big_quiet_on)
            | (go_big_quiet_want; refine quiet_eql_row 27 27 (.tmp 40) (.tmp 41) rfl (kcs x).toArray (kcs k).toArray rfl rfl eqg b QE.out (by simp only [Act.put, List.setIfInBounds_toArray, List.set_cons_succ, List.set_cons_zero]; rfl) ?_; go_big_quiet_on)
            | go_big_quiet_step (fail))
          refine wpQuiet_nil ?_
          intro _ hw'
          obtain ⟨⟨dq2, osq2⟩, hw''⟩ := hw'
          subst hw''
          have hbq2 := below_regrown wr dq2 osq2
          clear D2 R2 R3 hm2 hmr
          generalize Go.Sort.grow (redrawn wr dq2) osq2 = wv at *
          obtain ⟨hc3, hc4⟩ := HC3.out wv hbq2
          have HBV := Lib.hid (HBL.out.trans (hbq2.mono HBL.out.size))
          clear hbq2 HC3
          cases b with
          | true =>
            go_wp2_with fail
            go_ret
            exact ⟨pf_ret (HFD.out (of_decide_eq_true HBE.out)), HBW.out.trans (HBV.out.mono HBW.out.size)⟩
          | false =>
            clear hc3 hc4
            go_wp2_with fail
            go_roundw
            case rel => exact ⟨j + 1, by omega, by go_num, Lib.hid (by rw [HTK.out, List.mem_append, List.mem_singleton]; exact fun h => h.elim hni.out (fun e => of_decide_eq_false HBE.out e.symm)), HBV.out⟩
            case measure => simp [intOf]; omega
        · obtain rfl : m = j := by omega
          have HNO := Lib.hid (show r = -1 by
            have h1 := hni.out
            rw [List.take_of_length_le (by rw [HML.out]; exact Nat.le_refl _)] at h1
            have h2 := HRE.out
            rw [alB, find_zip_none h1] at h2
            exact h2.symm)
          have HBV := Lib.hid hbel
          clear hbel hm3 hmr
          go_wp2_with fail
          go_ret
          exact ⟨pf_ret HNO.out.symm, HBW.out.trans (HBV.out.mono HBW.out.size)⟩
end Go.Proofs.Ytacijjioaanlgaa
