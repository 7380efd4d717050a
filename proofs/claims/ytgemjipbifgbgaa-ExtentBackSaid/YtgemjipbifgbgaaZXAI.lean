/- The reference's extents (cellarageref16): Join. No statement of the seat is proved here. -/
import Derived.Test.YtgemjipbifgbgaaZXAF
import Derived.Test.YtgemjipbifgbgaaExRefS
import Derived.Test.YtgemjipbifgbgaaZXAA
import Derived.Test.YtgemjipbifgbgaaZXAG
import Derived.Test.YtgemjipbifgbgaaZXAB
import Derived.Test.YtgemjipbifgbgaaZXAD
import Derived.Great.BuildSlice
import Derived.Deep.DeepCutAuto
namespace Go.Proofs.Ytgemjipbifgbgaa
open Go.RowKit Go.Maps Go.Sort
set_option linter.unusedVariables false
set_option linter.unusedSimpArgs false

theorem zero_ext : ∃ Z0 : Array Value, (Try.prog.info? 51).map (fun i => (i.zero, i.size)) = some (some (.agg Z0), 35) ∧ Z0 = rz := ⟨_, by kernel_rfl, rfl⟩
theorem LimE.mono {n m : Nat} {out : List RowT} (h : LimE n out) (hnm : n ≤ m) : LimE m out := ⟨Nat.le_trans h.len hnm, fun y hy => by
  obtain ⟨h1, h2, h3, h4, h5⟩ := h.each y hy
  exact ⟨h1, h2, h3, h4, by omega⟩⟩
theorem rcs_put {v : RowT} (h : v.Ok) (a b : Int) : (((rcs v).toArray.setIfInBounds 34 (.int .i64 b)).setIfInBounds 33 (.int .i64 a)) = (rcs (v.1, (a, b))).toArray := by
  have hl := kcs_length h.key
  unfold rcs
  rw [List.setIfInBounds_toArray, List.setIfInBounds_toArray]
  congr 1
  rw [List.set_append_right _ _ (by omega), List.set_append_right _ _ (by omega), hl]
  rfl
set_option maxRecDepth 100000 in
set_option maxHeartbeats 8000000 in
theorem rexjoin_any (A : Option Addr) (L : List LsT) (k c : Nat) (hl : L.length = k) (hk : k ≤ 10) (w : World) (hr : RdLs w w.heap.size A L) :
    Calls Try.prog 23 #[.slice A k c] w fun e w' => MadeE w (joinE (L.map (·.2))) e w' := by
  have HR := Lib.hid hr
  have HPL := Lib.hid hl
  obtain ⟨fe, hfe⟩ := ext_desc
  obtain ⟨fk, hfk⟩ := key_desc
  have HF := Lib.hid (And.intro hfe hfk)
  have eqg := key_guard
  obtain ⟨Z0, hiZ, hZ0⟩ := zero_ext
  have HIZ := Lib.hid hiZ
  have HZ0 := Lib.hid hZ0
  clear hl hr hfe hfk hiZ hZ0
  go_enter Try.func23, Try.ntmps23
  go_wp2_with fail
  go_loopw [3, 4] (fun v i wr => ∃ (j n : Nat) (Y : Option Addr) (z : Nat), j ≤ k ∧ i = .int .i64 j ∧ v = .slice Y n z ∧ n ≤ 5000 * j ∧ Hid ((accE ((L.take j).map (·.2)) []).length = n) ∧ Hid (LimE (5000 * j) (accE ((L.take j).map (·.2)) [])) ∧ Hid (∀ x ∈ L.take j, rightE x.2 = true) ∧ Hid (OwnG 51 35 rcs wr w.heap.size Y z (accE ((L.take j).map (·.2)) [])) ∧ Hid (Below w.heap.size w wr)) (fun _ i _ => k - (intOf i).toNat)
  case atStart => exact ⟨0, 0, none, 0, Nat.zero_le _, rfl, rfl, by omega, Lib.hid rfl, Lib.hid LimE.nil, Lib.hid (by simp), Lib.hid (OwnG.nil _ _), Lib.hid (Below.refl _ _)⟩
  case round =>
    obtain ⟨j, n, Y, z, hj, rfl, rfl, hn, HN, HLM, HRT, HO, HB⟩ := hrel
    by_cases hlt : j < k
    · have hjp : j < L.length := by rw [HPL.out]; exact hlt
      obtain ⟨g, off, rfl, hg, hcell⟩ := HR.out.at_ hjp
      have hm := List.getElem_mem hjp
      have hrl := HR.out.each _ hm
      have hcap := HR.out.cap _ hm
      have HTK := Lib.hid (List.take_succ_eq_append_getElem hjp)
      obtain ⟨x, hx⟩ : ∃ x, L[j] = x := ⟨_, rfl⟩
      rw [hx] at hcell hm hrl hcap HTK
      obtain ⟨⟨P, pc⟩, l⟩ := x
      simp only at hcell hrl hcap
      obtain ⟨q, hq⟩ : ∃ q, l.length = q := ⟨_, rfl⟩
      rw [hq] at hcell hcap
      have HQL := Lib.hid hq
      have HM := Lib.hid hm
      have HCL := Lib.hid (show ∀ W, Below w.heap.size w W → W.cell? ⟨g, off + j, none⟩ = some (.slice P q pc) from fun W hW => by rw [hW.cell (p := ⟨g, off + j, none⟩) hg]; exact hcell)
      have HRL := Lib.hid hrl
      have KR := Lib.hid (rexright_any P l q pc hq wr ((hrl.below HB.out).more HB.out.size))
      have hq5 := hcap.2.2
      have hi1 : (0 : Int) ≤ (j : Int) := by omega
      have hi2 : (j : Int) < (k : Int) := by omega
      obtain ⟨R, hR⟩ : ∃ R, rightE l = R := ⟨_, rfl⟩
      rw [hR] at KR
      have HRR := Lib.hid hR
      have hc := HCL.out wr HB.out
      obtain ⟨La, hLa⟩ : ∃ La, (L.take j).map (·.2) = La := ⟨_, rfl⟩
      rw [hLa] at HN HLM HO
      have HLA := Lib.hid hLa
      clear hx hcell hm hrl hq hR hg hjp hLa
      go_wp2_with fail
      refine KR.out.mono ?_
      rintro e w1 ⟨rfl, hb⟩
      have HB1 := Lib.hid (HB.out.trans (hb.mono HB.out.size))
      have HO1 := Lib.hid (HO.out.on hb)
      clear hb KR hc HB HO
      cases R with
      | false =>
        go_wp2_with fail
        go_ret
        exact MadeE.nil (join_no (.inl ⟨l, List.mem_map.2 ⟨_, HM.out, rfl⟩, HRR.out⟩)) HB1.out
      | true =>
        go_wp2_with fail
        go_loopw [3, 5] (fun v i wq => ∃ (p m : Nat) (X : Option Addr) (x : Nat), p ≤ q ∧ i = .int .i64 p ∧ v = .slice X m x ∧ m ≤ 5000 * j + p ∧ Hid ((accE La (l.take p)).length = m) ∧ Hid (LimE (5000 * j + p) (accE La (l.take p))) ∧ Hid (OwnG 51 35 rcs wq w.heap.size X x (accE La (l.take p))) ∧ Hid (Below w.heap.size w wq)) (fun _ i _ => q - (intOf i).toNat)
        case atStart => exact ⟨0, n, Y, z, Nat.zero_le _, rfl, rfl, by omega, HN, HLM, HO1, HB1⟩
        case round =>
          clear HN HLM HO1 HB1
          obtain ⟨p, m, X, x, hp, rfl, rfl, hm, HN, HLM, HO, HB⟩ := hrel
          have hc := HCL.out wr HB.out
          by_cases hlp : p < q
          · have hpl : p < l.length := by rw [HQL.out]; exact hlp
            have HSN := Lib.hid (accE_snoc La l hpl)
            have hoke := (rightE_iff.1 HRR.out).2 _ (List.getElem_mem hpl)
            obtain ⟨g2, off2, rfl, hg2, hra2, hokv⟩ := HRL.out.at_ hpl
            obtain ⟨v, hv⟩ : ∃ v, l[p] = v := ⟨_, rfl⟩
            rw [hv] at HSN hoke hra2 hokv
            obtain ⟨S, hS⟩ : ∃ S, accE La (l.take p) = S := ⟨_, rfl⟩
            rw [hS] at HSN HN HLM HO
            have HRA := Lib.hid (show wr.rangeAt g2 (off2 + p * 35) (rcs v) from fun t u hu => by rw [HB.out.cell (p := ⟨g2, off2 + p * 35 + t, none⟩) hg2]; exact hra2 t u hu)
            have HOKV := Lib.hid hokv
            have HOKE := Lib.hid (okE_iff.1 hoke)
            have HLN := Lib.hid (HLM.out.glue hokv.key hoke)
            have HKS := Lib.hid (show (Try.prog.info? 51).map (·.size) = some (rcs v).length by rw [rcs_length hokv]; exact ext_size)
            have HKS2 := Lib.hid (show (Try.prog.info? 51).map (·.size) = some (rcs v).toArray.size by rw [List.size_toArray]; exact HKS.out)
            have HOLD := Lib.hid (show (rz).size = (rcs v).toArray.size from rz_size.trans (by rw [List.size_toArray, rcs_length hokv]))
            have HONE := Lib.hid (rcs_one (r := v))
            have HBZ := Lib.hid (Blk.new wr 51 rz)
            have hba : Below wr.heap.size wr (wr.alloc (.cells (rcs v).toArray 51)) := (Below.refl wr.heap.size wr).alloc (Nat.le_refl _) _
            have HVB := Lib.hid (Blk.new wr 51 (rcs v).toArray)
            have HB2 := Lib.hid (HB.out.trans (hba.mono HB.out.size))
            have HO2 := Lib.hid (HO.out.on hba)
            have hi3 : (0 : Int) ≤ (p : Int) := by omega
            have hi4 : (p : Int) < (q : Int) := by omega
            clear hoke hra2 hokv hv hS hba hpl hg2
            go_upto_region 11 with (first
              | refine wpList_load_mid rfl 51 (.tmp 34) rfl g2 (off2 + p * 35) rfl (rcs v) (.struct fe) HRA.out HF.out.1 rfl HKS.out ?_
              | (refine wpList_store_row rfl 51 (.tmp 6) (.tmp 35) rfl wr.heap.size (rcs v).toArray rfl rfl 51 rz HBZ.out HKS2.out HOLD.out HONE.out ?_; rw [setRow_alloc]))
            obtain ⟨w2, hw2⟩ : ∃ w2, wr.alloc (.cells (rcs v).toArray 51) = w2 := ⟨_, rfl⟩
            obtain ⟨vb, hvb⟩ : ∃ vb, wr.heap.size = vb := ⟨_, rfl⟩
            rw [hw2, hvb]
            rw [hw2] at HB2 HO2 HVB
            rw [hvb] at HVB
            have HXV := Lib.hid (show ∀ ad, X = some ad → ad.block < vb from fun ad e => hvb ▸ (HO.out.adr ad e).2)
            have HVW := Lib.hid (show w.heap.size ≤ vb from hvb ▸ HB.out.size)
            clear hw2 hvb HRA HBZ HO HB
            go_upto_region 12 with fail
            cases m with
            | zero =>
              have HGL := Lib.hid (show glue S v = S ++ [v] from by
                obtain rfl := List.eq_nil_of_length_eq_zero HN.out
                rfl)
              go_wp2_with fail
              go_quiet (fail)
              obtain ⟨w3, hw3⟩ : ∃ w3, w2.drewN nq = w3 := ⟨_, rfl⟩
              have hbq : Below w2.heap.size w2 w3 := hw3 ▸ below_drewN (Below.refl w2.heap.size w2) nq
              rw [hw3]
              have HO3 := Lib.hid (HO2.out.on hbq)
              have HB3 := Lib.hid (HB2.out.trans (hbq.mono HB2.out.size))
              have HV3 := Lib.hid (HVB.out.below hbq HVB.out.lt)
              clear hw3 hbq HO2 HB2 HVB
              have HRV := Lib.hid (range_of_blk HV3.out)
              have hbb : Below w.heap.size w (w3.alloc (.cells (rcs v).toArray 51)) := HB3.out.alloc HB3.out.size _
              have HBB := Lib.hid hbb
              have HOA := Lib.hid (HO3.out.on ((Below.refl w3.heap.size w3).alloc (Nat.le_refl _) (.cells (rcs v).toArray 51)))
              have HR1 := Lib.hid (rds_one w3 v 51 35 rcs)
              clear hbb
              go_wp2_with (first
                | (refine wpList_load_mid rfl 51 (.tmp 6) rfl vb 0 rfl (rcs v) (.struct fe) HRV.out HF.out.1 rfl HKS.out ?_)
                | (refine wpList_buildOne extE rfl (.tmp 91) rfl HOKV.out rfl ?_)
                | (at_builtin; refine wpList_append_g extE rfl (.tmp 90) (.tmp 92) rfl w.heap.size X x 0 S HN.out rfl HOA.out _ (some ⟨w3.heap.size, 0, none⟩) 1 1 [v] rfl rfl HR1.out (by intro y hy; rw [List.mem_singleton.1 hy]; exact HOKV.out) ?_ ?_ ?_))
              case _ => omega
              case _ => exact HBB.out.size
              intro A9 c9 w9 ho9 hg9
              have HO9 := Lib.hid ho9
              have HB9 := Lib.hid (show Below w.heap.size w w9 from HBB.out.grown hg9 HBB.out.size fun r hr => (HOA.out.lt (by rw [HN.out]; exact hr)).1)
              clear ho9 hg9 HRV HR1
              rw [HGL.out] at HSN HLN
              go_wp2_with fail
              go_roundw
              case rel => exact ⟨p + 1, 0 + 1, A9, c9, by omega, by go_num, rfl, by omega, Lib.hid (by rw [HSN.out, List.length_append, HN.out]; rfl), Lib.hid (by rw [HSN.out]; exact HLN.out), Lib.hid (by rw [HSN.out]; exact HO9.out), HB9⟩
              case measure => simp [intOf]; omega
            | succ u =>
              have hul : u < S.length := by rw [HN.out]; omega
              have HOKS := Lib.hid (HLM.out.ok (by omega))
              obtain ⟨gx, ox, rfl, hgx, hrx, hoky⟩ := (⟨HO2.out.rd extE HOKS.out, HOKS.out⟩ : RdRw w2 w2.heap.size X S).at_ hul
              have hgl : S.getLast? = some S[u] := by rw [List.getLast?_eq_getElem?, HN.out, Nat.add_sub_cancel, List.getElem?_eq_getElem hul]
              have hlim := HLM.out.each _ (List.getElem_mem hul)
              obtain ⟨y, hy⟩ : ∃ y, S[u] = y := ⟨_, rfl⟩
              rw [hy] at hrx hoky hgl hlim
              have HGE := Lib.hid (show glue S v = if goesOn y v = true then S.dropLast ++ [(v.1, (y.2.1, y.2.2 + v.2.2))] else S ++ [v] by unfold glue; rw [hgl])
              have HKY := Lib.hid (show (Try.prog.info? 49).map (·.size) = some (kcs y.1).length by rw [kcs_length hoky.key]; exact key_size)
              have HKV := Lib.hid (show (Try.prog.info? 49).map (·.size) = some (kcs v.1).length by rw [kcs_length HOKV.out.key]; exact key_size)
              have hrv := range_of_blk HVB.out
              have R1 := Lib.hid (rng_base (w := w2) (b := gx) (off := ox + u * 35) (cs := kcs y.1) fun W hW => range_key (r := y) fun t b hb => by rw [hW.cell (p := ⟨gx, ox + u * 35 + t, none⟩) hgx]; exact hrx t b hb)
              have R2 := Lib.hid (rng_base (w := w2) (b := vb) (off := 0) (cs := kcs v.1) fun W hW => range_key (r := v) (range_of_blk (HVB.out.below hW HVB.out.lt)))
              obtain ⟨r, hre⟩ : ∃ r, decide (y.1 = v.1) = r := ⟨_, rfl⟩
              have QE := Lib.hid (show ∀ W, (Op.equal 49 (.agg (kcs y.1).toArray) (.agg (kcs v.1).toArray)).run Try.prog W = .ok r W from fun W => by rw [key_eq hoky.key HOKV.out.key W, hre])
              have HRE := Lib.hid hre
              have cy33 := hrx 33 _ (rcs_33 hoky)
              have cy34 := hrx 34 _ (rcs_34 hoky)
              have cv33 := hrv 33 _ (rcs_33 HOKV.out)
              rw [Nat.zero_add] at cv33
              have CLR : True := trivial
              obtain ⟨yo, hyo⟩ : ∃ t, y.2.1 = t := ⟨_, rfl⟩
              obtain ⟨yl, hyl⟩ : ∃ t, y.2.2 = t := ⟨_, rfl⟩
              obtain ⟨vo, hvo⟩ : ∃ t, v.2.1 = t := ⟨_, rfl⟩
              rw [hyo] at cy33 hlim
              rw [hyl] at cy34 hlim
              rw [hvo] at cv33
              have HVALS := Lib.hid (And.intro hyo (And.intro hyl hvo))
              obtain ⟨vl, hvl⟩ : ∃ t, v.2.2 = t := ⟨_, rfl⟩
              have HVL := Lib.hid hvl
              have v4 : 1 ≤ vl ∧ vl ≤ 4096 := by rw [← hvl]; have := HOKE.out; omega
              have y1 := hlim.2.1
              have y2 := hlim.2.2.1
              have y3 := hlim.2.2.2.1
              have y4 : yl ≤ 409600000 := by have := hlim.2.2.2.2; omega
              have hu1 : (0 : Int) ≤ (u : Int) := by omega
              have hu2 : ((u + 1 : Nat) : Int) - 1 = (u : Int) := by omega
              have hu3 : (u : Int) < ((u + 1 : Nat) : Int) := by omega
              have hu4 : u ≤ 100000 := by omega
              have HGX := Lib.hid hgx
              have HOY := Lib.hid hoky
              clear hrx hoky hgl hlim hy hul hgx hrv hre hyo hyl hvo hvl
              cases r with
              | false =>
                have HGL := Lib.hid (show glue S v = S ++ [v] by
                  rw [HGE.out, if_neg]
                  unfold goesOn
                  intro h
                  exact of_decide_eq_false HRE.out (of_decide_eq_true h).1)
                clear cy33 cy34 cv33
                refine wp_region_quiet_below (by kernel_rfl) (by kernel_rfl) ?_
                repeat (first
                  | (go_big_quiet_want; refine quiet_load_mid 49 (.tmp 45) rfl gx (ox + u * 35) rfl (kcs y.1) (.struct fk) R1.out HF.out.2 rfl HKY.out (by simp only [Act.put, List.setIfInBounds_toArray, List.set_cons_succ, List.set_cons_zero]; rfl) ?_; go_big_quiet_on)
                  | (go_big_quiet_want; refine quiet_load_mid 49 (.tmp 47) rfl vb 0 rfl (kcs v.1) (.struct fk) R2.out HF.out.2 rfl HKV.out (by simp only [Act.put, List.setIfInBounds_toArray, List.set_cons_succ, List.set_cons_zero]; rfl) ?_; go_big_quiet_on)
                  | (go_big_quiet_want; refine quiet_eql_row 49 49 (.tmp 46) (.tmp 48) rfl (kcs y.1).toArray (kcs v.1).toArray rfl rfl eqg false QE.out (by simp only [Act.put, List.setIfInBounds_toArray, List.set_cons_succ, List.set_cons_zero]; rfl) ?_; go_big_quiet_on)
                  | go_big_quiet_step (fail))
                refine wpQuiet_nil ?_
                intro _ hw'
                obtain ⟨⟨dq, osq⟩, hw''⟩ := hw'
                subst hw''
                have hbq : Below w2.heap.size w2 (grow (redrawn w2 dq) osq) := below_regrown w2 dq osq
                have HO3 := Lib.hid (HO2.out.on hbq)
                have HB3 := Lib.hid (HB2.out.trans (hbq.mono HB2.out.size))
                have HV3 := Lib.hid (HVB.out.below hbq HVB.out.lt)
                clear R1 R2 hbq HO2 HB2 HVB CLR
                generalize Go.Sort.grow (redrawn w2 dq) osq = w3 at *
                have HRV := Lib.hid (range_of_blk HV3.out)
                have hbb : Below w.heap.size w (w3.alloc (.cells (rcs v).toArray 51)) := HB3.out.alloc HB3.out.size _
                have HBB := Lib.hid hbb
                have HOA := Lib.hid (HO3.out.on ((Below.refl w3.heap.size w3).alloc (Nat.le_refl _) (.cells (rcs v).toArray 51)))
                have HR1 := Lib.hid (rds_one w3 v 51 35 rcs)
                clear hbb
                go_wp2_with (first
                  | (refine wpList_load_mid rfl 51 (.tmp 6) rfl vb 0 rfl (rcs v) (.struct fe) HRV.out HF.out.1 rfl HKS.out ?_)
                  | (refine wpList_buildOne extE rfl (.tmp 91) rfl HOKV.out rfl ?_)
                  | (at_builtin; refine wpList_append_g extE rfl (.tmp 90) (.tmp 92) rfl w.heap.size (some ⟨gx, ox, none⟩) x (u + 1) S HN.out rfl HOA.out _ (some ⟨w3.heap.size, 0, none⟩) 1 1 [v] rfl rfl HR1.out (by intro y hy; rw [List.mem_singleton.1 hy]; exact HOKV.out) ?_ ?_ ?_))
                case _ => omega
                case _ => exact HBB.out.size
                intro A9 c9 w9 ho9 hg9
                have HO9 := Lib.hid ho9
                have HB9 := Lib.hid (show Below w.heap.size w w9 from HBB.out.grown hg9 HBB.out.size fun r hr => (HOA.out.lt (by rw [HN.out]; exact hr)).1)
                clear ho9 hg9 HRV HR1
                rw [HGL.out] at HSN HLN
                go_wp2_with fail
                go_roundw
                case rel => exact ⟨p + 1, u + 1 + 1, A9, c9, by omega, by go_num, rfl, by omega, Lib.hid (by rw [HSN.out, List.length_append, HN.out]; rfl), Lib.hid (by rw [HSN.out]; exact HLN.out), Lib.hid (by rw [HSN.out]; exact HO9.out), HB9⟩
                case measure => simp [intOf]; omega
              | true =>
                have d1 := cell_base cy33
                have d2 := cell_base cy34
                have d3 := cell_base cv33
                by_cases hon : yo + yl = vo
                · have hot : ((yo + yl) == vo) = true := by simpa using hon
                  have HGL := Lib.hid (show glue S v = S.take u ++ [(v.1, (yo, vl + yl))] by
                    rw [HGE.out, if_pos]
                    · rw [List.dropLast_eq_take, HN.out, Nat.add_sub_cancel, HVALS.out.1, HVALS.out.2.1, HVL.out, Int.add_comm yl vl]
                    · unfold goesOn
                      refine decide_eq_true ⟨of_decide_eq_true HRE.out, ?_⟩
                      rw [HVALS.out.1, HVALS.out.2.1, HVALS.out.2.2]
                      exact hon)
                  refine wp_region_quiet_below (by kernel_rfl) (by kernel_rfl) ?_
                  repeat (first
                    | (go_big_quiet_want; refine quiet_load_mid 49 (.tmp 45) rfl gx (ox + u * 35) rfl (kcs y.1) (.struct fk) R1.out HF.out.2 rfl HKY.out (by simp only [Act.put, List.setIfInBounds_toArray, List.set_cons_succ, List.set_cons_zero]; rfl) ?_; go_big_quiet_on)
                    | (go_big_quiet_want; refine quiet_load_mid 49 (.tmp 47) rfl vb 0 rfl (kcs v.1) (.struct fk) R2.out HF.out.2 rfl HKV.out (by simp only [Act.put, List.setIfInBounds_toArray, List.set_cons_succ, List.set_cons_zero]; rfl) ?_; go_big_quiet_on)
                    | (go_big_quiet_want; refine quiet_eql_row 49 49 (.tmp 46) (.tmp 48) rfl (kcs y.1).toArray (kcs v.1).toArray rfl rfl eqg true QE.out (by simp only [Act.put, List.setIfInBounds_toArray, List.set_cons_succ, List.set_cons_zero]; rfl) ?_; go_big_quiet_on)
                    | go_big_quiet_step (fail))
                  refine wpQuiet_nil ?_
                  intro _ hw'
                  obtain ⟨⟨dq, osq⟩, hw''⟩ := hw'
                  subst hw''
                  have hbq : Below w2.heap.size w2 (grow (redrawn w2 dq) osq) := below_regrown w2 dq osq
                  have HO3 := Lib.hid (HO2.out.on hbq)
                  have HB3 := Lib.hid (HB2.out.trans (hbq.mono HB2.out.size))
                  have HV3 := Lib.hid (HVB.out.below hbq HVB.out.lt)
                  have g33 : (grow (redrawn w2 dq) osq).cell? ⟨gx, ox + u * 35 + 33, none⟩ = some (.int .i64 yo) := (hbq.cell (p := ⟨gx, ox + u * 35 + 33, none⟩) HGX.out).trans cy33
                  have g34 : (grow (redrawn w2 dq) osq).cell? ⟨gx, ox + u * 35 + 34, none⟩ = some (.int .i64 yl) := (hbq.cell (p := ⟨gx, ox + u * 35 + 34, none⟩) HGX.out).trans cy34
                  have HGX3 := Lib.hid (Nat.lt_of_lt_of_le HGX.out hbq.size)
                  clear d1 d2 d3 R1 R2 hbq HO2 HB2 HVB CLR cy33 cy34 cv33
                  generalize Go.Sort.grow (redrawn w2 dq) osq = w3 at *
                  have v34 : w3.cell? ⟨vb, 34, none⟩ = some (.int .i64 vl) := by rw [HV3.out.cell 34]; simpa [HVL.out] using rcs_34 HOKV.out
                  have w34 : IntKind.i64.wrap (vl + yl) = vl + yl := by rw [IntKind.wrap_i64]; omega
                  have hvf : w3.frozen? ⟨vb, 34, none⟩ = false := HV3.out.frozen 34
                  go_wp2_with fail
                  go_region
                  have hgv : gx < vb := HXV.out _ rfl
                  obtain ⟨w4, hw4⟩ : ∃ w4, w3.setCell ⟨vb, 34, none⟩ (.int .i64 (vl + yl)) = w4 := ⟨_, rfl⟩
                  rw [hw4]
                  have hg4 : w3.grownBy w4 (some vb) := hw4 ▸ grown_cell w3 vb 34 _
                  have hv4 : Blk w4 vb 51 ((rcs v).toArray.setIfInBounds 34 (.int .i64 (vl + yl))) := hw4 ▸ HV3.out.set_ 34 _
                  have hb4 : Below w.heap.size w w4 := HB3.out.grown hg4 HB3.out.size fun r hr => by injection hr with hr; rw [← hr]; exact HVW.out
                  have ho4 := HO3.out.grown hg4 fun r hr e => by
                    have e2 : some gx = some r := e
                    rw [← hr] at e2
                    injection e2 with e2
                    omega
                  have hs4 : w4.heap[gx]? = w3.heap[gx]? := hg4.block gx HGX3.out fun e => by injection e with e; omega
                  have hz4 : Below w4.heap.size w4 w4.drew := ⟨rfl, rfl, rfl, Nat.le_refl _, fun _ _ => rfl⟩
                  obtain ⟨w5, hw5⟩ : ∃ w5, w4.drew = w5 := ⟨_, rfl⟩
                  rw [hw5] at hz4 ⊢
                  have HO5 := Lib.hid (ho4.on hz4)
                  have HB5 := Lib.hid (hb4.trans (hz4.mono hb4.size))
                  have HV5 := Lib.hid (hv4.below hz4 hv4.lt)
                  have q33 : w5.cell? ⟨gx, ox + u * 35 + 33, none⟩ = some (.int .i64 yo) := by
                    rw [hz4.cell (p := ⟨gx, ox + u * 35 + 33, none⟩) (Nat.lt_of_lt_of_le HGX3.out hg4.size), ← g33]
                    unfold World.cell?
                    rw [hs4]
                  have f33 : w5.frozen? ⟨vb, 33, none⟩ = false := HV5.out.frozen 33
                  have c33 : w5.cell? ⟨vb, 33, none⟩ = some (.int .i64 vo) := by
                    rw [HV5.out.cell 33]
                    have := rcs_33 HOKV.out
                    rw [HVALS.out.2.2] at this
                    simpa using this
                  have HGX5 := Lib.hid (Nat.lt_of_lt_of_le HGX3.out (Nat.le_trans hg4.size hz4.size))
                  clear hw4 hg4 hv4 hb4 ho4 hs4 hz4 hw5 g33 g34 v34 hvf HV3 HO3 HB3
                  go_upto_region 15 with fail
                  obtain ⟨w6, hw6⟩ : ∃ w6, w5.setCell ⟨vb, 33, none⟩ (.int .i64 yo) = w6 := ⟨_, rfl⟩
                  rw [hw6]
                  have hg6 : w5.grownBy w6 (some vb) := hw6 ▸ grown_cell w5 vb 33 _
                  obtain ⟨Z, hZ⟩ : ∃ Z : RowT, (v.1, (yo, vl + yl)) = Z := ⟨_, rfl⟩
                  have hv6 : Blk w6 vb 51 (rcs Z).toArray := by
                    have h6 : Blk w6 vb 51 (((rcs v).toArray.setIfInBounds 34 (.int .i64 (vl + yl))).setIfInBounds 33 (.int .i64 yo)) := hw6 ▸ HV5.out.set_ 33 _
                    rw [rcs_put HOKV.out yo (vl + yl), hZ] at h6
                    exact h6
                  have hb6 : Below w.heap.size w w6 := HB5.out.grown hg6 HB5.out.size fun r hr => by injection hr with hr; rw [← hr]; exact HVW.out
                  have ho6 := HO5.out.grown hg6 fun r hr e => by
                    have e2 : some gx = some r := e
                    rw [← hr] at e2
                    injection e2 with e2
                    omega
                  have hcapx : u + 1 ≤ x ∧ x ≤ maxLen := by have := ho6.cap; rw [HN.out] at this; exact this
                  have ho7 := ho6.front (fun y hy => rcs_length (HOKS.out y hy)) u (by rw [HN.out]; omega) (by simp)
                  have HN7 := Lib.hid (show (S.take u).length = u by rw [List.length_take, HN.out]; omega)
                  rw [hZ] at HGL
                  have HOKZ := Lib.hid (show Z.Ok from HLN.out.ok (by omega) Z (by rw [HGL.out]; simp))
                  have HO6 := Lib.hid ho7
                  have HB6 := Lib.hid hb6
                  have HV6 := Lib.hid hv6
                  have HKSZ := Lib.hid (show (Try.prog.info? 51).map (·.size) = some (rcs Z).length by rw [rcs_length HOKZ.out]; exact ext_size)
                  have hux : u ≤ x := by omega
                  clear hw6 hg6 hv6 hb6 ho6 ho7 hcapx q33 f33 c33 HV5 HO5 HB5 hZ
                  go_upto_region 16 with fail
                  have HRV := Lib.hid (range_of_blk HV6.out)
                  have hbb : Below w.heap.size w (w6.alloc (.cells (rcs Z).toArray 51)) := HB6.out.alloc HB6.out.size _
                  have HBB := Lib.hid hbb
                  have HOA := Lib.hid (HO6.out.on ((Below.refl w6.heap.size w6).alloc (Nat.le_refl _) (.cells (rcs Z).toArray 51)))
                  have HR1 := Lib.hid (rds_one w6 Z 51 35 rcs)
                  clear hbb
                  go_wp2_with (first
                    | (refine wpList_load_mid rfl 51 (.tmp 6) rfl vb 0 rfl (rcs Z) (.struct fe) HRV.out HF.out.1 rfl HKSZ.out ?_)
                    | (refine wpList_buildOne extE rfl (.tmp 91) rfl HOKZ.out rfl ?_)
                    | (at_builtin; refine wpList_append_g extE rfl (.tmp 90) (.tmp 92) rfl w.heap.size (some ⟨gx, ox, none⟩) x u (S.take u) HN7.out rfl HOA.out _ (some ⟨w6.heap.size, 0, none⟩) 1 1 [Z] rfl rfl HR1.out (by intro y hy; rw [List.mem_singleton.1 hy]; exact HOKZ.out) ?_ ?_ ?_))
                  case _ => omega
                  case _ => exact HBB.out.size
                  intro A9 c9 w9 ho9 hg9
                  have HO9 := Lib.hid ho9
                  have HB9 := Lib.hid (show Below w.heap.size w w9 from HBB.out.grown hg9 HBB.out.size fun r hr => (HOA.out.lt (by rw [HN7.out]; exact hr)).1)
                  clear ho9 hg9 HRV HR1
                  rw [HGL.out] at HSN HLN
                  go_wp2_with fail
                  go_roundw
                  case rel => exact ⟨p + 1, u + 1, A9, c9, by omega, by go_num, rfl, by omega, Lib.hid (by rw [HSN.out, List.length_append, HN7.out]; rfl), Lib.hid (by rw [HSN.out]; exact HLN.out), Lib.hid (by rw [HSN.out]; exact HO9.out), HB9⟩
                  case measure => simp [intOf]; omega
                · have hof : ((yo + yl) == vo) = false := by simpa using hon
                  have HGL := Lib.hid (show glue S v = S ++ [v] by
                    rw [HGE.out, if_neg]
                    unfold goesOn
                    intro h
                    have := (of_decide_eq_true h).2
                    rw [HVALS.out.1, HVALS.out.2.1, HVALS.out.2.2] at this
                    exact hon this)
                  clear cy33 cy34 cv33
                  refine wp_region_quiet_below (by kernel_rfl) (by kernel_rfl) ?_
                  repeat (first
                    | (go_big_quiet_want; refine quiet_load_mid 49 (.tmp 45) rfl gx (ox + u * 35) rfl (kcs y.1) (.struct fk) R1.out HF.out.2 rfl HKY.out (by simp only [Act.put, List.setIfInBounds_toArray, List.set_cons_succ, List.set_cons_zero]; rfl) ?_; go_big_quiet_on)
                    | (go_big_quiet_want; refine quiet_load_mid 49 (.tmp 47) rfl vb 0 rfl (kcs v.1) (.struct fk) R2.out HF.out.2 rfl HKV.out (by simp only [Act.put, List.setIfInBounds_toArray, List.set_cons_succ, List.set_cons_zero]; rfl) ?_; go_big_quiet_on)
                    | (go_big_quiet_want; refine quiet_eql_row 49 49 (.tmp 46) (.tmp 48) rfl (kcs y.1).toArray (kcs v.1).toArray rfl rfl eqg true QE.out (by simp only [Act.put, List.setIfInBounds_toArray, List.set_cons_succ, List.set_cons_zero]; rfl) ?_; go_big_quiet_on)
                    | go_big_quiet_step (fail))
                  refine wpQuiet_nil ?_
                  intro _ hw'
                  obtain ⟨⟨dq, osq⟩, hw''⟩ := hw'
                  subst hw''
                  have hbq : Below w2.heap.size w2 (grow (redrawn w2 dq) osq) := below_regrown w2 dq osq
                  have HO3 := Lib.hid (HO2.out.on hbq)
                  have HB3 := Lib.hid (HB2.out.trans (hbq.mono HB2.out.size))
                  have HV3 := Lib.hid (HVB.out.below hbq HVB.out.lt)
                  clear d1 d2 d3 R1 R2 hbq HO2 HB2 HVB CLR
                  generalize Go.Sort.grow (redrawn w2 dq) osq = w3 at *
                  have HRV := Lib.hid (range_of_blk HV3.out)
                  have hbb : Below w.heap.size w (w3.alloc (.cells (rcs v).toArray 51)) := HB3.out.alloc HB3.out.size _
                  have HBB := Lib.hid hbb
                  have HOA := Lib.hid (HO3.out.on ((Below.refl w3.heap.size w3).alloc (Nat.le_refl _) (.cells (rcs v).toArray 51)))
                  have HR1 := Lib.hid (rds_one w3 v 51 35 rcs)
                  clear hbb
                  go_wp2_with (first
                    | (refine wpList_load_mid rfl 51 (.tmp 6) rfl vb 0 rfl (rcs v) (.struct fe) HRV.out HF.out.1 rfl HKS.out ?_)
                    | (refine wpList_buildOne extE rfl (.tmp 91) rfl HOKV.out rfl ?_)
                    | (at_builtin; refine wpList_append_g extE rfl (.tmp 90) (.tmp 92) rfl w.heap.size (some ⟨gx, ox, none⟩) x (u + 1) S HN.out rfl HOA.out _ (some ⟨w3.heap.size, 0, none⟩) 1 1 [v] rfl rfl HR1.out (by intro y hy; rw [List.mem_singleton.1 hy]; exact HOKV.out) ?_ ?_ ?_))
                  case _ => omega
                  case _ => exact HBB.out.size
                  intro A9 c9 w9 ho9 hg9
                  have HO9 := Lib.hid ho9
                  have HB9 := Lib.hid (show Below w.heap.size w w9 from HBB.out.grown hg9 HBB.out.size fun r hr => (HOA.out.lt (by rw [HN.out]; exact hr)).1)
                  clear ho9 hg9 HRV HR1
                  rw [HGL.out] at HSN HLN
                  go_wp2_with fail
                  go_roundw
                  case rel => exact ⟨p + 1, u + 1 + 1, A9, c9, by omega, by go_num, rfl, by omega, Lib.hid (by rw [HSN.out, List.length_append, HN.out]; rfl), Lib.hid (by rw [HSN.out]; exact HLN.out), Lib.hid (by rw [HSN.out]; exact HO9.out), HB9⟩
                  case measure => simp [intOf]; omega
          · obtain rfl : p = q := by omega
            have HE := Lib.hid (show accE ((L.take (j + 1)).map (·.2)) [] = accE La (l.take p) by
              rw [HTK.out, List.map_append, HLA.out, List.map_singleton, accE_next, List.take_of_length_le (by rw [HQL.out]; exact Nat.le_refl _)])
            have HRT2 := Lib.hid (show ∀ y ∈ L.take (j + 1), rightE y.2 = true from fun y hy => by
              rw [HTK.out] at hy
              rcases List.mem_append.1 hy with hy | hy
              · exact HRT.out y hy
              · rw [List.mem_singleton.1 hy]; exact HRR.out)
            go_wp2_with fail
            go_roundw
            case rel => exact ⟨j + 1, m, X, x, by omega, by go_num, rfl, by omega, Lib.hid (by rw [HE.out]; exact HN.out), Lib.hid (by rw [HE.out]; exact HLM.out.mono (by omega)), HRT2, Lib.hid (by rw [HE.out]; exact HO.out), HB⟩
            case measure => simp [intOf]; omega
    · obtain rfl : j = k := by omega
      have HE := Lib.hid (show L.take j = L from List.take_of_length_le (by rw [HPL.out]; exact Nat.le_refl _))
      obtain ⟨X, hX⟩ : ∃ X, accE ((L.take j).map (·.2)) [] = X := ⟨_, rfl⟩
      rw [hX] at HN HLM HO
      have HX := Lib.hid (show accE (L.map (·.2)) [] = X by rw [← hX, HE.out])
      have HOK := Lib.hid (HLM.out.ok (by omega))
      have HRX := Lib.hid (show RdRw wr wr.heap.size Y X from ⟨HO.out.rd extE HOK.out, HOK.out⟩)
      have KR := Lib.hid (rexright_any Y X n z HN.out wr HRX.out)
      have HRI := Lib.hid (show ∀ l ∈ L.map (·.2), rightE l = true from fun l hl => by
        obtain ⟨x, hx, rfl⟩ := List.mem_map.1 hl
        exact HRT.out x (by rw [HE.out]; exact hx))
      obtain ⟨R, hR⟩ : ∃ R, rightE X = R := ⟨_, rfl⟩
      rw [hR] at KR
      have HRR := Lib.hid hR
      clear hX hR
      go_wp2_with fail
      refine KR.out.mono ?_
      rintro e w1 ⟨rfl, hb⟩
      have HB1 := Lib.hid (HB.out.trans (hb.mono HB.out.size))
      have HO1 := Lib.hid (HO.out.on hb)
      clear hb KR
      cases R with
      | false =>
        go_wp2_with fail
        go_ret
        exact MadeE.nil (join_no (.inr (by rw [HX.out]; exact HRR.out))) HB1.out
      | true =>
        go_wp2_with fail
        go_ret
        have e : joinE (L.map (·.2)) = X := by rw [join_yes HRI.out (by rw [HX.out]; exact HRR.out), HX.out]
        rw [e]
        exact ⟨Y, z, by rw [HN.out]; rfl, HO1.out, HOK.out, HB1.out⟩
end Go.Proofs.Ytgemjipbifgbgaa
/- Slices of the call's own: their blocks, told apart by kind. For every stage. No statement of the seat is proved here. -/
namespace Go.Proofs.Ytgemjipbifgbgaa
open Go.RowKit
set_option linter.unusedVariables false
set_option linter.unusedSimpArgs false
section
variable {α : Type} {w w' : World} {e : TypeId} {sz : Nat} {g : α → List Value} {B c n : Nat} {A : Option Addr} {l : List α}
theorem own_adr (k : Nat) (h : (Value.slice A n c).ownBlock = some k) : ∃ ad, A = some ad ∧ ad.block = k := by
  rcases A with _ | ad
  · simp [Value.ownBlock] at h
  · exact ⟨ad, rfl, by simpa [Value.ownBlock] using h⟩
theorem OwnG.same (h : OwnG e sz g w B A c l) (hk : ∀ ad, A = some ad → w'.heap[ad.block]? = w.heap[ad.block]?) : OwnG e sz g w' B A c l := ownsRow_same h fun k hv _ => by
  obtain ⟨ad, e1, e2⟩ := own_adr k hv
  rw [← e2]
  exact hk ad e1
/-- A block of the slice's own is of its elements' type. -/
theorem OwnG.kind (h : OwnG e sz g w B A c l) {k : Nat} (hk : (Value.slice A l.length c).ownBlock = some k) : ∃ cur, Blk w k e cur := by
  obtain ⟨_, cur, hb, _⟩ := row_blk h k hk
  exact ⟨cur, hb⟩
theorem OwnG.apart {β : Type} {e2 : TypeId} {sz2 : Nat} {g2 : β → List Value} {B2 c2 : Nat} {A2 : Option Addr} {l2 : List β} (h : OwnG e sz g w B A c l) (h2 : OwnG e2 sz2 g2 w B2 A2 c2 l2) (hne : e ≠ e2) {k : Nat} (hk : (Value.slice A l.length c).ownBlock = some k) : (Value.slice A2 l2.length c2).ownBlock ≠ some k := fun hk2 => by
  obtain ⟨_, b1⟩ := h.kind hk
  obtain ⟨_, b2⟩ := h2.kind hk2
  exact blk_other b1 b2 hne rfl
end
end Go.Proofs.Ytgemjipbifgbgaa
