/- The landed package extent: Slice. No statement of the seat is proved here. -/
import Derived.Test.YtgemjipbifgbgaaZXAJ
import Derived.Test.YtgemjipbifgbgaaZXAG
import Derived.Test.YtgemjipbifgbgaaZXAF
import Derived.Test.YtgemjipbifgbgaaExRefS
import Derived.Test.YtgemjipbifgbgaaZXAA
namespace Go.Proofs.Ytgemjipbifgbgaa
open Go.RowKit Go.Maps Go.Sort
set_option linter.unusedVariables false
set_option linter.unusedSimpArgs false
set_option maxRecDepth 100000

theorem part_rel {lo hi S F B : Int} {x : RowT} (hF : (if lo - S < 0 then 0 else lo - S) = F) (hB : (if x.2.2 < hi - S then x.2.2 else hi - S) = B) : partE lo hi S x = if F < B then [(x.1, (x.2.1 + F, B - F))] else [] := by
  have h1 : F = max lo S - S := by rw [← hF]; split <;> omega
  have h2 : B = min hi (S + x.2.2) - S := by rw [← hB]; split <;> omega
  unfold partE
  by_cases h : F < B
  · rw [if_pos h, if_pos (by omega), h1, h2]
    simp only [List.cons.injEq, and_true]
    refine Prod.ext rfl (Prod.ext rfl ?_)
    show min hi (S + x.2.2) - max lo S = min hi (S + x.2.2) - S - (max lo S - S)
    omega
  · rw [if_neg h, if_neg (by omega)]
set_option maxHeartbeats 8000000 in
theorem xslice_any (A : Option Addr) (ls : List RowT) (k c : Nat) (hl : ls.length = k) (hc : k ≤ 20000) (off n : Int) (ho : In64 off) (hn : In64 n) (w : World) (hr : RdRw w w.heap.size A ls) :
    Calls Try.prog 20 #[.slice A k c, .int .i64 off, .int .i64 n] w fun e w' => MadeE w (sliceE ls off n) e w' := by
  have KT := Lib.hid (xtotal_any A ls k c hl w hr)
  have HR := Lib.hid (show ∀ W, Below w.heap.size w W → RdRw W w.heap.size A ls from fun W hb => hr.below hb)
  have HPL := Lib.hid hl
  have HNONE := Lib.hid (slice_none (l := ls) (off := off) (n := n))
  have HFROM := Lib.hid (fun (h : rightE ls = true) lo hi => slice_from (l := ls) h (off := off) (n := n) (lo := lo) (hi := hi))
  have HOKS := Lib.hid (slice_ok hr.each (off := off) (n := n))
  obtain ⟨o1, o2⟩ := ho
  obtain ⟨n1, n2⟩ := hn
  obtain ⟨fe, hfe⟩ := ext_desc
  have HF := Lib.hid hfe
  obtain ⟨iz, hiz, hzz, _⟩ := zero_parts info_extZ
  have HZ := Lib.hid (And.intro hiz hzz)
  clear hfe hiz hzz
  obtain ⟨fk, hfk⟩ := key_desc
  have HFK := Lib.hid hfk
  obtain ⟨L, hL⟩ : ∃ L, sliceE ls off n = L := ⟨_, rfl⟩
  rw [hL] at HNONE HFROM HOKS
  rw [hL]
  have HLL := Lib.hid hL
  obtain ⟨T, hTT⟩ : ∃ T, totalE ls = T := ⟨_, rfl⟩
  rw [hTT] at KT
  have hT0 : 0 ≤ T ∧ T ≤ 67108864 ∧ (0 < T → rightE ls = true) := by
    rw [← hTT]
    unfold totalE
    split
    · rename_i h
      exact ⟨(right_sum h).1, (right_sum h).2, fun _ => h⟩
    · exact ⟨Int.le_refl _, by omega, fun h => absurd h (by omega)⟩
  have ht1 := hT0.1
  have ht2 := hT0.2.1
  have HTR := Lib.hid hT0.2.2
  have HTT := Lib.hid hTT
  clear hr hl hL hfk hT0 hTT
  by_cases d0 : off < 0
  · have e0 : decide (off < 0) = true := decide_eq_true d0
    by_cases d1 : n > 0
    · have e1 : decide (n > 0) = true := decide_eq_true d1
      by_cases d2 : off + n ≤ 0
      · have e2 : decide (off + n ≤ 0) = true := decide_eq_true d2
        go_enter Try.func20, Try.ntmps20
        go_wp2_with (go_at_call 14; refine KT.out.mono ?_; rintro e w1 ⟨rfl, hb1⟩; have HB1 := Lib.hid hb1; clear hb1)
        go_ret
        exact MadeE.nil (HNONE.out (.inr (.inr (.inl (by omega))))) HB1.out
      have e2 : decide (off + n ≤ 0) = false := decide_eq_false d2
      by_cases d3 : (0 : Int) ≥ T
      · have e3 : decide ((0 : Int) ≥ T) = true := decide_eq_true d3
        go_enter Try.func20, Try.ntmps20
        go_wp2_with (go_at_call 14; refine KT.out.mono ?_; rintro e w1 ⟨rfl, hb1⟩; have HB1 := Lib.hid hb1; clear hb1)
        go_ret
        exact MadeE.nil (HNONE.out (.inr (.inr (.inr (by rw [HTT.out]; omega))))) HB1.out
      have e3 : decide ((0 : Int) ≥ T) = false := decide_eq_false d3
      obtain ⟨hh, hhe⟩ : ∃ hh, (if T < off + n then T else off + n) = hh := ⟨_, rfl⟩
      have hh1 : hh = min (off + n) (T - (0 : Int)) := by rw [← hhe]; split <;> omega
      have HQ := Lib.hid (HTR.out (by omega))
      have HCUT := Lib.hid (show L = cutE (0 : Int) hh 0 ls from HFROM.out HQ.out (0 : Int) hh (by omega) (by rw [HTT.out]; omega))
      have l1 : 0 ≤ (0 : Int) := by omega
      have l2 : (0 : Int) ≤ 67108864 := by omega
      have l3 : 0 ≤ hh := by omega
      have l4 : hh ≤ 67108864 := by omega
      clear hh1
      go_enter Try.func20, Try.ntmps20
      go_upto_region 7 with (go_at_call 14; refine KT.out.mono ?_; rintro e w1 ⟨rfl, hb1⟩; have HB1 := Lib.hid hb1; clear hb1)
      go_wp2_with fail
      go_loopw [1, 8, 9, 41] (fun a b v i wr => ∃ (j m : Nat) (Y : Option Addr) (z : Nat), j ≤ k ∧ i = .int .i64 j ∧ a = .int .i64 ((0 : Int) - sumE (ls.take j)) ∧ b = .int .i64 (hh - sumE (ls.take j)) ∧ v = .slice Y m z ∧ m ≤ j ∧ Hid ((cutE (0 : Int) hh 0 (ls.take j)).length = m) ∧ Hid (OwnG 51 35 rcs wr w.heap.size Y z (cutE (0 : Int) hh 0 (ls.take j))) ∧ Hid (Below w.heap.size w wr)) (fun _ _ _ i _ => k - (intOf i).toNat)
      case atStart => exact ⟨0, 0, none, 0, Nat.zero_le _, rfl, by simp [sumE], by simp [sumE], rfl, Nat.le_refl _, Lib.hid rfl, Lib.hid (OwnG.nil _ _), HB1⟩
      case round =>
        obtain ⟨j, m, Y, z, hj, rfl, rfl, rfl, rfl, hm, HM, HO, HB⟩ := hrel
        by_cases hlt : j < k
        · have hjp : j < ls.length := by rw [HPL.out]; exact hlt
          obtain ⟨g, of, rfl, hg, hra, hokx⟩ := (HR.out _ HB.out).at_ hjp
          have HSN := Lib.hid (cut_snoc (lo := (0 : Int)) (hi := hh) hjp)
          have HSS := Lib.hid (sum_snoc hjp)
          have hs1 := (right_sum (right_take HQ.out j)).1
          have hs2 := (right_sum (right_take HQ.out j)).2
          have hok := (rightE_iff.1 HQ.out).2 _ (List.getElem_mem hjp)
          obtain ⟨x, hx⟩ : ∃ x, ls[j] = x := ⟨_, rfl⟩
          rw [hx] at hra hokx HSN hok HSS
          have HRA := Lib.hid hra
          have HOK := Lib.hid hokx
          have HOKE := Lib.hid hok
          obtain ⟨S, hS⟩ : ∃ S, sumE (ls.take j) = S := ⟨_, rfl⟩
          rw [hS] at HSN HSS hs1 hs2 ⊢
          have hi1 : (0 : Int) ≤ (j : Int) := by omega
          have hi2 : (j : Int) < (k : Int) := by omega
          have HPR := Lib.hid (fun F B => part_rel (lo := (0 : Int)) (hi := hh) (S := S) (F := F) (B := B) (x := x))
          obtain ⟨u, hu⟩ : ∃ u, (0 : Int) - S = u := ⟨_, rfl⟩
          obtain ⟨v, hv⟩ : ∃ v, hh - S = v := ⟨_, rfl⟩
          rw [hu, hv] at HPR ⊢
          have hu1 : -67108864 ≤ u := by omega
          have hu2 : u ≤ 67108864 := by omega
          have hv1 : -67108864 ≤ v := by omega
          have hv2 : v ≤ 67108864 := by omega
          have HUV := Lib.hid (And.intro hu hv)
          clear hra hokx hx hjp hg hok hS hu hv hs1 hs2
          have HKS := Lib.hid (show (Try.prog.info? 51).map (·.size) = some (rcs x).length by rw [rcs_length HOK.out]; exact ext_size)
          have HKS2 := Lib.hid (show (Try.prog.info? 51).map (·.size) = some (rcs x).toArray.size by rw [List.size_toArray]; exact HKS.out)
          have HOLD := Lib.hid (show (rz).size = (rcs x).toArray.size from rz_size.trans (by rw [List.size_toArray, rcs_length HOK.out]))
          have HONE := Lib.hid (rcs_one (r := x))
          have HBZ := Lib.hid (Blk.new wr 51 rz)
          obtain ⟨w2, hw2⟩ : ∃ W, wr.alloc (.cells (rcs x).toArray 51) = W := ⟨_, rfl⟩
          have hba : Below wr.heap.size wr w2 := hw2 ▸ (Below.refl wr.heap.size wr).alloc (Nat.le_refl _) _
          have HVB := Lib.hid (show Blk w2 wr.heap.size 51 (rcs x).toArray from hw2 ▸ Blk.new wr 51 (rcs x).toArray)
          have HBA := Lib.hid hba
          have HB2 := Lib.hid (HB.out.trans (hba.mono HB.out.size))
          have HW2 := Lib.hid hw2
          clear hw2 hba
          go_upto_region 11 with (first
            | ((with_reducible refine at_load ?_); refine wpList_load_mid rfl 51 (.tmp 43) rfl g (of + j * 35) rfl (rcs x) (.struct fe) HRA.out HF.out rfl HKS.out ?_)
            | ((with_reducible refine at_alloc ?_); refine wpList_alloc_z rfl 51 rfl iz _ HZ.out.1 HZ.out.2 ?_)
            | ((with_reducible refine at_store ?_); refine wpList_store_row rfl 51 (.tmp 11) (.tmp 44) rfl wr.heap.size (rcs x).toArray rfl rfl 51 rz HBZ.out HKS2.out HOLD.out HONE.out ?_; rw [setRow_alloc, HW2.out]))
          obtain ⟨vb, hvb⟩ : ∃ V, wr.heap.size = V := ⟨_, rfl⟩
          rw [hvb]
          rw [hvb] at HVB
          have HVW := Lib.hid hvb
          clear hvb HBZ HOLD HKS2 HW2
          have c33 := blk_33 HVB.out HOK.out
          have c34 := blk_34 HVB.out HOK.out
          have hok2 := okE_iff.1 HOKE.out
          obtain ⟨o, ho⟩ : ∃ o, x.2.1 = o := ⟨_, rfl⟩
          obtain ⟨q, hq⟩ : ∃ q, x.2.2 = q := ⟨_, rfl⟩
          rw [ho] at c33 hok2 HPR
          rw [hq] at c34 hok2 HSS HPR
          have q0 := hok2.1
          have q1 := hok2.2.1
          have q2 : q ≤ 4096 := by omega
          have q3 : o ≤ 4096 := by omega
          have q4 : o + q ≤ 4096 := by omega
          clear hok2
          obtain ⟨F, hF⟩ : ∃ F, (if u < 0 then 0 else u) = F := ⟨_, rfl⟩
          obtain ⟨B, hB⟩ : ∃ B, (if q < v then q else v) = B := ⟨_, rfl⟩
          have HPT := Lib.hid (HPR.out F B hF hB)
          have hF1 : 0 ≤ F := by rw [← hF]; split <;> omega
          have hF2 : F ≤ 67108864 := by rw [← hF]; split <;> omega
          have hB1 : B ≤ q := by rw [← hB]; split <;> omega
          have hB2 : -67108864 ≤ B := by rw [← hB]; split <;> omega
          have HFB := Lib.hid (And.intro hF hB)
          clear hF hB HPR
          refine wp_region_held_drew (S := fun W => Below w2.heap.size w2 W) (by kernel_rfl) ⟨rfl, rfl, rfl, Nat.le_refl _, fun _ _ => rfl⟩ (fun hHeld => ?_)
          clear hHeld
          have HV := Lib.hid (show Below w2.heap.size w2 w2.drew from ⟨rfl, rfl, rfl, Nat.le_refl _, fun _ _ => rfl⟩)
          have hg34 : ∀ W, Below w2.heap.size w2 W → W.cell? ⟨vb, 34, none⟩ = some (.int .i64 q) := fun W hW => by rw [hW.cell (p := ⟨vb, 34, none⟩) HVB.out.lt]; exact c34
          have HO2 := Lib.hid (HO.out.on HBA.out)
          have HO3 := Lib.hid (HO2.out.on HV.out)
          have HB3 := Lib.hid (HB2.out.trans (HV.out.mono HB2.out.size))
          have HV3 := Lib.hid (HVB.out.below HV.out HVB.out.lt)
          generalize w2.drew = w3 at *
          refine wpAnyH_take (i := 0) (oi := _) (v := .int .i64 u) rfl (by kernel_rfl) (by kernel_rfl) (by kernel_rfl) (fun _ _ _ h => h) (Or.inl ⟨by rfl, by intro w hSw; go_simp⟩) HV.out ?_
          simp only [List.getElem_toArray, List.getElem_cons_zero, List.getElem_cons_succ, Act.put, List.setIfInBounds_toArray, List.set_cons_zero, List.set_cons_succ]
          refine wpAnyH_take (i := 1) (oi := _) (v := .int .i64 F) rfl (by kernel_rfl) (by kernel_rfl) (by kernel_rfl) (fun _ _ _ h => h) (Or.inl ⟨by rfl, by intro w hSw; go_simp; rw [HFB.out.1]⟩) HV.out ?_
          simp only [List.getElem_toArray, List.getElem_cons_zero, List.getElem_cons_succ, Act.put, List.setIfInBounds_toArray, List.set_cons_zero, List.set_cons_succ]
          refine wpAnyH_take (i := 2) (oi := _) (v := .int .i64 v) rfl (by kernel_rfl) (by kernel_rfl) (by kernel_rfl) (fun _ _ _ h => h) (Or.inl ⟨by rfl, by intro w hSw; go_simp⟩) HV.out ?_
          simp only [List.getElem_toArray, List.getElem_cons_zero, List.getElem_cons_succ, Act.put, List.setIfInBounds_toArray, List.set_cons_zero, List.set_cons_succ]
          refine wpAnyH_take (i := 3) (oi := _) (v := .pointer (some ⟨vb, 34, none⟩)) rfl (by kernel_rfl) (by kernel_rfl) (by kernel_rfl) (fun _ _ _ h => h) (Or.inl ⟨by rfl, by intro w hSw; go_simp⟩) HV.out ?_
          simp only [List.getElem_toArray, List.getElem_cons_zero, List.getElem_cons_succ, Act.put, List.setIfInBounds_toArray, List.set_cons_zero, List.set_cons_succ]
          refine wpAnyH_take (i := 4) (oi := _) (v := .int .i64 q) rfl (by kernel_rfl) (by kernel_rfl) (by kernel_rfl) (fun _ _ _ h => h) (Or.inl ⟨by rfl, by intro w hSw; have := hg34 w hSw; go_simp⟩) HV.out ?_
          simp only [List.getElem_toArray, List.getElem_cons_zero, List.getElem_cons_succ, Act.put, List.setIfInBounds_toArray, List.set_cons_zero, List.set_cons_succ]
          refine wpAnyH_take (i := 5) (oi := _) (v := .int .i64 B) rfl (by kernel_rfl) (by kernel_rfl) (by kernel_rfl) (fun _ _ _ h => h) (Or.inl ⟨by rfl, by intro w hSw; go_simp; rw [HFB.out.2]⟩) HV.out ?_
          simp only [List.getElem_toArray, List.getElem_cons_zero, List.getElem_cons_succ, Act.put, List.setIfInBounds_toArray, List.set_cons_zero, List.set_cons_succ]
          refine wpAnyH_take (i := 6) (oi := _) (v := .int .i64 F) rfl (by kernel_rfl) (by kernel_rfl) (by kernel_rfl) (fun _ _ _ h => h) (Or.inl ⟨by rfl, by intro w hSw; go_simp⟩) HV.out ?_
          simp only [List.getElem_toArray, List.getElem_cons_zero, List.getElem_cons_succ, Act.put, List.setIfInBounds_toArray, List.set_cons_zero, List.set_cons_succ]
          refine wpAnyH_take (i := 7) (oi := _) (v := .int .i64 B) rfl (by kernel_rfl) (by kernel_rfl) (by kernel_rfl) (fun _ _ _ h => h) (Or.inl ⟨by rfl, by intro w hSw; go_simp⟩) HV.out ?_
          simp only [List.getElem_toArray, List.getElem_cons_zero, List.getElem_cons_succ, Act.put, List.setIfInBounds_toArray, List.set_cons_zero, List.set_cons_succ]
          refine wpAnyH_done (by kernel_rfl) ?_ _
          have HLT := Lib.hid (show ∀ r, (Value.slice Y m z).ownBlock = some r → r < vb from fun r hr => by
            have := (HO.out.lt (by rw [HM.out]; exact hr)).2
            rwa [HVW.out] at this)
          clear hg34 HV HO2 HO HVB HB HB2 HBA HFB
          have HSQ := Lib.hid (show (0 : Int) - sumE (ls.take (j + 1)) = u - q ∧ hh - sumE (ls.take (j + 1)) = v - q from by
            have h1 := HUV.out
            have h2 := HSS.out
            constructor <;> omega)
          by_cases hab : F < B
          · have hae : decide (F < B) = true := decide_eq_true hab
            obtain ⟨X, hX⟩ : ∃ X : RowT, (x.1, (o + F, B - F)) = X := ⟨_, rfl⟩
            have HSN2 := Lib.hid (show cutE (0 : Int) hh 0 (ls.take (j + 1)) = cutE (0 : Int) hh 0 (ls.take j) ++ [X] from by rw [HSN.out, HPT.out, if_pos hab, hX])
            have HX := Lib.hid (hX ▸ ok_part HOK.out (o := o + F) (n := B - F) (by
              refine okE_iff.2 ⟨?_, ?_, ?_⟩ <;> simp only <;> omega))
            have HBE := Lib.hid (hX ▸ built_ext HOK.out.key (o + F) (B - F))
            have HRK := Lib.hid (range_key (r := x) (range_of_blk HV3.out))
            have HKK := Lib.hid (show (Try.prog.info? 49).map (·.size) = some (kcs x.1).length by rw [kcs_length HOK.out.key]; exact key_size)
            have c33 := blk_33 HV3.out HOK.out
            rw [ho] at c33
            have hba : Below w3.heap.size w3 (w3.alloc (.cells (rcs X).toArray 51)) := (Below.refl _ _).alloc (Nat.le_refl _) _
            have HBA := Lib.hid (HB3.out.trans (hba.mono HB3.out.size))
            have HOA := Lib.hid (HO3.out.on hba)
            have HVA := Lib.hid (HV3.out.below hba HV3.out.lt)
            have HR1 := Lib.hid (rds_one w3 X 51 35 rcs)
            clear hba hX HO3 HB3 c34 HPT HSN
            go_wp2_with (first
              | ((with_reducible refine at_load ?_); refine wpList_load_mid rfl 49 (.tmp 55) rfl vb 0 rfl (kcs x.1) (.struct fk) HRK.out HFK.out rfl HKK.out ?_; simp only [Act.put, List.setIfInBounds_toArray, List.set_cons_zero, List.set_cons_succ])
              | ((with_reducible refine at_build ?_); refine wpList_built3 rfl 51 (.tmp 56) (.tmp 60) (.tmp 63) rfl _ _ _ rfl rfl rfl _ HBE.out ?_; simp only [Act.put, List.setIfInBounds_toArray, List.set_cons_zero, List.set_cons_succ])
              | ((with_reducible refine at_buildSlice ?_); refine wpList_buildOne extE rfl (.tmp 64) rfl HX.out rfl ?_; simp only [Act.put, List.setIfInBounds_toArray, List.set_cons_zero, List.set_cons_succ])
              | (at_builtin; refine wpList_append_g extE rfl (.tmp 54) (.tmp 65) rfl w.heap.size Y z m (cutE (0 : Int) hh 0 (ls.take j)) HM.out rfl HOA.out _ (some ⟨w3.heap.size, 0, none⟩) 1 1 [X] rfl rfl HR1.out (by intro y hy; rw [List.mem_singleton.1 hy]; exact HX.out) ?_ ?_ ?_))
            case _ => omega
            case _ => exact HBA.out.size
            intro A9 c9 w9 ho9 hg9
            have HO9 := Lib.hid ho9
            have HB9 := Lib.hid (show Below w.heap.size w w9 from HBA.out.grown hg9 HBA.out.size fun r hr => (HOA.out.lt (by rw [HM.out]; exact hr)).1)
            have HV9 := Lib.hid (show Blk w9 vb 51 (rcs x).toArray from HVA.out.same (hg9.block vb HVA.out.lt fun e => Nat.lt_irrefl _ (HLT.out vb e.symm)))
            have c34 := blk_34 HV9.out HOK.out
            rw [hq] at c34
            clear ho9 hg9 HR1 HRK HBA HOA HVA c33
            go_wp2_with fail
            go_quiet (fail)
            have hbq : Below w9.heap.size w9 (w9.drewN nq) := below_drewN (Below.refl w9.heap.size w9) nq
            have HOQ := Lib.hid (HO9.out.on hbq)
            have HBQ := Lib.hid (HB9.out.trans (hbq.mono HB9.out.size))
            clear hbq
            go_wp2_with fail
            go_roundw
            case rel => exact ⟨j + 1, m + 1, A9, c9, by omega, by go_num, congrArg (Value.int .i64) HSQ.out.1.symm, congrArg (Value.int .i64) HSQ.out.2.symm, rfl, by omega, Lib.hid (by rw [HSN2.out, List.length_append, HM.out]; rfl), Lib.hid (by rw [HSN2.out]; exact HOQ.out), HBQ⟩
            case measure => simp [intOf]; omega
          · have hae : decide (F < B) = false := decide_eq_false hab
            have HSN2 := Lib.hid (show cutE (0 : Int) hh 0 (ls.take (j + 1)) = cutE (0 : Int) hh 0 (ls.take j) from by rw [HSN.out, HPT.out, if_neg hab, List.append_nil])
            have c34 := blk_34 HV3.out HOK.out
            rw [hq] at c34
            clear HPT HSN
            go_wp2_with fail
            go_quiet (fail)
            have hbq : Below w3.heap.size w3 (w3.drewN nq) := below_drewN (Below.refl w3.heap.size w3) nq
            have HOQ := Lib.hid (HO3.out.on hbq)
            have HBQ := Lib.hid (HB3.out.trans (hbq.mono HB3.out.size))
            clear hbq
            go_wp2_with fail
            go_roundw
            case rel => exact ⟨j + 1, m, Y, z, by omega, by go_num, congrArg (Value.int .i64) HSQ.out.1.symm, congrArg (Value.int .i64) HSQ.out.2.symm, rfl, by omega, Lib.hid (by rw [HSN2.out]; exact HM.out), Lib.hid (by rw [HSN2.out]; exact HOQ.out), HBQ⟩
            case measure => simp [intOf]; omega
        · obtain rfl : j = k := by omega
          have HE := Lib.hid (show ls.take j = ls from List.take_of_length_le (by rw [HPL.out]; exact Nat.le_refl _))
          go_wp2_with fail
          go_ret
          have hm := HM.out
          have ho := HO.out
          rw [HE.out, ← HCUT.out] at hm ho
          exact ⟨Y, z, by rw [hm]; rfl, ho, HOKS.out, HB.out⟩
    · have e1 : decide (n > 0) = false := decide_eq_false d1
      have e2 : decide (n ≤ 0) = true := decide_eq_true (by omega)
      go_enter Try.func20, Try.ntmps20
      go_wp2_with (go_at_call 14; refine KT.out.mono ?_; rintro e w1 ⟨rfl, hb1⟩; have HB1 := Lib.hid hb1; clear hb1)
      go_ret
      exact MadeE.nil (HNONE.out (.inl (by omega))) HB1.out
  · have e0 : decide (off < 0) = false := decide_eq_false d0
    by_cases d2 : n ≤ 0
    · have e2 : decide (n ≤ 0) = true := decide_eq_true d2
      go_enter Try.func20, Try.ntmps20
      go_wp2_with (go_at_call 14; refine KT.out.mono ?_; rintro e w1 ⟨rfl, hb1⟩; have HB1 := Lib.hid hb1; clear hb1)
      go_ret
      exact MadeE.nil (HNONE.out (.inl d2)) HB1.out
    have e2 : decide (n ≤ 0) = false := decide_eq_false d2
    by_cases d3 : off ≥ T
    · have e3 : decide (off ≥ T) = true := decide_eq_true d3
      go_enter Try.func20, Try.ntmps20
      go_wp2_with (go_at_call 14; refine KT.out.mono ?_; rintro e w1 ⟨rfl, hb1⟩; have HB1 := Lib.hid hb1; clear hb1)
      go_ret
      exact MadeE.nil (HNONE.out (.inr (.inr (.inr (by rw [HTT.out]; omega))))) HB1.out
    have e3 : decide (off ≥ T) = false := decide_eq_false d3
    obtain ⟨hh, hhe⟩ : ∃ hh, (if T - off < n then T - off else n) = hh := ⟨_, rfl⟩
    have hh1 : hh = min (n) (T - off) := by rw [← hhe]; split <;> omega
    have HQ := Lib.hid (HTR.out (by omega))
    have HCUT := Lib.hid (show L = cutE off (off + hh) 0 ls from HFROM.out HQ.out off (off + hh) (by omega) (by rw [HTT.out]; omega))
    have l1 : 0 ≤ off := by omega
    have l2 : off ≤ 67108864 := by omega
    have l3 : 0 ≤ (off + hh) := by omega
    have l4 : (off + hh) ≤ 67108864 := by omega
    clear hh1
    go_enter Try.func20, Try.ntmps20
    go_upto_region 7 with (go_at_call 14; refine KT.out.mono ?_; rintro e w1 ⟨rfl, hb1⟩; have HB1 := Lib.hid hb1; clear hb1)
    go_wp2_with fail
    go_loopw [1, 8, 9, 41] (fun a b v i wr => ∃ (j m : Nat) (Y : Option Addr) (z : Nat), j ≤ k ∧ i = .int .i64 j ∧ a = .int .i64 (off - sumE (ls.take j)) ∧ b = .int .i64 ((off + hh) - sumE (ls.take j)) ∧ v = .slice Y m z ∧ m ≤ j ∧ Hid ((cutE off (off + hh) 0 (ls.take j)).length = m) ∧ Hid (OwnG 51 35 rcs wr w.heap.size Y z (cutE off (off + hh) 0 (ls.take j))) ∧ Hid (Below w.heap.size w wr)) (fun _ _ _ i _ => k - (intOf i).toNat)
    case atStart => exact ⟨0, 0, none, 0, Nat.zero_le _, rfl, by simp [sumE], by simp [sumE], rfl, Nat.le_refl _, Lib.hid rfl, Lib.hid (OwnG.nil _ _), HB1⟩
    case round =>
      obtain ⟨j, m, Y, z, hj, rfl, rfl, rfl, rfl, hm, HM, HO, HB⟩ := hrel
      by_cases hlt : j < k
      · have hjp : j < ls.length := by rw [HPL.out]; exact hlt
        obtain ⟨g, of, rfl, hg, hra, hokx⟩ := (HR.out _ HB.out).at_ hjp
        have HSN := Lib.hid (cut_snoc (lo := off) (hi := (off + hh)) hjp)
        have HSS := Lib.hid (sum_snoc hjp)
        have hs1 := (right_sum (right_take HQ.out j)).1
        have hs2 := (right_sum (right_take HQ.out j)).2
        have hok := (rightE_iff.1 HQ.out).2 _ (List.getElem_mem hjp)
        obtain ⟨x, hx⟩ : ∃ x, ls[j] = x := ⟨_, rfl⟩
        rw [hx] at hra hokx HSN hok HSS
        have HRA := Lib.hid hra
        have HOK := Lib.hid hokx
        have HOKE := Lib.hid hok
        obtain ⟨S, hS⟩ : ∃ S, sumE (ls.take j) = S := ⟨_, rfl⟩
        rw [hS] at HSN HSS hs1 hs2 ⊢
        have hi1 : (0 : Int) ≤ (j : Int) := by omega
        have hi2 : (j : Int) < (k : Int) := by omega
        have HPR := Lib.hid (fun F B => part_rel (lo := off) (hi := (off + hh)) (S := S) (F := F) (B := B) (x := x))
        obtain ⟨u, hu⟩ : ∃ u, off - S = u := ⟨_, rfl⟩
        obtain ⟨v, hv⟩ : ∃ v, (off + hh) - S = v := ⟨_, rfl⟩
        rw [hu, hv] at HPR ⊢
        have hu1 : -67108864 ≤ u := by omega
        have hu2 : u ≤ 67108864 := by omega
        have hv1 : -67108864 ≤ v := by omega
        have hv2 : v ≤ 67108864 := by omega
        have HUV := Lib.hid (And.intro hu hv)
        clear hra hokx hx hjp hg hok hS hu hv hs1 hs2
        have HKS := Lib.hid (show (Try.prog.info? 51).map (·.size) = some (rcs x).length by rw [rcs_length HOK.out]; exact ext_size)
        have HKS2 := Lib.hid (show (Try.prog.info? 51).map (·.size) = some (rcs x).toArray.size by rw [List.size_toArray]; exact HKS.out)
        have HOLD := Lib.hid (show (rz).size = (rcs x).toArray.size from rz_size.trans (by rw [List.size_toArray, rcs_length HOK.out]))
        have HONE := Lib.hid (rcs_one (r := x))
        have HBZ := Lib.hid (Blk.new wr 51 rz)
        obtain ⟨w2, hw2⟩ : ∃ W, wr.alloc (.cells (rcs x).toArray 51) = W := ⟨_, rfl⟩
        have hba : Below wr.heap.size wr w2 := hw2 ▸ (Below.refl wr.heap.size wr).alloc (Nat.le_refl _) _
        have HVB := Lib.hid (show Blk w2 wr.heap.size 51 (rcs x).toArray from hw2 ▸ Blk.new wr 51 (rcs x).toArray)
        have HBA := Lib.hid hba
        have HB2 := Lib.hid (HB.out.trans (hba.mono HB.out.size))
        have HW2 := Lib.hid hw2
        clear hw2 hba
        go_upto_region 11 with (first
          | ((with_reducible refine at_load ?_); refine wpList_load_mid rfl 51 (.tmp 43) rfl g (of + j * 35) rfl (rcs x) (.struct fe) HRA.out HF.out rfl HKS.out ?_)
          | ((with_reducible refine at_alloc ?_); refine wpList_alloc_z rfl 51 rfl iz _ HZ.out.1 HZ.out.2 ?_)
          | ((with_reducible refine at_store ?_); refine wpList_store_row rfl 51 (.tmp 11) (.tmp 44) rfl wr.heap.size (rcs x).toArray rfl rfl 51 rz HBZ.out HKS2.out HOLD.out HONE.out ?_; rw [setRow_alloc, HW2.out]))
        obtain ⟨vb, hvb⟩ : ∃ V, wr.heap.size = V := ⟨_, rfl⟩
        rw [hvb]
        rw [hvb] at HVB
        have HVW := Lib.hid hvb
        clear hvb HBZ HOLD HKS2 HW2
        have c33 := blk_33 HVB.out HOK.out
        have c34 := blk_34 HVB.out HOK.out
        have hok2 := okE_iff.1 HOKE.out
        obtain ⟨o, ho⟩ : ∃ o, x.2.1 = o := ⟨_, rfl⟩
        obtain ⟨q, hq⟩ : ∃ q, x.2.2 = q := ⟨_, rfl⟩
        rw [ho] at c33 hok2 HPR
        rw [hq] at c34 hok2 HSS HPR
        have q0 := hok2.1
        have q1 := hok2.2.1
        have q2 : q ≤ 4096 := by omega
        have q3 : o ≤ 4096 := by omega
        have q4 : o + q ≤ 4096 := by omega
        clear hok2
        obtain ⟨F, hF⟩ : ∃ F, (if u < 0 then 0 else u) = F := ⟨_, rfl⟩
        obtain ⟨B, hB⟩ : ∃ B, (if q < v then q else v) = B := ⟨_, rfl⟩
        have HPT := Lib.hid (HPR.out F B hF hB)
        have hF1 : 0 ≤ F := by rw [← hF]; split <;> omega
        have hF2 : F ≤ 67108864 := by rw [← hF]; split <;> omega
        have hB1 : B ≤ q := by rw [← hB]; split <;> omega
        have hB2 : -67108864 ≤ B := by rw [← hB]; split <;> omega
        have HFB := Lib.hid (And.intro hF hB)
        clear hF hB HPR
        refine wp_region_held_drew (S := fun W => Below w2.heap.size w2 W) (by kernel_rfl) ⟨rfl, rfl, rfl, Nat.le_refl _, fun _ _ => rfl⟩ (fun hHeld => ?_)
        clear hHeld
        have HV := Lib.hid (show Below w2.heap.size w2 w2.drew from ⟨rfl, rfl, rfl, Nat.le_refl _, fun _ _ => rfl⟩)
        have hg34 : ∀ W, Below w2.heap.size w2 W → W.cell? ⟨vb, 34, none⟩ = some (.int .i64 q) := fun W hW => by rw [hW.cell (p := ⟨vb, 34, none⟩) HVB.out.lt]; exact c34
        have HO2 := Lib.hid (HO.out.on HBA.out)
        have HO3 := Lib.hid (HO2.out.on HV.out)
        have HB3 := Lib.hid (HB2.out.trans (HV.out.mono HB2.out.size))
        have HV3 := Lib.hid (HVB.out.below HV.out HVB.out.lt)
        generalize w2.drew = w3 at *
        refine wpAnyH_take (i := 0) (oi := _) (v := .int .i64 u) rfl (by kernel_rfl) (by kernel_rfl) (by kernel_rfl) (fun _ _ _ h => h) (Or.inl ⟨by rfl, by intro w hSw; go_simp⟩) HV.out ?_
        simp only [List.getElem_toArray, List.getElem_cons_zero, List.getElem_cons_succ, Act.put, List.setIfInBounds_toArray, List.set_cons_zero, List.set_cons_succ]
        refine wpAnyH_take (i := 1) (oi := _) (v := .int .i64 F) rfl (by kernel_rfl) (by kernel_rfl) (by kernel_rfl) (fun _ _ _ h => h) (Or.inl ⟨by rfl, by intro w hSw; go_simp; rw [HFB.out.1]⟩) HV.out ?_
        simp only [List.getElem_toArray, List.getElem_cons_zero, List.getElem_cons_succ, Act.put, List.setIfInBounds_toArray, List.set_cons_zero, List.set_cons_succ]
        refine wpAnyH_take (i := 2) (oi := _) (v := .int .i64 v) rfl (by kernel_rfl) (by kernel_rfl) (by kernel_rfl) (fun _ _ _ h => h) (Or.inl ⟨by rfl, by intro w hSw; go_simp⟩) HV.out ?_
        simp only [List.getElem_toArray, List.getElem_cons_zero, List.getElem_cons_succ, Act.put, List.setIfInBounds_toArray, List.set_cons_zero, List.set_cons_succ]
        refine wpAnyH_take (i := 3) (oi := _) (v := .pointer (some ⟨vb, 34, none⟩)) rfl (by kernel_rfl) (by kernel_rfl) (by kernel_rfl) (fun _ _ _ h => h) (Or.inl ⟨by rfl, by intro w hSw; go_simp⟩) HV.out ?_
        simp only [List.getElem_toArray, List.getElem_cons_zero, List.getElem_cons_succ, Act.put, List.setIfInBounds_toArray, List.set_cons_zero, List.set_cons_succ]
        refine wpAnyH_take (i := 4) (oi := _) (v := .int .i64 q) rfl (by kernel_rfl) (by kernel_rfl) (by kernel_rfl) (fun _ _ _ h => h) (Or.inl ⟨by rfl, by intro w hSw; have := hg34 w hSw; go_simp⟩) HV.out ?_
        simp only [List.getElem_toArray, List.getElem_cons_zero, List.getElem_cons_succ, Act.put, List.setIfInBounds_toArray, List.set_cons_zero, List.set_cons_succ]
        refine wpAnyH_take (i := 5) (oi := _) (v := .int .i64 B) rfl (by kernel_rfl) (by kernel_rfl) (by kernel_rfl) (fun _ _ _ h => h) (Or.inl ⟨by rfl, by intro w hSw; go_simp; rw [HFB.out.2]⟩) HV.out ?_
        simp only [List.getElem_toArray, List.getElem_cons_zero, List.getElem_cons_succ, Act.put, List.setIfInBounds_toArray, List.set_cons_zero, List.set_cons_succ]
        refine wpAnyH_take (i := 6) (oi := _) (v := .int .i64 F) rfl (by kernel_rfl) (by kernel_rfl) (by kernel_rfl) (fun _ _ _ h => h) (Or.inl ⟨by rfl, by intro w hSw; go_simp⟩) HV.out ?_
        simp only [List.getElem_toArray, List.getElem_cons_zero, List.getElem_cons_succ, Act.put, List.setIfInBounds_toArray, List.set_cons_zero, List.set_cons_succ]
        refine wpAnyH_take (i := 7) (oi := _) (v := .int .i64 B) rfl (by kernel_rfl) (by kernel_rfl) (by kernel_rfl) (fun _ _ _ h => h) (Or.inl ⟨by rfl, by intro w hSw; go_simp⟩) HV.out ?_
        simp only [List.getElem_toArray, List.getElem_cons_zero, List.getElem_cons_succ, Act.put, List.setIfInBounds_toArray, List.set_cons_zero, List.set_cons_succ]
        refine wpAnyH_done (by kernel_rfl) ?_ _
        have HLT := Lib.hid (show ∀ r, (Value.slice Y m z).ownBlock = some r → r < vb from fun r hr => by
          have := (HO.out.lt (by rw [HM.out]; exact hr)).2
          rwa [HVW.out] at this)
        clear hg34 HV HO2 HO HVB HB HB2 HBA HFB
        have HSQ := Lib.hid (show off - sumE (ls.take (j + 1)) = u - q ∧ (off + hh) - sumE (ls.take (j + 1)) = v - q from by
          have h1 := HUV.out
          have h2 := HSS.out
          constructor <;> omega)
        by_cases hab : F < B
        · have hae : decide (F < B) = true := decide_eq_true hab
          obtain ⟨X, hX⟩ : ∃ X : RowT, (x.1, (o + F, B - F)) = X := ⟨_, rfl⟩
          have HSN2 := Lib.hid (show cutE off (off + hh) 0 (ls.take (j + 1)) = cutE off (off + hh) 0 (ls.take j) ++ [X] from by rw [HSN.out, HPT.out, if_pos hab, hX])
          have HX := Lib.hid (hX ▸ ok_part HOK.out (o := o + F) (n := B - F) (by
            refine okE_iff.2 ⟨?_, ?_, ?_⟩ <;> simp only <;> omega))
          have HBE := Lib.hid (hX ▸ built_ext HOK.out.key (o + F) (B - F))
          have HRK := Lib.hid (range_key (r := x) (range_of_blk HV3.out))
          have HKK := Lib.hid (show (Try.prog.info? 49).map (·.size) = some (kcs x.1).length by rw [kcs_length HOK.out.key]; exact key_size)
          have c33 := blk_33 HV3.out HOK.out
          rw [ho] at c33
          have hba : Below w3.heap.size w3 (w3.alloc (.cells (rcs X).toArray 51)) := (Below.refl _ _).alloc (Nat.le_refl _) _
          have HBA := Lib.hid (HB3.out.trans (hba.mono HB3.out.size))
          have HOA := Lib.hid (HO3.out.on hba)
          have HVA := Lib.hid (HV3.out.below hba HV3.out.lt)
          have HR1 := Lib.hid (rds_one w3 X 51 35 rcs)
          clear hba hX HO3 HB3 c34 HPT HSN
          go_wp2_with (first
            | ((with_reducible refine at_load ?_); refine wpList_load_mid rfl 49 (.tmp 55) rfl vb 0 rfl (kcs x.1) (.struct fk) HRK.out HFK.out rfl HKK.out ?_; simp only [Act.put, List.setIfInBounds_toArray, List.set_cons_zero, List.set_cons_succ])
            | ((with_reducible refine at_build ?_); refine wpList_built3 rfl 51 (.tmp 56) (.tmp 60) (.tmp 63) rfl _ _ _ rfl rfl rfl _ HBE.out ?_; simp only [Act.put, List.setIfInBounds_toArray, List.set_cons_zero, List.set_cons_succ])
            | ((with_reducible refine at_buildSlice ?_); refine wpList_buildOne extE rfl (.tmp 64) rfl HX.out rfl ?_; simp only [Act.put, List.setIfInBounds_toArray, List.set_cons_zero, List.set_cons_succ])
            | (at_builtin; refine wpList_append_g extE rfl (.tmp 54) (.tmp 65) rfl w.heap.size Y z m (cutE off (off + hh) 0 (ls.take j)) HM.out rfl HOA.out _ (some ⟨w3.heap.size, 0, none⟩) 1 1 [X] rfl rfl HR1.out (by intro y hy; rw [List.mem_singleton.1 hy]; exact HX.out) ?_ ?_ ?_))
          case _ => omega
          case _ => exact HBA.out.size
          intro A9 c9 w9 ho9 hg9
          have HO9 := Lib.hid ho9
          have HB9 := Lib.hid (show Below w.heap.size w w9 from HBA.out.grown hg9 HBA.out.size fun r hr => (HOA.out.lt (by rw [HM.out]; exact hr)).1)
          have HV9 := Lib.hid (show Blk w9 vb 51 (rcs x).toArray from HVA.out.same (hg9.block vb HVA.out.lt fun e => Nat.lt_irrefl _ (HLT.out vb e.symm)))
          have c34 := blk_34 HV9.out HOK.out
          rw [hq] at c34
          clear ho9 hg9 HR1 HRK HBA HOA HVA c33
          go_wp2_with fail
          go_quiet (fail)
          have hbq : Below w9.heap.size w9 (w9.drewN nq) := below_drewN (Below.refl w9.heap.size w9) nq
          have HOQ := Lib.hid (HO9.out.on hbq)
          have HBQ := Lib.hid (HB9.out.trans (hbq.mono HB9.out.size))
          clear hbq
          go_wp2_with fail
          go_roundw
          case rel => exact ⟨j + 1, m + 1, A9, c9, by omega, by go_num, congrArg (Value.int .i64) HSQ.out.1.symm, congrArg (Value.int .i64) HSQ.out.2.symm, rfl, by omega, Lib.hid (by rw [HSN2.out, List.length_append, HM.out]; rfl), Lib.hid (by rw [HSN2.out]; exact HOQ.out), HBQ⟩
          case measure => simp [intOf]; omega
        · have hae : decide (F < B) = false := decide_eq_false hab
          have HSN2 := Lib.hid (show cutE off (off + hh) 0 (ls.take (j + 1)) = cutE off (off + hh) 0 (ls.take j) from by rw [HSN.out, HPT.out, if_neg hab, List.append_nil])
          have c34 := blk_34 HV3.out HOK.out
          rw [hq] at c34
          clear HPT HSN
          go_wp2_with fail
          go_quiet (fail)
          have hbq : Below w3.heap.size w3 (w3.drewN nq) := below_drewN (Below.refl w3.heap.size w3) nq
          have HOQ := Lib.hid (HO3.out.on hbq)
          have HBQ := Lib.hid (HB3.out.trans (hbq.mono HB3.out.size))
          clear hbq
          go_wp2_with fail
          go_roundw
          case rel => exact ⟨j + 1, m, Y, z, by omega, by go_num, congrArg (Value.int .i64) HSQ.out.1.symm, congrArg (Value.int .i64) HSQ.out.2.symm, rfl, by omega, Lib.hid (by rw [HSN2.out]; exact HM.out), Lib.hid (by rw [HSN2.out]; exact HOQ.out), HBQ⟩
          case measure => simp [intOf]; omega
      · obtain rfl : j = k := by omega
        have HE := Lib.hid (show ls.take j = ls from List.take_of_length_le (by rw [HPL.out]; exact Nat.le_refl _))
        go_wp2_with fail
        go_ret
        have hm := HM.out
        have ho := HO.out
        rw [HE.out, ← HCUT.out] at hm ho
        exact ⟨Y, z, by rw [hm]; rfl, ho, HOKS.out, HB.out⟩
end Go.Proofs.Ytgemjipbifgbgaa
/- The landed package extent: continues, add. No statement of the seat is proved here. -/
namespace Go.Proofs.Ytgemjipbifgbgaa
open Go.RowKit Go.Maps Go.Sort
set_option linter.unusedVariables false
set_option linter.unusedSimpArgs false
set_option maxRecDepth 100000

set_option maxHeartbeats 4000000 in
theorem xcont_any (x y : RowT) (hx : x.Ok) (hy : y.Ok) (hb : In64 (y.2.1 + y.2.2)) (w : World) :
    Calls Try.prog 38 #[.agg (rcs x).toArray, .agg (rcs y).toArray] w fun e w' => e = .returned (.bool (goesOn y x)) ∧ Below w.heap.size w w' := by
  obtain ⟨fk, hfk⟩ := key_desc
  have HFK := Lib.hid hfk
  have eqg := key_guard
  obtain ⟨w1, hw1⟩ : ∃ w1, w.alloc (.cells (rcs x).toArray 51) = w1 := ⟨_, rfl⟩
  obtain ⟨kb, hkb⟩ : ∃ kb, w.heap.size = kb := ⟨_, rfl⟩
  have hb1 : Below w.heap.size w w1 := hw1 ▸ (Below.refl _ _).alloc (Nat.le_refl _) _
  have hk1 : Blk w1 kb 51 (rcs x).toArray := by rw [← hw1, ← hkb]; exact Blk.new w _ _
  obtain ⟨w2, hw2⟩ : ∃ w2, w1.alloc (.cells (rcs y).toArray 51) = w2 := ⟨_, rfl⟩
  obtain ⟨pb, hpb⟩ : ∃ pb, w1.heap.size = pb := ⟨_, rfl⟩
  have hb2 : Below w1.heap.size w1 w2 := hw2 ▸ (Below.refl _ _).alloc (Nat.le_refl _) _
  have hk2 : Blk w2 pb 51 (rcs y).toArray := by rw [← hw2, ← hpb]; exact Blk.new w1 _ _
  have hk3 := hk1.below hb2 hk1.lt
  have RX := Lib.hid (range_key (r := x) (range_of_blk hk3))
  have RY := Lib.hid (range_key (r := y) (range_of_blk hk2))
  have x33 := blk_33 hk3 hx
  have y33 := blk_33 hk2 hy
  have y34 := blk_34 hk2 hy
  have HKX := Lib.hid (show (Try.prog.info? 49).map (·.size) = some (kcs x.1).length by rw [kcs_length hx.key]; exact key_size)
  have HKY := Lib.hid (show (Try.prog.info? 49).map (·.size) = some (kcs y.1).length by rw [kcs_length hy.key]; exact key_size)
  have HB := Lib.hid (hb1.trans (hb2.mono hb1.size))
  have HW := Lib.hid (And.intro (And.intro hw1 hkb) (And.intro hw2 (show kb + 1 = pb by rw [← hkb, ← hpb, ← hw1]; simp)))
  obtain ⟨r, hre⟩ : ∃ r, decide (x.1 = y.1) = r := ⟨_, rfl⟩
  have QE := Lib.hid (show ∀ W, (Op.equal 49 (.agg (kcs x.1).toArray) (.agg (kcs y.1).toArray)).run Try.prog W = .ok r W from fun W => by rw [key_eq hx.key hy.key W, hre])
  obtain ⟨G, hG⟩ : ∃ G, goesOn y x = G := ⟨_, rfl⟩
  rw [hG]
  have HG := Lib.hid (show G = (r && decide (x.2.1 = y.2.1 + y.2.2)) from by
    rw [← hG, ← hre]
    unfold goesOn
    rw [← Bool.decide_and]
    exact decide_eq_decide.2 ⟨fun h => ⟨h.1.symm, h.2.symm⟩, fun h => ⟨h.1.symm, h.2.symm⟩⟩)
  obtain ⟨xo, hxo⟩ : ∃ xo, x.2.1 = xo := ⟨_, rfl⟩
  obtain ⟨yo, hyo⟩ : ∃ yo, y.2.1 = yo := ⟨_, rfl⟩
  obtain ⟨yl, hyl⟩ : ∃ yl, y.2.2 = yl := ⟨_, rfl⟩
  rw [hxo] at x33 HG
  rw [hyo] at y33 HG hb
  rw [hyl] at y34 HG hb
  obtain ⟨b1, b2⟩ := hb
  clear hfk hx hy hw1 hkb hb1 hk1 hw2 hpb hb2 hk2 hk3 hG hre hxo hyo hyl
  have hwr : IntKind.i64.wrap (yo + yl) = yo + yl := by rw [IntKind.wrap_i64]; omega
  obtain ⟨q, hq⟩ : ∃ q, (xo == yo + yl) = q := ⟨_, rfl⟩
  have HQ := Lib.hid (show decide (xo = yo + yl) = q from by rw [← hq]; rfl)
  go_enter Try.func38, Try.ntmps38
  go_upto_region 1 with fail
  rw [HW.out.1.1, HW.out.1.2, HW.out.2.1, HW.out.2.2]
  cases r with
  | true =>
    obtain rfl : G = q := by rw [HG.out, HQ.out]; rfl
    go_wp2_with (first
      | ((with_reducible refine at_load ?_); refine wpList_load_mid rfl 49 (.tmp 5) rfl kb 0 rfl (kcs x.1) (.struct fk) RX.out HFK.out rfl HKX.out ?_; simp only [Act.put, List.setIfInBounds_toArray, List.set_cons_zero, List.set_cons_succ])
      | ((with_reducible refine at_load ?_); refine wpList_load_mid rfl 49 (.tmp 7) rfl pb 0 rfl (kcs y.1) (.struct fk) RY.out HFK.out rfl HKY.out ?_; simp only [Act.put, List.setIfInBounds_toArray, List.set_cons_zero, List.set_cons_succ])
      | ((with_reducible refine at_bin ?_); refine wpList_eql_row rfl 49 49 (.tmp 6) (.tmp 8) rfl (kcs x.1).toArray (kcs y.1).toArray rfl rfl eqg true (QE.out _) ?_; simp only [Act.put, List.setIfInBounds_toArray, List.set_cons_zero, List.set_cons_succ]))
    go_ret
    exact ⟨rfl, HB.out⟩
  | false =>
    obtain rfl : G = false := by rw [HG.out]; rfl
    go_wp2_with (first
      | ((with_reducible refine at_load ?_); refine wpList_load_mid rfl 49 (.tmp 5) rfl kb 0 rfl (kcs x.1) (.struct fk) RX.out HFK.out rfl HKX.out ?_; simp only [Act.put, List.setIfInBounds_toArray, List.set_cons_zero, List.set_cons_succ])
      | ((with_reducible refine at_load ?_); refine wpList_load_mid rfl 49 (.tmp 7) rfl pb 0 rfl (kcs y.1) (.struct fk) RY.out HFK.out rfl HKY.out ?_; simp only [Act.put, List.setIfInBounds_toArray, List.set_cons_zero, List.set_cons_succ])
      | ((with_reducible refine at_bin ?_); refine wpList_eql_row rfl 49 49 (.tmp 6) (.tmp 8) rfl (kcs x.1).toArray (kcs y.1).toArray rfl rfl eqg false (QE.out _) ?_; simp only [Act.put, List.setIfInBounds_toArray, List.set_cons_zero, List.set_cons_succ]))
    go_ret
    exact ⟨rfl, HB.out⟩
end Go.Proofs.Ytgemjipbifgbgaa
