/- IndexParts' walk, told from what the package does. No statement of the seat is proved here. -/
import Derived.Test.YteieaindejcfbaaIxTwins
import Derived.Test.YteieaindejcfbaaIxMathB
namespace Go.Proofs.Yteieaindejcfbaa
open Go.RowKit
set_option linter.unusedVariables false
set_option linter.unusedSimpArgs false

theorem has_mem {L : List RowT} {r : RowT} (h : r ∈ L) : hasX L r.1 = true := by
  unfold hasX
  exact List.any_eq_true.2 ⟨r, h, by simp⟩
section
variable {It : World → Addr → (Nat → Prop) → List RowT → Prop}
set_option maxRecDepth 100000 in
set_option maxHeartbeats 20000000 in
theorem parts_walk (K : IndexesOk It) (A : Option Addr) (n c : Nat) (ls : List IAct) (hl : ls.length = n) (hc : n ≤ c) (hm : c ≤ maxLen) (w : World) (hr : RdIa w w.heap.size A ls) :
    Calls Try.prog 5 #[.slice A n c] w fun e w' => e = .returned (.bool true) ∧ Below w.heap.size w w' := by
  unfold maxLen at hm
  obtain ⟨m, hm'⟩ : ∃ m, m = min n 200 := ⟨_, rfl⟩
  have hmn : m ≤ n ∧ m ≤ 200 := by omega
  have HL := Lib.hid hl
  have HR := Lib.hid hr
  have KF := Lib.hid (fun W => few_any A n c m hm' hc W)
  obtain ⟨fs, hfs⟩ := key_desc
  obtain ⟨an, ae, hsd⟩ := sum_desc
  obtain ⟨fa, hfa⟩ := iact_desc
  obtain ⟨fp, hfp⟩ := place_desc
  obtain ⟨fr, hfr⟩ := row_desc
  have HF := Lib.hid (And.intro hfs (And.intro hsd (And.intro hfa (And.intro hfp hfr))))
  clear hl hr hm' hfs hsd hfa hfp hfr
  go_enter Try.func5, Try.ntmps5
  go_wp2_with fail
  refine (shown_any K w).mono ?_
  rintro e w2 ⟨rfl, hb2⟩
  have KN := Lib.hid (K.new' hb2)
  clear hb2
  go_wp2_with fail
  refine KN.out.mono ?_
  rintro e w3 ⟨s, rfl, h3⟩
  have H3 := Lib.hid h3
  clear h3 KN
  go_wp2_with fail
  refine (KF.out w3).mono ?_
  rintro e w4 ⟨rfl, rfl⟩
  go_wp2_with fail
  go_loopw [25] (fun i wr => ∃ (j : Nat) (L : List RowT), j ≤ m ∧ i = .int .i64 j ∧ Hid (Turned It w s (fun _ => False) wr L ∧ L.length ≤ j)) (fun i _ => m - (intOf i).toNat)
  case atStart => exact ⟨0, [], Nat.zero_le _, rfl, Lib.hid ⟨H3.out, Nat.le_refl _⟩⟩
  case round =>
    clear H3 KF
    obtain ⟨j, L, hj, rfl, hst⟩ := hrel
    by_cases hlt : j < m
    · have hjx : j < ls.length := by rw [HL.out]; omega
      have hbel := hst.out.1.bel
      obtain ⟨g, off, hA, hg, hra, hok⟩ := (HR.out.below hbel).at_ hjx
      obtain ⟨a, hae⟩ : ∃ a, ls[j] = a := ⟨_, rfl⟩
      rw [hae] at hra hok
      subst hA
      obtain ⟨Z, hZ⟩ : ∃ Z, ics a = Z := ⟨_, rfl⟩
      have hZl : Z.length = 36 := by rw [← hZ]; exact ics_length hok
      rw [hZ] at hra
      have HRA := Lib.hid hra
      have HKS := Lib.hid (show (Try.prog.info? 41).map (·.size) = some Z.length from by rw [hZl]; exact iact_size)
      have HKS2 := Lib.hid (show (Try.prog.info? 41).map (·.size) = some Z.toArray.size from by rw [List.size_toArray, hZl]; exact iact_size)
      have HOLD := Lib.hid (show iz.size = Z.toArray.size from iz_size.trans (by rw [List.size_toArray, hZl]))
      have HBZ := Lib.hid (Blk.new wr 41 iz)
      have HONE := Lib.hid (show Z.toArray.all (·.oneCell') = true from by rw [← hZ]; exact ics_one)
      obtain ⟨w5, hw5⟩ : ∃ w5, wr.alloc (.cells Z.toArray 41) = w5 := ⟨_, rfl⟩
      obtain ⟨ab, hab⟩ : ∃ ab, wr.heap.size = ab := ⟨_, rfl⟩
      have hb5 : Below wr.heap.size wr w5 := hw5 ▸ (Below.refl _ _).alloc (Nat.le_refl _) _
      have hk5 : Blk w5 ab 41 Z.toArray := by rw [← hw5, ← hab]; exact Blk.new wr _ _
      have hkok : KeyT.Ok a.2.1 := hok.key
      have hpo : PlOk a.2.2 := ⟨hok.shelf, hok.slot⟩
      have HLR := Lib.hid (K.rows hst.out.1)
      obtain ⟨gn, hgn⟩ : ∃ gn, a.1 = gn := ⟨_, rfl⟩
      obtain ⟨Y, hY⟩ : ∃ Y, kcs a.2.1 = Y := ⟨_, rfl⟩
      have HYS := Lib.hid (show (Try.prog.info? 27).map (·.size) = some Y.length from by rw [← hY, kcs_length hkok]; exact key_size)
      have HPS := Lib.hid (show (Try.prog.info? 37).map (·.size) = some (pvs a.2.2).length from place_size)
      have HRW := Lib.hid (show ∀ W, Blk W ab 41 Z.toArray → W.rangeAt ab 1 Y ∧ W.rangeAt ab 34 (pvs a.2.2) ∧ W.cell? ⟨ab, 0, none⟩ = some (.bool gn) from fun W h => by
        rw [← hZ] at h
        have h1 := ics_row (range_of_blk h)
        have h2 := range_key h1
        rw [hY] at h2
        exact ⟨h2, range_place hok h1, by rw [← hgn]; exact h.cell 0⟩)
      have HW5 := Lib.hid (And.intro hw5 hab)
      have HST := Lib.hid hst
      have KP := K.putBox hst.out.1 hb5 hk5 (by rw [hab]; exact Nat.le_refl _) (by have := hst.out.2; omega) a.2.1 hkok a.2.2 hpo
      unfold kv pv at KP
      rw [hY] at KP
      replace KP := Lib.hid KP
      have HP1 := Lib.hid (show (putX L a.2.1 a.2.2).length ≤ j + 1 ∧ (dropX (putX L a.2.1 a.2.2) a.2.1).length ≤ j + 1 from by
        have e1 := putX_length L HLR.out.rise hkok HLR.out.key a.2.2
        have e2 := HLR.out.put hkok hpo
        have e3 := dropX_length _ e2.rise hkok e2.key
        have e4 := hst.out.2
        omega)
      have HOK := Lib.hid (And.intro hkok hpo)
      have HY := Lib.hid hY
      have R := Lib.hid (HRW.out w5 hk5)
      have hi1 : (0 : Int) ≤ (j : Int) := by omega
      have hi2 : (j : Int) < (m : Int) := by omega
      have hi3 : (j : Int) < (n : Int) := by omega
      clear hst hra hok hae hjx hZ hZl hw5 hab hb5 hk5 hkok hpo hY hgn hbel hg
      go_wp2_with (first
        | refine wpList_load_mid rfl 41 (.tmp 27) rfl g (off + j * 36) rfl Z (.struct fa) HRA.out HF.out.2.2.1 rfl HKS.out ?_
        | (refine wpList_store_row rfl 41 (.tmp 6) (.tmp 28) rfl wr.heap.size Z.toArray rfl rfl 41 iz HBZ.out HKS2.out HOLD.out HONE.out ?_; rw [setRow_alloc, HW5.out.1, HW5.out.2])
        | refine wpList_load_mid rfl 27 (.tmp 31) rfl ab 1 rfl Y (.struct fs) R.out.1 HF.out.1 rfl HYS.out ?_
        | refine wpList_load_mid rfl 37 (.tmp 34) rfl ab 34 rfl (pvs a.2.2) (.struct fp) R.out.2.1 HF.out.2.2.2.1 rfl HPS.out ?_)
      refine KP.out.mono ?_
      rintro e w6 ⟨rfl, h6, hk6⟩
      have hc0 := (HRW.out w6 hk6).2.2
      cases gn with
      | true =>
        have R := Lib.hid (HRW.out w6 hk6)
        have KD := K.drop' h6 (by have := HP1.out.1; omega) a.2.1 HOK.out.1
        unfold kv at KD
        rw [HY.out] at KD
        replace KD := Lib.hid KD
        clear h6 hk6 KP
        go_wp2_with (refine wpList_load_mid rfl 27 (.tmp 41) rfl ab 1 rfl Y (.struct fs) R.out.1 HF.out.1 rfl HYS.out ?_)
        refine KD.out.mono ?_
        rintro e w7 ⟨rfl, h7⟩
        have HN := Lib.hid h7
        clear h7 KD R hc0
        go_wp2_with fail
        go_roundw
        case rel => exact ⟨j + 1, _, by omega, by go_num, Lib.hid ⟨HN.out, HP1.out.2⟩⟩
        case measure => simp [intOf]; omega
      | false =>
        have HN := Lib.hid h6
        clear h6 hk6 KP
        go_wp2_with fail
        go_roundw
        case rel => exact ⟨j + 1, _, by omega, by go_num, Lib.hid ⟨HN.out, HP1.out.1⟩⟩
        case measure => simp [intOf]; omega
    · obtain rfl : j = m := by omega
      have hL := hst.out.2
      have HLR := Lib.hid (K.rows hst.out.1)
      have KA := K.all' hst.out.1 (by omega)
      obtain ⟨N, hN⟩ : ∃ N, L.length = N := ⟨_, rfl⟩
      rw [hN] at KA
      replace KA := Lib.hid KA
      have HST := Lib.hid hst.out.1
      have HN := Lib.hid hN
      have hN2 : N ≤ 200 := by omega
      clear hst hN hL
      go_wp2_with fail
      refine KA.out.mono ?_
      rintro e w5 ⟨AA, cA, rfl, hrA, hcA, hmA, _, hb5⟩
      have H5 := Lib.hid (And.intro (K.on HST.out hb5) hrA)
      have HBW := Lib.hid (HST.out.bel.trans (hb5.mono HST.out.bel.size))
      unfold maxLen at hmA
      clear hb5 hrA KA HST
      go_wp2_with fail
      go_loopw [7, 48] (fun nn i wr => ∃ t : Nat, t ≤ N ∧ nn = .int .i64 t ∧ i = .int .i64 t ∧ Hid (Below w5.heap.size w5 wr)) (fun _ i _ => N - (intOf i).toNat)
      case atStart => exact ⟨0, Nat.zero_le _, rfl, rfl, Lib.hid (Below.refl _ _)⟩
      case round =>
        obtain ⟨t, ht, rfl, rfl, hbt⟩ := hrel
        by_cases htl : t < N
        · have htx : t < L.length := by rw [HN.out]; exact htl
          obtain ⟨ga, oa, hAA, hga, hra, hok⟩ := (H5.out.2.below hbt.out).at_ htx
          obtain ⟨r, hre⟩ : ∃ r, L[t] = r := ⟨_, rfl⟩
          have hrm : r ∈ L := by rw [← hre]; exact List.getElem_mem htx
          rw [hre] at hra hok
          obtain ⟨Zr, hZr⟩ : ∃ Zr, rcs r = Zr := ⟨_, rfl⟩
          have hZl : Zr.length = 35 := by rw [← hZr]; exact rcs_length hok
          obtain ⟨Yk, hYk⟩ : ∃ Yk, kcs r.1 = Yk := ⟨_, rfl⟩
          obtain ⟨D, hD⟩ : ∃ D, bv r.1.1 = D := ⟨_, rfl⟩
          rw [hZr] at hra
          have HRA := Lib.hid hra
          have HKS := Lib.hid (show (Try.prog.info? 39).map (·.size) = some Zr.length from by rw [hZl]; exact row_size)
          have HKS2 := Lib.hid (show (Try.prog.info? 39).map (·.size) = some Zr.toArray.size from by rw [List.size_toArray, hZl]; exact row_size)
          have HOLD := Lib.hid (show rz.size = Zr.toArray.size from rz_size.trans (by rw [List.size_toArray, hZl]))
          have HBZ := Lib.hid (Blk.new wr 39 rz)
          have HONE := Lib.hid (show Zr.toArray.all (·.oneCell') = true from by rw [← hZr]; exact rcs_one)
          have HYS := Lib.hid (show (Try.prog.info? 27).map (·.size) = some Yk.length from by rw [← hYk, kcs_length hok.key]; exact key_size)
          have HSS := Lib.hid (show (Try.prog.info? 24).map (·.size) = some D.length from by rw [← hD, bv_length, hok.key.1]; exact sum_size)
          obtain ⟨w6, hw6⟩ : ∃ w6, wr.alloc (.cells Zr.toArray 39) = w6 := ⟨_, rfl⟩
          obtain ⟨rb, hrb⟩ : ∃ rb, wr.heap.size = rb := ⟨_, rfl⟩
          have hb6 : Below wr.heap.size wr w6 := hw6 ▸ (Below.refl _ _).alloc (Nat.le_refl _) _
          have hk6 : Blk w6 rb 39 Zr.toArray := by rw [← hw6, ← hrb]; exact Blk.new wr _ _
          obtain ⟨p1, hp1⟩ : ∃ p1, r.2.1 = p1 := ⟨_, rfl⟩
          obtain ⟨p2, hp2⟩ : ∃ p2, r.2.2 = p2 := ⟨_, rfl⟩
          have HB6 := Lib.hid (show Below w5.heap.size w5 w6 from hbt.out.trans (hb6.mono hbt.out.size))
          have HRB := Lib.hid (show ∀ W, Below w6.heap.size w6 W → (W.rangeAt rb 0 Zr ∧ W.rangeAt rb 0 Yk ∧ W.rangeAt rb 0 D) ∧ (W.cell? ⟨rb, 33, none⟩ = some (.int .i64 p1) ∧ W.cell? ⟨rb, 34, none⟩ = some (.int .i64 p2)) ∧ Turned It w s (fun _ => False) W L from fun W hW => by
            have h1 := range_of_blk (hk6.below hW hk6.lt)
            have h0 := h1
            rw [← hZr] at h1
            have h2 := range_key h1
            have h3 := range_sum h2
            rw [hYk] at h2
            rw [hD] at h3
            have h4 := h1 33 _ (rcs_33 hok)
            have h5 := h1 34 _ (rcs_34 hok)
            rw [Nat.zero_add] at h4 h5
            rw [hp1] at h4
            rw [hp2] at h5
            exact ⟨⟨h0, h2, h3⟩, ⟨h4, h5⟩, K.on H5.out.1 (HB6.out.trans (hW.mono HB6.out.size))⟩)
          have HP2S := Lib.hid (show (Try.prog.info? 37).map (·.size) = some ([.int .i64 p1, .int .i64 p2] : List Value).length from place_size)
          have HOK := Lib.hid hok
          have HRM := Lib.hid hrm
          have HW6 := Lib.hid (And.intro hw6 hrb)
          have HPP := Lib.hid (And.intro hp1 hp2)
          have HY := Lib.hid (And.intro hYk (And.intro hD hZr))
          have hk33 := (HRB.out w6 (Below.refl _ _)).2.1.1
          have KS := K.shelf' (HRB.out w6 (Below.refl _ _)).2.2 (by rw [HN.out]; omega) r.2.1 hok.shelf
          obtain ⟨nS, hnS⟩ : ∃ nS, (shelfX L r.2.1).length = nS := ⟨_, rfl⟩
          rw [hnS, hp1] at KS
          replace KS := Lib.hid KS
          have HNS := Lib.hid hnS
          have hnS2 : nS ≤ 200 := by have := shelfX_length L r.2.1; rw [hnS, HN.out] at this; omega
          subst hAA
          have ti0 : (0 : Int) ≤ (t : Int) := by omega
          have ti1 : (t : Int) < (N : Int) := by omega
          have hcA9 : N ≤ 9223372036854775807 := by omega
          clear hbt hra hok hre hrm hZr hYk hD hw6 hrb hb6 hk6 hp1 hp2 hZl hnS hga htx
          go_wp2_with (first
            | refine wpList_load_mid rfl 39 (.tmp 51) rfl ga (oa + t * 35) rfl Zr (.struct fr) HRA.out HF.out.2.2.2.2 rfl HKS.out ?_
            | (refine wpList_store_row rfl 39 (.tmp 9) (.tmp 52) rfl wr.heap.size Zr.toArray rfl rfl 39 rz HBZ.out HKS2.out HOLD.out HONE.out ?_; rw [setRow_alloc, HW6.out.1, HW6.out.2]))
          refine KS.out.mono ?_
          rintro e w7 ⟨AS, cS, rfl, hrS, hcS, hmS, _, hb7⟩
          rw [← HPP.out.1] at hrS
          have H7 := Lib.hid (And.intro hb7 hrS)
          unfold maxLen at hmS
          clear hb7 hrS KS hk33
          go_wp2_with fail
          go_loopw [10, 59] (fun on i wr => ∃ u : Nat, u ≤ nS ∧ i = .int .i64 u ∧ on = .int .i64 ((((shelfX L r.2.1).take u).count r : Nat) : Int) ∧ Hid (Below w7.heap.size w7 wr)) (fun _ i _ => nS - (intOf i).toNat)
          case atStart => exact ⟨0, Nat.zero_le _, rfl, by rw [List.take_zero]; rfl, Lib.hid (Below.refl _ _)⟩
          case round =>
            obtain ⟨u, hu, rfl, rfl, hbu⟩ := hrel
            by_cases hul : u < nS
            · have hux : u < (shelfX L r.2.1).length := by rw [HNS.out]; exact hul
              obtain ⟨gs, os, hAS, hgs, hrs, hos⟩ := (H7.out.2.below hbu.out).at_ hux
              obtain ⟨q, hq⟩ : ∃ q, (shelfX L r.2.1)[u] = q := ⟨_, rfl⟩
              have hqm : q ∈ shelfX L r.2.1 := by rw [← hq]; exact List.getElem_mem hux
              rw [hq] at hrs hos
              have hqs : q.2.1 = p1 := by rw [← HPP.out.1]; exact (mem_shelfX.1 hqm).2
              have HCT := Lib.hid (show ((shelfX L r.2.1).take (u + 1)).count r = ((shelfX L r.2.1).take u).count r + if q = r then 1 else 0 from by rw [count_step _ _ hux, hq])
              obtain ⟨cn, hcn⟩ : ∃ cn, ((shelfX L r.2.1).take u).count r = cn := ⟨_, rfl⟩
              have hcu : cn ≤ 200 := by have := List.count_le_length (a := r) (l := (shelfX L r.2.1).take u); rw [hcn, List.length_take] at this; omega
              rw [hcn] at HCT ⊢
              obtain ⟨Zq, hZq⟩ : ∃ Zq, rcs q = Zq := ⟨_, rfl⟩
              have hZql : Zq.length = 35 := by rw [← hZq]; exact rcs_length hos
              rw [hZq] at hrs
              obtain ⟨rq, hrq⟩ : ∃ rq, decide (q = r) = rq := ⟨_, rfl⟩
              have QE : ∀ W, (Op.equalIn 10000 39 (.agg Zq.toArray) (.agg Zr.toArray)).run Try.prog W = .ok rq W := fun W => by rw [← hZq, ← HY.out.2.2, ← hrq]; exact row_eq hos HOK.out W
              have QG : Try.prog.eqGuardType Try.prog.depth 39 = false := row_guard
              have HRQ := Lib.hid hrq
              have HRS := Lib.hid hrs
              have HQS := Lib.hid (show (Try.prog.info? 39).map (·.size) = some Zq.length from by rw [hZql]; exact row_size)
              have HQS2 := Lib.hid (show (Try.prog.info? 39).map (·.size) = some Zq.toArray.size from by rw [List.size_toArray, hZql]; exact row_size)
              have HQOLD := Lib.hid (show rz.size = Zq.toArray.size from rz_size.trans (by rw [List.size_toArray, hZql]))
              have HQZ := Lib.hid (Blk.new wr 39 rz)
              have HQONE := Lib.hid (show Zq.toArray.all (·.oneCell') = true from by rw [← hZq]; exact rcs_one)
              obtain ⟨w8, hw8⟩ : ∃ w8, wr.alloc (.cells Zq.toArray 39) = w8 := ⟨_, rfl⟩
              obtain ⟨sb, hsb⟩ : ∃ sb, wr.heap.size = sb := ⟨_, rfl⟩
              have hb8 : Below wr.heap.size wr w8 := hw8 ▸ (Below.refl _ _).alloc (Nat.le_refl _) _
              have hk8 : Blk w8 sb 39 Zq.toArray := by rw [← hw8, ← hsb]; exact Blk.new wr _ _
              have HB8 := Lib.hid (show Below w7.heap.size w7 w8 from hbu.out.trans (hb8.mono hbu.out.size))
              have R1 := Lib.hid (range_of_blk hk8)
              have R2 := Lib.hid (HRB.out w8 (H7.out.1.trans (HB8.out.mono H7.out.1.size)))
              have hs33 : w8.cell? ⟨sb, 33, none⟩ = some (.int .i64 p1) := by
                have h1 := R1.out
                rw [← hZq] at h1
                have := h1 33 _ (rcs_33 hos)
                rw [Nat.zero_add, hqs] at this
                exact this
              have hk33 := R2.out.2.1.1
              have HW8 := Lib.hid (And.intro hw8 hsb)
              subst hAS
              have ui0 : (0 : Int) ≤ (u : Int) := by omega
              have ui1 : (u : Int) < (nS : Int) := by omega
              have hcS9 : nS ≤ 9223372036854775807 := by omega
              clear hbu hrs hos hq hqm hqs hcn hZq hrq hw8 hsb hb8 hk8 hZql hgs hux
              cases rq with
              | true =>
                go_wp2_with (first
                  | refine wpList_load_mid rfl 39 (.tmp 61) rfl gs (os + u * 35) rfl Zq (.struct fr) HRS.out HF.out.2.2.2.2 rfl HQS.out ?_
                  | (refine wpList_store_row rfl 39 (.tmp 12) (.tmp 62) rfl wr.heap.size Zq.toArray rfl rfl 39 rz HQZ.out HQS2.out HQOLD.out HQONE.out ?_; rw [setRow_alloc, HW8.out.1, HW8.out.2])
                  | refine wpList_load_mid rfl 39 (.tmp 12) rfl sb 0 rfl Zq (.struct fr) R1.out HF.out.2.2.2.2 rfl HQS.out ?_
                  | refine wpList_load_mid rfl 39 (.tmp 9) rfl rb 0 rfl Zr (.struct fr) R2.out.1.1 HF.out.2.2.2.2 rfl HKS.out ?_)
                go_roundw
                case rel => exact ⟨u + 1, by omega, by go_num, by rw [HCT.out, if_pos (of_decide_eq_true HRQ.out)]; go_num, Lib.hid HB8.out⟩
                case measure => simp [intOf]; omega
              | false =>
                go_wp2_with (first
                  | refine wpList_load_mid rfl 39 (.tmp 61) rfl gs (os + u * 35) rfl Zq (.struct fr) HRS.out HF.out.2.2.2.2 rfl HQS.out ?_
                  | (refine wpList_store_row rfl 39 (.tmp 12) (.tmp 62) rfl wr.heap.size Zq.toArray rfl rfl 39 rz HQZ.out HQS2.out HQOLD.out HQONE.out ?_; rw [setRow_alloc, HW8.out.1, HW8.out.2])
                  | refine wpList_load_mid rfl 39 (.tmp 12) rfl sb 0 rfl Zq (.struct fr) R1.out HF.out.2.2.2.2 rfl HQS.out ?_
                  | refine wpList_load_mid rfl 39 (.tmp 9) rfl rb 0 rfl Zr (.struct fr) R2.out.1.1 HF.out.2.2.2.2 rfl HKS.out ?_)
                go_roundw
                case rel => exact ⟨u + 1, by omega, by go_num, by rw [HCT.out, if_neg (of_decide_eq_false HRQ.out)]; rfl, Lib.hid HB8.out⟩
                case measure => simp [intOf]; omega
            · obtain rfl : u = nS := by omega
              rw [List.take_of_length_le (by rw [HNS.out]; exact Nat.le_refl _), count_shelf HLR.out.rise HRM.out]
              have hb9 := H7.out.1.trans (hbu.out.mono H7.out.1.size)
              have H9 := Lib.hid hb9
              have R2 := Lib.hid (HRB.out wr hb9)
              have KT := K.twins' R2.out.2.2 (by rw [HN.out]; omega) r.1.1 HOK.out.key.1
              rw [HY.out.2.1] at KT
              obtain ⟨nT, hnT⟩ : ∃ nT, (twinsX L r.1.1).length = nT := ⟨_, rfl⟩
              rw [hnT] at KT
              replace KT := Lib.hid KT
              have HNT := Lib.hid hnT
              have hnT2 : nT ≤ 200 := by have := twinsX_length L r.1.1; rw [hnT, HN.out] at this; omega
              clear hbu hb9 hnT
              go_wp2_with (refine wpList_load_mid rfl 24 (.tmp 78) rfl rb 0 rfl D (.array an ae) R2.out.1.2.2 HF.out.2.1 rfl HSS.out ?_)
              refine KT.out.mono ?_
              rintro e w10 ⟨AT, cT, rfl, hrT, hcT, hmT, _, hb10⟩
              have H10 := Lib.hid (And.intro (H9.out.trans (hb10.mono H9.out.size)) hrT)
              unfold maxLen at hmT
              clear hb10 hrT KT R2
              go_wp2_with fail
              go_loopw [13, 82] (fun cv i wr => ∃ v : Nat, v ≤ nT ∧ i = .int .i64 v ∧ cv = .int .i64 ((((twinsX L r.1.1).take v).count r.1 : Nat) : Int) ∧ Hid (Below w10.heap.size w10 wr)) (fun _ i _ => nT - (intOf i).toNat)
              case atStart => exact ⟨0, Nat.zero_le _, rfl, by rw [List.take_zero]; rfl, Lib.hid (Below.refl _ _)⟩
              case round =>
                obtain ⟨v, hv, rfl, rfl, hbv⟩ := hrel
                by_cases hvl : v < nT
                · have hvx : v < (twinsX L r.1.1).length := by rw [HNT.out]; exact hvl
                  obtain ⟨gt, ot, hAT, hgt, hrt, hot⟩ := (H10.out.2.below hbv.out).at_ hvx
                  obtain ⟨q, hq⟩ : ∃ q, (twinsX L r.1.1)[v] = q := ⟨_, rfl⟩
                  rw [hq] at hrt hot
                  have HCT := Lib.hid (show ((twinsX L r.1.1).take (v + 1)).count r.1 = ((twinsX L r.1.1).take v).count r.1 + if q = r.1 then 1 else 0 from by rw [count_step _ _ hvx, hq])
                  obtain ⟨cn, hcn⟩ : ∃ cn, ((twinsX L r.1.1).take v).count r.1 = cn := ⟨_, rfl⟩
                  have hcu : cn ≤ 200 := by have := List.count_le_length (a := r.1) (l := (twinsX L r.1.1).take v); rw [hcn, List.length_take] at this; omega
                  rw [hcn] at HCT ⊢
                  obtain ⟨Zq, hZq⟩ : ∃ Zq, kcs q = Zq := ⟨_, rfl⟩
                  have hZql : Zq.length = 33 := by rw [← hZq]; exact kcs_length hot
                  rw [hZq] at hrt
                  obtain ⟨rq, hrq⟩ : ∃ rq, decide (q = r.1) = rq := ⟨_, rfl⟩
                  have QE : ∀ W, (Op.equalIn 10000 27 (.agg Zq.toArray) (.agg Yk.toArray)).run Try.prog W = .ok rq W := fun W => by rw [← hZq, ← HY.out.1, ← hrq]; exact key_eq_in hot HOK.out.key W
                  have QG : Try.prog.eqGuardType Try.prog.depth 27 = false := key_guard
                  have HRQ := Lib.hid hrq
                  have HRS := Lib.hid hrt
                  have HQS := Lib.hid (show (Try.prog.info? 27).map (·.size) = some Zq.length from by rw [hZql]; exact key_size)
                  have HQS2 := Lib.hid (show (Try.prog.info? 27).map (·.size) = some Zq.toArray.size from by rw [List.size_toArray, hZql]; exact key_size)
                  have HQOLD := Lib.hid (show (kz 0).size = Zq.toArray.size from kz_size.trans (by rw [List.size_toArray, hZql]))
                  have HQZ := Lib.hid (Blk.new wr 27 (kz 0))
                  have HQONE := Lib.hid (show Zq.toArray.all (·.oneCell') = true from by rw [← hZq]; exact kcs_one)
                  obtain ⟨w8, hw8⟩ : ∃ w8, wr.alloc (.cells Zq.toArray 27) = w8 := ⟨_, rfl⟩
                  obtain ⟨sb, hsb⟩ : ∃ sb, wr.heap.size = sb := ⟨_, rfl⟩
                  have hb8 : Below wr.heap.size wr w8 := hw8 ▸ (Below.refl _ _).alloc (Nat.le_refl _) _
                  have hk8 : Blk w8 sb 27 Zq.toArray := by rw [← hw8, ← hsb]; exact Blk.new wr _ _
                  have HB8 := Lib.hid (show Below w10.heap.size w10 w8 from hbv.out.trans (hb8.mono hbv.out.size))
                  have R1 := Lib.hid (range_of_blk hk8)
                  have R2 := Lib.hid (HRB.out w8 (H10.out.1.trans (HB8.out.mono H10.out.1.size)))
                  have HW8 := Lib.hid (And.intro hw8 hsb)
                  subst hAT
                  have ui0 : (0 : Int) ≤ (v : Int) := by omega
                  have ui1 : (v : Int) < (nT : Int) := by omega
                  have hcT9 : nT ≤ 9223372036854775807 := by omega
                  clear hbv hrt hot hq hcn hZq hrq hw8 hsb hb8 hk8 hZql hgt hvx
                  cases rq with
                  | true =>
                    go_wp2_with (first
                      | refine wpList_load_mid rfl 27 (.tmp 84) rfl gt (ot + v * 33) rfl Zq (.struct fs) HRS.out HF.out.1 rfl HQS.out ?_
                      | (refine wpList_store_row rfl 27 (.tmp 15) (.tmp 85) rfl wr.heap.size Zq.toArray rfl rfl 27 (kz 0) HQZ.out HQS2.out HQOLD.out HQONE.out ?_; rw [setRow_alloc, HW8.out.1, HW8.out.2])
                      | refine wpList_load_mid rfl 27 (.tmp 15) rfl sb 0 rfl Zq (.struct fs) R1.out HF.out.1 rfl HQS.out ?_
                      | refine wpList_load_mid rfl 27 (.tmp 87) rfl rb 0 rfl Yk (.struct fs) R2.out.1.2.1 HF.out.1 rfl HYS.out ?_)
                    go_roundw
                    case rel => exact ⟨v + 1, by omega, by go_num, by rw [HCT.out, if_pos (of_decide_eq_true HRQ.out)]; go_num, Lib.hid HB8.out⟩
                    case measure => simp [intOf]; omega
                  | false =>
                    go_wp2_with (first
                      | refine wpList_load_mid rfl 27 (.tmp 84) rfl gt (ot + v * 33) rfl Zq (.struct fs) HRS.out HF.out.1 rfl HQS.out ?_
                      | (refine wpList_store_row rfl 27 (.tmp 15) (.tmp 85) rfl wr.heap.size Zq.toArray rfl rfl 27 (kz 0) HQZ.out HQS2.out HQOLD.out HQONE.out ?_; rw [setRow_alloc, HW8.out.1, HW8.out.2])
                      | refine wpList_load_mid rfl 27 (.tmp 15) rfl sb 0 rfl Zq (.struct fs) R1.out HF.out.1 rfl HQS.out ?_
                      | refine wpList_load_mid rfl 27 (.tmp 87) rfl rb 0 rfl Yk (.struct fs) R2.out.1.2.1 HF.out.1 rfl HYS.out ?_)
                    go_roundw
                    case rel => exact ⟨v + 1, by omega, by go_num, by rw [HCT.out, if_neg (of_decide_eq_false HRQ.out)]; rfl, Lib.hid HB8.out⟩
                    case measure => simp [intOf]; omega
                · obtain rfl : v = nT := by omega
                  rw [List.take_of_length_le (by rw [HNT.out]; exact Nat.le_refl _), count_twins HLR.out.rise HRM.out]
                  have hb11 := H10.out.1.trans (hbv.out.mono H10.out.1.size)
                  have H11 := Lib.hid hb11
                  have R2 := Lib.hid (HRB.out wr hb11)
                  have KG := K.get' R2.out.2.2 (by rw [HN.out]; omega) r.1 HOK.out.key
                  rw [get_mem HLR.out.rise HRM.out, has_mem HRM.out] at KG
                  unfold kv at KG
                  rw [HY.out.1] at KG
                  have epv : pv r.2 = .agg #[.int .i64 p1, .int .i64 p2] := by rw [← HPP.out.1, ← HPP.out.2]
                  rw [epv] at KG
                  replace KG := Lib.hid KG
                  clear hbv hb11 epv
                  go_wp2_with (refine wpList_load_mid rfl 27 (.tmp 95) rfl rb 0 rfl Yk (.struct fs) R2.out.1.2.1 HF.out.1 rfl HYS.out ?_)
                  refine KG.out.mono ?_
                  rintro e w12 ⟨rfl, hb12⟩
                  obtain ⟨w13, hw13⟩ : ∃ w13, w12.alloc (.cells #[.int .i64 p1, .int .i64 p2] 37) = w13 := ⟨_, rfl⟩
                  have hb13 : Below w12.heap.size w12 w13 := hw13 ▸ (Below.refl _ _).alloc (Nat.le_refl _) _
                  have H12 := Lib.hid (H11.out.trans (hb12.mono H11.out.size))
                  have H13 := Lib.hid (show Below w6.heap.size w6 w13 from H12.out.trans (hb13.mono H12.out.size))
                  have R3 := Lib.hid (show w13.rangeAt rb 33 [.int .i64 p1, .int .i64 p2] from by
                    have h1 := (HRB.out w13 H13.out).1.1
                    rw [← HY.out.2.2] at h1
                    have h2 := range_place HOK.out h1
                    rw [show pvs r.2 = [.int .i64 p1, .int .i64 p2] from by rw [← HPP.out.1, ← HPP.out.2]] at h2
                    exact h2)
                  have R4 := Lib.hid (show w13.rangeAt w12.heap.size 0 [.int .i64 p1, .int .i64 p2] from by rw [← hw13]; exact range_of_blk (Blk.new w12 37 #[.int .i64 p1, .int .i64 p2]))
                  have QE : ∀ W : World, (Op.equalIn 10000 37 (.agg #[.int .i64 p1, .int .i64 p2]) (.agg #[.int .i64 p1, .int .i64 p2])).run Try.prog W = .ok true W := fun W => by
                    have := place_eq (a := r.2) (b := r.2) ⟨HOK.out.shelf, HOK.out.slot⟩ ⟨HOK.out.shelf, HOK.out.slot⟩ W
                    rw [decide_eq_true rfl, show (pvs r.2).toArray = #[.int .i64 p1, .int .i64 p2] from by rw [← HPP.out.1, ← HPP.out.2]] at this
                    exact this
                  have QG := place_guard
                  have HRL := Lib.hid (HB6.out.trans (H13.out.mono HB6.out.size))
                  have HW13 := Lib.hid hw13
                  clear hb12 hb13 KG R2 hw13
                  go_wp2_with (refine wpList_mid_want (by rfl) 37 (.tmp 112) rfl rb 33 rfl [.int .i64 p1, .int .i64 p2] (.struct fp) (by rw [HW13.out]; exact R3.out) HF.out.2.2.2.1 rfl HP2S.out ?_)
                  go_roundw
                  case rel => exact ⟨t + 1, by omega, by go_num, by go_num, Lib.hid (by rw [HW13.out]; exact HRL.out)⟩
                  case measure => simp [intOf]; omega
        · obtain rfl : t = N := by omega
          have KL := K.len' (K.on H5.out.1 hbt.out) (by rw [HN.out]; omega)
          rw [HN.out] at KL
          replace KL := Lib.hid KL
          have HBT := Lib.hid (HBW.out.trans (hbt.out.mono HBW.out.size))
          clear hbt
          go_wp2_with fail
          refine KL.out.mono ?_
          rintro e w6 ⟨rfl, hb6⟩
          clear KL
          go_wp2_with fail
          go_ret
          exact ⟨rfl, HBT.out.trans (hb6.mono HBT.out.size)⟩
end
end Go.Proofs.Yteieaindejcfbaa
