/- IndexOrder's walk, told from what the package does. No statement of the seat is proved here. -/
import Derived.Test.YteieaindejcfbaaIxOrdB
import Derived.Deep.RegionHeld
namespace Go.Proofs.Yteieaindejcfbaa
open Go.RowKit
set_option linter.unusedVariables false
set_option linter.unusedSimpArgs false

section
variable {It : World → Addr → (Nat → Prop) → List RowT → Prop}
set_option maxRecDepth 100000 in
set_option maxHeartbeats 20000000 in
theorem order_walk (K : IndexesOk It) (A : Option Addr) (n c : Nat) (ls : List IAct) (hl : ls.length = n) (hc : n ≤ c) (hm : c ≤ maxLen) (w : World) (hr : RdIa w w.heap.size A ls) :
    Calls Try.prog 4 #[.slice A n c] w fun e w' => e = .returned (.bool true) ∧ Below w.heap.size w w' := by
  unfold maxLen at hm
  obtain ⟨m, hm'⟩ : ∃ m, m = min n 200 := ⟨_, rfl⟩
  have hmn : m ≤ n ∧ m ≤ 200 := by omega
  have HL := Lib.hid hl
  have HR := Lib.hid hr
  have KF := Lib.hid (fun W => few_any A n c m hm' hc W)
  obtain ⟨fs, hfs⟩ := key_desc
  obtain ⟨fa, hfa⟩ := iact_desc
  obtain ⟨fp, hfp⟩ := place_desc
  have HF := Lib.hid (And.intro hfs (And.intro hfa hfp))
  clear hl hr hm' hfs hfa hfp
  go_enter Try.func4, Try.ntmps4
  go_wp2_with fail
  refine (shown_any K w).mono ?_
  rintro e w2 ⟨rfl, hb2⟩
  have KN := Lib.hid (K.new' hb2)
  clear hb2
  go_wp2_with fail
  refine KN.out.mono ?_
  rintro e w3 ⟨s, rfl, h3⟩
  have H3 := Lib.hid h3
  clear h3 KN
  go_wp2_with fail
  refine (K.new w3).mono ?_
  rintro e w4 ⟨t, G, rfl, ht4, hG4, hb4⟩
  have H4 := Lib.hid (Two.made K.firm H3.out ht4 hG4 hb4)
  clear ht4 hG4 hb4 H3
  go_wp2_with fail
  refine (KF.out w4).mono ?_
  rintro e w5 ⟨rfl, rfl⟩
  go_wp2_with fail
  go_loopw [24] (fun i wr => ∃ (j : Nat) (L : List RowT), j ≤ m ∧ i = .int .i64 j ∧ Hid (Two It It w wr s t L [] ∧ L.length ≤ j)) (fun i _ => m - (intOf i).toNat)
  case atStart => exact ⟨0, [], Nat.zero_le _, rfl, Lib.hid ⟨H4.out, Nat.le_refl _⟩⟩
  case round =>
    clear H4 KF
    obtain ⟨j, L, hj, rfl, hst⟩ := hrel
    by_cases hlt : j < m
    · have hjx : j < ls.length := by rw [HL.out]; omega
      obtain ⟨F, hFt, hback⟩ := hst.out.1.turn K.firm K.firm
      have BACK := Lib.hid (show ∀ W S', Turned It wr s F W S' → Two It It w W s t S' [] from fun W S' h => hback h)
      have hbel := hst.out.1.bel
      obtain ⟨g, off, hA, hg, hra, hok⟩ := (HR.out.below hbel).at_ hjx
      obtain ⟨a, hae⟩ : ∃ a, ls[j] = a := ⟨_, rfl⟩
      rw [hae] at hra hok
      subst hA
      obtain ⟨Z, hZ⟩ : ∃ Z, ics a = Z := ⟨_, rfl⟩
      have hZl : Z.length = 36 := by rw [← hZ]; exact ics_length hok
      rw [hZ] at hra
      have HRA := Lib.hid hra
      have HKS := Lib.hid (show (Try.prog.info? 41).map (·.size) = some Z.length from by rw [hZl]; exact iact_size)
      have HKS2 := Lib.hid (show (Try.prog.info? 41).map (·.size) = some Z.toArray.size from by rw [List.size_toArray, hZl]; exact iact_size)
      have HOLD := Lib.hid (show iz.size = Z.toArray.size from iz_size.trans (by rw [List.size_toArray, hZl]))
      have HBZ := Lib.hid (Blk.new wr 41 iz)
      have HONE := Lib.hid (show Z.toArray.all (·.oneCell') = true from by rw [← hZ]; exact ics_one)
      obtain ⟨w5, hw5⟩ : ∃ w5, wr.alloc (.cells Z.toArray 41) = w5 := ⟨_, rfl⟩
      obtain ⟨ab, hab⟩ : ∃ ab, wr.heap.size = ab := ⟨_, rfl⟩
      have hb5 : Below wr.heap.size wr w5 := hw5 ▸ (Below.refl _ _).alloc (Nat.le_refl _) _
      have hk5 : Blk w5 ab 41 Z.toArray := by rw [← hw5, ← hab]; exact Blk.new wr _ _
      have hkok : KeyT.Ok a.2.1 := hok.key
      have hpo : PlOk a.2.2 := ⟨hok.shelf, hok.slot⟩
      have HLR := Lib.hid (K.rows hFt)
      obtain ⟨gn, hgn⟩ : ∃ gn, a.1 = gn := ⟨_, rfl⟩
      obtain ⟨Y, hY⟩ : ∃ Y, kcs a.2.1 = Y := ⟨_, rfl⟩
      have HYS := Lib.hid (show (Try.prog.info? 27).map (·.size) = some Y.length from by rw [← hY, kcs_length hkok]; exact key_size)
      have HPS := Lib.hid (show (Try.prog.info? 37).map (·.size) = some (pvs a.2.2).length from place_size)
      have HRW := Lib.hid (show ∀ W, Blk W ab 41 Z.toArray → W.rangeAt ab 1 Y ∧ W.rangeAt ab 34 (pvs a.2.2) ∧ W.cell? ⟨ab, 0, none⟩ = some (.bool gn) from fun W h => by
        rw [← hZ] at h
        have h1 := ics_row (range_of_blk h)
        have h2 := range_key h1
        rw [hY] at h2
        exact ⟨h2, range_place hok h1, by rw [← hgn]; exact h.cell 0⟩)
      have HW5 := Lib.hid (And.intro hw5 hab)
      have KP := K.putBox hFt hb5 hk5 (by rw [hab]; exact Nat.le_refl _) (by have := hst.out.2; omega) a.2.1 hkok a.2.2 hpo
      unfold kv pv at KP
      rw [hY] at KP
      replace KP := Lib.hid KP
      have HP1 := Lib.hid (show (putX L a.2.1 a.2.2).length ≤ j + 1 ∧ (dropX (putX L a.2.1 a.2.2) a.2.1).length ≤ j + 1 from by
        have e1 := putX_length L HLR.out.rise hkok HLR.out.key a.2.2
        have e2 := HLR.out.put hkok hpo
        have e3 := dropX_length _ e2.rise hkok e2.key
        have e4 := hst.out.2
        omega)
      have HOK := Lib.hid (And.intro hkok hpo)
      have HY := Lib.hid hY
      have R := Lib.hid (HRW.out w5 hk5)
      have hi1 : (0 : Int) ≤ (j : Int) := by omega
      have hi2 : (j : Int) < (m : Int) := by omega
      have hi3 : (j : Int) < (n : Int) := by omega
      clear hFt hback hst hra hok hae hjx hZ hZl hw5 hab hb5 hk5 hkok hpo hY hgn hbel hg
      go_wp2_with (first
        | refine wpList_load_mid rfl 41 (.tmp 26) rfl g (off + j * 36) rfl Z (.struct fa) HRA.out HF.out.2.1 rfl HKS.out ?_
        | (refine wpList_store_row rfl 41 (.tmp 7) (.tmp 27) rfl wr.heap.size Z.toArray rfl rfl 41 iz HBZ.out HKS2.out HOLD.out HONE.out ?_; rw [setRow_alloc, HW5.out.1, HW5.out.2])
        | refine wpList_load_mid rfl 27 (.tmp 30) rfl ab 1 rfl Y (.struct fs) R.out.1 HF.out.1 rfl HYS.out ?_
        | refine wpList_load_mid rfl 37 (.tmp 33) rfl ab 34 rfl (pvs a.2.2) (.struct fp) R.out.2.1 HF.out.2.2 rfl HPS.out ?_)
      refine KP.out.mono ?_
      rintro e w6 ⟨rfl, h6, hk6⟩
      have hc0 := (HRW.out w6 hk6).2.2
      cases gn with
      | true =>
        have R := Lib.hid (HRW.out w6 hk6)
        have KD := K.drop' h6 (by have := HP1.out.1; omega) a.2.1 HOK.out.1
        unfold kv at KD
        rw [HY.out] at KD
        replace KD := Lib.hid KD
        clear h6 hk6 KP
        go_wp2_with (refine wpList_load_mid rfl 27 (.tmp 40) rfl ab 1 rfl Y (.struct fs) R.out.1 HF.out.1 rfl HYS.out ?_)
        refine KD.out.mono ?_
        rintro e w7 ⟨rfl, h7⟩
        have HN := Lib.hid h7
        clear h7 KD R hc0
        go_wp2_with fail
        go_roundw
        case rel => exact ⟨j + 1, _, by omega, by go_num, Lib.hid ⟨BACK.out _ _ HN.out, HP1.out.2⟩⟩
        case measure => simp [intOf]; omega
      | false =>
        have HN := Lib.hid h6
        clear h6 hk6 KP
        go_wp2_with fail
        go_roundw
        case rel => exact ⟨j + 1, _, by omega, by go_num, Lib.hid ⟨BACK.out _ _ HN.out, HP1.out.1⟩⟩
        case measure => simp [intOf]; omega
    · obtain rfl : j = m := by omega
      have hL := hst.out.2
      have hTwo := hst.out.1
      have HLR := Lib.hid (K.rows hTwo.fst)
      have KA := K.all' hTwo.fst (by omega)
      obtain ⟨N, hN⟩ : ∃ N, L.length = N := ⟨_, rfl⟩
      rw [hN] at KA
      replace KA := Lib.hid KA
      have HST := Lib.hid hTwo
      have HN := Lib.hid hN
      have hN2 : N ≤ 200 := by omega
      clear hst hN hL hTwo
      go_wp2_with fail
      refine KA.out.mono ?_
      rintro e w5 ⟨AA, cA, rfl, hrA, hcA, hmA, hfr, hb5⟩
      obtain ⟨F, hFl, hFt, hback⟩ := HST.out.swap.turn2 K.firm K.firm hb5
      have BACK := Lib.hid (show ∀ W S', Turned It w5 t F W S' → Two It It w W s t L S' from fun W S' h => (hback h).swap)
      have HREAD := Lib.hid (show ∀ W S', Turned It w5 t F W S' → RdRw W w5.heap.size AA L from fun W S' h => rdrw_only h.only hrA fun ad ha hf => by have := hFl _ hf; have := hfr ad ha; omega)
      have H5 := Lib.hid hFt
      unfold maxLen at hmA
      clear hb5 hrA KA HST hfr hFl hFt hback
      go_wp2_with fail
      go_loopw [48] (fun i wr => ∃ (j : Nat) (R : List RowT), j ≤ N ∧ i = .int .i64 j ∧ Hid (Turned It w5 t F wr R ∧ R.map (·.1) = (L.drop (N - j)).map (·.1))) (fun i _ => N - (intOf i).toNat)
      case atStart => exact ⟨0, [], Nat.zero_le _, rfl, Lib.hid ⟨H5.out, by rw [Nat.sub_zero, ← HN.out, List.drop_length]⟩⟩
      case round =>
        clear H5
        obtain ⟨j, R, hj, rfl, hst⟩ := hrel
        by_cases hlt : j < N
        · obtain ⟨q, hq⟩ : ∃ q, N - 1 - j = q := ⟨_, rfl⟩
          have hqL : L.length - 1 - j = q := by rw [HN.out]; exact hq
          have hqx : q < L.length := by rw [HN.out]; omega
          obtain ⟨g, off, hA, hg, hra, hok⟩ := (HREAD.out wr R hst.out.1).at_ hqx
          obtain ⟨r, hre⟩ : ∃ r, L[q] = r := ⟨_, rfl⟩
          rw [hre] at hra hok
          obtain ⟨Yk, hYk⟩ : ∃ Yk, kcs r.1 = Yk := ⟨_, rfl⟩
          have HYS := Lib.hid (show (Try.prog.info? 27).map (·.size) = some Yk.length from by rw [← hYk, kcs_length hok.key]; exact key_size)
          have hrk := range_key hra
          rw [hYk] at hrk
          have HRK := Lib.hid hrk
          have hRl : R.length = j := by
            have := congrArg List.length hst.out.2
            rw [List.length_map, List.length_map, List.length_drop, HN.out] at this
            omega
          have KP := K.put' hst.out.1 (by omega) r.1 hok.key ((j : Int), 0) ⟨show In64 (j : Int) from ⟨by omega, by omega⟩, show In64 (0 : Int) from ⟨by omega, by omega⟩⟩
          unfold kv at KP
          rw [hYk, show pv ((j : Int), 0) = .agg #[.int .i64 (j : Int), .int .i64 0] from rfl] at KP
          replace KP := Lib.hid KP
          have HKEY := Lib.hid (show (putX R r.1 ((j : Int), 0)).map (·.1) = (L.drop (N - (j + 1))).map (·.1) from by
            have h := order_back (R := R) HLR.out.rise (j := j) (by rw [HN.out]; exact hlt) (by rw [HN.out, hst.out.2]) ((j : Int), 0)
            simp only [hqL, hre] at h
            rw [HN.out] at h
            exact h)
          have hq1 : (N : Int) - 1 = ((N - 1 : Nat) : Int) := by omega
          have hq2 : ((N - 1 : Nat) : Int) - (j : Int) = (q : Int) := by omega
          have hqN : (q : Int) < (N : Int) := by omega
          have hq0 : (0 : Int) ≤ (q : Int) := by omega
          have hi1 : (0 : Int) ≤ (j : Int) := by omega
          have hi2 : (j : Int) < (N : Int) := by omega
          have hcA9 : N ≤ 9223372036854775807 := by omega
          subst hA
          clear hst hra hok hre hYk hrk hqx hg hqL
          go_wp2_with (first
            | refine wpList_load_mid rfl 27 (.tmp 59) rfl g (off + q * 35) rfl Yk (.struct fs) HRK.out HF.out.1 rfl HYS.out ?_)
          refine KP.out.mono ?_
          rintro e w6 ⟨rfl, h6⟩
          have H6 := Lib.hid h6
          clear h6 KP
          go_wp2_with fail
          go_roundw
          case rel => exact ⟨j + 1, _, by omega, by go_num, Lib.hid ⟨H6.out, HKEY.out⟩⟩
          case measure => simp [intOf]; omega
        · obtain rfl : j = N := by omega
          have H6 := Lib.hid hst.out
          clear hst
          go_wp2_with fail
          go_loopw [67] (fun i wr => ∃ (u : Nat) (T : List RowT), u ≤ j ∧ i = .int .i64 u ∧ Hid (Turned It w5 t F wr (L.take u ++ T) ∧ T.map (·.1) = (L.drop u).map (·.1))) (fun i _ => j - (intOf i).toNat)
          case atStart => exact ⟨0, R, Nat.zero_le _, rfl, Lib.hid ⟨H6.out.1, by have := H6.out.2; rwa [Nat.sub_self] at this⟩⟩
          case round =>
            clear H6
            obtain ⟨u, T, hu, rfl, hst⟩ := hrel
            by_cases hul : u < j
            · have hux : u < L.length := by rw [HN.out]; exact hul
              obtain ⟨g, off, hA, hg, hra, hok⟩ := (HREAD.out wr _ hst.out.1).at_ hux
              obtain ⟨hhas, T', hput, hT'⟩ := order_set hux hst.out.2 (K.rows hst.out.1).rise
              obtain ⟨r, hre⟩ : ∃ r, L[u] = r := ⟨_, rfl⟩
              rw [hre] at hra hok hhas hput
              obtain ⟨Yk, hYk⟩ : ∃ Yk, kcs r.1 = Yk := ⟨_, rfl⟩
              obtain ⟨p1, hp1⟩ : ∃ p1, r.2.1 = p1 := ⟨_, rfl⟩
              obtain ⟨p2, hp2⟩ : ∃ p2, r.2.2 = p2 := ⟨_, rfl⟩
              have epv : pvs r.2 = [.int .i64 p1, .int .i64 p2] := by rw [← hp1, ← hp2]
              have HYS := Lib.hid (show (Try.prog.info? 27).map (·.size) = some Yk.length from by rw [← hYk, kcs_length hok.key]; exact key_size)
              have HP2S := Lib.hid (show (Try.prog.info? 37).map (·.size) = some ([.int .i64 p1, .int .i64 p2] : List Value).length from place_size)
              have hrk := range_key hra
              have hrp := range_place hok hra
              rw [hYk] at hrk
              rw [epv] at hrp
              have HRK := Lib.hid (show wr.drew.rangeAt g (off + u * 35) Yk from hrk)
              have HRP := Lib.hid (show wr.drew.rangeAt g (off + u * 35 + 33) [.int .i64 p1, .int .i64 p2] from hrp)
              have hTl : T.length ≤ 200 := by
                have := congrArg List.length hst.out.2
                rw [List.length_map, List.length_map, List.length_drop, HN.out] at this
                omega
              have KP := K.put' (K.on hst.out.1 (show Below wr.heap.size wr wr.drew from (Below.refl _ _).drew)) (by rw [List.length_append, List.length_take]; omega) r.1 hok.key r.2 ⟨hok.shelf, hok.slot⟩
              unfold kv at KP
              rw [hYk, show pv r.2 = .agg #[.int .i64 p1, .int .i64 p2] from by unfold pv; rw [epv], hhas, hput] at KP
              replace KP := Lib.hid KP
              have HT' := Lib.hid hT'
              subst hA
              have ui0 : (0 : Int) ≤ (u : Int) := by omega
              have ui1 : (u : Int) < (j : Int) := by omega
              have hcA9 : j ≤ 9223372036854775807 := by omega
              clear hst hra hok hre hYk hrk hrp hux hg hhas hput hT' hp1 hp2 epv
              go_wp2_with fail
              refine wp_region_still_tail 11 (by kernel_rfl) (by kernel_rfl) ?_
              simp only [List.take_succ_cons, List.take_zero, List.drop_succ_cons, List.drop_zero]
              repeat (first
                | refine wpStill_load_mid rfl 27 (.tmp 74) rfl g (off + u * 35) rfl Yk (.struct fs) HRK.out HF.out.1 rfl HYS.out ?_
                | refine wpStill_load_mid rfl 37 (.tmp 79) rfl g (off + u * 35 + 33) rfl [.int .i64 p1, .int .i64 p2] (.struct fp) HRP.out HF.out.2.2 rfl HP2S.out ?_
                | still_step)
              refine wpStill_nil ?_
              change wpList _ _ _ _ _ wr.drew
              go_wp2_with fail
              refine KP.out.mono ?_
              rintro e w6 ⟨rfl, h6⟩
              have H7 := Lib.hid h6
              clear h6 KP
              go_wp2_with fail
              go_roundw
              case rel => exact ⟨u + 1, _, by omega, by go_num, Lib.hid ⟨H7.out, HT'.out⟩⟩
              case measure => simp [intOf]; omega
            · obtain rfl : u = j := by omega
              have hTn : T = [] := by
                have := hst.out.2
                rw [List.drop_of_length_le (by rw [HN.out]; exact Nat.le_refl _)] at this
                simpa using this
              have hS := hst.out.1
              rw [hTn, List.append_nil, List.take_of_length_le (by rw [HN.out]; exact Nat.le_refl _)] at hS
              obtain ⟨w6, rfl⟩ : ∃ w6, w6 = wr := ⟨_, rfl⟩
              have FACT := Lib.hid (show ∀ W, Below w6.heap.size w6 W → Two It It w W s t L L ∧ RdRw W W.heap.size AA L from fun W hW => ⟨(BACK.out _ _ hS).on K.firm K.firm hW, ((HREAD.out _ _ hS).more hS.only.size).on hW⟩)
              clear hst hTn hS
              go_wp2_with fail
              go_loopw [86] (fun i wr => ∃ v : Nat, v ≤ u ∧ i = .int .i64 v ∧ Hid (Below w6.heap.size w6 wr)) (fun i _ => u - (intOf i).toNat)
              case atStart => exact ⟨0, Nat.zero_le _, rfl, Lib.hid (Below.refl _ _)⟩
              case round =>
                obtain ⟨v, hv, rfl, hbv⟩ := hrel
                by_cases hvl : v < u
                · have hvx : v < L.length := by rw [HN.out]; exact hvl
                  obtain ⟨g, off, hA, hg, hra, hok⟩ := (FACT.out w6 (Below.refl _ _)).2.at_ hvx
                  obtain ⟨r, hre⟩ : ∃ r, L[v] = r := ⟨_, rfl⟩
                  rw [hre] at hra hok
                  obtain ⟨Yk, hYk⟩ : ∃ Yk, kcs r.1 = Yk := ⟨_, rfl⟩
                  obtain ⟨p1, hp1⟩ : ∃ p1, r.2.1 = p1 := ⟨_, rfl⟩
                  have HYS := Lib.hid (show (Try.prog.info? 27).map (·.size) = some Yk.length from by rw [← hYk, kcs_length hok.key]; exact key_size)
                  obtain ⟨nS, hnS⟩ : ∃ nS, (shelfX L p1).length = nS := ⟨_, rfl⟩
                  have hnS2 : nS ≤ 200 := by have := shelfX_length L p1; rw [hnS, HN.out] at this; omega
                  have HNS := Lib.hid hnS
                  have hp64 : In64 p1 := by rw [← hp1]; exact hok.shelf
                  have KS1 := Lib.hid (fun W (hW : Below w6.heap.size w6 W) => K.shelf' (FACT.out W hW).1.fst (by rw [HN.out]; omega) p1 hp64)
                  have KS2 := Lib.hid (fun W (hW : Below w6.heap.size w6 W) => K.shelf' (FACT.out W hW).1.snd (by rw [HN.out]; omega) p1 hp64)
                  rw [hnS] at KS1 KS2
                  have KSR := Lib.hid (fun (A1 : Option Addr) (c1 : Nat) (A2 : Option Addr) (c2 : Nat) W (h1 : RdRw W W.heap.size A1 (shelfX L p1)) (h2 : RdRw W W.heap.size A2 (shelfX L p1)) => rsamerows_any A1 (shelfX L p1) nS c1 A2 (shelfX L p1) nS c2 hnS hnS (by omega) W h1 h2)
                  rw [decide_eq_true rfl] at KSR
                  have HK := Lib.hid (show ∀ W, Below w6.heap.size w6 W → W.rangeAt g (off + v * 35) Yk from fun W hW t x hx => by
                    rw [hW.cell (p := ⟨g, off + v * 35 + t, none⟩) hg]
                    have h1 := range_key hra
                    rw [hYk] at h1
                    exact h1 t x hx)
                  have HC := Lib.hid (show ∀ W, Below w6.heap.size w6 W → W.cell? ⟨g, off + v * 35 + 33, none⟩ = some (.int .i64 p1) from fun W hW => by
                    rw [hW.cell (p := ⟨g, off + v * 35 + 33, none⟩) hg]
                    rw [← hp1]
                    exact hra 33 _ (rcs_33 hok))
                  have vi0 : (0 : Int) ≤ (v : Int) := by omega
                  have vi1 : (v : Int) < (u : Int) := by omega
                  have hcA9 : u ≤ 9223372036854775807 := by omega
                  subst hA
                  have b0 : Below w6.heap.size w6 wr.drew := ⟨hbv.out.os, hbv.out.tape, hbv.out.output, hbv.out.size, hbv.out.block⟩
                  have HRE := Lib.hid (And.intro hre (And.intro hok.key hYk))
                  clear hbv hra hok hre hYk hp1 hnS
                  by_cases hv0 : v = 0
                  · subst hv0
                    have hgt : ¬ (0 : Int) < ((0 : Nat) : Int) := by omega
                    clear HRE
                    go_wp2_with fail
                    refine wp_region_held_drew (S := fun W => Below w6.heap.size w6 W) (by kernel_rfl) b0 (fun hHeld => ?_)
                    refine wpAnyH_take (i := 0) (oi := _) (v := .int .i64 (0 : Nat)) rfl (by kernel_rfl) (by kernel_rfl) (by kernel_rfl) (fun _ _ _ h => h) (Or.inl ⟨by rfl, by intro w hSw; go_simp⟩) b0 ?_
                    simp only [List.getElem_toArray, List.getElem_cons_zero, List.getElem_cons_succ, Act.put, List.setIfInBounds_toArray, List.set_cons_zero, List.set_cons_succ]
                    refine wpAnyH_take (i := 1) (oi := _) (v := .bool false) rfl (by kernel_rfl) (by kernel_rfl) (by kernel_rfl) (fun _ _ _ h => h) (Or.inl ⟨by rfl, by intro w hSw; go_simp⟩) b0 ?_
                    simp only [List.getElem_toArray, List.getElem_cons_zero, List.getElem_cons_succ, Act.put, List.setIfInBounds_toArray, List.set_cons_zero, List.set_cons_succ]
                    refine wpAnyH_take (i := 2) (oi := _) (v := .bool false) rfl (by kernel_rfl) (by kernel_rfl) (by kernel_rfl) (fun _ _ _ h => h) (Or.inl ⟨by rfl, by intro w hSw; go_simp⟩) b0 ?_
                    simp only [List.getElem_toArray, List.getElem_cons_zero, List.getElem_cons_succ, Act.put, List.setIfInBounds_toArray, List.set_cons_zero, List.set_cons_succ]
                    refine wpAnyH_take (i := 3) (oi := _) (v := undef) rfl (by kernel_rfl) (by kernel_rfl) (by kernel_rfl) (fun _ _ _ h => h) (Or.inr ⟨by rfl, rfl⟩) b0 ?_
                    simp only [List.getElem_toArray, List.getElem_cons_zero, List.getElem_cons_succ, Act.put, List.setIfInBounds_toArray, List.set_cons_zero, List.set_cons_succ]
                    refine wpAnyH_take (i := 4) (oi := _) (v := undef) rfl (by kernel_rfl) (by kernel_rfl) (by kernel_rfl) (fun _ _ _ h => h) (Or.inr ⟨by rfl, rfl⟩) b0 ?_
                    simp only [List.getElem_toArray, List.getElem_cons_zero, List.getElem_cons_succ, Act.put, List.setIfInBounds_toArray, List.set_cons_zero, List.set_cons_succ]
                    refine wpAnyH_take (i := 5) (oi := _) (v := undef) rfl (by kernel_rfl) (by kernel_rfl) (by kernel_rfl) (fun _ _ _ h => h) (Or.inr ⟨by rfl, rfl⟩) b0 ?_
                    simp only [List.getElem_toArray, List.getElem_cons_zero, List.getElem_cons_succ, Act.put, List.setIfInBounds_toArray, List.set_cons_zero, List.set_cons_succ]
                    refine wpAnyH_take (i := 6) (oi := _) (v := undef) rfl (by kernel_rfl) (by kernel_rfl) (by kernel_rfl) (fun _ _ _ h => h) (Or.inr ⟨by rfl, rfl⟩) b0 ?_
                    simp only [List.getElem_toArray, List.getElem_cons_zero, List.getElem_cons_succ, Act.put, List.setIfInBounds_toArray, List.set_cons_zero, List.set_cons_succ]
                    refine wpAnyH_take (i := 7) (oi := _) (v := undef) rfl (by kernel_rfl) (by kernel_rfl) (by kernel_rfl) (fun _ _ _ h => h) (Or.inr ⟨by rfl, rfl⟩) b0 ?_
                    simp only [List.getElem_toArray, List.getElem_cons_zero, List.getElem_cons_succ, Act.put, List.setIfInBounds_toArray, List.set_cons_zero, List.set_cons_succ]
                    refine wpAnyH_take (i := 8) (oi := _) (v := undef) rfl (by kernel_rfl) (by kernel_rfl) (by kernel_rfl) (fun _ _ _ h => h) (Or.inr ⟨by rfl, rfl⟩) b0 ?_
                    simp only [List.getElem_toArray, List.getElem_cons_zero, List.getElem_cons_succ, Act.put, List.setIfInBounds_toArray, List.set_cons_zero, List.set_cons_succ]
                    refine wpAnyH_take (i := 9) (oi := _) (v := undef) rfl (by kernel_rfl) (by kernel_rfl) (by kernel_rfl) (fun _ _ _ h => h) (Or.inr ⟨by rfl, rfl⟩) b0 ?_
                    simp only [List.getElem_toArray, List.getElem_cons_zero, List.getElem_cons_succ, Act.put, List.setIfInBounds_toArray, List.set_cons_zero, List.set_cons_succ]
                    refine wpAnyH_take (i := 10) (oi := _) (v := undef) rfl (by kernel_rfl) (by kernel_rfl) (by kernel_rfl) (fun _ _ _ h => h) (Or.inr ⟨by rfl, rfl⟩) b0 ?_
                    simp only [List.getElem_toArray, List.getElem_cons_zero, List.getElem_cons_succ, Act.put, List.setIfInBounds_toArray, List.set_cons_zero, List.set_cons_succ]
                    refine wpAnyH_take (i := 11) (oi := _) (v := undef) rfl (by kernel_rfl) (by kernel_rfl) (by kernel_rfl) (fun _ _ _ h => h) (Or.inr ⟨by rfl, rfl⟩) b0 ?_
                    simp only [List.getElem_toArray, List.getElem_cons_zero, List.getElem_cons_succ, Act.put, List.setIfInBounds_toArray, List.set_cons_zero, List.set_cons_succ]
                    refine wpAnyH_take (i := 12) (oi := _) (v := undef) rfl (by kernel_rfl) (by kernel_rfl) (by kernel_rfl) (fun _ _ _ h => h) (Or.inr ⟨by rfl, rfl⟩) b0 ?_
                    simp only [List.getElem_toArray, List.getElem_cons_zero, List.getElem_cons_succ, Act.put, List.setIfInBounds_toArray, List.set_cons_zero, List.set_cons_succ]
                    refine wpAnyH_take (i := 13) (oi := _) (v := undef) rfl (by kernel_rfl) (by kernel_rfl) (by kernel_rfl) (fun _ _ _ h => h) (Or.inr ⟨by rfl, rfl⟩) b0 ?_
                    simp only [List.getElem_toArray, List.getElem_cons_zero, List.getElem_cons_succ, Act.put, List.setIfInBounds_toArray, List.set_cons_zero, List.set_cons_succ]
                    refine wpAnyH_take (i := 14) (oi := _) (v := undef) rfl (by kernel_rfl) (by kernel_rfl) (by kernel_rfl) (fun _ _ _ h => h) (Or.inr ⟨by rfl, rfl⟩) b0 ?_
                    simp only [List.getElem_toArray, List.getElem_cons_zero, List.getElem_cons_succ, Act.put, List.setIfInBounds_toArray, List.set_cons_zero, List.set_cons_succ]
                    refine wpAnyH_take (i := 15) (oi := _) (v := undef) rfl (by kernel_rfl) (by kernel_rfl) (by kernel_rfl) (fun _ _ _ h => h) (Or.inr ⟨by rfl, rfl⟩) b0 ?_
                    simp only [List.getElem_toArray, List.getElem_cons_zero, List.getElem_cons_succ, Act.put, List.setIfInBounds_toArray, List.set_cons_zero, List.set_cons_succ]
                    refine wpAnyH_take (i := 16) (oi := _) (v := .bool false) rfl (by kernel_rfl) (by kernel_rfl) (by kernel_rfl) (fun _ _ _ h => h) (Or.inl ⟨by rfl, by intro w hSw; go_simp⟩) b0 ?_
                    simp only [List.getElem_toArray, List.getElem_cons_zero, List.getElem_cons_succ, Act.put, List.setIfInBounds_toArray, List.set_cons_zero, List.set_cons_succ]
                    refine wpAnyH_take (i := 17) (oi := _) (v := .bool false) rfl (by kernel_rfl) (by kernel_rfl) (by kernel_rfl) (fun _ _ _ h => h) (Or.inl ⟨by rfl, by intro w hSw; go_simp⟩) b0 ?_
                    simp only [List.getElem_toArray, List.getElem_cons_zero, List.getElem_cons_succ, Act.put, List.setIfInBounds_toArray, List.set_cons_zero, List.set_cons_succ]
                    refine wpAnyH_take (i := 18) (oi := _) (v := .pointer (some s)) rfl (by kernel_rfl) (by kernel_rfl) (by kernel_rfl) (fun _ _ _ h => h) (Or.inl ⟨by rfl, by intro w hSw; go_simp⟩) b0 ?_
                    simp only [List.getElem_toArray, List.getElem_cons_zero, List.getElem_cons_succ, Act.put, List.setIfInBounds_toArray, List.set_cons_zero, List.set_cons_succ]
                    refine wpAnyH_take (i := 19) (oi := _) (v := .slice (some ⟨g, off, none⟩) u cA) rfl (by kernel_rfl) (by kernel_rfl) (by kernel_rfl) (fun _ _ _ h => h) (Or.inl ⟨by rfl, by intro w hSw; go_simp⟩) b0 ?_
                    simp only [List.getElem_toArray, List.getElem_cons_zero, List.getElem_cons_succ, Act.put, List.setIfInBounds_toArray, List.set_cons_zero, List.set_cons_succ]
                    refine wpAnyH_take (i := 20) (oi := _) (v := .int .i64 (0 : Nat)) rfl (by kernel_rfl) (by kernel_rfl) (by kernel_rfl) (fun _ _ _ h => h) (Or.inl ⟨by rfl, by intro w hSw; go_simp⟩) b0 ?_
                    simp only [List.getElem_toArray, List.getElem_cons_zero, List.getElem_cons_succ, Act.put, List.setIfInBounds_toArray, List.set_cons_zero, List.set_cons_succ]
                    refine wpAnyH_take (i := 21) (oi := _) (v := .pointer (some ⟨g, off + 0 * 35, none⟩)) rfl (by kernel_rfl) (by kernel_rfl) (by kernel_rfl) (fun _ _ _ h => h) (Or.inl ⟨by rfl, by intro w hSw; go_simp⟩) b0 ?_
                    simp only [List.getElem_toArray, List.getElem_cons_zero, List.getElem_cons_succ, Act.put, List.setIfInBounds_toArray, List.set_cons_zero, List.set_cons_succ]
                    refine wpAnyH_take (i := 22) (oi := _) (v := .pointer (some ⟨g, off + 0 * 35 + 33, none⟩)) rfl (by kernel_rfl) (by kernel_rfl) (by kernel_rfl) (fun _ _ _ h => h) (Or.inl ⟨by rfl, by intro w hSw; go_simp⟩) b0 ?_
                    simp only [List.getElem_toArray, List.getElem_cons_zero, List.getElem_cons_succ, Act.put, List.setIfInBounds_toArray, List.set_cons_zero, List.set_cons_succ]
                    refine wpAnyH_take (i := 23) (oi := _) (v := .pointer (some ⟨g, off + 0 * 35 + 33, none⟩)) rfl (by kernel_rfl) (by kernel_rfl) (by kernel_rfl) (fun _ _ _ h => h) (Or.inl ⟨by rfl, by intro w hSw; go_simp⟩) b0 ?_
                    simp only [List.getElem_toArray, List.getElem_cons_zero, List.getElem_cons_succ, Act.put, List.setIfInBounds_toArray, List.set_cons_zero, List.set_cons_succ]
                    refine wpAnyH_take (i := 24) (oi := _) (v := .int .i64 p1) rfl (by kernel_rfl) (by kernel_rfl) (by kernel_rfl) (fun _ _ _ h => h) (Or.inl ⟨by rfl, by intro w hSw; have hcc := HC.out w hSw; go_simp⟩) b0 ?_
                    simp only [List.getElem_toArray, List.getElem_cons_zero, List.getElem_cons_succ, Act.put, List.setIfInBounds_toArray, List.set_cons_zero, List.set_cons_succ]
                    refine wpAnyH_take (i := 26) (oi := _) (v := .pointer (some t)) rfl (by kernel_rfl) (by kernel_rfl) (by kernel_rfl) (fun _ _ _ h => h) (Or.inl ⟨by rfl, by intro w hSw; go_simp⟩) b0 ?_
                    simp only [List.getElem_toArray, List.getElem_cons_zero, List.getElem_cons_succ, Act.put, List.setIfInBounds_toArray, List.set_cons_zero, List.set_cons_succ]
                    refine wpAnyH_take (i := 27) (oi := _) (v := .slice (some ⟨g, off, none⟩) u cA) rfl (by kernel_rfl) (by kernel_rfl) (by kernel_rfl) (fun _ _ _ h => h) (Or.inl ⟨by rfl, by intro w hSw; go_simp⟩) b0 ?_
                    simp only [List.getElem_toArray, List.getElem_cons_zero, List.getElem_cons_succ, Act.put, List.setIfInBounds_toArray, List.set_cons_zero, List.set_cons_succ]
                    refine wpAnyH_take (i := 28) (oi := _) (v := .int .i64 (0 : Nat)) rfl (by kernel_rfl) (by kernel_rfl) (by kernel_rfl) (fun _ _ _ h => h) (Or.inl ⟨by rfl, by intro w hSw; go_simp⟩) b0 ?_
                    simp only [List.getElem_toArray, List.getElem_cons_zero, List.getElem_cons_succ, Act.put, List.setIfInBounds_toArray, List.set_cons_zero, List.set_cons_succ]
                    refine wpAnyH_take (i := 29) (oi := _) (v := .pointer (some ⟨g, off + 0 * 35, none⟩)) rfl (by kernel_rfl) (by kernel_rfl) (by kernel_rfl) (fun _ _ _ h => h) (Or.inl ⟨by rfl, by intro w hSw; go_simp⟩) b0 ?_
                    simp only [List.getElem_toArray, List.getElem_cons_zero, List.getElem_cons_succ, Act.put, List.setIfInBounds_toArray, List.set_cons_zero, List.set_cons_succ]
                    refine wpAnyH_take (i := 30) (oi := _) (v := .pointer (some ⟨g, off + 0 * 35 + 33, none⟩)) rfl (by kernel_rfl) (by kernel_rfl) (by kernel_rfl) (fun _ _ _ h => h) (Or.inl ⟨by rfl, by intro w hSw; go_simp⟩) b0 ?_
                    simp only [List.getElem_toArray, List.getElem_cons_zero, List.getElem_cons_succ, Act.put, List.setIfInBounds_toArray, List.set_cons_zero, List.set_cons_succ]
                    refine wpAnyH_take (i := 31) (oi := _) (v := .pointer (some ⟨g, off + 0 * 35 + 33, none⟩)) rfl (by kernel_rfl) (by kernel_rfl) (by kernel_rfl) (fun _ _ _ h => h) (Or.inl ⟨by rfl, by intro w hSw; go_simp⟩) b0 ?_
                    simp only [List.getElem_toArray, List.getElem_cons_zero, List.getElem_cons_succ, Act.put, List.setIfInBounds_toArray, List.set_cons_zero, List.set_cons_succ]
                    refine wpAnyH_take (i := 32) (oi := _) (v := .int .i64 p1) rfl (by kernel_rfl) (by kernel_rfl) (by kernel_rfl) (fun _ _ _ h => h) (Or.inl ⟨by rfl, by intro w hSw; have hcc := HC.out w hSw; go_simp⟩) b0 ?_
                    simp only [List.getElem_toArray, List.getElem_cons_zero, List.getElem_cons_succ, Act.put, List.setIfInBounds_toArray, List.set_cons_zero, List.set_cons_succ]
                    refine wpAnyH_ready (rs := [25]) (by kernel_rfl) (by simp) ?_
                    refine AllReadyH.cons rfl (fun K hK => ?_) AllReadyH.nil
                    go_simp
                    (go_at_call 21; (with_reducible refine (KS1.out _ b0).mono ?_))
                    rintro e wf ⟨A1, c1, rfl, hr1, hc1, hm1, _, hb1⟩
                    have b2 := b0.trans (hb1.mono b0.size)
                    go_wp2_with fail
                    refine hK.out _ _ b2 (fun _ => ?_)
                    clear hK K
                    try simp only [List.getElem_toArray, List.getElem_cons_zero, List.getElem_cons_succ, Act.put, List.setIfInBounds_toArray, List.set_cons_zero, List.set_cons_succ]
                    refine wpAnyH_ready (rs := [33]) (by kernel_rfl) (by simp) ?_
                    refine AllReadyH.cons rfl (fun K hK => ?_) AllReadyH.nil
                    go_simp
                    (go_at_call 21; (with_reducible refine (KS2.out _ b2).mono ?_))
                    rintro e wg ⟨A2, c2, rfl, hr2, hc2, hm2, _, hb2⟩
                    have b3 := b2.trans (hb2.mono b2.size)
                    go_wp2_with fail
                    refine hK.out _ _ b3 (fun _ => ?_)
                    clear hK K
                    try simp only [List.getElem_toArray, List.getElem_cons_zero, List.getElem_cons_succ, Act.put, List.setIfInBounds_toArray, List.set_cons_zero, List.set_cons_succ]
                    refine wpAnyH_ready (rs := [34]) (by kernel_rfl) (by simp) ?_
                    refine AllReadyH.cons rfl (fun K hK => ?_) AllReadyH.nil
                    go_simp
                    (go_at_call 20; (with_reducible refine (KSR.out _ _ _ _ _ (hr1.on hb2) hr2).mono ?_))
                    rintro e wh ⟨rfl, hb3⟩
                    have b4 := b3.trans (hb3.mono b3.size)
                    go_wp2_with fail
                    refine hK.out _ _ b4 (fun _ => ?_)
                    clear hK K
                    try simp only [List.getElem_toArray, List.getElem_cons_zero, List.getElem_cons_succ, Act.put, List.setIfInBounds_toArray, List.set_cons_zero, List.set_cons_succ]
                    refine wpAnyH_take (i := 35) (oi := _) (v := .bool false) rfl (by kernel_rfl) (by kernel_rfl) (by kernel_rfl) (fun _ _ _ h => h) (Or.inl ⟨by rfl, by intro w hSw; go_simp⟩) b4 ?_
                    simp only [List.getElem_toArray, List.getElem_cons_zero, List.getElem_cons_succ, Act.put, List.setIfInBounds_toArray, List.set_cons_zero, List.set_cons_succ]
                    refine wpAnyH_take (i := 36) (oi := _) (v := .bool false) rfl (by kernel_rfl) (by kernel_rfl) (by kernel_rfl) (fun _ _ _ h => h) (Or.inl ⟨by rfl, by intro w hSw; go_simp⟩) b4 ?_
                    simp only [List.getElem_toArray, List.getElem_cons_zero, List.getElem_cons_succ, Act.put, List.setIfInBounds_toArray, List.set_cons_zero, List.set_cons_succ]
                    refine wpAnyH_done (by kernel_rfl) ?_ _
                    have HB4 := Lib.hid b4
                    clear b0 b2 b3 b4 hb1 hb2 hb3 hr1 hr2 hHeld
                    go_wp2_with fail
                    go_roundw
                    case rel => exact ⟨0 + 1, by omega, by go_num, Lib.hid HB4.out⟩
                    case measure => simp [intOf]; omega
                  · obtain ⟨x, hx⟩ : ∃ x, v - 1 = x := ⟨_, rfl⟩
                    have hgt : (0 : Int) < (v : Int) := by omega
                    have hvx1 : (v : Int) - 1 = (x : Int) := by omega
                    have WX := Lib.hid (show IntKind.i64.wrap ((v : Int) - 1) = (x : Int) from by rw [hvx1, IntKind.wrap_i64]; omega)
                    have xi0 : (0 : Int) ≤ (x : Int) := by omega
                    have xi1 : (x : Int) < (u : Int) := by omega
                    have hxx : x < L.length := by rw [HN.out]; omega
                    obtain ⟨g', off', hA', hg', hra', hok'⟩ := (FACT.out w6 (Below.refl _ _)).2.at_ hxx
                    injection hA' with hA'
                    injection hA' with e1 e2 _
                    subst e1 e2
                    obtain ⟨r', hre'⟩ : ∃ r', L[x] = r' := ⟨_, rfl⟩
                    rw [hre'] at hra' hok'
                    obtain ⟨Ya, hYa⟩ : ∃ Ya, kcs r'.1 = Ya := ⟨_, rfl⟩
                    have HAS := Lib.hid (show (Try.prog.info? 27).map (·.size) = some Ya.length from by rw [← hYa, kcs_length hok'.key]; exact key_size)
                    have HKA := Lib.hid (show ∀ W, Below w6.heap.size w6 W → W.rangeAt g (off + x * 35) Ya from fun W hW t z hz => by
                      rw [hW.cell (p := ⟨g, off + x * 35 + t, none⟩) hg']
                      have h1 := range_key hra'
                      rw [hYa] at h1
                      exact h1 t z hz)
                    have KLS := Lib.hid (fun W => rless_any r'.1 r.1 hok'.key HRE.out.2.1 W)
                    unfold kv at KLS
                    rw [hYa, HRE.out.2.2, decide_eq_true (show ordK r'.1 < ordK r.1 from by
                      have := List.pairwise_iff_getElem.1 HLR.out.rise x v hxx hvx (by omega)
                      rw [hre', HRE.out.1] at this
                      exact this)] at KLS
                    clear HRE hra' hok' hre' hYa hg' hxx hx
                    go_wp2_with fail
                    refine wp_region_held_drew (S := fun W => Below w6.heap.size w6 W) (by kernel_rfl) b0 (fun hHeld => ?_)
                    refine wpAnyH_take (i := 0) (oi := _) (v := .int .i64 (v : Nat)) rfl (by kernel_rfl) (by kernel_rfl) (by kernel_rfl) (fun _ _ _ h => h) (Or.inl ⟨by rfl, by intro w hSw; go_simp⟩) b0 ?_
                    simp only [List.getElem_toArray, List.getElem_cons_zero, List.getElem_cons_succ, Act.put, List.setIfInBounds_toArray, List.set_cons_zero, List.set_cons_succ]
                    refine wpAnyH_take (i := 1) (oi := _) (v := .bool true) rfl (by kernel_rfl) (by kernel_rfl) (by kernel_rfl) (fun _ _ _ h => h) (Or.inl ⟨by rfl, by intro w hSw; go_simp; first | omega | (simp; omega) | exact hgt⟩) b0 ?_
                    simp only [List.getElem_toArray, List.getElem_cons_zero, List.getElem_cons_succ, Act.put, List.setIfInBounds_toArray, List.set_cons_zero, List.set_cons_succ]
                    refine wpAnyH_take (i := 2) (oi := _) (v := .bool true) rfl (by kernel_rfl) (by kernel_rfl) (by kernel_rfl) (fun _ _ _ h => h) (Or.inl ⟨by rfl, by intro w hSw; go_simp⟩) b0 ?_
                    simp only [List.getElem_toArray, List.getElem_cons_zero, List.getElem_cons_succ, Act.put, List.setIfInBounds_toArray, List.set_cons_zero, List.set_cons_succ]
                    refine wpAnyH_take (i := 3) (oi := _) (v := .slice (some ⟨g, off, none⟩) u cA) rfl (by kernel_rfl) (by kernel_rfl) (by kernel_rfl) (fun _ _ _ h => h) (Or.inl ⟨by rfl, by intro w hSw; go_simp⟩) b0 ?_
                    simp only [List.getElem_toArray, List.getElem_cons_zero, List.getElem_cons_succ, Act.put, List.setIfInBounds_toArray, List.set_cons_zero, List.set_cons_succ]
                    refine wpAnyH_take (i := 4) (oi := _) (v := .int .i64 (v : Nat)) rfl (by kernel_rfl) (by kernel_rfl) (by kernel_rfl) (fun _ _ _ h => h) (Or.inl ⟨by rfl, by intro w hSw; go_simp⟩) b0 ?_
                    simp only [List.getElem_toArray, List.getElem_cons_zero, List.getElem_cons_succ, Act.put, List.setIfInBounds_toArray, List.set_cons_zero, List.set_cons_succ]
                    refine wpAnyH_take (i := 5) (oi := _) (v := .int .i64 (x : Nat)) rfl (by kernel_rfl) (by kernel_rfl) (by kernel_rfl) (fun _ _ _ h => h) (Or.inl ⟨by rfl, by intro w hSw; have wx := WX.out; go_simp; first | done | omega | (rw [wx]; done) | (simp only [hvx1, wx]; done) | (rw [IntKind.wrap_i64]; omega)⟩) b0 ?_
                    simp only [List.getElem_toArray, List.getElem_cons_zero, List.getElem_cons_succ, Act.put, List.setIfInBounds_toArray, List.set_cons_zero, List.set_cons_succ]
                    refine wpAnyH_take (i := 6) (oi := _) (v := .pointer (some ⟨g, off + x * 35, none⟩)) rfl (by kernel_rfl) (by kernel_rfl) (by kernel_rfl) (fun _ _ _ h => h) (Or.inl ⟨by rfl, by intro w hSw; go_simp⟩) b0 ?_
                    simp only [List.getElem_toArray, List.getElem_cons_zero, List.getElem_cons_succ, Act.put, List.setIfInBounds_toArray, List.set_cons_zero, List.set_cons_succ]
                    refine wpAnyH_take (i := 7) (oi := _) (v := .pointer (some ⟨g, off + x * 35, none⟩)) rfl (by kernel_rfl) (by kernel_rfl) (by kernel_rfl) (fun _ _ _ h => h) (Or.inl ⟨by rfl, by intro w hSw; go_simp⟩) b0 ?_
                    simp only [List.getElem_toArray, List.getElem_cons_zero, List.getElem_cons_succ, Act.put, List.setIfInBounds_toArray, List.set_cons_zero, List.set_cons_succ]
                    refine wpAnyH_take (i := 8) (oi := _) (v := .agg Ya.toArray) rfl (by kernel_rfl) (by kernel_rfl) (by kernel_rfl) (fun _ _ _ h => h) (yields_mid (by rfl) 27 (.tmp 96) rfl g (off + x * 35) rfl Ya (.struct fs) (fun W hW => HKA.out W hW) HF.out.1 rfl HAS.out) b0 ?_
                    simp only [List.getElem_toArray, List.getElem_cons_zero, List.getElem_cons_succ, Act.put, List.setIfInBounds_toArray, List.set_cons_zero, List.set_cons_succ]
                    refine wpAnyH_take (i := 9) (oi := _) (v := .slice (some ⟨g, off, none⟩) u cA) rfl (by kernel_rfl) (by kernel_rfl) (by kernel_rfl) (fun _ _ _ h => h) (Or.inl ⟨by rfl, by intro w hSw; go_simp⟩) b0 ?_
                    simp only [List.getElem_toArray, List.getElem_cons_zero, List.getElem_cons_succ, Act.put, List.setIfInBounds_toArray, List.set_cons_zero, List.set_cons_succ]
                    refine wpAnyH_take (i := 10) (oi := _) (v := .int .i64 (v : Nat)) rfl (by kernel_rfl) (by kernel_rfl) (by kernel_rfl) (fun _ _ _ h => h) (Or.inl ⟨by rfl, by intro w hSw; go_simp⟩) b0 ?_
                    simp only [List.getElem_toArray, List.getElem_cons_zero, List.getElem_cons_succ, Act.put, List.setIfInBounds_toArray, List.set_cons_zero, List.set_cons_succ]
                    refine wpAnyH_take (i := 11) (oi := _) (v := .pointer (some ⟨g, off + v * 35, none⟩)) rfl (by kernel_rfl) (by kernel_rfl) (by kernel_rfl) (fun _ _ _ h => h) (Or.inl ⟨by rfl, by intro w hSw; go_simp⟩) b0 ?_
                    simp only [List.getElem_toArray, List.getElem_cons_zero, List.getElem_cons_succ, Act.put, List.setIfInBounds_toArray, List.set_cons_zero, List.set_cons_succ]
                    refine wpAnyH_take (i := 12) (oi := _) (v := .pointer (some ⟨g, off + v * 35, none⟩)) rfl (by kernel_rfl) (by kernel_rfl) (by kernel_rfl) (fun _ _ _ h => h) (Or.inl ⟨by rfl, by intro w hSw; go_simp⟩) b0 ?_
                    simp only [List.getElem_toArray, List.getElem_cons_zero, List.getElem_cons_succ, Act.put, List.setIfInBounds_toArray, List.set_cons_zero, List.set_cons_succ]
                    refine wpAnyH_take (i := 13) (oi := _) (v := .agg Yk.toArray) rfl (by kernel_rfl) (by kernel_rfl) (by kernel_rfl) (fun _ _ _ h => h) (yields_mid (by rfl) 27 (.tmp 101) rfl g (off + v * 35) rfl Yk (.struct fs) (fun W hW => HK.out W hW) HF.out.1 rfl HYS.out) b0 ?_
                    simp only [List.getElem_toArray, List.getElem_cons_zero, List.getElem_cons_succ, Act.put, List.setIfInBounds_toArray, List.set_cons_zero, List.set_cons_succ]
                    refine wpAnyH_ready (rs := [14]) (by kernel_rfl) (by simp) ?_
                    refine AllReadyH.cons rfl (fun K hK => ?_) AllReadyH.nil
                    go_simp
                    (go_at_call 25; (with_reducible refine (KLS.out _).mono ?_))
                    rintro e we ⟨rfl, hbe⟩
                    have b1 := b0.trans (hbe.mono b0.size)
                    go_wp2_with fail
                    refine hK.out _ _ b1 (fun _ => ?_)
                    clear hK K
                    try simp only [List.getElem_toArray, List.getElem_cons_zero, List.getElem_cons_succ, Act.put, List.setIfInBounds_toArray, List.set_cons_zero, List.set_cons_succ]
                    refine wpAnyH_take (i := 15) (oi := _) (v := .bool false) rfl (by kernel_rfl) (by kernel_rfl) (by kernel_rfl) (fun _ _ _ h => h) (Or.inl ⟨by rfl, by intro w hSw; go_simp⟩) b1 ?_
                    simp only [List.getElem_toArray, List.getElem_cons_zero, List.getElem_cons_succ, Act.put, List.setIfInBounds_toArray, List.set_cons_zero, List.set_cons_succ]
                    refine wpAnyH_take (i := 16) (oi := _) (v := .bool false) rfl (by kernel_rfl) (by kernel_rfl) (by kernel_rfl) (fun _ _ _ h => h) (Or.inl ⟨by rfl, by intro w hSw; go_simp⟩) b1 ?_
                    simp only [List.getElem_toArray, List.getElem_cons_zero, List.getElem_cons_succ, Act.put, List.setIfInBounds_toArray, List.set_cons_zero, List.set_cons_succ]
                    refine wpAnyH_take (i := 17) (oi := _) (v := .bool false) rfl (by kernel_rfl) (by kernel_rfl) (by kernel_rfl) (fun _ _ _ h => h) (Or.inl ⟨by rfl, by intro w hSw; go_simp⟩) b1 ?_
                    simp only [List.getElem_toArray, List.getElem_cons_zero, List.getElem_cons_succ, Act.put, List.setIfInBounds_toArray, List.set_cons_zero, List.set_cons_succ]
                    refine wpAnyH_take (i := 18) (oi := _) (v := .pointer (some s)) rfl (by kernel_rfl) (by kernel_rfl) (by kernel_rfl) (fun _ _ _ h => h) (Or.inl ⟨by rfl, by intro w hSw; go_simp⟩) b1 ?_
                    simp only [List.getElem_toArray, List.getElem_cons_zero, List.getElem_cons_succ, Act.put, List.setIfInBounds_toArray, List.set_cons_zero, List.set_cons_succ]
                    refine wpAnyH_take (i := 19) (oi := _) (v := .slice (some ⟨g, off, none⟩) u cA) rfl (by kernel_rfl) (by kernel_rfl) (by kernel_rfl) (fun _ _ _ h => h) (Or.inl ⟨by rfl, by intro w hSw; go_simp⟩) b1 ?_
                    simp only [List.getElem_toArray, List.getElem_cons_zero, List.getElem_cons_succ, Act.put, List.setIfInBounds_toArray, List.set_cons_zero, List.set_cons_succ]
                    refine wpAnyH_take (i := 20) (oi := _) (v := .int .i64 (v : Nat)) rfl (by kernel_rfl) (by kernel_rfl) (by kernel_rfl) (fun _ _ _ h => h) (Or.inl ⟨by rfl, by intro w hSw; go_simp⟩) b1 ?_
                    simp only [List.getElem_toArray, List.getElem_cons_zero, List.getElem_cons_succ, Act.put, List.setIfInBounds_toArray, List.set_cons_zero, List.set_cons_succ]
                    refine wpAnyH_take (i := 21) (oi := _) (v := .pointer (some ⟨g, off + v * 35, none⟩)) rfl (by kernel_rfl) (by kernel_rfl) (by kernel_rfl) (fun _ _ _ h => h) (Or.inl ⟨by rfl, by intro w hSw; go_simp⟩) b1 ?_
                    simp only [List.getElem_toArray, List.getElem_cons_zero, List.getElem_cons_succ, Act.put, List.setIfInBounds_toArray, List.set_cons_zero, List.set_cons_succ]
                    refine wpAnyH_take (i := 22) (oi := _) (v := .pointer (some ⟨g, off + v * 35 + 33, none⟩)) rfl (by kernel_rfl) (by kernel_rfl) (by kernel_rfl) (fun _ _ _ h => h) (Or.inl ⟨by rfl, by intro w hSw; go_simp⟩) b1 ?_
                    simp only [List.getElem_toArray, List.getElem_cons_zero, List.getElem_cons_succ, Act.put, List.setIfInBounds_toArray, List.set_cons_zero, List.set_cons_succ]
                    refine wpAnyH_take (i := 23) (oi := _) (v := .pointer (some ⟨g, off + v * 35 + 33, none⟩)) rfl (by kernel_rfl) (by kernel_rfl) (by kernel_rfl) (fun _ _ _ h => h) (Or.inl ⟨by rfl, by intro w hSw; go_simp⟩) b1 ?_
                    simp only [List.getElem_toArray, List.getElem_cons_zero, List.getElem_cons_succ, Act.put, List.setIfInBounds_toArray, List.set_cons_zero, List.set_cons_succ]
                    refine wpAnyH_take (i := 24) (oi := _) (v := .int .i64 p1) rfl (by kernel_rfl) (by kernel_rfl) (by kernel_rfl) (fun _ _ _ h => h) (Or.inl ⟨by rfl, by intro w hSw; have hcc := HC.out w hSw; go_simp⟩) b1 ?_
                    simp only [List.getElem_toArray, List.getElem_cons_zero, List.getElem_cons_succ, Act.put, List.setIfInBounds_toArray, List.set_cons_zero, List.set_cons_succ]
                    refine wpAnyH_take (i := 26) (oi := _) (v := .pointer (some t)) rfl (by kernel_rfl) (by kernel_rfl) (by kernel_rfl) (fun _ _ _ h => h) (Or.inl ⟨by rfl, by intro w hSw; go_simp⟩) b1 ?_
                    simp only [List.getElem_toArray, List.getElem_cons_zero, List.getElem_cons_succ, Act.put, List.setIfInBounds_toArray, List.set_cons_zero, List.set_cons_succ]
                    refine wpAnyH_take (i := 27) (oi := _) (v := .slice (some ⟨g, off, none⟩) u cA) rfl (by kernel_rfl) (by kernel_rfl) (by kernel_rfl) (fun _ _ _ h => h) (Or.inl ⟨by rfl, by intro w hSw; go_simp⟩) b1 ?_
                    simp only [List.getElem_toArray, List.getElem_cons_zero, List.getElem_cons_succ, Act.put, List.setIfInBounds_toArray, List.set_cons_zero, List.set_cons_succ]
                    refine wpAnyH_take (i := 28) (oi := _) (v := .int .i64 (v : Nat)) rfl (by kernel_rfl) (by kernel_rfl) (by kernel_rfl) (fun _ _ _ h => h) (Or.inl ⟨by rfl, by intro w hSw; go_simp⟩) b1 ?_
                    simp only [List.getElem_toArray, List.getElem_cons_zero, List.getElem_cons_succ, Act.put, List.setIfInBounds_toArray, List.set_cons_zero, List.set_cons_succ]
                    refine wpAnyH_take (i := 29) (oi := _) (v := .pointer (some ⟨g, off + v * 35, none⟩)) rfl (by kernel_rfl) (by kernel_rfl) (by kernel_rfl) (fun _ _ _ h => h) (Or.inl ⟨by rfl, by intro w hSw; go_simp⟩) b1 ?_
                    simp only [List.getElem_toArray, List.getElem_cons_zero, List.getElem_cons_succ, Act.put, List.setIfInBounds_toArray, List.set_cons_zero, List.set_cons_succ]
                    refine wpAnyH_take (i := 30) (oi := _) (v := .pointer (some ⟨g, off + v * 35 + 33, none⟩)) rfl (by kernel_rfl) (by kernel_rfl) (by kernel_rfl) (fun _ _ _ h => h) (Or.inl ⟨by rfl, by intro w hSw; go_simp⟩) b1 ?_
                    simp only [List.getElem_toArray, List.getElem_cons_zero, List.getElem_cons_succ, Act.put, List.setIfInBounds_toArray, List.set_cons_zero, List.set_cons_succ]
                    refine wpAnyH_take (i := 31) (oi := _) (v := .pointer (some ⟨g, off + v * 35 + 33, none⟩)) rfl (by kernel_rfl) (by kernel_rfl) (by kernel_rfl) (fun _ _ _ h => h) (Or.inl ⟨by rfl, by intro w hSw; go_simp⟩) b1 ?_
                    simp only [List.getElem_toArray, List.getElem_cons_zero, List.getElem_cons_succ, Act.put, List.setIfInBounds_toArray, List.set_cons_zero, List.set_cons_succ]
                    refine wpAnyH_take (i := 32) (oi := _) (v := .int .i64 p1) rfl (by kernel_rfl) (by kernel_rfl) (by kernel_rfl) (fun _ _ _ h => h) (Or.inl ⟨by rfl, by intro w hSw; have hcc := HC.out w hSw; go_simp⟩) b1 ?_
                    simp only [List.getElem_toArray, List.getElem_cons_zero, List.getElem_cons_succ, Act.put, List.setIfInBounds_toArray, List.set_cons_zero, List.set_cons_succ]
                    refine wpAnyH_ready (rs := [25]) (by kernel_rfl) (by simp) ?_
                    refine AllReadyH.cons rfl (fun K hK => ?_) AllReadyH.nil
                    go_simp
                    (go_at_call 21; (with_reducible refine (KS1.out _ b1).mono ?_))
                    rintro e wf ⟨A1, c1, rfl, hr1, hc1, hm1, _, hb1⟩
                    have b2 := b1.trans (hb1.mono b1.size)
                    go_wp2_with fail
                    refine hK.out _ _ b2 (fun _ => ?_)
                    clear hK K
                    try simp only [List.getElem_toArray, List.getElem_cons_zero, List.getElem_cons_succ, Act.put, List.setIfInBounds_toArray, List.set_cons_zero, List.set_cons_succ]
                    refine wpAnyH_ready (rs := [33]) (by kernel_rfl) (by simp) ?_
                    refine AllReadyH.cons rfl (fun K hK => ?_) AllReadyH.nil
                    go_simp
                    (go_at_call 21; (with_reducible refine (KS2.out _ b2).mono ?_))
                    rintro e wg ⟨A2, c2, rfl, hr2, hc2, hm2, _, hb2⟩
                    have b3 := b2.trans (hb2.mono b2.size)
                    go_wp2_with fail
                    refine hK.out _ _ b3 (fun _ => ?_)
                    clear hK K
                    try simp only [List.getElem_toArray, List.getElem_cons_zero, List.getElem_cons_succ, Act.put, List.setIfInBounds_toArray, List.set_cons_zero, List.set_cons_succ]
                    refine wpAnyH_ready (rs := [34]) (by kernel_rfl) (by simp) ?_
                    refine AllReadyH.cons rfl (fun K hK => ?_) AllReadyH.nil
                    go_simp
                    (go_at_call 20; (with_reducible refine (KSR.out _ _ _ _ _ (hr1.on hb2) hr2).mono ?_))
                    rintro e wh ⟨rfl, hb3⟩
                    have b4 := b3.trans (hb3.mono b3.size)
                    go_wp2_with fail
                    refine hK.out _ _ b4 (fun _ => ?_)
                    clear hK K
                    try simp only [List.getElem_toArray, List.getElem_cons_zero, List.getElem_cons_succ, Act.put, List.setIfInBounds_toArray, List.set_cons_zero, List.set_cons_succ]
                    refine wpAnyH_take (i := 35) (oi := _) (v := .bool false) rfl (by kernel_rfl) (by kernel_rfl) (by kernel_rfl) (fun _ _ _ h => h) (Or.inl ⟨by rfl, by intro w hSw; go_simp⟩) b4 ?_
                    simp only [List.getElem_toArray, List.getElem_cons_zero, List.getElem_cons_succ, Act.put, List.setIfInBounds_toArray, List.set_cons_zero, List.set_cons_succ]
                    refine wpAnyH_take (i := 36) (oi := _) (v := .bool false) rfl (by kernel_rfl) (by kernel_rfl) (by kernel_rfl) (fun _ _ _ h => h) (Or.inl ⟨by rfl, by intro w hSw; go_simp⟩) b4 ?_
                    simp only [List.getElem_toArray, List.getElem_cons_zero, List.getElem_cons_succ, Act.put, List.setIfInBounds_toArray, List.set_cons_zero, List.set_cons_succ]
                    refine wpAnyH_done (by kernel_rfl) ?_ _
                    have HB4 := Lib.hid b4
                    clear b0 b2 b3 b4 hb1 hb2 hb3 hr1 hr2 hHeld
                    go_wp2_with fail
                    go_roundw
                    case rel => exact ⟨v + 1, by omega, by go_num, Lib.hid HB4.out⟩
                    case measure => simp [intOf]; omega
                · obtain rfl : v = u := by omega
                  have HBV := Lib.hid hbv.out
                  have KA2 := K.all' (FACT.out wr hbv.out).1.snd (by rw [HN.out]; omega)
                  rw [HN.out] at KA2
                  replace KA2 := Lib.hid KA2
                  have KSR := Lib.hid (fun (A1 : Option Addr) (c1 : Nat) W (h1 : RdRw W W.heap.size A1 L) (h2 : RdRw W W.heap.size AA L) => rsamerows_any A1 L v c1 AA L v cA HN.out HN.out (by omega) W h1 h2)
                  rw [decide_eq_true rfl] at KSR
                  have KL1 := Lib.hid (fun W (hW : Below w6.heap.size w6 W) => K.len' (FACT.out W hW).1.fst (by rw [HN.out]; omega))
                  have KL2 := Lib.hid (fun W (hW : Below w6.heap.size w6 W) => K.len' (FACT.out W hW).1.snd (by rw [HN.out]; omega))
                  rw [HN.out] at KL1 KL2
                  clear hbv
                  go_wp2_with fail
                  refine KA2.out.mono ?_
                  rintro e w7 ⟨A7, c7, rfl, hr7, hc7, hm7, _, hb7⟩
                  have B7 := Lib.hid (HBV.out.trans (hb7.mono HBV.out.size))
                  have R7 := Lib.hid hr7
                  clear hb7 hr7
                  go_wp2_with fail
                  refine (KSR.out _ _ _ R7.out (FACT.out _ B7.out).2).mono ?_
                  rintro e w8 ⟨rfl, hb8⟩
                  have B8 := Lib.hid (B7.out.trans (hb8.mono B7.out.size))
                  clear hb8
                  go_wp2_with fail
                  refine (KL1.out _ B8.out).mono ?_
                  rintro e w9 ⟨rfl, hb9⟩
                  have B9 := Lib.hid (B8.out.trans (hb9.mono B8.out.size))
                  clear hb9
                  go_wp2_with fail
                  refine (KL2.out _ B9.out).mono ?_
                  rintro e w10 ⟨rfl, hb10⟩
                  have B10 := Lib.hid (B9.out.trans (hb10.mono B9.out.size))
                  clear hb10
                  go_wp2_with fail
                  go_ret
                  exact ⟨rfl, (FACT.out _ B10.out).1.bel⟩
end
end Go.Proofs.Yteieaindejcfbaa
