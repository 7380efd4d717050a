/- IndexTwins' walk, told from what the package does. No statement of the seat is proved here. -/
import Derived.Test.YteieaindejcfbaaIxNil
import Derived.Test.YteieaindejcfbaaIxAct
import Derived.Test.YteieaindejcfbaaIxBox
import Derived.Test.YteieaindejcfbaaBaseB
import Derived.Test.YteieaindejcfbaaRowLaws
import Derived.Deep.Cut
import Derived.BigQuiet
namespace Go.Proofs.Yteieaindejcfbaa
open Go.RowKit
set_option linter.unusedVariables false
set_option linter.unusedSimpArgs false

theorem splice_sum {d : List UInt8} (hd : d.length = 32) {a : IAct} (ha : a.2.Ok) : splice (ics a) 1 (bv d) = ics (a.1, ((d, a.2.1.2), a.2.2)) := by
  have h1 : ics a = ([Value.bool a.1] ++ bv a.2.1.1) ++ ([.int .u32 a.2.1.2] ++ pvs a.2.2) := by simp [ics, rcs, kcs]
  have h2 : ics (a.1, ((d, a.2.1.2), a.2.2)) = ([Value.bool a.1] ++ bv d) ++ ([.int .u32 a.2.1.2] ++ pvs a.2.2) := by simp [ics, rcs, kcs]
  have hl : (bv a.2.1.1).length = 32 := by rw [bv_length]; exact ha.key.1
  have hl2 : (bv d).length = 32 := by rw [bv_length]; exact hd
  rw [h1, h2, splice_left _ _ _ _ (by rw [List.length_append, hl, hl2]; simp)]
  congr 1
  unfold splice
  rw [hl2, List.drop_of_length_le (by rw [List.length_append, hl]; simp)]
  simp
/-- An act of zeros. -/
abbrev iz : Array Value := #[.bool false, .int .u8 0, .int .u8 0, .int .u8 0, .int .u8 0, .int .u8 0, .int .u8 0, .int .u8 0, .int .u8 0, .int .u8 0, .int .u8 0, .int .u8 0, .int .u8 0, .int .u8 0, .int .u8 0, .int .u8 0, .int .u8 0, .int .u8 0, .int .u8 0, .int .u8 0, .int .u8 0, .int .u8 0, .int .u8 0, .int .u8 0, .int .u8 0, .int .u8 0, .int .u8 0, .int .u8 0, .int .u8 0, .int .u8 0, .int .u8 0, .int .u8 0, .int .u8 0, .int .u32 0, .int .i64 0, .int .i64 0]
theorem iz_size : iz.size = 36 := rfl
theorem there_blk {w : World} {g : Nat} {t : TypeId} {cs : Array Value} (h : Blk w g t cs) {o n : Nat} (hn : o + n ≤ cs.size) : w.there g o n := fun j hj => by
  rw [h.cell]
  exact ⟨by rw [Array.getElem?_eq_getElem (by omega)]; rfl, h.frozen _⟩
theorem ics_row {w : World} {g o : Nat} {a : IAct} (h : w.rangeAt g o (ics a)) : w.rangeAt g (o + 1) (rcs a.2) := fun j u hu => by
  have := h (j + 1) u (by unfold ics; rw [List.getElem?_cons_succ]; exact hu)
  rwa [show o + 1 + j = o + (j + 1) by omega]
section
variable {It : World → Addr → (Nat → Prop) → List RowT → Prop}
set_option maxRecDepth 100000 in
set_option maxHeartbeats 20000000 in
theorem twins_walk (K : IndexesOk It) (A : Option Addr) (n c : Nat) (ls : List IAct) (hl : ls.length = n) (hc : n ≤ c) (hm : c ≤ maxLen) (k : KeyT) (hk : KeyT.Ok k) (w : World) (hr : RdIa w w.heap.size A ls) :
    Calls Try.prog 7 #[.slice A n c, kv k] w fun e w' => e = .returned (.bool true) ∧ Below w.heap.size w w' := by
  unfold maxLen at hm
  obtain ⟨m, hm'⟩ : ∃ m, m = min n 200 := ⟨_, rfl⟩
  have hmn : m ≤ n ∧ m ≤ 200 := by omega
  obtain ⟨X, hX⟩ : ∃ X, kcs k = X := ⟨_, rfl⟩
  obtain ⟨D, hD⟩ : ∃ D, bv k.1 = D := ⟨_, rfl⟩
  obtain ⟨dd, hdd⟩ : ∃ dd, k.1 = dd := ⟨_, rfl⟩
  have hDl : D.length = 32 := by rw [← hD, bv_length]; exact hk.1
  have hd32 : dd.length = 32 := by rw [← hdd]; exact hk.1
  have hDd : bv dd = D := by rw [← hdd]; exact hD
  obtain ⟨w1, hw1⟩ : ∃ w1, w.alloc (.cells X.toArray 27) = w1 := ⟨_, rfl⟩
  obtain ⟨kb, hkb⟩ : ∃ kb, w.heap.size = kb := ⟨_, rfl⟩
  have hb1 : Below w.heap.size w w1 := hw1 ▸ (Below.refl _ _).alloc (Nat.le_refl _) _
  have hk1 : Blk w1 kb 27 X.toArray := by rw [← hw1, ← hkb]; exact Blk.new w _ _
  have HKB := Lib.hid (show ∀ W, Below w1.heap.size w1 W → W.rangeAt kb 0 D from fun W hW => by
    have h1 := hk1.below hW hk1.lt
    rw [← hD]
    exact range_sum (by rw [hX]; exact range_of_blk h1))
  have HW := Lib.hid (And.intro hw1 hkb)
  have HB1 := Lib.hid hb1
  have HL := Lib.hid hl
  have HR := Lib.hid ((hr.below hb1).more hb1.size)
  have HDL := Lib.hid (And.intro hDl (And.intro hd32 hDd))
  have HSS := Lib.hid (show (Try.prog.info? 24).map (·.size) = some D.length from by rw [hDl]; exact sum_size)
  have HSS2 := Lib.hid (show (Try.prog.info? 24).map (·.size) = some D.toArray.size from by rw [List.size_toArray, hDl]; exact sum_size)
  have HDO := Lib.hid (show D.toArray.all (·.oneCell') = true from by rw [← hD]; exact all_oneCell_toArray (bv_one _))
  have HDQ := Lib.hid (show ∀ W : World, (Op.equal 24 (.agg D.toArray) (.agg D.toArray)).run Try.prog W = .ok true W from fun W => by
    obtain ⟨i0, hi, hz0, hz1, hz2⟩ := info_parts (show (Try.prog.info? 5).map (fun i => (i.zero, i.size, i.bytes)) = some (some (.int .u8 0), 1, 1) by kernel_rfl)
    have := run_equal_bytes (P := Try.prog) Try.underlying24 Try.underlying5 hi (by kernel_rfl) dd dd hd32 hd32 W
    rw [hDd, decide_eq_true rfl] at this
    exact this)
  have HSG := Lib.hid (show Try.prog.eqGuardType Try.prog.depth 24 = false by kernel_rfl)
  have KF := Lib.hid (fun W => few_any A n c m hm' hc W)
  obtain ⟨fs, hfs⟩ := key_desc
  obtain ⟨an, ae, hsd⟩ := sum_desc
  obtain ⟨fa, hfa⟩ := iact_desc
  obtain ⟨fp, hfp⟩ := place_desc
  have HF := Lib.hid (And.intro hfs (And.intro hsd (And.intro hfa hfp)))
  unfold kv
  rw [hX]
  clear hX hD hdd hDl hd32 hDd hw1 hkb hb1 hk1 hl hr hm' hfs hsd hfa hfp hk
  go_enter Try.func7, Try.ntmps7
  go_upto_region 1 with fail
  rw [HW.out.1, HW.out.2]
  go_wp2_with fail
  refine (shown_any K w1).mono ?_
  rintro e w2 ⟨rfl, hb2⟩
  have KN := Lib.hid (K.new' hb2)
  clear hb2
  go_wp2_with fail
  refine KN.out.mono ?_
  rintro e w3 ⟨s, rfl, h3⟩
  have H3 := Lib.hid h3
  clear h3 KN
  go_wp2_with fail
  refine (KF.out w3).mono ?_
  rintro e w4 ⟨rfl, rfl⟩
  go_wp2_with fail
  go_loopw [21] (fun i wr => ∃ (j : Nat) (L : List RowT), j ≤ m ∧ i = .int .i64 j ∧ Hid (Turned It w1 s (fun _ => False) wr L ∧ (∀ r ∈ L, r.1.1 = dd) ∧ L.length ≤ j)) (fun i _ => m - (intOf i).toNat)
  case atStart => exact ⟨0, [], Nat.zero_le _, rfl, Lib.hid ⟨H3.out, by simp, Nat.le_refl _⟩⟩
  case round =>
    clear H3 KF
    obtain ⟨j, L, hj, rfl, hst⟩ := hrel
    by_cases hlt : j < m
    · have hjx : j < ls.length := by rw [HL.out]; omega
      have hbel := hst.out.1.bel
      obtain ⟨g, off, hA, hg, hra, hok⟩ := (HR.out.below hbel).at_ hjx
      obtain ⟨a, hae⟩ : ∃ a, ls[j] = a := ⟨_, rfl⟩
      rw [hae] at hra hok
      subst hA
      obtain ⟨Z, hZ⟩ : ∃ Z, ics a = Z := ⟨_, rfl⟩
      have hZl : Z.length = 36 := by rw [← hZ]; exact ics_length hok
      rw [hZ] at hra
      have HRA := Lib.hid hra
      have HKS := Lib.hid (show (Try.prog.info? 41).map (·.size) = some Z.length from by rw [hZl]; exact iact_size)
      have HKS2 := Lib.hid (show (Try.prog.info? 41).map (·.size) = some Z.toArray.size from by rw [List.size_toArray, hZl]; exact iact_size)
      have HOLD := Lib.hid (show iz.size = Z.toArray.size from iz_size.trans (by rw [List.size_toArray, hZl]))
      have HBZ := Lib.hid (Blk.new wr 41 iz)
      have HONE := Lib.hid (show Z.toArray.all (·.oneCell') = true from by rw [← hZ]; exact ics_one)
      obtain ⟨w5, hw5⟩ : ∃ w5, wr.alloc (.cells Z.toArray 41) = w5 := ⟨_, rfl⟩
      obtain ⟨ab, hab⟩ : ∃ ab, wr.heap.size = ab := ⟨_, rfl⟩
      have hb5 : Below wr.heap.size wr w5 := hw5 ▸ (Below.refl _ _).alloc (Nat.le_refl _) _
      have hk5 : Blk w5 ab 41 Z.toArray := by rw [← hw5, ← hab]; exact Blk.new wr _ _
      have HTH := Lib.hid (show w5.there ab 1 D.toArray.size from there_blk hk5 (by rw [List.size_toArray, List.size_toArray, hZl, HDL.out.1]; omega))
      have HK5 := Lib.hid (HKB.out w5 (hbel.trans (hb5.mono hbel.size)))
      obtain ⟨k', hk'⟩ : ∃ k' : KeyT, k' = (dd, a.2.1.2) := ⟨_, rfl⟩
      have hkok : KeyT.Ok k' := by rw [hk']; exact ⟨HDL.out.2.1, hok.key.2⟩
      obtain ⟨w6, hw6⟩ : ∃ w6, w5.setCells ab 1 D.toArray.toList = w6 := ⟨_, rfl⟩
      have hb6 : Below wr.heap.size wr w6 := by
        rw [← hw6]
        exact hb5.grown (grown_cells ab _ 1 w5) hb5.size (fun g e => by have e := Option.some.inj e; rw [hab]; omega)
      have hk6 : Blk w6 ab 41 (ics (a.1, (k', a.2.2))).toArray := by
        have := blk_cells D.toArray.toList 1 w5 Z.toArray hk5 (by rw [List.size_toArray, hZl]; simp [HDL.out.1])
        rw [hw6] at this
        have e : splice Z.toArray.toList 1 D.toArray.toList = ics (a.1, (k', a.2.2)) := by
          rw [hk', ← hZ, ← HDL.out.2.2]
          exact splice_sum HDL.out.2.1 hok
        rw [e] at this
        exact this
      have hpo : PlOk a.2.2 := ⟨hok.shelf, hok.slot⟩
      have HST := Lib.hid hst
      have H6 := Lib.hid (And.intro hb6 hk6)
      have HW5 := Lib.hid (And.intro (And.intro hw5 hab) hw6)
      have HOK := Lib.hid (And.intro hkok hpo)
      obtain ⟨gn, hgn⟩ : ∃ gn, a.1 = gn := ⟨_, rfl⟩
      have HGN := Lib.hid hgn
      have hc0 : w6.cell? ⟨ab, 0, none⟩ = some (.bool gn) := by rw [← hgn]; exact hk6.cell 0
      obtain ⟨Y, hY⟩ : ∃ Y, kcs k' = Y := ⟨_, rfl⟩
      have HY := Lib.hid hY
      have HYS := Lib.hid (show (Try.prog.info? 27).map (·.size) = some Y.length from by rw [← hY, kcs_length hkok]; exact key_size)
      have HKP := Lib.hid (show k'.1 = dd from by rw [hk'])
      have HRW := Lib.hid (show ∀ W, Blk W ab 41 (ics (a.1, (k', a.2.2))).toArray → W.rangeAt ab 1 Y ∧ W.rangeAt ab 34 (pvs a.2.2) ∧ W.cell? ⟨ab, 0, none⟩ = some (.bool gn) from fun W h => by
        have h1 := ics_row (range_of_blk h)
        have h2 := range_key h1
        rw [hY] at h2
        exact ⟨h2, range_place (r := (k', a.2.2)) ⟨hkok, hpo.1, hpo.2⟩ h1, by rw [← hgn]; exact h.cell 0⟩)
      have hi1 : (0 : Int) ≤ (j : Int) := by omega
      have hi2 : (j : Int) < (m : Int) := by omega
      have hi3 : (j : Int) < (n : Int) := by omega
      clear hst hra hok hae hjx hZ hZl hw5 hab hb5 hk5 hkok hw6 hb6 hk6 hpo hY hgn hk' hbel hg
      cases gn with
      | true =>
        have R := Lib.hid (HRW.out w6 H6.out.2)
        go_wp2_with (first
          | refine wpList_load_mid rfl 41 (.tmp 23) rfl g (off + j * 36) rfl Z (.struct fa) HRA.out HF.out.2.2.1 rfl HKS.out ?_
          | (refine wpList_store_row rfl 41 (.tmp 8) (.tmp 24) rfl wr.heap.size Z.toArray rfl rfl 41 iz HBZ.out HKS2.out HOLD.out HONE.out ?_; rw [setRow_alloc, HW5.out.1.1, HW5.out.1.2])
          | refine wpList_load_mid rfl 24 (.tmp 25) rfl kb 0 rfl D (.array an ae) HK5.out HF.out.2.1 rfl HSS.out ?_
          | (refine wpList_store_mid rfl 24 (.tmp 29) (.tmp 26) rfl ab 1 D.toArray rfl rfl HTH.out HSS2.out HDO.out ?_; rw [HW5.out.2])
          | refine wpList_load_mid rfl 27 (.tmp 34) rfl ab 1 rfl Y (.struct fs) R.out.1 HF.out.1 rfl HYS.out ?_)
        have HLR := Lib.hid (K.rows HST.out.1)
        have KD := K.dropBox HST.out.1 H6.out.1 H6.out.2 (by rw [HW5.out.1.2]; exact Nat.le_refl _) (by have := HST.out.2.2; omega) k' HOK.out.1
        unfold kv at KD
        rw [HY.out] at KD
        replace KD := Lib.hid KD
        refine KD.out.mono ?_
        rintro e w7 ⟨rfl, h7, hk7⟩
        obtain ⟨L', hL'⟩ : ∃ L', dropX L k' = L' := ⟨_, rfl⟩
        rw [hL'] at h7
        clear KD R hc0
        have HT7 := Lib.hid (show Turned It w1 s (fun _ => False) w7 L' ∧ Blk w7 ab 41 (ics (a.1, (k', a.2.2))).toArray from ⟨h7, hk7⟩)
        have HLL := Lib.hid (show (∀ r ∈ L', r.1.1 = dd) ∧ L'.length ≤ j + 1 ∧ RowsOk L' ∧ hasX L' k' = false from ⟨fun r hr => HST.out.2.1 r (mem_dropX (hL'.symm ▸ hr)), by rw [← hL']; exact Nat.le_trans (dropX_length L HLR.out.rise HOK.out.1 HLR.out.key) (by have := HST.out.2.2; omega), K.rows h7, by rw [← hL']; exact hasX_drop L k'⟩)
        have R := Lib.hid (HRW.out w7 hk7)
        have KG := K.get' h7 (by have := HLL.out.2.1; omega) k' HOK.out.1
        unfold kv pv pvs at KG
        rw [HY.out, HLL.out.2.2.2] at KG
        obtain ⟨gx, hgx⟩ : ∃ gx, getX L' k' = gx := ⟨_, rfl⟩
        rw [hgx] at KG
        replace KG := Lib.hid KG
        clear h7 hk7 hgx
        go_wp2_with (refine wpList_load_mid rfl 27 (.tmp 48) rfl ab 1 rfl Y (.struct fs) R.out.1 HF.out.1 rfl HYS.out ?_)
        refine KG.out.mono ?_
        rintro e w8 ⟨rfl, hb8⟩
        have hb9 := hb8.trans ((show Below w8.heap.size w8 (w8.alloc (.cells #[.int .i64 gx.1, .int .i64 gx.2] 37)) from (Below.refl _ _).alloc (Nat.le_refl _) _).mono hb8.size)
        obtain ⟨w9, hw9⟩ : ∃ w9, w8.alloc (.cells #[.int .i64 gx.1, .int .i64 gx.2] 37) = w9 := ⟨_, rfl⟩
        rw [hw9] at hb9
        have H9 := Lib.hid (show Turned It w1 s (fun _ => False) w9 L' ∧ Blk w9 ab 41 (ics (a.1, (k', a.2.2))).toArray from ⟨K.on HT7.out.1 hb9, HT7.out.2.below hb9 HT7.out.2.lt⟩)
        have HW9 := Lib.hid hw9
        have HK9 := Lib.hid (HKB.out w9 H9.out.1.bel)
        have KT := K.twins' H9.out.1 (by have := HLL.out.2.1; omega) dd HDL.out.2.1
        rw [twins_all HLL.out.1, HDL.out.2.2] at KT
        obtain ⟨nT, hnT⟩ : ∃ nT, (L'.map (·.1)).length = nT := ⟨_, rfl⟩
        rw [hnT] at KT
        replace KT := Lib.hid KT
        have HNT := Lib.hid (show (L'.map (·.1)).length = nT ∧ L'.length = nT from ⟨hnT, by rw [← hnT, List.length_map]⟩)
        clear hb8 hb9 hw9 R hnT
        go_upto_region 13 with fail
        rw [HW9.out]
        go_wp2_with (refine wpList_load_mid rfl 24 (.tmp 54) rfl kb 0 rfl D (.array an ae) HK9.out HF.out.2.1 rfl HSS.out ?_)
        refine KT.out.mono ?_
        rintro e w10 ⟨AT, cT, rfl, hrT, hcT, hmT, _, hb10⟩
        have H10 := Lib.hid (show Turned It w1 s (fun _ => False) w10 L' ∧ Blk w10 ab 41 (ics (a.1, (k', a.2.2))).toArray ∧ RdK w10 w10.heap.size AT (L'.map (·.1)) from ⟨K.on H9.out.1 hb10, H9.out.2.below hb10 H9.out.2.lt, hrT⟩)
        unfold maxLen at hmT
        clear hb10 hrT KT
        go_wp2_with fail
        go_loopw [11, 59] (fun inn i wr => ∃ t : Nat, t ≤ nT ∧ i = .int .i64 t ∧ inn = .bool (((L'.map (·.1)).take t).any fun x => decide (x = k')) ∧ Hid (Below w10.heap.size w10 wr)) (fun _ i _ => nT - (intOf i).toNat)
        case atStart => exact ⟨0, Nat.zero_le _, rfl, by rw [List.take_zero]; rfl, Lib.hid (Below.refl _ _)⟩
        case round =>
          obtain ⟨t, ht, rfl, rfl, hbt⟩ := hrel
          by_cases htl : t < nT
          · have htx : t < (L'.map (·.1)).length := by rw [HNT.out.1]; exact htl
            obtain ⟨gt, ot, hAT, hgt, hrt, hqo⟩ := (H10.out.2.2.below hbt.out).at_ htx
            obtain ⟨q, hq⟩ : ∃ q, (L'.map (·.1))[t] = q := ⟨_, rfl⟩
            rw [hq] at hrt hqo
            have HAS := Lib.hid (show ((L'.map (·.1)).take (t + 1)).any (fun x => decide (x = k')) = ((((L'.map (·.1)).take t).any fun x => decide (x = k')) || decide (q = k')) from by rw [any_step _ _ htx, hq])
            obtain ⟨inb, hinb⟩ : ∃ inb, ((L'.map (·.1)).take t).any (fun x => decide (x = k')) = inb := ⟨_, rfl⟩
            rw [hinb] at HAS ⊢
            obtain ⟨rq, hrq⟩ : ∃ rq, decide (q = k') = rq := ⟨_, rfl⟩
            rw [hrq] at HAS
            obtain ⟨Q, hQ⟩ : ∃ Q, kcs q = Q := ⟨_, rfl⟩
            have QE := Lib.hid (show ∀ W, (Op.equal 27 (.agg Q.toArray) (.agg Y.toArray)).run Try.prog W = .ok rq W from fun W => by rw [← hQ, ← HY.out, key_eq hqo HOK.out.1 W, hrq])
            have hqd : q.1 = dd := by
              rw [← hq, List.getElem_map]
              exact HLL.out.1 _ (List.getElem_mem _)
            have HQS := Lib.hid (show (Try.prog.info? 27).map (·.size) = some Q.length from by rw [← hQ, kcs_length hqo]; exact key_size)
            have HRT := Lib.hid (show ∀ W, Below wr.heap.size wr W → W.rangeAt gt (ot + t * 33) Q ∧ W.rangeAt gt (ot + t * 33) D ∧ W.rangeAt ab 1 Y ∧ W.rangeAt kb 0 D from fun W hW => by
              have hbW := hbt.out.trans (hW.mono hbt.out.size)
              have hgw : gt < wr.heap.size := Nat.lt_of_lt_of_le hgt hbt.out.size
              have h1 : W.rangeAt gt (ot + t * 33) (kcs q) := fun u x hx => by rw [hW.cell (p := ⟨gt, ot + t * 33 + u, none⟩) hgw]; exact hrt u x hx
              have h2 := range_sum h1
              rw [hqd, HDL.out.2.2] at h2
              rw [hQ] at h1
              exact ⟨h1, h2, (HRW.out W (H10.out.2.1.below hbW H10.out.2.1.lt)).1, HKB.out W (H10.out.1.bel.trans (hbW.mono H10.out.1.bel.size))⟩)
            have HNUM := Lib.hid (show ∀ W, Below wr.heap.size wr W → W.cell? ⟨gt, ot + t * 33 + 32, none⟩ = some (.int .u32 (q.2 : Nat)) ∧ ∀ t', t = t' + 1 → ∃ x2 : Nat, x2 < q.2 ∧ W.cell? ⟨gt, ot + t' * 33 + 32, none⟩ = some (.int .u32 (x2 : Nat)) from fun W hW => by
              have hgw : gt < wr.heap.size := Nat.lt_of_lt_of_le hgt hbt.out.size
              refine ⟨by rw [hW.cell (p := ⟨gt, ot + t * 33 + 32, none⟩) hgw]; exact hrt 32 _ (kcs_num hqo), fun t' e => ?_⟩
              have hx' : t' < (L'.map (·.1)).length := by omega
              obtain ⟨gt', ot', hAT', _, hrt', hqo'⟩ := (H10.out.2.2.below hbt.out).at_ hx'
              rw [hAT] at hAT'
              injection hAT' with hAT'
              injection hAT' with e1 e2 _
              subst e1; subst e2
              refine ⟨((L'.map fun r : RowT => r.1)[t']'hx').2, ?_, by rw [hW.cell (p := ⟨gt, ot + t' * 33 + 32, none⟩) hgw]; exact hrt' 32 _ (kcs_num hqo')⟩
              subst e
              rw [← hq, List.getElem_map, List.getElem_map]
              exact twins_rise HLL.out.1 HLL.out.2.2.1.rise (by rw [List.length_map] at htx; exact htx))
            have HBT := Lib.hid hbt.out
            subst hAT
            have ti0 : (0 : Int) ≤ (t : Int) := by omega
            have ti1 : (t : Int) < (nT : Int) := by omega
            have hcT9 : nT ≤ 9223372036854775807 := by omega
            clear hbt hrt hqo hq hinb hrq hQ hqd hgt htx
            have R1 := Lib.hid (rng_base (w := wr) (b := gt) (off := ot + t * 33) (cs := Q) fun W hW => (HRT.out W hW).1)
            have R2 := Lib.hid (rng_base (w := wr) (b := ab) (off := 1) (cs := Y) fun W hW => (HRT.out W hW).2.2.1)
            go_wp2_with fail
            cases inb with
            | true =>
              refine wp_region_quiet_below (by kernel_rfl) (by kernel_rfl) ?_
              repeat (go_big_quiet_step (fail))
              refine wpQuiet_nil ?_
              intro _ hw'
              obtain ⟨pq, rfl⟩ := hw'
              obtain ⟨wq, hwq, hbq⟩ := regrown_some wr pq
              rw [hwq]
              have HBQ := Lib.hid hbq
              have R3 := Lib.hid (rng_base (w := wq) (b := gt) (off := ot + t * 33) (cs := D) fun W hW => (HRT.out W (hbq.trans (hW.mono hbq.size))).2.1)
              have R4 := Lib.hid (rng_base (w := wq) (b := kb) (off := 0) (cs := D) fun W hW => (HRT.out W (hbq.trans (hW.mono hbq.size))).2.2.2)
              have hnq := (HNUM.out wq hbq).1
              have d1 := cell_base hnq
              clear hwq hbq R1 R2
              by_cases ht0 : t = 0
              · subst ht0
                have tz1 : decide ((0 : Int) < ((0 : Nat) : Int)) = false := by decide
                go_wp2_with fail
                refine wp_region_quiet_below (by kernel_rfl) (by kernel_rfl) ?_
                repeat (first
                  | (go_big_quiet_want; refine quiet_load_mid 24 (.tmp 76) rfl gt (ot + 0 * 33) rfl D (.array an ae) R3.out HF.out.2.1 rfl HSS.out (by simp only [Act.put, List.setIfInBounds_toArray, List.set_cons_succ, List.set_cons_zero]; rfl) ?_; go_big_quiet_on)
                  | (go_big_quiet_want; refine quiet_load_mid 24 (.tmp 78) rfl kb 0 rfl D (.array an ae) R4.out HF.out.2.1 rfl HSS.out (by simp only [Act.put, List.setIfInBounds_toArray, List.set_cons_succ, List.set_cons_zero]; rfl) ?_; go_big_quiet_on)
                  | (go_big_quiet_want; refine quiet_neq_lit 24 24 (.tmp 77) (.tmp 79) rfl D.toArray D.toArray rfl rfl HSG.out true false rfl HDQ.out (by simp only [Act.put, List.setIfInBounds_toArray, List.set_cons_succ, List.set_cons_zero]; rfl) ?_; go_big_quiet_on)
                  | go_big_quiet_step (fail))
                refine wpQuiet_nil ?_
                intro _ hw'
                obtain ⟨pq2, rfl⟩ := hw'
                obtain ⟨wz, hwz, hbz⟩ := regrown_some wq pq2
                rw [hwz]
                have HBZ := Lib.hid (HBT.out.trans ((HBQ.out.trans (hbz.mono HBQ.out.size)).mono HBT.out.size))
                clear hwz hbz R3 R4 d1 hnq 
                go_wp2_with fail
                go_roundw
                case rel => exact ⟨0 + 1, by omega, by go_num, by rw [HAS.out]; rfl, Lib.hid HBZ.out⟩
                case measure => simp [intOf]; omega
              · obtain ⟨t', rfl⟩ : ∃ t', t = t' + 1 := ⟨t - 1, by omega⟩
                obtain ⟨x2, hx2, hc2⟩ := (HNUM.out wq HBQ.out).2 t' rfl
                have d2 := cell_base hc2
                have ts1 : ((t' + 1 : Nat) : Int) - 1 = (t' : Int) := by omega
                have tz1 : decide ((0 : Int) < ((t' + 1 : Nat) : Int)) = true := decide_eq_true (by omega)
                have tz2 : decide (0 < t' + 1) = true := decide_eq_true (by omega)
                obtain ⟨qn, hqn⟩ : ∃ qn, q.2 = qn := ⟨_, rfl⟩
                rw [hqn] at hx2 d1
                have tx : decide (qn ≤ x2) = false := decide_eq_false (by omega)
                have txi : decide ((qn : Int) ≤ (x2 : Int)) = false := decide_eq_false (by omega)
                clear hqn
                go_wp2_with fail
                refine wp_region_quiet_below (by kernel_rfl) (by kernel_rfl) ?_
                repeat (first
                  | (go_big_quiet_want; refine quiet_load_mid 24 (.tmp 76) rfl gt (ot + (t' + 1) * 33) rfl D (.array an ae) R3.out HF.out.2.1 rfl HSS.out (by simp only [Act.put, List.setIfInBounds_toArray, List.set_cons_succ, List.set_cons_zero]; rfl) ?_; go_big_quiet_on)
                  | (go_big_quiet_want; refine quiet_load_mid 24 (.tmp 78) rfl kb 0 rfl D (.array an ae) R4.out HF.out.2.1 rfl HSS.out (by simp only [Act.put, List.setIfInBounds_toArray, List.set_cons_succ, List.set_cons_zero]; rfl) ?_; go_big_quiet_on)
                  | (go_big_quiet_want; refine quiet_neq_lit 24 24 (.tmp 77) (.tmp 79) rfl D.toArray D.toArray rfl rfl HSG.out true false rfl HDQ.out (by simp only [Act.put, List.setIfInBounds_toArray, List.set_cons_succ, List.set_cons_zero]; rfl) ?_; go_big_quiet_on)
                  | go_big_quiet_step (fail))
                refine wpQuiet_nil ?_
                intro _ hw'
                obtain ⟨pq2, rfl⟩ := hw'
                obtain ⟨wz, hwz, hbz⟩ := regrown_some wq pq2
                rw [hwz]
                have HBZ := Lib.hid (HBT.out.trans ((HBQ.out.trans (hbz.mono HBQ.out.size)).mono HBT.out.size))
                clear hwz hbz R3 R4 d1 hnq d2 hc2
                go_wp2_with fail
                go_roundw
                case rel => exact ⟨(t' + 1) + 1, by omega, by go_num, by rw [HAS.out]; rfl, Lib.hid HBZ.out⟩
                case measure => simp [intOf]; omega
            | false =>
              refine wp_region_quiet_below (by kernel_rfl) (by kernel_rfl) ?_
              repeat (first
                | (go_big_quiet_want; refine quiet_load_mid 27 (.tmp 66) rfl gt (ot + t * 33) rfl Q (.struct fs) R1.out HF.out.1 rfl HQS.out (by simp only [Act.put, List.setIfInBounds_toArray, List.set_cons_succ, List.set_cons_zero]; rfl) ?_; go_big_quiet_on)
                | (go_big_quiet_want; refine quiet_load_mid 27 (.tmp 69) rfl ab 1 rfl Y (.struct fs) R2.out HF.out.1 rfl HYS.out (by simp only [Act.put, List.setIfInBounds_toArray, List.set_cons_succ, List.set_cons_zero]; rfl) ?_; go_big_quiet_on)
                | (go_big_quiet_want; refine quiet_eql_row 27 27 (.tmp 67) (.tmp 70) rfl Q.toArray Y.toArray rfl rfl key_guard rq QE.out (by simp only [Act.put, List.setIfInBounds_toArray, List.set_cons_succ, List.set_cons_zero]; rfl) ?_; go_big_quiet_on)
                | go_big_quiet_step (fail))
              refine wpQuiet_nil ?_
              intro _ hw'
              obtain ⟨pq, rfl⟩ := hw'
              obtain ⟨wq, hwq, hbq⟩ := regrown_some wr pq
              rw [hwq]
              have HBQ := Lib.hid hbq
              have R3 := Lib.hid (rng_base (w := wq) (b := gt) (off := ot + t * 33) (cs := D) fun W hW => (HRT.out W (hbq.trans (hW.mono hbq.size))).2.1)
              have R4 := Lib.hid (rng_base (w := wq) (b := kb) (off := 0) (cs := D) fun W hW => (HRT.out W (hbq.trans (hW.mono hbq.size))).2.2.2)
              have hnq := (HNUM.out wq hbq).1
              have d1 := cell_base hnq
              clear hwq hbq R1 R2
              by_cases ht0 : t = 0
              · subst ht0
                have tz1 : decide ((0 : Int) < ((0 : Nat) : Int)) = false := by decide
                go_wp2_with fail
                refine wp_region_quiet_below (by kernel_rfl) (by kernel_rfl) ?_
                repeat (first
                  | (go_big_quiet_want; refine quiet_load_mid 24 (.tmp 76) rfl gt (ot + 0 * 33) rfl D (.array an ae) R3.out HF.out.2.1 rfl HSS.out (by simp only [Act.put, List.setIfInBounds_toArray, List.set_cons_succ, List.set_cons_zero]; rfl) ?_; go_big_quiet_on)
                  | (go_big_quiet_want; refine quiet_load_mid 24 (.tmp 78) rfl kb 0 rfl D (.array an ae) R4.out HF.out.2.1 rfl HSS.out (by simp only [Act.put, List.setIfInBounds_toArray, List.set_cons_succ, List.set_cons_zero]; rfl) ?_; go_big_quiet_on)
                  | (go_big_quiet_want; refine quiet_neq_lit 24 24 (.tmp 77) (.tmp 79) rfl D.toArray D.toArray rfl rfl HSG.out true false rfl HDQ.out (by simp only [Act.put, List.setIfInBounds_toArray, List.set_cons_succ, List.set_cons_zero]; rfl) ?_; go_big_quiet_on)
                  | go_big_quiet_step (fail))
                refine wpQuiet_nil ?_
                intro _ hw'
                obtain ⟨pq2, rfl⟩ := hw'
                obtain ⟨wz, hwz, hbz⟩ := regrown_some wq pq2
                rw [hwz]
                have HBZ := Lib.hid (HBT.out.trans ((HBQ.out.trans (hbz.mono HBQ.out.size)).mono HBT.out.size))
                clear hwz hbz R3 R4 d1 hnq 
                go_wp2_with fail
                go_roundw
                case rel => exact ⟨0 + 1, by omega, by go_num, by rw [HAS.out]; rfl, Lib.hid HBZ.out⟩
                case measure => simp [intOf]; omega
              · obtain ⟨t', rfl⟩ : ∃ t', t = t' + 1 := ⟨t - 1, by omega⟩
                obtain ⟨x2, hx2, hc2⟩ := (HNUM.out wq HBQ.out).2 t' rfl
                have d2 := cell_base hc2
                have ts1 : ((t' + 1 : Nat) : Int) - 1 = (t' : Int) := by omega
                have tz1 : decide ((0 : Int) < ((t' + 1 : Nat) : Int)) = true := decide_eq_true (by omega)
                have tz2 : decide (0 < t' + 1) = true := decide_eq_true (by omega)
                obtain ⟨qn, hqn⟩ : ∃ qn, q.2 = qn := ⟨_, rfl⟩
                rw [hqn] at hx2 d1
                have tx : decide (qn ≤ x2) = false := decide_eq_false (by omega)
                have txi : decide ((qn : Int) ≤ (x2 : Int)) = false := decide_eq_false (by omega)
                clear hqn
                go_wp2_with fail
                refine wp_region_quiet_below (by kernel_rfl) (by kernel_rfl) ?_
                repeat (first
                  | (go_big_quiet_want; refine quiet_load_mid 24 (.tmp 76) rfl gt (ot + (t' + 1) * 33) rfl D (.array an ae) R3.out HF.out.2.1 rfl HSS.out (by simp only [Act.put, List.setIfInBounds_toArray, List.set_cons_succ, List.set_cons_zero]; rfl) ?_; go_big_quiet_on)
                  | (go_big_quiet_want; refine quiet_load_mid 24 (.tmp 78) rfl kb 0 rfl D (.array an ae) R4.out HF.out.2.1 rfl HSS.out (by simp only [Act.put, List.setIfInBounds_toArray, List.set_cons_succ, List.set_cons_zero]; rfl) ?_; go_big_quiet_on)
                  | (go_big_quiet_want; refine quiet_neq_lit 24 24 (.tmp 77) (.tmp 79) rfl D.toArray D.toArray rfl rfl HSG.out true false rfl HDQ.out (by simp only [Act.put, List.setIfInBounds_toArray, List.set_cons_succ, List.set_cons_zero]; rfl) ?_; go_big_quiet_on)
                  | go_big_quiet_step (fail))
                refine wpQuiet_nil ?_
                intro _ hw'
                obtain ⟨pq2, rfl⟩ := hw'
                obtain ⟨wz, hwz, hbz⟩ := regrown_some wq pq2
                rw [hwz]
                have HBZ := Lib.hid (HBT.out.trans ((HBQ.out.trans (hbz.mono HBQ.out.size)).mono HBT.out.size))
                clear hwz hbz R3 R4 d1 hnq d2 hc2
                go_wp2_with fail
                go_roundw
                case rel => exact ⟨(t' + 1) + 1, by omega, by go_num, by rw [HAS.out]; rfl, Lib.hid HBZ.out⟩
                case measure => simp [intOf]; omega
          · obtain rfl : t = nT := by omega
            rw [List.take_of_length_le (by rw [HNT.out.1]; exact Nat.le_refl _), ← hasX_map, HLL.out.2.2.2]
            have h11 := K.on H10.out.1 hbt.out
            have KL := K.len' h11 (by have := HLL.out.2.1; omega)
            rw [HNT.out.2] at KL
            replace KL := Lib.hid KL
            have R := Lib.hid (HRW.out wr (H10.out.2.1.below hbt.out H10.out.2.1.lt))
            have hc0 := R.out.2.2
            have H11 := Lib.hid h11
            clear hbt h11
            go_wp2_with fail
            refine KL.out.mono ?_
            rintro e w12 ⟨rfl, hb12⟩
            have HN := Lib.hid (K.on H11.out hb12)
            clear hb12 KL hc0
            go_wp2_with fail
            go_roundw
            case rel => exact ⟨j + 1, L', by omega, by go_num, Lib.hid ⟨HN.out, HLL.out.1, HLL.out.2.1⟩⟩
            case measure => simp [intOf]; omega
      | false =>
        have R := Lib.hid (HRW.out w6 H6.out.2)
        have HPS := Lib.hid (show (Try.prog.info? 37).map (·.size) = some (pvs a.2.2).length from place_size)
        go_wp2_with (first
          | refine wpList_load_mid rfl 41 (.tmp 23) rfl g (off + j * 36) rfl Z (.struct fa) HRA.out HF.out.2.2.1 rfl HKS.out ?_
          | (refine wpList_store_row rfl 41 (.tmp 8) (.tmp 24) rfl wr.heap.size Z.toArray rfl rfl 41 iz HBZ.out HKS2.out HOLD.out HONE.out ?_; rw [setRow_alloc, HW5.out.1.1, HW5.out.1.2])
          | refine wpList_load_mid rfl 24 (.tmp 25) rfl kb 0 rfl D (.array an ae) HK5.out HF.out.2.1 rfl HSS.out ?_
          | (refine wpList_store_mid rfl 24 (.tmp 29) (.tmp 26) rfl ab 1 D.toArray rfl rfl HTH.out HSS2.out HDO.out ?_; rw [HW5.out.2])
          | refine wpList_load_mid rfl 27 (.tmp 39) rfl ab 1 rfl Y (.struct fs) R.out.1 HF.out.1 rfl HYS.out ?_
          | refine wpList_load_mid rfl 37 (.tmp 42) rfl ab 34 rfl (pvs a.2.2) (.struct fp) R.out.2.1 HF.out.2.2.2 rfl HPS.out ?_)
        have HLR := Lib.hid (K.rows HST.out.1)
        have KD := K.putBox HST.out.1 H6.out.1 H6.out.2 (by rw [HW5.out.1.2]; exact Nat.le_refl _) (by have := HST.out.2.2; omega) k' HOK.out.1 a.2.2 HOK.out.2
        unfold kv pv at KD
        rw [HY.out] at KD
        replace KD := Lib.hid KD
        refine KD.out.mono ?_
        rintro e w7 ⟨rfl, h7, hk7⟩
        obtain ⟨L', hL'⟩ : ∃ L', putX L k' a.2.2 = L' := ⟨_, rfl⟩
        rw [hL'] at h7
        clear KD R hc0
        have HT7 := Lib.hid (show Turned It w1 s (fun _ => False) w7 L' ∧ Blk w7 ab 41 (ics (a.1, (k', a.2.2))).toArray from ⟨h7, hk7⟩)
        have HLL := Lib.hid (show (∀ r ∈ L', r.1.1 = dd) ∧ L'.length ≤ j + 1 ∧ RowsOk L' ∧ hasX L' k' = true from ⟨fun r hr => (mem_putX (hL'.symm ▸ hr)).elim (HST.out.2.1 r) (fun e => by rw [e]; exact HKP.out), by rw [← hL']; exact Nat.le_trans (putX_length L HLR.out.rise HOK.out.1 HLR.out.key _) (by have := HST.out.2.2; omega), K.rows h7, by rw [← hL']; exact hasX_put L k' _⟩)
        have R := Lib.hid (HRW.out w7 hk7)
        have KG := K.get' h7 (by have := HLL.out.2.1; omega) k' HOK.out.1
        unfold kv pv pvs at KG
        rw [HY.out, HLL.out.2.2.2] at KG
        obtain ⟨gx, hgx⟩ : ∃ gx, getX L' k' = gx := ⟨_, rfl⟩
        rw [hgx] at KG
        replace KG := Lib.hid KG
        clear h7 hk7 hgx
        go_wp2_with (refine wpList_load_mid rfl 27 (.tmp 48) rfl ab 1 rfl Y (.struct fs) R.out.1 HF.out.1 rfl HYS.out ?_)
        refine KG.out.mono ?_
        rintro e w8 ⟨rfl, hb8⟩
        have hb9 := hb8.trans ((show Below w8.heap.size w8 (w8.alloc (.cells #[.int .i64 gx.1, .int .i64 gx.2] 37)) from (Below.refl _ _).alloc (Nat.le_refl _) _).mono hb8.size)
        obtain ⟨w9, hw9⟩ : ∃ w9, w8.alloc (.cells #[.int .i64 gx.1, .int .i64 gx.2] 37) = w9 := ⟨_, rfl⟩
        rw [hw9] at hb9
        have H9 := Lib.hid (show Turned It w1 s (fun _ => False) w9 L' ∧ Blk w9 ab 41 (ics (a.1, (k', a.2.2))).toArray from ⟨K.on HT7.out.1 hb9, HT7.out.2.below hb9 HT7.out.2.lt⟩)
        have HW9 := Lib.hid hw9
        have HK9 := Lib.hid (HKB.out w9 H9.out.1.bel)
        have KT := K.twins' H9.out.1 (by have := HLL.out.2.1; omega) dd HDL.out.2.1
        rw [twins_all HLL.out.1, HDL.out.2.2] at KT
        obtain ⟨nT, hnT⟩ : ∃ nT, (L'.map (·.1)).length = nT := ⟨_, rfl⟩
        rw [hnT] at KT
        replace KT := Lib.hid KT
        have HNT := Lib.hid (show (L'.map (·.1)).length = nT ∧ L'.length = nT from ⟨hnT, by rw [← hnT, List.length_map]⟩)
        clear hb8 hb9 hw9 R hnT
        go_upto_region 13 with fail
        rw [HW9.out]
        go_wp2_with (refine wpList_load_mid rfl 24 (.tmp 54) rfl kb 0 rfl D (.array an ae) HK9.out HF.out.2.1 rfl HSS.out ?_)
        refine KT.out.mono ?_
        rintro e w10 ⟨AT, cT, rfl, hrT, hcT, hmT, _, hb10⟩
        have H10 := Lib.hid (show Turned It w1 s (fun _ => False) w10 L' ∧ Blk w10 ab 41 (ics (a.1, (k', a.2.2))).toArray ∧ RdK w10 w10.heap.size AT (L'.map (·.1)) from ⟨K.on H9.out.1 hb10, H9.out.2.below hb10 H9.out.2.lt, hrT⟩)
        unfold maxLen at hmT
        clear hb10 hrT KT
        go_wp2_with fail
        go_loopw [11, 59] (fun inn i wr => ∃ t : Nat, t ≤ nT ∧ i = .int .i64 t ∧ inn = .bool (((L'.map (·.1)).take t).any fun x => decide (x = k')) ∧ Hid (Below w10.heap.size w10 wr)) (fun _ i _ => nT - (intOf i).toNat)
        case atStart => exact ⟨0, Nat.zero_le _, rfl, by rw [List.take_zero]; rfl, Lib.hid (Below.refl _ _)⟩
        case round =>
          obtain ⟨t, ht, rfl, rfl, hbt⟩ := hrel
          by_cases htl : t < nT
          · have htx : t < (L'.map (·.1)).length := by rw [HNT.out.1]; exact htl
            obtain ⟨gt, ot, hAT, hgt, hrt, hqo⟩ := (H10.out.2.2.below hbt.out).at_ htx
            obtain ⟨q, hq⟩ : ∃ q, (L'.map (·.1))[t] = q := ⟨_, rfl⟩
            rw [hq] at hrt hqo
            have HAS := Lib.hid (show ((L'.map (·.1)).take (t + 1)).any (fun x => decide (x = k')) = ((((L'.map (·.1)).take t).any fun x => decide (x = k')) || decide (q = k')) from by rw [any_step _ _ htx, hq])
            obtain ⟨inb, hinb⟩ : ∃ inb, ((L'.map (·.1)).take t).any (fun x => decide (x = k')) = inb := ⟨_, rfl⟩
            rw [hinb] at HAS ⊢
            obtain ⟨rq, hrq⟩ : ∃ rq, decide (q = k') = rq := ⟨_, rfl⟩
            rw [hrq] at HAS
            obtain ⟨Q, hQ⟩ : ∃ Q, kcs q = Q := ⟨_, rfl⟩
            have QE := Lib.hid (show ∀ W, (Op.equal 27 (.agg Q.toArray) (.agg Y.toArray)).run Try.prog W = .ok rq W from fun W => by rw [← hQ, ← HY.out, key_eq hqo HOK.out.1 W, hrq])
            have hqd : q.1 = dd := by
              rw [← hq, List.getElem_map]
              exact HLL.out.1 _ (List.getElem_mem _)
            have HQS := Lib.hid (show (Try.prog.info? 27).map (·.size) = some Q.length from by rw [← hQ, kcs_length hqo]; exact key_size)
            have HRT := Lib.hid (show ∀ W, Below wr.heap.size wr W → W.rangeAt gt (ot + t * 33) Q ∧ W.rangeAt gt (ot + t * 33) D ∧ W.rangeAt ab 1 Y ∧ W.rangeAt kb 0 D from fun W hW => by
              have hbW := hbt.out.trans (hW.mono hbt.out.size)
              have hgw : gt < wr.heap.size := Nat.lt_of_lt_of_le hgt hbt.out.size
              have h1 : W.rangeAt gt (ot + t * 33) (kcs q) := fun u x hx => by rw [hW.cell (p := ⟨gt, ot + t * 33 + u, none⟩) hgw]; exact hrt u x hx
              have h2 := range_sum h1
              rw [hqd, HDL.out.2.2] at h2
              rw [hQ] at h1
              exact ⟨h1, h2, (HRW.out W (H10.out.2.1.below hbW H10.out.2.1.lt)).1, HKB.out W (H10.out.1.bel.trans (hbW.mono H10.out.1.bel.size))⟩)
            have HNUM := Lib.hid (show ∀ W, Below wr.heap.size wr W → W.cell? ⟨gt, ot + t * 33 + 32, none⟩ = some (.int .u32 (q.2 : Nat)) ∧ ∀ t', t = t' + 1 → ∃ x2 : Nat, x2 < q.2 ∧ W.cell? ⟨gt, ot + t' * 33 + 32, none⟩ = some (.int .u32 (x2 : Nat)) from fun W hW => by
              have hgw : gt < wr.heap.size := Nat.lt_of_lt_of_le hgt hbt.out.size
              refine ⟨by rw [hW.cell (p := ⟨gt, ot + t * 33 + 32, none⟩) hgw]; exact hrt 32 _ (kcs_num hqo), fun t' e => ?_⟩
              have hx' : t' < (L'.map (·.1)).length := by omega
              obtain ⟨gt', ot', hAT', _, hrt', hqo'⟩ := (H10.out.2.2.below hbt.out).at_ hx'
              rw [hAT] at hAT'
              injection hAT' with hAT'
              injection hAT' with e1 e2 _
              subst e1; subst e2
              refine ⟨((L'.map fun r : RowT => r.1)[t']'hx').2, ?_, by rw [hW.cell (p := ⟨gt, ot + t' * 33 + 32, none⟩) hgw]; exact hrt' 32 _ (kcs_num hqo')⟩
              subst e
              rw [← hq, List.getElem_map, List.getElem_map]
              exact twins_rise HLL.out.1 HLL.out.2.2.1.rise (by rw [List.length_map] at htx; exact htx))
            have HBT := Lib.hid hbt.out
            subst hAT
            have ti0 : (0 : Int) ≤ (t : Int) := by omega
            have ti1 : (t : Int) < (nT : Int) := by omega
            have hcT9 : nT ≤ 9223372036854775807 := by omega
            clear hbt hrt hqo hq hinb hrq hQ hqd hgt htx
            have R1 := Lib.hid (rng_base (w := wr) (b := gt) (off := ot + t * 33) (cs := Q) fun W hW => (HRT.out W hW).1)
            have R2 := Lib.hid (rng_base (w := wr) (b := ab) (off := 1) (cs := Y) fun W hW => (HRT.out W hW).2.2.1)
            go_wp2_with fail
            cases inb with
            | true =>
              refine wp_region_quiet_below (by kernel_rfl) (by kernel_rfl) ?_
              repeat (go_big_quiet_step (fail))
              refine wpQuiet_nil ?_
              intro _ hw'
              obtain ⟨pq, rfl⟩ := hw'
              obtain ⟨wq, hwq, hbq⟩ := regrown_some wr pq
              rw [hwq]
              have HBQ := Lib.hid hbq
              have R3 := Lib.hid (rng_base (w := wq) (b := gt) (off := ot + t * 33) (cs := D) fun W hW => (HRT.out W (hbq.trans (hW.mono hbq.size))).2.1)
              have R4 := Lib.hid (rng_base (w := wq) (b := kb) (off := 0) (cs := D) fun W hW => (HRT.out W (hbq.trans (hW.mono hbq.size))).2.2.2)
              have hnq := (HNUM.out wq hbq).1
              have d1 := cell_base hnq
              clear hwq hbq R1 R2
              by_cases ht0 : t = 0
              · subst ht0
                have tz1 : decide ((0 : Int) < ((0 : Nat) : Int)) = false := by decide
                go_wp2_with fail
                refine wp_region_quiet_below (by kernel_rfl) (by kernel_rfl) ?_
                repeat (first
                  | (go_big_quiet_want; refine quiet_load_mid 24 (.tmp 76) rfl gt (ot + 0 * 33) rfl D (.array an ae) R3.out HF.out.2.1 rfl HSS.out (by simp only [Act.put, List.setIfInBounds_toArray, List.set_cons_succ, List.set_cons_zero]; rfl) ?_; go_big_quiet_on)
                  | (go_big_quiet_want; refine quiet_load_mid 24 (.tmp 78) rfl kb 0 rfl D (.array an ae) R4.out HF.out.2.1 rfl HSS.out (by simp only [Act.put, List.setIfInBounds_toArray, List.set_cons_succ, List.set_cons_zero]; rfl) ?_; go_big_quiet_on)
                  | (go_big_quiet_want; refine quiet_neq_lit 24 24 (.tmp 77) (.tmp 79) rfl D.toArray D.toArray rfl rfl HSG.out true false rfl HDQ.out (by simp only [Act.put, List.setIfInBounds_toArray, List.set_cons_succ, List.set_cons_zero]; rfl) ?_; go_big_quiet_on)
                  | go_big_quiet_step (fail))
                refine wpQuiet_nil ?_
                intro _ hw'
                obtain ⟨pq2, rfl⟩ := hw'
                obtain ⟨wz, hwz, hbz⟩ := regrown_some wq pq2
                rw [hwz]
                have HBZ := Lib.hid (HBT.out.trans ((HBQ.out.trans (hbz.mono HBQ.out.size)).mono HBT.out.size))
                clear hwz hbz R3 R4 d1 hnq 
                go_wp2_with fail
                go_roundw
                case rel => exact ⟨0 + 1, by omega, by go_num, by rw [HAS.out]; rfl, Lib.hid HBZ.out⟩
                case measure => simp [intOf]; omega
              · obtain ⟨t', rfl⟩ : ∃ t', t = t' + 1 := ⟨t - 1, by omega⟩
                obtain ⟨x2, hx2, hc2⟩ := (HNUM.out wq HBQ.out).2 t' rfl
                have d2 := cell_base hc2
                have ts1 : ((t' + 1 : Nat) : Int) - 1 = (t' : Int) := by omega
                have tz1 : decide ((0 : Int) < ((t' + 1 : Nat) : Int)) = true := decide_eq_true (by omega)
                have tz2 : decide (0 < t' + 1) = true := decide_eq_true (by omega)
                obtain ⟨qn, hqn⟩ : ∃ qn, q.2 = qn := ⟨_, rfl⟩
                rw [hqn] at hx2 d1
                have tx : decide (qn ≤ x2) = false := decide_eq_false (by omega)
                have txi : decide ((qn : Int) ≤ (x2 : Int)) = false := decide_eq_false (by omega)
                clear hqn
                go_wp2_with fail
                refine wp_region_quiet_below (by kernel_rfl) (by kernel_rfl) ?_
                repeat (first
                  | (go_big_quiet_want; refine quiet_load_mid 24 (.tmp 76) rfl gt (ot + (t' + 1) * 33) rfl D (.array an ae) R3.out HF.out.2.1 rfl HSS.out (by simp only [Act.put, List.setIfInBounds_toArray, List.set_cons_succ, List.set_cons_zero]; rfl) ?_; go_big_quiet_on)
                  | (go_big_quiet_want; refine quiet_load_mid 24 (.tmp 78) rfl kb 0 rfl D (.array an ae) R4.out HF.out.2.1 rfl HSS.out (by simp only [Act.put, List.setIfInBounds_toArray, List.set_cons_succ, List.set_cons_zero]; rfl) ?_; go_big_quiet_on)
                  | (go_big_quiet_want; refine quiet_neq_lit 24 24 (.tmp 77) (.tmp 79) rfl D.toArray D.toArray rfl rfl HSG.out true false rfl HDQ.out (by simp only [Act.put, List.setIfInBounds_toArray, List.set_cons_succ, List.set_cons_zero]; rfl) ?_; go_big_quiet_on)
                  | go_big_quiet_step (fail))
                refine wpQuiet_nil ?_
                intro _ hw'
                obtain ⟨pq2, rfl⟩ := hw'
                obtain ⟨wz, hwz, hbz⟩ := regrown_some wq pq2
                rw [hwz]
                have HBZ := Lib.hid (HBT.out.trans ((HBQ.out.trans (hbz.mono HBQ.out.size)).mono HBT.out.size))
                clear hwz hbz R3 R4 d1 hnq d2 hc2
                go_wp2_with fail
                go_roundw
                case rel => exact ⟨(t' + 1) + 1, by omega, by go_num, by rw [HAS.out]; rfl, Lib.hid HBZ.out⟩
                case measure => simp [intOf]; omega
            | false =>
              refine wp_region_quiet_below (by kernel_rfl) (by kernel_rfl) ?_
              repeat (first
                | (go_big_quiet_want; refine quiet_load_mid 27 (.tmp 66) rfl gt (ot + t * 33) rfl Q (.struct fs) R1.out HF.out.1 rfl HQS.out (by simp only [Act.put, List.setIfInBounds_toArray, List.set_cons_succ, List.set_cons_zero]; rfl) ?_; go_big_quiet_on)
                | (go_big_quiet_want; refine quiet_load_mid 27 (.tmp 69) rfl ab 1 rfl Y (.struct fs) R2.out HF.out.1 rfl HYS.out (by simp only [Act.put, List.setIfInBounds_toArray, List.set_cons_succ, List.set_cons_zero]; rfl) ?_; go_big_quiet_on)
                | (go_big_quiet_want; refine quiet_eql_row 27 27 (.tmp 67) (.tmp 70) rfl Q.toArray Y.toArray rfl rfl key_guard rq QE.out (by simp only [Act.put, List.setIfInBounds_toArray, List.set_cons_succ, List.set_cons_zero]; rfl) ?_; go_big_quiet_on)
                | go_big_quiet_step (fail))
              refine wpQuiet_nil ?_
              intro _ hw'
              obtain ⟨pq, rfl⟩ := hw'
              obtain ⟨wq, hwq, hbq⟩ := regrown_some wr pq
              rw [hwq]
              have HBQ := Lib.hid hbq
              have R3 := Lib.hid (rng_base (w := wq) (b := gt) (off := ot + t * 33) (cs := D) fun W hW => (HRT.out W (hbq.trans (hW.mono hbq.size))).2.1)
              have R4 := Lib.hid (rng_base (w := wq) (b := kb) (off := 0) (cs := D) fun W hW => (HRT.out W (hbq.trans (hW.mono hbq.size))).2.2.2)
              have hnq := (HNUM.out wq hbq).1
              have d1 := cell_base hnq
              clear hwq hbq R1 R2
              by_cases ht0 : t = 0
              · subst ht0
                have tz1 : decide ((0 : Int) < ((0 : Nat) : Int)) = false := by decide
                go_wp2_with fail
                refine wp_region_quiet_below (by kernel_rfl) (by kernel_rfl) ?_
                repeat (first
                  | (go_big_quiet_want; refine quiet_load_mid 24 (.tmp 76) rfl gt (ot + 0 * 33) rfl D (.array an ae) R3.out HF.out.2.1 rfl HSS.out (by simp only [Act.put, List.setIfInBounds_toArray, List.set_cons_succ, List.set_cons_zero]; rfl) ?_; go_big_quiet_on)
                  | (go_big_quiet_want; refine quiet_load_mid 24 (.tmp 78) rfl kb 0 rfl D (.array an ae) R4.out HF.out.2.1 rfl HSS.out (by simp only [Act.put, List.setIfInBounds_toArray, List.set_cons_succ, List.set_cons_zero]; rfl) ?_; go_big_quiet_on)
                  | (go_big_quiet_want; refine quiet_neq_lit 24 24 (.tmp 77) (.tmp 79) rfl D.toArray D.toArray rfl rfl HSG.out true false rfl HDQ.out (by simp only [Act.put, List.setIfInBounds_toArray, List.set_cons_succ, List.set_cons_zero]; rfl) ?_; go_big_quiet_on)
                  | go_big_quiet_step (fail))
                refine wpQuiet_nil ?_
                intro _ hw'
                obtain ⟨pq2, rfl⟩ := hw'
                obtain ⟨wz, hwz, hbz⟩ := regrown_some wq pq2
                rw [hwz]
                have HBZ := Lib.hid (HBT.out.trans ((HBQ.out.trans (hbz.mono HBQ.out.size)).mono HBT.out.size))
                clear hwz hbz R3 R4 d1 hnq 
                go_wp2_with fail
                go_roundw
                case rel => exact ⟨0 + 1, by omega, by go_num, by rw [HAS.out]; rfl, Lib.hid HBZ.out⟩
                case measure => simp [intOf]; omega
              · obtain ⟨t', rfl⟩ : ∃ t', t = t' + 1 := ⟨t - 1, by omega⟩
                obtain ⟨x2, hx2, hc2⟩ := (HNUM.out wq HBQ.out).2 t' rfl
                have d2 := cell_base hc2
                have ts1 : ((t' + 1 : Nat) : Int) - 1 = (t' : Int) := by omega
                have tz1 : decide ((0 : Int) < ((t' + 1 : Nat) : Int)) = true := decide_eq_true (by omega)
                have tz2 : decide (0 < t' + 1) = true := decide_eq_true (by omega)
                obtain ⟨qn, hqn⟩ : ∃ qn, q.2 = qn := ⟨_, rfl⟩
                rw [hqn] at hx2 d1
                have tx : decide (qn ≤ x2) = false := decide_eq_false (by omega)
                have txi : decide ((qn : Int) ≤ (x2 : Int)) = false := decide_eq_false (by omega)
                clear hqn
                go_wp2_with fail
                refine wp_region_quiet_below (by kernel_rfl) (by kernel_rfl) ?_
                repeat (first
                  | (go_big_quiet_want; refine quiet_load_mid 24 (.tmp 76) rfl gt (ot + (t' + 1) * 33) rfl D (.array an ae) R3.out HF.out.2.1 rfl HSS.out (by simp only [Act.put, List.setIfInBounds_toArray, List.set_cons_succ, List.set_cons_zero]; rfl) ?_; go_big_quiet_on)
                  | (go_big_quiet_want; refine quiet_load_mid 24 (.tmp 78) rfl kb 0 rfl D (.array an ae) R4.out HF.out.2.1 rfl HSS.out (by simp only [Act.put, List.setIfInBounds_toArray, List.set_cons_succ, List.set_cons_zero]; rfl) ?_; go_big_quiet_on)
                  | (go_big_quiet_want; refine quiet_neq_lit 24 24 (.tmp 77) (.tmp 79) rfl D.toArray D.toArray rfl rfl HSG.out true false rfl HDQ.out (by simp only [Act.put, List.setIfInBounds_toArray, List.set_cons_succ, List.set_cons_zero]; rfl) ?_; go_big_quiet_on)
                  | go_big_quiet_step (fail))
                refine wpQuiet_nil ?_
                intro _ hw'
                obtain ⟨pq2, rfl⟩ := hw'
                obtain ⟨wz, hwz, hbz⟩ := regrown_some wq pq2
                rw [hwz]
                have HBZ := Lib.hid (HBT.out.trans ((HBQ.out.trans (hbz.mono HBQ.out.size)).mono HBT.out.size))
                clear hwz hbz R3 R4 d1 hnq d2 hc2
                go_wp2_with fail
                go_roundw
                case rel => exact ⟨(t' + 1) + 1, by omega, by go_num, by rw [HAS.out]; rfl, Lib.hid HBZ.out⟩
                case measure => simp [intOf]; omega
          · obtain rfl : t = nT := by omega
            rw [List.take_of_length_le (by rw [HNT.out.1]; exact Nat.le_refl _), ← hasX_map, HLL.out.2.2.2]
            have h11 := K.on H10.out.1 hbt.out
            have KL := K.len' h11 (by have := HLL.out.2.1; omega)
            rw [HNT.out.2] at KL
            replace KL := Lib.hid KL
            have R := Lib.hid (HRW.out wr (H10.out.2.1.below hbt.out H10.out.2.1.lt))
            have hc0 := R.out.2.2
            have H11 := Lib.hid h11
            clear hbt h11
            go_wp2_with fail
            refine KL.out.mono ?_
            rintro e w12 ⟨rfl, hb12⟩
            have HN := Lib.hid (K.on H11.out hb12)
            clear hb12 KL hc0
            go_wp2_with fail
            go_roundw
            case rel => exact ⟨j + 1, L', by omega, by go_num, Lib.hid ⟨HN.out, HLL.out.1, HLL.out.2.1⟩⟩
            case measure => simp [intOf]; omega
    · obtain rfl : j = m := by omega
      have HE := Lib.hid (HB1.out.trans (hst.out.1.bel.mono HB1.out.size))
      clear hst
      go_wp2_with fail
      go_ret
      exact ⟨rfl, HE.out⟩
end
end Go.Proofs.Yteieaindejcfbaa
