/- TreeAgain's walk, told from what the package does. No statement of the seat is proved here. -/
import Derived.Test.YtiomfkhblmmdoaaTrOrder
namespace Go.Proofs.Ytiomfkhblmmdoaa
open Go.RowKit
set_option linter.unusedVariables false
set_option linter.unusedSimpArgs false
set_option maxRecDepth 100000

section
variable {St : World → Value → List PT → Nat → Prop} {Nu : World → Value → Value → Prop}
set_option maxHeartbeats 1000000 in
theorem all18_any (K : TreesOk St Nu) (v : Value) (L : List PT) (h : Nat) (w : World) (hs : St w v L h) (hl : L.length ≤ 1000) :
    Calls Try.prog 25 #[v] w fun e w' => ∃ A c, e = .returned (.slice A L.length c) ∧ RdP w' w'.heap.size A L ∧ L.length ≤ c ∧ c ≤ maxLen ∧ Below w.heap.size w w' := by
  have KA := Lib.hid (K.pairs v L h [] 4611686018427387904 w hs hl (Nat.zero_le _) (by decide) (by decide))
  rw [from_all L (by omega)] at KA
  clear hs
  go_enter Try.func25, Try.ntmps25
  go_wp2_with fail
  refine KA.out.mono ?_
  rintro e w1 ⟨A, c, rfl, r, -, h1, h2, b⟩
  have HB := Lib.hid b
  have HR := Lib.hid r
  clear r b
  go_wp2_with fail
  go_ret
  exact ⟨A, c, rfl, HR.out, h1, h2, HB.out⟩
set_option maxHeartbeats 8000000 in
theorem again_walk (K : TreesOk St Nu) (A : Option Addr) (ls : List AT18) (k c : Nat) (p q : PT) (hp1 : p.1.length ≤ maxLen) (hp2 : p.2.length ≤ maxLen) (hq1 : q.1.length ≤ maxLen) (hq2 : q.2.length ≤ maxLen) (hl : ls.length = k) (hc : k ≤ c) (hcm : c ≤ maxLen) (w0 : World) (hr0 : RdQ w0 w0.heap.size A ls) :
    Calls Try.prog 8 #[.slice A k c, .agg #[.string (st p.1), .string (st p.2)], .agg #[.string (st q.1), .string (st q.2)]] w0 fun e w' => e = .returned (.bool true) ∧ Below w0.heap.size w0 w' := by
  obtain ⟨w, hw⟩ : ∃ w, (w0.alloc (.cells #[.string (st p.1), .string (st p.2)] 30)).alloc (.cells #[.string (st q.1), .string (st q.2)] 30) = w := ⟨_, rfl⟩
  have hb0 : Below w0.heap.size w0 w := hw ▸ ((Below.refl _ _).alloc (Nat.le_refl _) _).alloc (by simp) _
  have hbp : Blk w w0.heap.size 30 #[.string (st p.1), .string (st p.2)] := by
    have h1 := Blk.new w0 30 #[.string (st p.1), .string (st p.2)]
    rw [← hw]
    exact h1.below ((Below.refl _ _).alloc (Nat.le_refl _) _) h1.lt
  have hbq : Blk w (w0.heap.size + 1) 30 #[.string (st q.1), .string (st q.2)] := by
    have h1 := Blk.new (w0.alloc (.cells #[.string (st p.1), .string (st p.2)] 30)) 30 #[.string (st q.1), .string (st q.2)]
    rw [← hw]
    simpa using h1
  obtain ⟨bp, hp⟩ : ∃ bp, w0.heap.size = bp := ⟨_, rfl⟩
  rw [hp] at hbp hbq
  have SX := Lib.hid (show ∀ W, Below w.heap.size w W → W.cell? ⟨bp, 0, none⟩ = some (.string (st p.1)) ∧ W.cell? ⟨bp, 1, none⟩ = some (.string (st p.2)) ∧ W.cell? ⟨bp + 1, 0, none⟩ = some (.string (st q.1)) ∧ W.cell? ⟨bp + 1, 1, none⟩ = some (.string (st q.2)) from fun W hW => ⟨(hbp.below hW hbp.lt).cell 0, (hbp.below hW hbp.lt).cell 1, (hbq.below hW hbq.lt).cell 0, (hbq.below hW hbq.lt).cell 1⟩)
  have HW0 := Lib.hid (And.intro hw hp)
  have HB0 := Lib.hid hb0
  have hr : RdQ w w.heap.size A ls := hr0.on hb0
  clear hbp hbq hw hp hb0 hr0
  have KS := Lib.hid (shown_any K w)
  have KF := Lib.hid (fun W hW => few_any A ls k c hl hc hcm W (hr.on hW))
  have HR := Lib.hid (show ∀ W, Below w.heap.size w W → RdQ W W.heap.size A ls from fun W hW => hr.on hW)
  have HPL := Lib.hid hl
  obtain ⟨fs, hfs⟩ := act18_desc
  have HF := Lib.hid hfs
  clear hl hr hfs
  go_enter Try.func8, Try.ntmps8
  go_wp2_with fail
  rw [HW0.out.2, HW0.out.1]
  refine KS.out.mono ?_
  rintro e w1 ⟨rfl, hb1⟩
  have KF1 := Lib.hid (KF.out w1 hb1)
  have HB1 := Lib.hid hb1
  clear hb1 KS KF
  go_wp2_with fail
  refine KF1.out.mono ?_
  rintro e w2 ⟨m, hm, hm2, hs, rfl, hb2⟩
  have HS := Lib.hid hs
  have HB2 := Lib.hid (HB1.out.trans (hb2.mono HB1.out.size))
  clear hs hb2 KF1
  go_wp2_with fail
  go_loopw [8, 23] (fun t i wr => ∃ (j : Nat) (v : Value) (L : List PT) (h : Nat), j ≤ m ∧ i = .int .i64 (j : Nat) ∧ v = t ∧ Hid (St wr v L h ∧ L.length ≤ j ∧ Full18 L) ∧ Hid (Below w.heap.size w wr)) (fun _ i _ => m - (intOf i).toNat)
  case atStart => exact ⟨0, _, [], 0, Nat.zero_le _, rfl, rfl, Lib.hid ⟨K.nil _, Nat.le_refl _, fun p hp => by simp at hp⟩, HB2⟩
  case round =>
    obtain ⟨j, v, L, h, hj, rfl, rfl, HT, HB⟩ := hrel
    by_cases hlt : j < m
    · have hjp : j < ls.length := by rw [HPL.out]; omega
      obtain ⟨g, off, rfl, hg, hra⟩ := (HR.out _ HB.out).row hjp
      have hsx := HS.out (ls[j]) (by rw [List.mem_take_iff_getElem]; exact ⟨j, by omega, rfl⟩)
      obtain ⟨x, hx⟩ : ∃ x, ls[j] = x := ⟨_, rfl⟩
      rw [hx] at hra hsx
      obtain ⟨wb, d, hd, hwb, hbb, hkb⟩ := act_box (w := wr) (x := x)
      have HW := Lib.hid (And.intro hd hwb)
      have HKB := Lib.hid hkb
      have HBB := Lib.hid hbb
      have hLj := HT.out.2.1
      have KD := Lib.hid (does_any K _ L h x wb (K.keep HT.out.1 hbb) (by omega) (by have := hsx.1; unfold maxLen; omega) (by have := hsx.2; unfold maxLen; omega))
      have HRA := Lib.hid (show wr.rangeAt g (off + j * 3) [.bool x.1, .string (st x.2.1), .string (st x.2.2)] from hra)
      have hi1 : (0 : Int) ≤ (j : Int) := by omega
      have hi2 : (j : Int) < (m : Int) := by omega
      have HKX := Lib.hid (HT.out.2.2.done (a := x) (by have := hsx.1; unfold maxLen; omega) (by have := hsx.2; unfold maxLen; omega))
      clear hx hjp hg hra hd hwb hbb hkb hsx
      go_upto_region 6 with (first | (refine wpList_load_mid rfl 32 (.tmp 25) rfl g (off + j * 3) rfl [.bool x.1, .string (st x.2.1), .string (st x.2.2)] (.struct fs) HRA.out HF.out rfl act18_size ?_) | fail)
      rw [HW.out.1, HW.out.2]
      have hkd := HKB.out
      have c0 : wb.cell? ⟨d, 0, none⟩ = some (.bool x.1) := hkd.cell 0
      have c1 : wb.cell? ⟨d, 1, none⟩ = some (.string (st x.2.1)) := hkd.cell 1
      have c2 : wb.cell? ⟨d, 2, none⟩ = some (.string (st x.2.2)) := hkd.cell 2
      clear hkd
      go_wp2_with fail
      refine KD.out.mono ?_
      rintro e w3 ⟨v', h', rfl, q1, -, q3⟩
      have HQ := Lib.hid (And.intro q1 (And.intro (show (doL L x).length ≤ j + 1 from do_size L x HT.out.2.1) HKX.out))
      have HB3 := Lib.hid (HB.out.trans (HBB.out.mono HB.out.size |>.trans (q3.mono (Nat.le_trans HB.out.size HBB.out.size))))
      clear q1 q3 c0 c1 c2
      go_wp2_with fail
      go_roundw
      case rel => exact ⟨j + 1, v', doL L x, h', by omega, by go_num, rfl, HQ, HB3⟩
      case measure => simp [intOf]; omega
    · obtain rfl : j = m := by omega
      have hLj := HT.out.2.1
      obtain ⟨wl, hwl⟩ : ∃ W, W = wr := ⟨_, rfl⟩
      subst hwl
      have HO := Lib.hid (K.ord HT.out.1)
      have HLN := Lib.hid hLj
      have SY := Lib.hid (show ∀ W, Below wl.heap.size wl W → _ from fun W hW => SX.out W (HB.out.trans (hW.mono HB.out.size)))
      have HST := Lib.hid HT.out.1
      clear HT HR HS HF HPL
      obtain ⟨M1, hM1⟩ : ∃ M, putL L p.1 p.2 = M := ⟨_, rfl⟩
      obtain ⟨M2, hM2⟩ : ∃ M, dropL L p.1 = M := ⟨_, rfl⟩
      have l1 : M1.length ≤ 201 := hM1 ▸ put_size L p.1 p.2 (by omega)
      have l2 : M2.length ≤ 200 := hM2 ▸ Nat.le_trans (drop_len L p.1) (by omega)
      have HM := Lib.hid (show isL M1 p.1 = true ∧ putL M1 p.1 p.2 = M1 ∧ dropL M1 p.1 = M2 from ⟨hM1 ▸ is_put L p.1 p.2, by rw [← hM1]; exact put_put HO.out _ _ _, by rw [← hM1, ← hM2]; exact put_drop HO.out _ _⟩)
      obtain ⟨y0, y1, y2, y3⟩ := SY.out wl (Below.refl _ _)
      have C1 := Lib.hid (K.put _ L h p.1 p.2 wl HST.out (by omega) hp1 hp2)
      rw [hM1] at C1
      go_wp2_with fail
      refine C1.out.mono ?_
      rintro e w3 ⟨v1, h1, rfl, s1, -, b1⟩
      have B1 := Lib.hid b1
      have S1 := Lib.hid (show ∀ W, Below w3.heap.size w3 W → St W v1 M1 h1 ∧ St W _ L h from fun W hW => ⟨K.keep s1 hW, K.keep HST.out (b1.trans (hW.mono b1.size))⟩)
      clear b1 s1 C1 y0 y1 y2 y3
      obtain ⟨y0, y1, y2, y3⟩ := SY.out w3 B1.out
      have C2 := Lib.hid (K.drop _ L h p.1 w3 (S1.out w3 (Below.refl _ _)).2 (by omega) hp1)
      rw [hM2] at C2
      obtain ⟨I2, hI2⟩ : ∃ I, isL L p.1 = I := ⟨_, rfl⟩
      rw [hI2] at C2
      clear hI2
      go_wp2_with fail
      refine C2.out.mono ?_
      rintro e w4 ⟨v2, h2, rfl, s2, -, b2⟩
      have B2 := Lib.hid (B1.out.trans (b2.mono B1.out.size))
      have S2 := Lib.hid (show ∀ W, Below w4.heap.size w4 W → St W v1 M1 h1 ∧ St W _ L h ∧ St W v2 M2 h2 from fun W hW => ⟨(S1.out W (b2.trans (hW.mono b2.size))).1, (S1.out W (b2.trans (hW.mono b2.size))).2, K.keep s2 hW⟩)
      clear b2 s2 C2 S1 B1 y0 y1 y2 y3
      obtain ⟨y0, y1, y2, y3⟩ := SY.out w4 B2.out
      have C3 := Lib.hid (K.drop v1 M1 h1 p.1 w4 (S2.out w4 (Below.refl _ _)).1 (by omega) hp1)
      rw [HM.out.1, HM.out.2.2] at C3
      go_wp2_with fail
      refine C3.out.mono ?_
      rintro e w5 ⟨v3, h3, rfl, s3, -, b3⟩
      have B3 := Lib.hid (B2.out.trans (b3.mono B2.out.size))
      have S3 := Lib.hid (show ∀ W, Below w5.heap.size w5 W → St W v1 M1 h1 ∧ St W _ L h ∧ St W v2 M2 h2 ∧ St W v3 M2 h3 from fun W hW => ⟨(S2.out W (b3.trans (hW.mono b3.size))).1, (S2.out W (b3.trans (hW.mono b3.size))).2.1, (S2.out W (b3.trans (hW.mono b3.size))).2.2, K.keep s3 hW⟩)
      clear b3 s3 C3 S2 B2 y0 y1 y2 y3
      obtain ⟨y0, y1, y2, y3⟩ := SY.out w5 B3.out
      have C4 := Lib.hid (K.put v1 M1 h1 p.1 p.2 w5 (S3.out w5 (Below.refl _ _)).1 (by omega) hp1 hp2)
      rw [HM.out.2.1] at C4
      go_wp2_with fail
      refine C4.out.mono ?_
      rintro e w6 ⟨v4, h4, rfl, s4, -, b4⟩
      have B4 := Lib.hid b4
      have C5 := Lib.hid (all18_any K v4 M1 h4 w6 s4 (by omega))
      clear b4 s4 C4 y0 y1 y2 y3
      go_wp2_with fail
      refine C5.out.mono ?_
      rintro e w7 ⟨A7, c7, rfl, r7, -, -, b7⟩
      have B7 := Lib.hid (B4.out.trans (b7.mono B4.out.size))
      have R7 := Lib.hid r7
      have C6 := Lib.hid (all18_any K v1 M1 h1 w7 (S3.out w7 B7.out).1 (by omega))
      clear b7 r7 C5
      go_wp2_with fail
      refine C6.out.mono ?_
      rintro e w8 ⟨A8, c8, rfl, r8, -, -, b8⟩
      have B8 := Lib.hid (B7.out.trans (b8.mono B7.out.size))
      have C7 := Lib.hid (rsamepairs_any A7 M1 M1.length c7 A8 M1 M1.length c8 rfl rfl (by omega) w8 (R7.out.on b8) r8)
      rw [decide_eq_true rfl] at C7
      clear b8 r8 C6 R7
      go_wp2_with fail
      refine C7.out.mono ?_
      rintro e w9 ⟨rfl, b9⟩
      have B9 := Lib.hid (B8.out.trans (b9.mono B8.out.size))
      have C8 := Lib.hid (all18_any K v3 M2 h3 w9 (S3.out w9 B9.out).2.2.2 (by omega))
      clear b9 C7
      go_wp2_with fail
      refine C8.out.mono ?_
      rintro e wa ⟨Aa, ca, rfl, ra, -, -, ba⟩
      have BA := Lib.hid (B9.out.trans (ba.mono B9.out.size))
      have RA := Lib.hid ra
      have C9 := Lib.hid (all18_any K v2 M2 h2 wa (S3.out wa BA.out).2.2.1 (by omega))
      clear ba ra C8
      go_wp2_with fail
      refine C9.out.mono ?_
      rintro e wb ⟨Ab, cb, rfl, rb, -, -, bb⟩
      have BB := Lib.hid (BA.out.trans (bb.mono BA.out.size))
      have CA := Lib.hid (rsamepairs_any Aa M2 M2.length ca Ab M2 M2.length cb rfl rfl (by omega) wb (RA.out.on bb) rb)
      rw [decide_eq_true rfl] at CA
      clear bb rb C9 RA
      go_wp2_with fail
      refine CA.out.mono ?_
      rintro e wk ⟨rfl, bc⟩
      have BC := Lib.hid (B3.out.trans ((BB.out.trans (bc.mono BB.out.size)).mono B3.out.size))
      have S4 := Lib.hid (show ∀ W, Below wk.heap.size wk W → St W v1 M1 h1 ∧ St W _ L h from fun W hW => by
        have hx := (BB.out.trans (bc.mono BB.out.size)).trans (hW.mono (BB.out.trans (bc.mono BB.out.size)).size)
        exact ⟨(S3.out W hx).1, (S3.out W hx).2.1⟩)
      have SZ := Lib.hid (show ∀ W, Below wk.heap.size wk W → _ from fun W hW => SY.out W (BC.out.trans (hW.mono BC.out.size)))
      clear bc CA S3 B3 B4 B7 B8 B9 BA BB
      obtain ⟨MA, hMA⟩ : ∃ M, putL M1 q.1 q.2 = M := ⟨_, rfl⟩
      obtain ⟨MB, hMB⟩ : ∃ M, putL L q.1 q.2 = M := ⟨_, rfl⟩
      obtain ⟨MC, hMC⟩ : ∃ M, putL MB p.1 p.2 = M := ⟨_, rfl⟩
      have l3 : MA.length ≤ 202 := hMA ▸ put_size M1 q.1 q.2 l1
      have l4 : MB.length ≤ 201 := hMB ▸ put_size L q.1 q.2 (by omega)
      have l5 : MC.length ≤ 202 := hMC ▸ put_size MB p.1 p.2 l4
      have HCM := Lib.hid (show (p.1 = q.1 → p.2 = q.2) → MA = MC from fun hq => by rw [← hMA, ← hM1, ← hMC, ← hMB]; exact put_comm HO.out _ _ _ _ hq)
      have D1 := Lib.hid (fun W (hW : Below wk.heap.size wk W) => K.put v1 M1 h1 q.1 q.2 W (S4.out W hW).1 (by omega) hq1 hq2)
      have D2 := Lib.hid (fun W (hW : Below wk.heap.size wk W) => K.put _ L h q.1 q.2 W (S4.out W hW).2 (by omega) hq1 hq2)
      have D3 := Lib.hid (fun V H W (hs : St W V MB H) => K.put V MB H p.1 p.2 W hs (by omega) hp1 hp2)
      rw [hMA] at D1
      rw [hMB] at D2
      rw [hMC] at D3
      clear hMA hMB hMC hM1 hM2 S4
      have hbw : Below wk.heap.size wk wk.drew := below_drewN (Below.refl wk.heap.size wk) 1
      go_upto_region 14 with fail
      go_cut [17, 18] from 78 to 94 (fun xa xc wx => ∃ va vc ha hc', va = xa ∧ vc = xc ∧ Hid (St wx va MA ha ∧ St wx vc MC hc') ∧ Hid (Below wk.heap.size wk wx))
      case first =>
        (go_region_held3 (fun W => W.cell? ⟨bp, 0, none⟩ = some (.string (st p.1)) ∧ W.cell? ⟨bp, 1, none⟩ = some (.string (st p.2)) ∧ W.cell? ⟨bp + 1, 0, none⟩ = some (.string (st q.1)) ∧ W.cell? ⟨bp + 1, 1, none⟩ = some (.string (st q.2))) (exact SZ.out _ (by assumption)) (first
          | (go_at_call 13; (with_reducible refine (D1.out _ (by assumption)).mono ?_); rintro e we ⟨va, ha, rfl, sa, -, be⟩; have hbe := Below.trans (by assumption : Below wk.heap.size wk _) (be.mono (Below.size (by assumption))))
          | (go_at_call 13; (with_reducible refine (D2.out _ (by assumption)).mono ?_); rintro e wf ⟨vb, hb, rfl, sb, -, bf⟩; have hbf := Below.trans (by assumption : Below wk.heap.size wk _) (bf.mono (Below.size (by assumption))))
          | (go_at_call 13; (with_reducible refine (D3.out vb hb _ (K.keep sb (by first | exact Below.refl _ _ | assumption))).mono ?_); rintro e wg ⟨vc, hc', rfl, sc, -, bg⟩; have hbg := Below.trans (by assumption : Below wk.heap.size wk _) (bg.mono (Below.size (by assumption))))))
        all_goals (first
          | (have ff := And.intro (K.keep sa (bf.trans (bg.mono bf.size))) sc; go_wp2_with fail; go_meet; exact ⟨_, _, _, _, rfl, rfl, Lib.hid ff, Lib.hid hbg⟩)
          | (have ff := And.intro (K.keep sa bg) sc; go_wp2_with fail; go_meet; exact ⟨_, _, _, _, rfl, rfl, Lib.hid ff, Lib.hid hbg⟩)
          | (have ff := And.intro sa (K.keep sc be); go_wp2_with fail; go_meet; exact ⟨_, _, _, _, rfl, rfl, Lib.hid ff, Lib.hid hbe⟩))
      case rest =>
        obtain ⟨va, vc, ha, hc', rfl, rfl, HFF, HBE⟩ := hcut
        have ff := HFF.out
        have hbe := HBE.out
        clear hbw
        obtain ⟨y0, y1, y2, y3⟩ := SZ.out wc hbe
        by_cases hk : p.1 = q.1
        · have e1 : (p.1 == q.1) = true := by simpa using hk
          by_cases hv : p.2 = q.2
          · have e2 : (p.2 != q.2) = false := by simpa using hv
            obtain rfl := HCM.out fun _ => hv
            have E1 := Lib.hid (all18_any K va MA ha wc ff.1 (by omega))
            have E2 := Lib.hid (fun W (hW : Below wc.heap.size wc W) => all18_any K vc MA hc' W (K.keep ff.2 hW) (by omega))
            have HBF := Lib.hid hbe
            go_wp2_with fail
            refine E1.out.mono ?_
            rintro e x1 ⟨A1, c1, rfl, r1, -, -, b1⟩
            have R1 := Lib.hid r1
            have B1 := Lib.hid b1
            clear r1 b1 E1
            go_wp2_with fail
            refine (E2.out x1 B1.out).mono ?_
            rintro e x2 ⟨A2, c2, rfl, r2, -, -, b2⟩
            have B2 := Lib.hid (B1.out.trans (b2.mono B1.out.size))
            have E3 := Lib.hid (rsamepairs_any A1 MA MA.length c1 A2 MA MA.length c2 rfl rfl (by omega) x2 (R1.out.on b2) r2)
            rw [decide_eq_true rfl] at E3
            clear r2 b2 E2 R1 B1
            go_wp2_with fail
            refine E3.out.mono ?_
            rintro e x3 ⟨rfl, b3⟩
            have B3 := Lib.hid (HBF.out.trans ((B2.out.trans (b3.mono B2.out.size)).mono HBF.out.size))
            clear b3 E3 B2 HBF y0 y1 y2 y3 ff hbe HFF HBE HCM
            go_wp2_with fail
            go_ret
            exact ⟨rfl, HB0.out.trans ((HB.out.trans ((BC.out.trans (B3.out.mono BC.out.size)).mono HB.out.size)).mono HB0.out.size)⟩
          · have e2 : (p.2 != q.2) = true := by simpa using hv
            go_wp2_with fail
            go_ret
            exact ⟨rfl, HB0.out.trans ((HB.out.trans ((BC.out.trans (hbe.mono BC.out.size)).mono HB.out.size)).mono HB0.out.size)⟩
        · have e1 : (p.1 == q.1) = false := by simpa using hk
          obtain rfl := HCM.out fun e => absurd e hk
          have E1 := Lib.hid (all18_any K va MA ha wc ff.1 (by omega))
          have E2 := Lib.hid (fun W (hW : Below wc.heap.size wc W) => all18_any K vc MA hc' W (K.keep ff.2 hW) (by omega))
          have HBF := Lib.hid hbe
          go_wp2_with fail
          refine E1.out.mono ?_
          rintro e x1 ⟨A1, c1, rfl, r1, -, -, b1⟩
          have R1 := Lib.hid r1
          have B1 := Lib.hid b1
          clear r1 b1 E1
          go_wp2_with fail
          refine (E2.out x1 B1.out).mono ?_
          rintro e x2 ⟨A2, c2, rfl, r2, -, -, b2⟩
          have B2 := Lib.hid (B1.out.trans (b2.mono B1.out.size))
          have E3 := Lib.hid (rsamepairs_any A1 MA MA.length c1 A2 MA MA.length c2 rfl rfl (by omega) x2 (R1.out.on b2) r2)
          rw [decide_eq_true rfl] at E3
          clear r2 b2 E2 R1 B1
          go_wp2_with fail
          refine E3.out.mono ?_
          rintro e x3 ⟨rfl, b3⟩
          have B3 := Lib.hid (HBF.out.trans ((B2.out.trans (b3.mono B2.out.size)).mono HBF.out.size))
          clear b3 E3 B2 HBF y0 y1 y2 y3 ff hbe HFF HBE HCM
          go_wp2_with fail
          go_ret
          exact ⟨rfl, HB0.out.trans ((HB.out.trans ((BC.out.trans (B3.out.mono BC.out.size)).mono HB.out.size)).mono HB0.out.size)⟩
end
end Go.Proofs.Ytiomfkhblmmdoaa
