/- The walk of ExtentCuts, told from what package extent does. No statement of the seat is proved here. -/
import Derived.Test.YtgemjipbifgbgaaZXAG
import Derived.Test.YtgemjipbifgbgaaZXAI
import Derived.Test.YtgemjipbifgbgaaZXAJ
import Derived.Test.YtgemjipbifgbgaaZXAM
import Derived.Test.YtgemjipbifgbgaaZXAD
import Derived.Test.YtgemjipbifgbgaaZXAC
import Derived.Test.YtgemjipbifgbgaaZXAN
import Derived.Test.YtgemjipbifgbgaaZXAP
import Derived.BigQuiet
import Derived.Lib.QuietBelow
import Derived.Handy
import Derived.WalkSpells
import Derived.WalkLawsBesides
import Derived.Laws.Tables
import Derived.WalkSmall
namespace Go.Proofs.Ytgemjipbifgbgaa
open Go.RowKit Go.Maps Go.Sort
set_option linter.unusedVariables false
set_option linter.unusedSimpArgs false

theorem cuts_math {l : List RowT} (hr : rightE l = true) (ha : Apart l) {k : Int} (h0 : 0 ≤ k) (hk : k ≤ totalE l) :
    totalE (sliceE l 0 k) = k ∧ totalE (sliceE l k 4611686018427387904) = totalE l - k ∧ joinE [sliceE l 0 k, sliceE l k 4611686018427387904] = l := by
  have hs := right_sum hr
  have ht : totalE l = sumE l := by unfold totalE; rw [if_pos hr]
  have ho := (rightE_iff.1 hr).2
  refine ⟨?_, ?_, ?_⟩
  · rw [slice_total l (by omega) h0]
    omega
  · rw [slice_total l h0 (by omega)]
    omega
  · have e1 : sliceE l 0 k = cutE 0 k 0 l := by unfold sliceE; rw [if_pos hr, Int.zero_add]
    have e2 : sliceE l k 4611686018427387904 = cutE k (sumE l) 0 l := by
      unfold sliceE
      rw [if_pos hr]
      exact cutE_hi ho (by omega) (by omega)
    have e3 : accE [sliceE l 0 k, sliceE l k 4611686018427387904] [] = l := by
      unfold accE
      rw [List.append_nil, e1, e2]
      simp only [List.flatten_cons, List.flatten_nil, List.append_nil]
      exact glue_cut ho ha h0 (by omega)
    rw [join_yes (fun x hx => by
      rcases List.mem_cons.1 hx with rfl | hx
      · exact slice_right _ _ _
      · rw [List.mem_singleton.1 hx]; exact slice_right _ _ _) (by rw [e3]; exact hr), e3]
set_option maxRecDepth 100000 in
set_option maxHeartbeats 8000000 in
theorem cuts_walk (K : ExtentsOk) (SH : ShownE) (A : Option Addr) (n c : Nat) (ls : List RowT) (hl : ls.length = n) (hc : n ≤ c) (hm : c ≤ maxLen) (cut : Nat) (hcut : cut < 65536) (w : World) (hr : RdRw w w.heap.size A ls) :
    Calls Try.prog 7 #[.slice A n c, .int .u16 cut] w fun e w' => e = .returned (.bool true) ∧ Below w.heap.size w w' := by
  obtain ⟨m, hm'⟩ : ∃ m, m = min n 500 := ⟨_, rfl⟩
  have HG := Lib.hid (few_given hl hc hm hr)
  rw [← hm'] at HG
  have hm5 : m ≤ 500 := by omega
  obtain ⟨l, hle⟩ : ∃ l, ls.take 500 = l := ⟨_, rfl⟩
  rw [hle] at HG
  have KF := Lib.hid (fun W => few_any A n c m W hm' hc hm)
  have KR := Lib.hid (fun W (h : GivenE W A l m c) => K.right h)
  have KT := Lib.hid (fun W (h : GivenE W A l m c) => K.total h)
  have KS := Lib.hid (fun W (h : GivenE W A l m c) off q (ho : In64 off) (hq : In64 q) => K.slice h ho hq)
  obtain ⟨fk, hfk⟩ := key_desc
  have HF := Lib.hid hfk
  have eqg := key_guard
  have c64 : IntKind.i64.wrap (cut : Int) = (cut : Int) := by rw [IntKind.wrap_i64]; omega
  have HC := Lib.hid hcut
  have KSH := Lib.hid (SH w)
  obtain ⟨R, hR⟩ : ∃ R, rightE l = R := ⟨_, rfl⟩
  rw [hR] at KR
  have HR := Lib.hid hR
  have HK := Lib.hid K
  clear SH hl hr hle hm' hm hc hfk hR hcut K
  go_enter Try.func7, Try.ntmps7
  go_wp2_with fail
  refine KSH.out.mono ?_
  rintro e w1 ⟨rfl, hb⟩
  have HG1 := Lib.hid (HG.out.on hb)
  have HB1 := Lib.hid hb
  clear hb KSH HG
  go_wp2_with fail
  refine (KF.out w1).mono ?_
  rintro e w1b ⟨rfl, rfl⟩
  go_wp2_with fail
  refine (KR.out w1 HG1.out).mono ?_
  rintro e w2 ⟨rfl, hb⟩
  have HG2 := Lib.hid (HG1.out.on hb)
  have HB2 := Lib.hid (HB1.out.trans (hb.mono HB1.out.size))
  clear hb HG1 HB1 KF KR
  cases R with
  | false =>
    have e1 : ∀ off q : Int, sliceE l off q = [] := fun off q => by unfold sliceE; rw [if_neg (by rw [HR.out]; simp)]
    have e2 : totalE l = 0 := by unfold totalE; rw [if_neg (by rw [HR.out]; simp)]
    have K1 := KS.out w2 HG2.out 0 cut (by constructor <;> omega) (by have := HC.out; constructor <;> omega)
    rw [e1] at K1
    replace K1 := Lib.hid K1
    rw [e2] at KT
    go_wp2_with fail
    refine K1.out.mono ?_
    rintro e w3 ⟨Y, y, rfl, _, _, _, hb⟩
    have HG3 := Lib.hid (HG2.out.on hb)
    have HB3 := Lib.hid (HB2.out.trans (hb.mono HB2.out.size))
    clear hb HG2 HB2 K1
    go_wp2_with fail
    refine (KT.out w3 HG3.out).mono ?_
    rintro e w4 ⟨rfl, hb⟩
    have HB4 := Lib.hid (HB3.out.trans (hb.mono HB3.out.size))
    clear hb HG3 HB3
    go_wp2_with fail
    go_ret
    exact ⟨rfl, HB4.out⟩
  | true =>
    go_wp2_with fail
    go_loopw [7] (fun i wr => ∃ j : Nat, 1 ≤ j ∧ (j ≤ m ∨ j = 1) ∧ i = .int .i64 (j : Nat) ∧ Hid (∀ p (h : p + 1 < l.length), p + 1 < j → goesOn l[p] l[p + 1] = false) ∧ Hid (GivenE wr A l m c) ∧ Hid (Below w.heap.size w wr)) (fun i _ => m - (intOf i).toNat)
    case atStart => exact ⟨1, Nat.le_refl _, .inr rfl, rfl, Lib.hid (fun p h h1 => absurd h1 (by omega)), HG2, HB2⟩
    case round =>
      clear HG2 HB2
      obtain ⟨j, hj1, hj, rfl, HN, HG, HB⟩ := hrel
      by_cases hlt : j < m
      · obtain ⟨p, rfl⟩ : ∃ p, j = p + 1 := ⟨j - 1, by omega⟩
        have hl1 : p + 1 < l.length := by rw [HG.out.len]; exact hlt
        obtain ⟨g, off, rfl, hg, hra, hov⟩ := HG.out.rd.at_ hl1
        obtain ⟨g2, off2, hA2, _, hra2, hoy⟩ := HG.out.rd.at_ (show p < l.length by omega)
        injection hA2 with hA2
        injection hA2 with hA2 hA3 _
        subst hA2
        subst hA3
        have HNX := Lib.hid (show ∀ r : Bool, goesOn l[p] l[p + 1] = r → r = false → ∀ q (h : q + 1 < l.length), q + 1 < p + 1 + 1 → goesOn l[q] l[q + 1] = false from fun r h1 h2 q h h3 => by
          by_cases hq : q + 1 < p + 1
          · exact HN.out q h hq
          · obtain rfl : q = p := by omega
            rw [h1, h2])
        obtain ⟨v, hv⟩ : ∃ v, l[p + 1] = v := ⟨_, rfl⟩
        obtain ⟨y, hy⟩ : ∃ y, l[p]'(by omega) = y := ⟨_, rfl⟩
        rw [hv] at hra hov HNX
        rw [hy] at hra2 hoy HNX
        have HOY := Lib.hid (And.intro hoy hov)
        have hokr := (rightE_iff.1 HR.out).2
        have hlim := okE_iff.1 (hokr y (hy ▸ List.getElem_mem _))
        have HKY := Lib.hid (show (Try.prog.info? 49).map (·.size) = some (kcs y.1).length by rw [kcs_length hoy.key]; exact key_size)
        have HKV := Lib.hid (show (Try.prog.info? 49).map (·.size) = some (kcs v.1).length by rw [kcs_length hov.key]; exact key_size)
        have R1 := Lib.hid (rng_base (w := wr) (b := g) (off := off + p * 35) (cs := kcs y.1) fun W hW => range_key (r := y) fun t b hb => by rw [hW.cell (p := ⟨g, off + p * 35 + t, none⟩) hg]; exact hra2 t b hb)
        have R2 := Lib.hid (rng_base (w := wr) (b := g) (off := off + (p + 1) * 35) (cs := kcs v.1) fun W hW => range_key (r := v) fun t b hb => by rw [hW.cell (p := ⟨g, off + (p + 1) * 35 + t, none⟩) hg]; exact hra t b hb)
        obtain ⟨r, hre⟩ : ∃ r, decide (v.1 = y.1) = r := ⟨_, rfl⟩
        have QE := Lib.hid (show ∀ W, (Op.equal 49 (.agg (kcs v.1).toArray) (.agg (kcs y.1).toArray)).run Try.prog W = .ok r W from fun W => by rw [key_eq hov.key hoy.key W, hre])
        have HRE := Lib.hid hre
        have cy33 := hra2 33 _ (rcs_33 hoy)
        have cy34 := hra2 34 _ (rcs_34 hoy)
        have cv33 := hra 33 _ (rcs_33 hov)
        obtain ⟨yo, hyo⟩ : ∃ t, y.2.1 = t := ⟨_, rfl⟩
        obtain ⟨yl, hyl⟩ : ∃ t, y.2.2 = t := ⟨_, rfl⟩
        obtain ⟨vo, hvo⟩ : ∃ t, v.2.1 = t := ⟨_, rfl⟩
        rw [hyo] at cy33 hlim
        rw [hyl] at cy34 hlim
        rw [hvo] at cv33
        have HVALS := Lib.hid (And.intro hyo (And.intro hyl hvo))
        have y1 := hlim.1
        have y2 : yo ≤ 4096 := by omega
        have y3 : 0 ≤ yl := by omega
        have y4 : yl ≤ 4096 := by omega
        have d1 := cell_base cy33
        have d2 := cell_base cy34
        have d3 := cell_base cv33
        have hu1 : (0 : Int) ≤ (p : Int) := by omega
        have hu2 : ((p + 1 : Nat) : Int) - 1 = (p : Int) := by omega
        have hu3 : ((p + 1 : Nat) : Int) < (m : Int) := by omega
        have hu4 : (p : Int) < (m : Int) := by omega
        have hu5 : (0 : Int) ≤ ((p + 1 : Nat) : Int) := by omega
        have hp5 : p ≤ 500 := by omega
        clear hra hra2 hov hoy hokr hlim hv hy hl1 hre cy33 cy34 cv33 hyo hyl hvo hg HN hj1 hj
        go_upto_region 8 with fail
        cases r with
        | false =>
          have HN9 := Lib.hid (HNX.out _ rfl (by
            unfold goesOn
            refine decide_eq_false fun h => ?_
            exact of_decide_eq_false HRE.out h.1.symm))
          refine wp_region_quiet_below (by kernel_rfl) (by kernel_rfl) ?_
          repeat (first
            | (go_big_quiet_want; refine quiet_load_mid 49 (.tmp 40) rfl g (off + (p + 1) * 35) rfl (kcs v.1) (.struct fk) R2.out HF.out rfl HKV.out (by simp only [Act.put, List.setIfInBounds_toArray, List.set_cons_succ, List.set_cons_zero]; rfl) ?_; go_big_quiet_on)
            | (go_big_quiet_want; refine quiet_load_mid 49 (.tmp 46) rfl g (off + p * 35) rfl (kcs y.1) (.struct fk) R1.out HF.out rfl HKY.out (by simp only [Act.put, List.setIfInBounds_toArray, List.set_cons_succ, List.set_cons_zero]; rfl) ?_; go_big_quiet_on)
            | (go_big_quiet_want; refine quiet_eql_row 49 49 (.tmp 41) (.tmp 47) rfl (kcs v.1).toArray (kcs y.1).toArray rfl rfl eqg false QE.out (by simp only [Act.put, List.setIfInBounds_toArray, List.set_cons_succ, List.set_cons_zero]; rfl) ?_; go_big_quiet_on)
            | go_big_quiet_step (fail))
          refine wpQuiet_nil ?_
          intro _ hw'
          obtain ⟨⟨dq, osq⟩, hw''⟩ := hw'
          subst hw''
          have hbq : Below wr.heap.size wr (grow (redrawn wr dq) osq) := below_regrown wr dq osq
          have HG3 := Lib.hid (HG.out.on hbq)
          have HB3 := Lib.hid (HB.out.trans (hbq.mono HB.out.size))
          clear d1 d2 d3 R1 R2 hbq HG HB
          generalize Go.Sort.grow (redrawn wr dq) osq = w3 at *
          go_wp2_with fail
          go_roundw
          case rel => exact ⟨p + 1 + 1, by omega, .inl (by omega), by go_num, HN9, HG3, HB3⟩
          case measure => simp [intOf]; omega
        | true =>
          by_cases hon : vo = yo + yl
          · have hot : (vo == (yo + yl)) = true := by simpa using hon
            refine wp_region_quiet_below (by kernel_rfl) (by kernel_rfl) ?_
            repeat (first
              | (go_big_quiet_want; refine quiet_load_mid 49 (.tmp 40) rfl g (off + (p + 1) * 35) rfl (kcs v.1) (.struct fk) R2.out HF.out rfl HKV.out (by simp only [Act.put, List.setIfInBounds_toArray, List.set_cons_succ, List.set_cons_zero]; rfl) ?_; go_big_quiet_on)
              | (go_big_quiet_want; refine quiet_load_mid 49 (.tmp 46) rfl g (off + p * 35) rfl (kcs y.1) (.struct fk) R1.out HF.out rfl HKY.out (by simp only [Act.put, List.setIfInBounds_toArray, List.set_cons_succ, List.set_cons_zero]; rfl) ?_; go_big_quiet_on)
              | (go_big_quiet_want; refine quiet_eql_row 49 49 (.tmp 41) (.tmp 47) rfl (kcs v.1).toArray (kcs y.1).toArray rfl rfl eqg true QE.out (by simp only [Act.put, List.setIfInBounds_toArray, List.set_cons_succ, List.set_cons_zero]; rfl) ?_; go_big_quiet_on)
              | go_big_quiet_step (fail))
            refine wpQuiet_nil ?_
            intro _ hw'
            obtain ⟨⟨dq, osq⟩, hw''⟩ := hw'
            subst hw''
            have hbq : Below wr.heap.size wr (grow (redrawn wr dq) osq) := below_regrown wr dq osq
            have HG3 := Lib.hid (HG.out.on hbq)
            have HB3 := Lib.hid (HB.out.trans (hbq.mono HB.out.size))
            clear d1 d2 d3 R1 R2 hbq HG HB
            generalize Go.Sort.grow (redrawn wr dq) osq = w3 at *
            go_wp2_with fail
            go_ret
            exact ⟨rfl, HB3.out⟩
          · have hof : (vo == (yo + yl)) = false := by simpa using hon
            have HN9 := Lib.hid (HNX.out _ rfl (by
              unfold goesOn
              refine decide_eq_false fun h => ?_
              have h2 := h.2
              rw [HVALS.out.1, HVALS.out.2.1, HVALS.out.2.2] at h2
              exact hon h2.symm))
            refine wp_region_quiet_below (by kernel_rfl) (by kernel_rfl) ?_
            repeat (first
              | (go_big_quiet_want; refine quiet_load_mid 49 (.tmp 40) rfl g (off + (p + 1) * 35) rfl (kcs v.1) (.struct fk) R2.out HF.out rfl HKV.out (by simp only [Act.put, List.setIfInBounds_toArray, List.set_cons_succ, List.set_cons_zero]; rfl) ?_; go_big_quiet_on)
              | (go_big_quiet_want; refine quiet_load_mid 49 (.tmp 46) rfl g (off + p * 35) rfl (kcs y.1) (.struct fk) R1.out HF.out rfl HKY.out (by simp only [Act.put, List.setIfInBounds_toArray, List.set_cons_succ, List.set_cons_zero]; rfl) ?_; go_big_quiet_on)
              | (go_big_quiet_want; refine quiet_eql_row 49 49 (.tmp 41) (.tmp 47) rfl (kcs v.1).toArray (kcs y.1).toArray rfl rfl eqg true QE.out (by simp only [Act.put, List.setIfInBounds_toArray, List.set_cons_succ, List.set_cons_zero]; rfl) ?_; go_big_quiet_on)
              | go_big_quiet_step (fail))
            refine wpQuiet_nil ?_
            intro _ hw'
            obtain ⟨⟨dq, osq⟩, hw''⟩ := hw'
            subst hw''
            have hbq : Below wr.heap.size wr (grow (redrawn wr dq) osq) := below_regrown wr dq osq
            have HG3 := Lib.hid (HG.out.on hbq)
            have HB3 := Lib.hid (HB.out.trans (hbq.mono HB.out.size))
            clear d1 d2 d3 R1 R2 hbq HG HB
            generalize Go.Sort.grow (redrawn wr dq) osq = w3 at *
            go_wp2_with fail
            go_roundw
            case rel => exact ⟨p + 1 + 1, by omega, .inl (by omega), by go_num, HN9, HG3, HB3⟩
            case measure => simp [intOf]; omega
      · have hjm : m ≤ j := by omega
        have ha : Apart l := fun q h => HN.out q h (by have := HG.out.len; omega)
        have hst := right_sum HR.out
        have htt : totalE l = sumE l := by unfold totalE; rw [if_pos HR.out]
        obtain ⟨t, ht⟩ := Int.eq_ofNat_of_zero_le hst.1
        rw [ht] at htt hst
        obtain ⟨k, hk⟩ : ∃ k : Nat, k = cut % (t + 1) := ⟨_, rfl⟩
        have hkt : k ≤ t := by have := Nat.mod_lt cut (show 0 < t + 1 by omega); omega
        have hkm : (cut : Int).tmod ((t : Int) + 1) = (k : Int) := by
          rw [hk, Int.natCast_emod, Int.tmod_eq_emod_of_nonneg (by omega)]
          rfl
        obtain ⟨m1, m2, m3⟩ := cuts_math HR.out ha (k := k) (by omega) (by rw [htt]; omega)
        rw [htt] at m2 KT
        have l1 := slice_len l 0 k
        have l2 := slice_len l k 4611686018427387904
        rw [HG.out.len] at l1 l2
        have KA := Lib.hid (fun W h => KS.out W h 0 k (by constructor <;> omega) (by constructor <;> omega))
        have KB := Lib.hid (fun W h => KS.out W h k 4611686018427387904 (by constructor <;> omega) (by constructor <;> omega))
        obtain ⟨P, hP⟩ : ∃ P, sliceE l 0 k = P := ⟨_, rfl⟩
        obtain ⟨Q, hQ⟩ : ∃ Q, sliceE l k 4611686018427387904 = Q := ⟨_, rfl⟩
        rw [hP] at KA m1 m3 l1
        rw [hQ] at KB m2 m3 l2
        obtain ⟨pn, hpn⟩ : ∃ v, P.length = v := ⟨_, rfl⟩
        obtain ⟨qn, hqn⟩ : ∃ v, Q.length = v := ⟨_, rfl⟩
        rw [hpn] at l1
        rw [hqn] at l2
        have HM := Lib.hid (And.intro m1 (And.intro m2 (And.intro m3 (And.intro hpn (And.intro hqn (show pn ≤ 5000 ∧ qn ≤ 5000 by omega))))))
        have hml : ¬ (j : Int) < (m : Int) := by omega
        have t1 : (t : Int) ≤ 67108864 := hst.2
        have t0 : (0 : Int) ≤ (t : Int) := by omega
        have k1 : (k : Int) ≤ (t : Int) := by omega
        have k0 : (0 : Int) ≤ (k : Int) := by omega
        clear ha hst htt ht hk hkt m1 m2 m3 l1 l2 hP hQ hpn hqn HN hlt hjm hj1 hj
        go_wp2_with fail
        refine (KT.out wr HG.out).mono ?_
        rintro e w3 ⟨rfl, hb⟩
        have HG3 := Lib.hid (HG.out.on hb)
        have HB3 := Lib.hid (HB.out.trans (hb.mono HB.out.size))
        clear hb HG HB
        go_wp2_with fail
        refine (KA.out w3 HG3.out).mono ?_
        rintro e w4 ⟨Y, y, rfl, y1, y2, hry, hb⟩
        rw [HM.out.2.2.2.1] at y1 ⊢
        have HG4 := Lib.hid (HG3.out.on hb)
        have HB4 := Lib.hid (HB3.out.trans (hb.mono HB3.out.size))
        have HY4 := Lib.hid (show GivenE w4 Y P pn y from ⟨HM.out.2.2.2.1, y1, y2, HM.out.2.2.2.2.2.1, hry⟩)
        clear hb hry y1 y2 HG3 HB3 KA
        go_wp2_with fail
        refine (KB.out w4 HG4.out).mono ?_
        rintro e w5 ⟨Z, z, rfl, z1, z2, hrz, hb⟩
        rw [HM.out.2.2.2.2.1] at z1 ⊢
        have HG5 := Lib.hid (HG4.out.on hb)
        have HB5 := Lib.hid (HB4.out.trans (hb.mono HB4.out.size))
        have HY5 := Lib.hid (HY4.out.on hb)
        have HZ5 := Lib.hid (show GivenE w5 Z Q qn z from ⟨HM.out.2.2.2.2.1, z1, z2, HM.out.2.2.2.2.2.2, hrz⟩)
        clear hb hrz z1 z2 HG4 HB4 HY4 KB
        have KTY := Lib.hid (fun W h => HK.out.total (w := W) (A := Y) (ls := P) (k := pn) (c := y) h)
        have KTZ := Lib.hid (fun W h => HK.out.total (w := W) (A := Z) (ls := Q) (k := qn) (c := z) h)
        rw [HM.out.1] at KTY
        rw [HM.out.2.1] at KTZ
        go_wp2_with fail
        refine (KTY.out w5 HY5.out).mono ?_
        rintro e w6 ⟨rfl, hb⟩
        have HG6 := Lib.hid (HG5.out.on hb)
        have HB6 := Lib.hid (HB5.out.trans (hb.mono HB5.out.size))
        have HY6 := Lib.hid (HY5.out.on hb)
        have HZ6 := Lib.hid (HZ5.out.on hb)
        clear hb HG5 HB5 HY5 HZ5
        go_wp2_with fail
        refine (KTZ.out w6 HZ6.out).mono ?_
        rintro e w7 ⟨rfl, hb⟩
        have HG7 := Lib.hid (HG6.out.on hb)
        have HB7 := Lib.hid (HB6.out.trans (hb.mono HB6.out.size))
        have HY7 := Lib.hid (HY6.out.on hb)
        have HZ7 := Lib.hid (HZ6.out.on hb)
        clear hb HG6 HB6 HY6 HZ6
        go_wp2_with fail
        refine (KT.out w7 HG7.out).mono ?_
        rintro e w8 ⟨rfl, hb⟩
        have HG8 := Lib.hid (HG7.out.on hb)
        have HB8 := Lib.hid (HB7.out.trans (hb.mono HB7.out.size))
        have HY8 := Lib.hid (HY7.out.on hb)
        have HZ8 := Lib.hid (HZ7.out.on hb)
        clear hb HG7 HB7 HY7 HZ7
        obtain ⟨bb, hbb⟩ : ∃ b, w8.heap.size = b := ⟨_, rfl⟩
        obtain ⟨w9, hw9⟩ : ∃ w9, w8.alloc (.cells #[.slice Y pn y, .slice Z qn z] 22) = w9 := ⟨_, rfl⟩
        have hb9 : Below w8.heap.size w8 w9 := hw9 ▸ (Below.refl _ _).alloc (Nat.le_refl _) _
        have hq9 : Blk w9 bb 22 ([((Y, y), P), ((Z, z), Q)].flatMap lcs).toArray := by
          have e : ([((Y, y), P), ((Z, z), Q)].flatMap lcs).toArray = #[.slice Y pn y, .slice Z qn z] := by
            simp [lcs, HM.out.2.2.2.1, HM.out.2.2.2.2.1]
          rw [e, ← hbb, ← hw9]
          exact Blk.new w8 _ _
        have HY9 := HY8.out.on hb9
        have HZ9 := HZ8.out.on hb9
        have hrl : RdLs w9 w9.heap.size (some ⟨bb, 0, none⟩) [((Y, y), P), ((Z, z), Q)] := ⟨rds_list lsE (c := 2) hq9 (fun _ _ => trivial), fun x hx => by
          rcases List.mem_cons.1 hx with rfl | hx
          · exact HY9.rd
          · rw [List.mem_singleton.1 hx]; exact HZ9.rd, fun x hx => by
          rcases List.mem_cons.1 hx with rfl | hx
          · exact ⟨by rw [HY9.len]; exact HY9.cap, HY9.most, by rw [HY9.len]; exact HY9.small⟩
          · rw [List.mem_singleton.1 hx]; exact ⟨by rw [HZ9.len]; exact HZ9.cap, HZ9.most, by rw [HZ9.len]; exact HZ9.small⟩⟩
        have KJ := HK.out.join (k := 2) (c := 2) rfl (by omega) hrl
        have hms : List.map (fun x : LsT => x.2) [((Y, y), P), ((Z, z), Q)] = [P, Q] := rfl
        rw [hms, HM.out.2.2.1] at KJ
        replace KJ := Lib.hid KJ
        have HG9 := Lib.hid (HG8.out.on hb9)
        have HB9 := Lib.hid (HB8.out.trans (hb9.mono HB8.out.size))
        have HW := Lib.hid (And.intro hbb hw9)
        clear hbb hw9 hb9 hq9 HY9 HZ9 hrl hms HG8 HB8 HY8 HZ8
        go_wp2_with fail
        rw [HW.out.1, HW.out.2]
        refine KJ.out.mono ?_
        rintro e w10 ⟨X, x, rfl, _, _, hrx, hb⟩
        have HG10 := Lib.hid (HG9.out.on hb)
        have HB10 := Lib.hid (HB9.out.trans (hb.mono HB9.out.size))
        have HSM := Lib.hid (same_true X A l m x c HG10.out.len (by omega) w10 hrx HG10.out.rd)
        rw [HG10.out.len]
        clear hb hrx HG9 HB9 KJ HW
        go_wp2_with fail
        refine HSM.out.mono ?_
        rintro e w11 ⟨rfl, hb⟩
        have HB11 := Lib.hid (HB10.out.trans (hb.mono HB10.out.size))
        clear hb HB10 HSM
        go_wp2_with fail
        go_ret
        exact ⟨rfl, HB11.out⟩
end Go.Proofs.Ytgemjipbifgbgaa
/- The contract of the reference's Put, for stages without package codec. No statement of the seat is proved here. -/
namespace Go.Proofs.Ytgemjipbifgbgaa
open Go.RowKit
set_option linter.unusedVariables false

theorem byte_ref (m j : Nat) (_ : m < 2 ^ 64) : (((m / 256 ^ j : Nat) : Int) % 256) = ((UInt8.ofNat (m / 256 ^ j)).toNat : Int) := by
  rw [UInt8.toNat_ofNat']; omega
theorem div_step (m kk : Nat) : ((m / 256 ^ kk : Nat) : Int) / 256 = ((m / 256 ^ (kk + 1) : Nat) : Int) := by
  rw [Nat.pow_succ, ← Nat.div_div_eq_div_mul]; rfl

set_option maxHeartbeats 1000000 in
theorem refput_any (m k : Nat) (w : World) (hk : k ≤ 8) (hm : m < 2 ^ 64) :
    Calls Try.prog 31 #[.int .u64 m, .int .i64 k] w fun e w' =>
      ∃ A' c', e = .returned (.slice A' k c') ∧ w'.ownsRow w.heap.size 5 1 (.slice A' k c') k (bv (be k m)) ∧ Below w.heap.size w w' := by
  obtain ⟨i0, hi, hz0, hz1, hz2⟩ := info_parts info_u8
  have h1 : (k : Int) ≤ 8 := by omega
  have HM := Lib.hid hm
  clear hm
  go_enter Try.func31, Try.ntmps31
  go_wp2
  go_loopw [5, 6] (fun u i wr => ∃ q : Int, -1 ≤ q ∧ q < k ∧ i = .int .i64 q ∧ wr.ownsRow w.heap.size 5 1 u (laidTo k m q).length (bv (laidTo k m q)) ∧ Below w.heap.size w wr)
    (fun _ i _ => (intOf i + 1).toNat)
  case atStart => exact ⟨(k : Int) - 1, by omega, by omega, rfl, by rw [laidTo_start]; exact World.ownsRow_nil _ _ _ _, Below.refl _ _⟩
  case round =>
    obtain ⟨q, hq1, hq2, rfl, hwn, hbel⟩ := hrel
    by_cases hq : 0 ≤ q
    · obtain ⟨j, rfl⟩ := Int.eq_ofNat_of_zero_le hq
      have hstep := Lib.hid (laidTo_step k m j (by omega))
      have hjk : (laidTo k m (j : Int)).length ≤ 8 := by rw [laidTo_length k m _ hq1 hq2]; omega
      have HBEL := Lib.hid hbel
      have HWN := Lib.hid hwn
      clear hbel hwn
      go_wp2
      go_loop [7, 8] (fun x t => ∃ t' y : Nat, t' ≤ j ∧ Hid (y = m / 256 ^ t') ∧ t = .int .i64 t' ∧ x = .int .u64 y) (fun _ t => j - (intOf t).toNat)
      case atStart => exact ⟨0, m, Nat.zero_le _, Lib.hid (by simp), rfl, rfl⟩
      case round =>
        obtain ⟨t', y, ht, HY, rfl, rfl⟩ := hrel
        by_cases htj : t' < j
        · have hw := Lib.hid (show IntKind.u64.wrap ((y / 256 : Nat) : Int) = ((y / 256 : Nat) : Int) by
            have h2 := HM.out
            have h3 : y ≤ m := by rw [HY.out]; exact Nat.div_le_self _ _
            rw [IntKind.wrap_u64]; omega)
          have hd := Lib.hid (show (y : Int) / 256 = ((y / 256 : Nat) : Int) by omega)
          go_wp2
          go_round
          case rel => exact ⟨t' + 1, y / 256, by omega, Lib.hid (by rw [HY.out, Nat.pow_succ, Nat.div_div_eq_div_mul]), by go_num, by rw [hd.out, hw.out]⟩
          case measure => simp [intOf]; omega
        · obtain rfl : t' = j := by omega
          go_wp2_with (at_builtin; refine wpList_append_own _ rfl (.tmp 25) (.tmp 29) 37 rfl w.heap.size 5 i0 (.int .u8 0) 1 1 Try.underlying37 hi hz0 hz1 hz2 rfl (by decide) _ (laidTo k m (t' : Int)).length (bv (laidTo k m (t' : Int))) rfl (HWN.out.alloc _) ⟨wr.heap.size, 0, none⟩ 1 1 [.int .u8 ((y : Int) % 256)] rfl rfl ?c1 ?c2 ?c3 ?c4 ?c5 ?_)
          case c2 => first | rfl | (intro u hu; simp at hu; subst hu; rfl)
          case c3 => unfold maxLen; omega
          case c4 => omega
          case c5 => have := HBEL.out.size; simp; omega
          intro v' w1 hown' hgrow _
          have hbel' : Below w.heap.size w w1 := (HBEL.out.alloc (by have := HBEL.out.size; omega) _).grown hgrow (by have := HBEL.out.size; simp; omega) (fun g hg => (HWN.out.lt g hg).1)
          have hown2 : w1.ownsRow w.heap.size 5 1 v' (laidTo k m ((t' : Int) - 1)).length (bv (laidTo k m ((t' : Int) - 1))) := by
            rw [hstep.out]
            have hb := byte_ref m t' HM.out
            rw [← HY.out] at hb
            rw [hb, HY.out] at hown'
            simpa [bv] using hown'
          clear hown' hgrow HWN hstep
          go_wp2
          go_roundw
          case rel => exact ⟨(t' : Int) - 1, by omega, by omega, rfl, hown2, hbel'⟩
          case measure => simp [intOf]
    · obtain rfl : q = -1 := by omega
      rw [laidTo_end] at hwn
      go_wp2
      go_ret
      have hwn' := hwn
      rw [be_length] at hwn'
      obtain ⟨A', c', hv, _, _⟩ := ownsRow_form hwn'
      exact ⟨A', c', by rw [hv]; rfl, by rw [← hv]; exact hwn', hbel⟩
end Go.Proofs.Ytgemjipbifgbgaa
/- The reference's extents (cellarageref16): Lay. No statement of the seat is proved here. -/
namespace Go.Proofs.Ytgemjipbifgbgaa
open Go.RowKit
set_option linter.unusedVariables false
set_option linter.unusedSimpArgs false

theorem range_sumE {w : World} {g o B : Nat} {k : KeyT} (h : w.rangeAt g o (kcs k)) (hg : g < B) : Rd w B (some ⟨g, o, none⟩) k.1 := fun _ => ⟨g, o, rfl, hg, fun j hj => h j _ (kcs_byte hj)⟩
theorem rexlay_no (A : Option Addr) (ls : List RowT) (k c : Nat) (hl : ls.length = k) (w : World) (hr : RdRw w w.heap.size A ls) (hR : rightE ls = false) :
    Calls Try.prog 25 #[.slice A k c] w fun e w' => e = .returned (.tuple #[.slice none 0 0, .int .i64 1]) ∧ Below w.heap.size w w' := by
  have KR := Lib.hid (rexright_any A ls k c hl w hr)
  rw [hR] at KR
  clear hR hr hl
  go_enter Try.func25, Try.ntmps25
  go_wp2_with (go_at_call 13; refine KR.out.mono ?_; rintro e w1 ⟨rfl, hb1⟩)
  go_ret2
  exact ⟨rfl, hb1⟩
set_option maxRecDepth 100000 in
set_option maxHeartbeats 4000000 in
theorem rexlay_yes (A : Option Addr) (ls : List RowT) (k c : Nat) (hl : ls.length = k) (w : World) (hr : RdRw w w.heap.size A ls) (hR : rightE ls = true) :
    Calls Try.prog 25 #[.slice A k c] w fun e w' => ∃ A' c', e = .returned (.tuple #[.slice A' (layE ls).length c', .int .i64 0]) ∧ Rw w w' A' c' (layE ls).length (layE ls) := by
  have KR := Lib.hid (rexright_any A ls k c hl w hr)
  rw [hR] at KR
  obtain ⟨i0, hi, hz0, hz1, hz2⟩ := info_parts info_u8
  have HI := Lib.hid (And.intro hi (And.intro hz0 (And.intro hz1 hz2)))
  have HQ := Lib.hid hR
  have HR := Lib.hid hr
  have HPL := Lib.hid hl
  have hk : k ≤ 16384 := by have := (rightE_iff.1 hR).1; omega
  have HP1 := Lib.hid (fun W => refput_any k 4 W (by omega) (by omega))
  have k64 : IntKind.u64.wrap (k : Int) = (k : Int) := by rw [IntKind.wrap_u64]; omega
  clear hR hr hl hi hz0 hz1 hz2
  go_enter Try.func25, Try.ntmps25
  go_wp2_with (go_at_call 13; refine KR.out.mono ?_; rintro e w1 ⟨rfl, hb⟩; have HB1 := Lib.hid hb; clear hb)
  refine (HP1.out _).mono ?_
  rintro e w2 ⟨A1, k1, rfl, ho, hb⟩
  have H1 := Lib.hid (show Rw w w2 A1 k1 4 (be 4 k) from ⟨ownsRow_base ho HB1.out.size, HB1.out.trans (hb.mono HB1.out.size)⟩)
  clear ho hb HP1 KR HB1
  go_wp2_with fail
  go_loopw [4, 5] (fun v i wr => ∃ (j n : Nat) (X : Option Addr) (z : Nat), j ≤ k ∧ i = .int .i64 j ∧ v = .slice X n z ∧ n ≤ 700000 ∧ Hid (n = 4 + 40 * j) ∧ Hid (Rw w wr X z n (layJ ls j))) (fun _ i _ => k - (intOf i).toNat)
  case atStart => exact ⟨0, 4, A1, k1, Nat.zero_le _, rfl, rfl, by omega, Lib.hid rfl, Lib.hid (by rw [layJ_zero, HPL.out]; exact H1.out)⟩
  case round =>
    clear H1
    obtain ⟨j, n, X, z, hj, rfl, rfl, hn, HN, HW⟩ := hrel
    by_cases hlt : j < k
    · have hjp : j < ls.length := by rw [HPL.out]; exact hlt
      have HST := Lib.hid (layJ_step hjp)
      obtain ⟨g, off, rfl, hg, hra, hokx⟩ := HR.out.at_ hjp
      have hok := okE_iff.1 ((rightE_iff.1 HQ.out).2 _ (List.getElem_mem hjp))
      obtain ⟨x, hx⟩ : ∃ x, ls[j] = x := ⟨_, rfl⟩
      rw [hx] at hra hokx HST hok
      obtain ⟨S, hS⟩ : ∃ S, x.1.1 = S := ⟨_, rfl⟩
      obtain ⟨N, hN⟩ : ∃ N, x.1.2 = N := ⟨_, rfl⟩
      obtain ⟨O, hO⟩ : ∃ O, x.2.1.toNat = O := ⟨_, rfl⟩
      obtain ⟨L, hL⟩ : ∃ L, x.2.2.toNat = L := ⟨_, rfl⟩
      have hO2 : x.2.1 = (O : Int) := by omega
      have hL2 : x.2.2 = (L : Int) := by omega
      have hO3 : O ≤ 4096 := by omega
      have hL3 : L ≤ 4096 := by omega
      have hnn : N < 4294967296 := by rw [← hN]; exact hokx.key.2
      have HS32 := Lib.hid (show S.length = 32 by rw [← hS]; exact hokx.key.1)
      have HCC := Lib.hid (show ∀ W, Below w.heap.size w W → Rd W W.heap.size (some ⟨g, off + j * 35, none⟩) S ∧ W.cell? ⟨g, off + j * 35 + 32, none⟩ = some (.int .u32 N) ∧ W.cell? ⟨g, off + j * 35 + 33, none⟩ = some (.int .i64 (O : Int)) ∧ W.cell? ⟨g, off + j * 35 + 34, none⟩ = some (.int .i64 (L : Int)) from fun W hW => by
        have h2 : W.rangeAt g (off + j * 35) (rcs x) := fun t v hv => by rw [hW.cell (p := ⟨g, off + j * 35 + t, none⟩) hg]; exact hra t v hv
        rw [← hS, ← hN, ← hO2, ← hL2]
        exact ⟨range_sumE (range_key h2) (Nat.lt_of_lt_of_le hg hW.size), range_key h2 32 _ (kcs_num hokx.key), h2 33 _ (rcs_33 hokx), h2 34 _ (rcs_34 hokx)⟩)
      rw [hS, hN, hO, hL] at HST
      have HP3 := Lib.hid (fun W => refput_any N 4 W (by omega) (by omega))
      have HP4 := Lib.hid (fun W => refput_any O 2 W (by omega) (by omega))
      have HP5 := Lib.hid (fun W => refput_any L 2 W (by omega) (by omega))
      have N64 : IntKind.u64.wrap (N : Int) = (N : Int) := by rw [IntKind.wrap_u64]; omega
      have O64 : IntKind.u64.wrap (O : Int) = (O : Int) := by rw [IntKind.wrap_u64]; omega
      have L64 : IntKind.u64.wrap (L : Int) = (L : Int) := by rw [IntKind.wrap_u64]; omega
      have hi1 : (0 : Int) ≤ (j : Int) := by omega
      have hi2 : (j : Int) < (k : Int) := by omega
      have HRD := Lib.hid (HCC.out wr HW.out.2).1
      clear hra hokx hx hjp hg hS hN hO hL hO2 hL2 hok
      go_wp2_with (at_builtin; refine wpList_append_more _ rfl (.tmp 19) (.tmp 25) 37 rfl w.heap.size 5 i0 Try.underlying37 HI.out.1 HI.out.2.1 HI.out.2.2.1 HI.out.2.2.2 (.slice X n z) n (bv (layJ ls j)) rfl HW.out.1 _ (some ⟨g, off + j * 35, none⟩) 32 32 S rfl HS32.out HRD.out ?_ ?_ ?_)
      case _ => rw [HS32.out]; omega
      case _ => exact HW.out.2.size
      intro A4 k4 w5 ho hg
      obtain ⟨L4, hL4⟩ : ∃ L, layJ ls j ++ S = L := ⟨_, rfl⟩
      have H4 := Lib.hid (HW.out.app (b := S) ho hg)
      rw [hL4] at H4 HST
      clear ho hg HRD HW hL4
      obtain ⟨_, c32, c33, c34⟩ := HCC.out w5 H4.out.2
      go_wp2_with fail
      refine (HP3.out _).mono ?_
      rintro e w6 ⟨A5, k5, rfl, ho, hb⟩
      have H5 := Lib.hid (H4.out.on hb)
      have HR5 := Lib.hid (Rd.of_own ho)
      clear ho hb HP3 H4 c32 c33 c34
      go_wp2_with (at_builtin; refine wpList_append_more _ rfl (.tmp 27) (.tmp 35) 37 rfl w.heap.size 5 i0 Try.underlying37 HI.out.1 HI.out.2.1 HI.out.2.2.1 HI.out.2.2.2 (.slice A4 (n + 32) k4) (n + 32) (bv L4) rfl H5.out.1 _ A5 k5 4 (be 4 N) rfl (be_length 4 _) HR5.out ?_ ?_ ?_)
      case _ => rw [be_length]; omega
      case _ => exact H5.out.2.size
      intro A6 k6 w7 ho hg
      obtain ⟨L6, hLq⟩ : ∃ L, L4 ++ be 4 N = L := ⟨_, rfl⟩
      have H6 := Lib.hid (H5.out.app (b := be 4 N) ho hg)
      rw [hLq] at H6 HST
      clear ho hg HR5 H5 hLq
      obtain ⟨_, c32, c33, c34⟩ := HCC.out w7 H6.out.2
      go_wp2_with fail
      refine (HP4.out _).mono ?_
      rintro e w8 ⟨A7, k7, rfl, ho, hb⟩
      have H7 := Lib.hid (H6.out.on hb)
      have HR7 := Lib.hid (Rd.of_own ho)
      clear ho hb HP4 H6 c32 c33 c34
      go_wp2_with (at_builtin; refine wpList_append_more _ rfl (.tmp 37) (.tmp 44) 37 rfl w.heap.size 5 i0 Try.underlying37 HI.out.1 HI.out.2.1 HI.out.2.2.1 HI.out.2.2.2 (.slice A6 (n + 32 + 4) k6) (n + 32 + 4) (bv L6) rfl H7.out.1 _ A7 k7 2 (be 2 O) rfl (be_length 2 _) HR7.out ?_ ?_ ?_)
      case _ => rw [be_length]; omega
      case _ => exact H7.out.2.size
      intro A8 k8 w9 ho hg
      obtain ⟨L8, hLq⟩ : ∃ L, L6 ++ be 2 O = L := ⟨_, rfl⟩
      have H8 := Lib.hid (H7.out.app (b := be 2 O) ho hg)
      rw [hLq] at H8 HST
      clear ho hg HR7 H7 hLq
      obtain ⟨_, c32, c33, c34⟩ := HCC.out w9 H8.out.2
      go_wp2_with fail
      refine (HP5.out _).mono ?_
      rintro e w10 ⟨A9, k9, rfl, ho, hb⟩
      have H9 := Lib.hid (H8.out.on hb)
      have HR9 := Lib.hid (Rd.of_own ho)
      clear ho hb HP5 H8 c32 c33 c34
      go_wp2_with (at_builtin; refine wpList_append_more _ rfl (.tmp 46) (.tmp 53) 37 rfl w.heap.size 5 i0 Try.underlying37 HI.out.1 HI.out.2.1 HI.out.2.2.1 HI.out.2.2.2 (.slice A8 (n + 32 + 4 + 2) k8) (n + 32 + 4 + 2) (bv L8) rfl H9.out.1 _ A9 k9 2 (be 2 L) rfl (be_length 2 _) HR9.out ?_ ?_ ?_)
      case _ => rw [be_length]; omega
      case _ => exact H9.out.2.size
      intro A10 k10 w11 ho hg
      have H10 := Lib.hid (H9.out.app (b := be 2 L) ho hg)
      rw [← HST.out] at H10
      clear ho hg HR9 H9 HCC
      go_wp2_with fail
      go_roundw
      case rel => exact ⟨j + 1, n + 32 + 4 + 2 + 2, A10, k10, by omega, by go_num, rfl, by have := HN.out; omega, Lib.hid (by have := HN.out; omega), H10⟩
      case measure => simp [intOf]; omega
    · obtain rfl : j = k := by omega
      have HE := Lib.hid (show layJ ls j = layE ls by rw [← HPL.out, layJ_end])
      have HLN := Lib.hid (show n = (layE ls).length by have := HW.out.1.1; rw [bv_length] at this; rw [← HE.out]; omega)
      go_wp2_with fail
      go_ret2
      have h := HW.out
      rw [HE.out] at h
      exact ⟨X, z, by rw [← HLN.out]; rfl, by rw [← HLN.out]; exact h⟩
end Go.Proofs.Ytgemjipbifgbgaa
/- The walks of ExtentBytes and ExtentBack, told from what package extent does. No statement of the seat is proved here. -/
namespace Go.Proofs.Ytgemjipbifgbgaa
open Go.RowKit
set_option linter.unusedVariables false
set_option linter.unusedSimpArgs false

theorem takeE_len (b : List UInt8) : 40 * (takeE b).length ≤ b.length ∧ (takeE b).length ≤ 16384 := by
  cases h : takeOk b with
  | true =>
    obtain ⟨h1, h2, h3⟩ := lay_take h
    have := layE_length fun r hr => (h3 r hr).1
    rw [h2] at this
    exact ⟨by omega, (rightE_iff.1 h1).1⟩
  | false => rw [takeE_no h]; exact ⟨Nat.zero_le _, Nat.zero_le _⟩
theorem takeE_rows (b : List UInt8) : ∀ r ∈ takeE b, RowT.Ok r := fun r hr => by
  obtain ⟨h1, h2⟩ := takeE_ok r hr
  have := okE_iff.1 h2
  exact ⟨h1, by constructor <;> omega, by constructor <;> omega⟩
theorem rexlay_any (A : Option Addr) (ls : List RowT) (k c : Nat) (hl : ls.length = k) (w : World) (hr : RdRw w w.heap.size A ls) :
    Calls Try.prog 25 #[.slice A k c] w fun e w' => ∃ A' c', e = .returned (.tuple #[.slice A' (layX ls).length c', .int .i64 (if rightE ls = true then 0 else 1)]) ∧ Rd w' w'.heap.size A' (layX ls) ∧ Below w.heap.size w w' := by
  cases hR : rightE ls with
  | false =>
    have e : layX ls = [] := by unfold layX; rw [hR]; rfl
    rw [e]
    exact (rexlay_no A ls k c hl w hr hR).mono fun e w' ⟨h1, h2⟩ => ⟨none, 0, h1, Rd.nil _ _ _, h2⟩
  | true =>
    have e : layX ls = layE ls := by unfold layX; rw [hR]; rfl
    rw [e]
    exact (rexlay_yes A ls k c hl w hr hR).mono fun e w' ⟨A', c', h1, h2⟩ => ⟨A', c', h1, Rd.of_own h2.1, h2.2⟩
set_option maxRecDepth 100000 in
set_option maxHeartbeats 4000000 in
theorem bytes_walk (K : ExtentsOk) (SH : ShownE) (A : Option Addr) (n c : Nat) (ls : List RowT) (hl : ls.length = n) (hc : n ≤ c) (hm : c ≤ maxLen) (B : Option Addr) (b : List UInt8) (q cb : Nat) (hbl : b.length = q) (hbc : q ≤ cb) (hbm : cb ≤ maxLen) (w : World) (hr : RdRw w w.heap.size A ls) (hrb : Rd w w.heap.size B b) :
    Calls Try.prog 6 #[.slice A n c, .slice B q cb] w fun e w' => e = .returned (.bool true) ∧ Below w.heap.size w w' := by
  by_cases hbig : 50000 < q
  · have hbi : (50000 : Int) < (q : Int) := by omega
    have KSH := Lib.hid (SH w)
    clear hl hc hm hbl hbc hbm hr hrb hbig
    go_enter Try.func6, Try.ntmps6
    go_wp2_with fail
    refine KSH.out.mono ?_
    rintro e w1 ⟨rfl, hb1⟩
    have HB1 := Lib.hid hb1
    clear hb1 KSH
    go_wp2_with fail
    go_ret
    exact ⟨rfl, HB1.out⟩
  have hbi : ¬ (50000 : Int) < (q : Int) := by omega
  obtain ⟨m, hm'⟩ : ∃ m, m = min n 500 := ⟨_, rfl⟩
  have HG := Lib.hid (few_given hl hc hm hr)
  rw [← hm'] at HG
  obtain ⟨l, hle⟩ : ∃ l, ls.take 500 = l := ⟨_, rfl⟩
  rw [hle] at HG
  have KF := Lib.hid (fun W => few_any A n c m W hm' hc hm)
  have KL := Lib.hid (fun W (h : GivenE W A l m c) => K.lay h)
  have KM := Lib.hid (fun W (h : GivenE W A l m c) => rexlay_any A l m c h.len W h.rd)
  have KT := Lib.hid (fun W (h : Rd W W.heap.size B b) => K.take hbl hbc hbm (by omega) h)
  have KU := Lib.hid (fun W (h : Rd W W.heap.size B b) => rextake_any B b q cb hbl (by omega) hbc hbm W h)
  have htl := (takeE_len b).2
  have htr := takeE_rows b
  generalize takeE b = T at *
  generalize layX l = X at *
  obtain ⟨E, hE⟩ : ∃ E : Int, (if rightE l = true then (0 : Int) else 1) = E := ⟨_, rfl⟩
  obtain ⟨F, hF⟩ : ∃ F : Int, (if takeOk b = true then (0 : Int) else 160) = F := ⟨_, rfl⟩
  rw [hE] at KL KM
  rw [hF] at KT KU
  obtain ⟨u, hu⟩ : ∃ u, T.length = u := ⟨_, rfl⟩
  obtain ⟨x, hx⟩ : ∃ x, X.length = x := ⟨_, rfl⟩
  rw [hu] at KT KU htl
  rw [hx] at KL KM
  have HT := Lib.hid (And.intro hu (And.intro htl htr))
  have HX := Lib.hid hx
  have KSH := Lib.hid (SH w)
  have HRB := Lib.hid hrb
  clear SH hl hr hle hm' hu hx hm hc hbl hbc hbm hrb hE hF htl htr hbig
  go_enter Try.func6, Try.ntmps6
  go_wp2_with fail
  refine KSH.out.mono ?_
  rintro e w1 ⟨rfl, hb⟩
  have HG1 := Lib.hid (HG.out.on hb)
  have HR1 := Lib.hid ((HRB.out.below hb).more hb.size)
  have HB1 := Lib.hid hb
  clear hb KSH HG HRB
  go_wp2_with fail
  refine (KF.out w1).mono ?_
  rintro e w1b ⟨rfl, rfl⟩
  go_wp2_with fail
  refine (KL.out w1 HG1.out).mono ?_
  rintro e w2 ⟨P, pc, rfl, _, _, hrp, hb⟩
  have HG2 := Lib.hid (HG1.out.on hb)
  have HR2 := Lib.hid ((HR1.out.below hb).more hb.size)
  have HB2 := Lib.hid (HB1.out.trans (hb.mono HB1.out.size))
  have HP2 := Lib.hid hrp
  clear hb hrp KL HG1 HR1 HB1 hbi
  go_wp2_with fail
  refine (KF.out w2).mono ?_
  rintro e w2b ⟨rfl, rfl⟩
  go_wp2_with fail
  refine (KM.out w2 HG2.out).mono ?_
  rintro e w3 ⟨Q, qc, rfl, hrq, hb⟩
  have HR3 := Lib.hid ((HR2.out.below hb).more hb.size)
  have HB3 := Lib.hid (HB2.out.trans (hb.mono HB2.out.size))
  have HP3 := Lib.hid ((HP2.out.below hb).more hb.size)
  have HQ3 := Lib.hid hrq
  clear hb hrq KM KF HG2 HR2 HB2 HP2
  go_wp2_with fail
  refine (KT.out w3 HR3.out).mono ?_
  rintro e w4 ⟨Y, y, rfl, _, _, hry, hb⟩
  have HR4 := Lib.hid ((HR3.out.below hb).more hb.size)
  have HB4 := Lib.hid (HB3.out.trans (hb.mono HB3.out.size))
  have HP4 := Lib.hid ((HP3.out.below hb).more hb.size)
  have HQ4 := Lib.hid ((HQ3.out.below hb).more hb.size)
  have HY4 := Lib.hid hry
  clear hb hry KT HR3 HB3 HP3 HQ3
  go_wp2_with fail
  refine (KU.out w4 HR4.out).mono ?_
  rintro e w5 ⟨Z, z, rfl, hoz, hb⟩
  have hb5 : Below w4.heap.size w4 w5 := hb
  have HB5 := Lib.hid (HB4.out.trans (hb5.mono HB4.out.size))
  have s1 := (HP4.out.below hb5).str x pc HX.out w5 (Below.refl _ _ |>.mono (hb5.size))
  have s2 := (HQ4.out.below hb5).str x qc HX.out w5 (Below.refl _ _ |>.mono (hb5.size))
  have HSM := Lib.hid (same_true Y Z T u y z HT.out.1 (by have := HT.out.2.1; omega) w5 (HY4.out.on hb5) ⟨hoz.rd extE HT.out.2.2, HT.out.2.2⟩)
  clear hb hb5 hoz KU HR4 HB4 HP4 HQ4 HY4
  go_wp2_with fail
  refine HSM.out.mono ?_
  rintro e w6 ⟨rfl, hb⟩
  have HB6 := Lib.hid (HB5.out.trans (hb.mono HB5.out.size))
  clear hb HSM HB5 s1 s2
  go_wp2_with fail
  go_ret
  exact ⟨rfl, HB6.out⟩
end Go.Proofs.Ytgemjipbifgbgaa
