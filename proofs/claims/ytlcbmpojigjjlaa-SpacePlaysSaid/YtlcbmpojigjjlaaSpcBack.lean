/- The walk of SpaceBack, told from what the package's spaces do. No statement of the seat is proved here. -/
import Derived.Test.YtlcbmpojigjjlaaSpcTwo
import Derived.Test.YtlcbmpojigjjlaaStRegion
import Derived.Deep.RegionHeld
namespace Go.Proofs.Ytlcbmpojigjjlaa
open Go.RowKit
set_option linter.unusedVariables false
set_option linter.unusedSimpArgs false

section
variable {St : World → Addr → (Nat → Prop) → PS → Prop}
theorem SpacesOk.firm (K : SpacesOk St) : Firm St := ⟨K.lt, K.keep⟩
set_option maxRecDepth 100000 in
set_option maxHeartbeats 4000000 in
theorem back_walk (K : SpacesOk St) (N : Nat) (hN : N < 65536) (A : Option Addr) (ls : List PActT) (n c : Nat) (hl : ls.length = n) (hc : n ≤ c) (hm : c ≤ maxLen) (A' : Option Addr) (ls' : List PActT) (n' c' : Nat) (hl' : ls'.length = n') (hc' : n' ≤ c') (hm' : c' ≤ maxLen) (w : World) (hr : RdP w w.heap.size A ls) (hr' : RdP w w.heap.size A' ls') :
    Calls Try.prog 6 #[.int .u16 N, .slice A n c, .slice A' n' c'] w fun e w' => e = .returned (.bool true) ∧ Below w.heap.size w w' := by
  have HK := Lib.hid K
  have HR := Lib.hid (And.intro hr hr')
  have HL := Lib.hid (And.intro hl hl')
  obtain ⟨m, hmm⟩ : ∃ m, N % 2001 = m := ⟨_, rfl⟩
  have hmi : (N : Int) % 2001 = (m : Int) := by omega
  have hm5 : m ≤ 2000 := by omega
  have KF := Lib.hid (fun W => few_any A n c hc hm W)
  have KF' := Lib.hid (fun W => few_any A' n' c' hc' hm' W)
  have hc63 : c ≤ 9223372036854775807 := by unfold maxLen at hm; omega
  have hc63' : c' ≤ 9223372036854775807 := by unfold maxLen at hm'; omega
  clear K hr hl hmm hm hr' hl' hm'
  go_enter Try.func6, Try.ntmps6
  go_wp2_with fail
  (with_reducible refine (shown_any HK.out w).mono ?_)
  rintro e w1 ⟨rfl, hb1⟩
  have KN := Lib.hid (HK.out.new' (w0 := w) m (by omega) hb1)
  clear hb1
  go_wp2_with fail
  (with_reducible refine KN.out.mono ?_)
  rintro e w2 ⟨s, rfl, h2⟩
  have H2 := Lib.hid h2
  have KN2 := Lib.hid (HK.out.new m w2 (by omega))
  clear h2 KN
  go_wp2_with fail
  (with_reducible refine KN2.out.mono ?_)
  rintro e w3 ⟨t, G, rfl, ht, hG, hb3⟩
  have H3 := Lib.hid (show Two St St w w3 s t (newP m) (newP m) from Two.made HK.out.firm H2.out ht hG hb3)
  clear KN2 ht hG hb3 H2
  go_wp2_with fail
  (with_reducible refine (KF.out w3).mono ?_)
  rintro e w3' ⟨k0, hk0, hk3, rfl, rfl⟩
  clear KF
  obtain ⟨fs, hfs⟩ := pact_desc
  have HF := Lib.hid hfs
  clear hfs
  go_wp2_with fail
  go_loopw [50] (fun i wr => ∃ (j : Nat) (S : PS), j ≤ k0 ∧ i = .int .i64 j ∧ Hid (Two St St w wr s t S (newP m) ∧ S.n = m)) (fun i _ => k0 - (intOf i).toNat)
  case atStart => exact ⟨0, _, Nat.zero_le _, rfl, Lib.hid ⟨H3.out, rfl⟩⟩
  case round =>
    clear H3 hmi
    obtain ⟨j, S, hj, rfl, hst⟩ := hrel
    by_cases hlt : j < k0
    · have hjx : j < ls.length := by rw [HL.out.1]; omega
      obtain ⟨g, off, a, rfl, hra, hok, hab⟩ := HR.out.1.get hst.out.1.bel hjx
      have HRA := Lib.hid hra
      have HFA := Lib.hid (pact_facts a)
      have HBZ := Lib.hid (Blk.new wr 33 pdz)
      obtain ⟨w5, ab, hw5, hab5, hb5, hbk5⟩ := pact_box wr a
      have HW5 := Lib.hid hw5
      have HAB := Lib.hid hab5
      have HBK := Lib.hid hbk5
      have HSN := Lib.hid hst.out.2
      obtain ⟨F, hF, htu⟩ := (hst.out.1.on HK.out.firm HK.out.firm hb5).turn HK.out.firm HK.out.firm
      have KD := Lib.hid (does_any HK.out hF a hok)
      have HTU := Lib.hid (fun (w' : World) (S' : PS) (h : Turned St w5 s F w' S') => htu h)
      have hi1 : (0 : Int) ≤ (j : Int) := by omega
      have hi2 : (j : Int) < (k0 : Int) := by omega
      clear hra hok hst hw5 hab5 hb5 hbk5 hab hF htu hjx
      go_wp2_with (first
        | refine wpList_load_mid rfl 33 (.tmp 52) rfl g (off + j * 2) rfl (pcsA a) (.struct fs) HRA.out HF.out rfl HFA.out.1 ?_
        | (refine wpList_store_row rfl 33 (.tmp 13) (.tmp 53) rfl wr.heap.size (pcsA a).toArray rfl rfl 33 pdz HBZ.out HFA.out.2.1 HFA.out.2.2.1 HFA.out.2.2.2 ?_; rw [setRow_new, HW5.out, HAB.out])
        | refine wpList_load_row rfl 33 (.tmp 13) rfl ab rfl 33 (pcsA a).toArray (0, 0) (.struct fs) HBK.out HF.out rfl HFA.out.2.1 ?_)
      (with_reducible refine KD.out.mono ?_)
      rintro e w7 ⟨rfl, h7⟩
      have H7 := Lib.hid (HTU.out _ _ h7)
      clear h7
      go_wp2_with fail
      go_roundw
      case rel => exact ⟨j + 1, doP S a, by omega, by go_num, Lib.hid ⟨H7.out, by rw [doP_n]; exact HSN.out⟩⟩
      case measure => simp [intOf]; omega
    · obtain rfl : k0 = j := by omega
      clear hlt hj
      obtain ⟨wo, rfl⟩ : ∃ wo, wo = wr := ⟨_, rfl⟩
      go_wp2_with fail
      (with_reducible refine (KF'.out wo).mono ?_)
      rintro e w3' ⟨k1, hk1, hk13, rfl, rfl⟩
      go_wp2_with fail
      go_loopw [61] (fun i wr => ∃ (j : Nat) (T : PS), j ≤ k1 ∧ i = .int .i64 j ∧ Hid (Two St St w wr s t S T ∧ S.n = m ∧ T.n = m)) (fun i _ => k1 - (intOf i).toNat)
      case atStart => exact ⟨0, _, Nat.zero_le _, rfl, Lib.hid ⟨hst.out.1, hst.out.2, rfl⟩⟩
      case round =>
        clear hst
        obtain ⟨j, T, hj, rfl, hst⟩ := hrel
        by_cases hlt : j < k1
        · have hjx : j < ls'.length := by rw [HL.out.2]; omega
          obtain ⟨g, off, a, rfl, hra, hok, hab⟩ := HR.out.2.get hst.out.1.bel hjx
          have HRA := Lib.hid hra
          have HFA := Lib.hid (pact_facts a)
          have HBZ := Lib.hid (Blk.new wr 33 pdz)
          obtain ⟨w5, ab, hw5, hab5, hb5, hbk5⟩ := pact_box wr a
          have HW5 := Lib.hid hw5
          have HAB := Lib.hid hab5
          have HBK := Lib.hid hbk5
          have HSN := Lib.hid hst.out.2
          obtain ⟨F, hF, htu⟩ := (hst.out.1.on HK.out.firm HK.out.firm hb5).swap.turn HK.out.firm HK.out.firm
          have KD := Lib.hid (does_any HK.out hF a hok)
          have HTU := Lib.hid (fun (w' : World) (S' : PS) (h : Turned St w5 t F w' S') => htu h)
          have hi1 : (0 : Int) ≤ (j : Int) := by omega
          have hi2 : (j : Int) < (k1 : Int) := by omega
          clear hra hok hst hw5 hab5 hb5 hbk5 hab hF htu hjx
          go_wp2_with (first
            | refine wpList_load_mid rfl 33 (.tmp 63) rfl g (off + j * 2) rfl (pcsA a) (.struct fs) HRA.out HF.out rfl HFA.out.1 ?_
            | (refine wpList_store_row rfl 33 (.tmp 15) (.tmp 64) rfl wr.heap.size (pcsA a).toArray rfl rfl 33 pdz HBZ.out HFA.out.2.1 HFA.out.2.2.1 HFA.out.2.2.2 ?_; rw [setRow_new, HW5.out, HAB.out])
            | refine wpList_load_row rfl 33 (.tmp 15) rfl ab rfl 33 (pcsA a).toArray (0, 0) (.struct fs) HBK.out HF.out rfl HFA.out.2.1 ?_)
          (with_reducible refine KD.out.mono ?_)
          rintro e w7 ⟨rfl, h7⟩
          have H7 := Lib.hid (HTU.out _ _ h7).swap
          clear h7
          go_wp2_with fail
          go_roundw
          case rel => exact ⟨j + 1, doP T a, by omega, by go_num, Lib.hid ⟨H7.out, HSN.out.1, by rw [doP_n]; exact HSN.out.2⟩⟩
          case measure => simp [intOf]; omega
        · obtain rfl : k1 = j := by omega
          clear hlt hj
          obtain ⟨w6, rfl⟩ : ∃ w6, w6 = wr := ⟨_, rfl⟩
          obtain ⟨sn, sS⟩ := S
          obtain ⟨tn, tS⟩ := T
          obtain ⟨htwo, rfl, rfl⟩ : Two St St w w6 s t ⟨sn, sS⟩ ⟨tn, tS⟩ ∧ m = sn ∧ m = tn := ⟨hst.out.1, hst.out.2.1.symm, hst.out.2.2.symm⟩
          have hs6 := htwo.fst
          have ht6 := htwo.snd
          have HS6 := Lib.hid hs6
          have HT6 := Lib.hid ht6
          have HBW := Lib.hid htwo.bel
          have KL := Lib.hid (HK.out.len' hs6)
          clear hst htwo hs6 ht6
          go_wp2_with fail
          (with_reducible refine KL.out.mono ?_)
          rintro e w7 ⟨rfl, h7, hb7⟩
          have KB := Lib.hid (HK.out.bytes' h7)
          have HB7 := Lib.hid hb7
          clear h7 KL hb7
          go_wp2_with fail
          (with_reducible refine KB.out.mono ?_)
          rintro e w8 ⟨A8, c8, rfl, ho8, h8, hb8⟩
          have hcap := ownsRow_form2 ho8
          have KLD := Lib.hid (HK.out.load' (w0 := w) m A8 ((m + 7) / 8) c8 (pk m sS) (by omega) (pk_length m sS) hcap.1 hcap.2 (Rd.of_own ho8) (load_pk m sS) (HBW.out.trans ((HB7.out.mono HBW.out.size).trans (hb8.mono (Nat.le_trans HBW.out.size HB7.out.size)))))
          have HB8 := Lib.hid (HB7.out.trans (hb8.mono HB7.out.size))
          clear ho8 h8 hb8 KB hcap HB7
          go_wp2_with fail
          (with_reducible refine KLD.out.mono ?_)
          rintro e w9 ⟨x, rfl, hx9, hb9⟩
          have HB9 := Lib.hid (HB8.out.trans (hb9.mono HB8.out.size))
          have hX : allF (loadP m (pk m sS)).S m = allF sS m := allF_congr fun i hi => by
            show (decide (i < m) && bitsB (pk m sS) i) = sS i
            rw [pk_bits m sS i hi]
            simp [hi]
          obtain ⟨U, hU⟩ : ∃ U, allF sS m = U := ⟨_, rfl⟩
          obtain ⟨V, hV⟩ : ∃ V, allF tS m = V := ⟨_, rfl⟩
          obtain ⟨u, hu⟩ : ∃ u, U.length = u := ⟨_, rfl⟩
          obtain ⟨v, hv⟩ : ∃ v, V.length = v := ⟨_, rfl⟩
          have hum : u ≤ 2000 := by rw [← hu, ← hU]; exact Nat.le_trans (allF_le _ _) hm5
          have hvm : v ≤ 2000 := by rw [← hv, ← hV]; exact Nat.le_trans (allF_le _ _) hm5
          have HS9 := Lib.hid (HK.out.on HS6.out HB9.out)
          have HT9 := Lib.hid (HK.out.on HT6.out HB9.out)
          have KXA := Lib.hid (show ∀ W, Below w9.heap.size w9 W → Calls Try.prog 20 #[.pointer (some x)] W fun e w' => ∃ A c, e = .returned (.slice A u c) ∧ w'.ownsRow W.heap.size 3 1 (.slice A u c) u (iv (ints U)) ∧ Below W.heap.size W w' from fun W hW =>
            (HK.out.all' (HK.out.on hx9 hW)).mono fun e w' ⟨A, c, he, ho, _, hb⟩ => by
              rw [show allF (loadP m (pk m sS)).S (loadP m (pk m sS)).n = U from hX.trans hU, hu] at he ho
              exact ⟨A, c, he, ho, hb⟩)
          have KSA := Lib.hid (show ∀ W, Below w9.heap.size w9 W → Calls Try.prog 20 #[.pointer (some s)] W fun e w' => ∃ A c, e = .returned (.slice A u c) ∧ w'.ownsRow W.heap.size 3 1 (.slice A u c) u (iv (ints U)) ∧ Below W.heap.size W w' from fun W hW =>
            (HK.out.all' (HK.out.on HS9.out hW)).mono fun e w' ⟨A, c, he, ho, _, hb⟩ => by
              rw [show allF (PS.mk m sS).S (PS.mk m sS).n = U from hU, hu] at he ho
              exact ⟨A, c, he, ho, hb⟩)
          have KTA := Lib.hid (show ∀ W, Below w9.heap.size w9 W → Calls Try.prog 20 #[.pointer (some t)] W fun e w' => ∃ A c, e = .returned (.slice A v c) ∧ w'.ownsRow W.heap.size 3 1 (.slice A v c) v (iv (ints V)) ∧ Below W.heap.size W w' from fun W hW =>
            (HK.out.all' (HK.out.on HT9.out hW)).mono fun e w' ⟨A, c, he, ho, _, hb⟩ => by
              rw [show allF (PS.mk m tS).S (PS.mk m tS).n = V from hV, hv] at he ho
              exact ⟨A, c, he, ho, hb⟩)
          have KXT := Lib.hid (show ∀ W, Below w9.heap.size w9 W → Calls Try.prog 18 #[.pointer (some x)] W fun e w' => e = .returned (.int .i64 (u : Nat)) ∧ Below W.heap.size W w' from fun W hW =>
            (HK.out.taken' (HK.out.on hx9 hW)).mono fun e w' ⟨he, _, hb⟩ => by
              rw [show allF (loadP m (pk m sS)).S (loadP m (pk m sS)).n = U from hX.trans hU, hu] at he
              exact ⟨he, hb⟩)
          have KST := Lib.hid (show ∀ W, Below w9.heap.size w9 W → Calls Try.prog 18 #[.pointer (some s)] W fun e w' => e = .returned (.int .i64 (u : Nat)) ∧ Below W.heap.size W w' from fun W hW =>
            (HK.out.taken' (HK.out.on HS9.out hW)).mono fun e w' ⟨he, _, hb⟩ => by
              rw [show allF (PS.mk m sS).S (PS.mk m sS).n = U from hU, hu] at he
              exact ⟨he, hb⟩)
          have KSB := Lib.hid (show ∀ W, Below w9.heap.size w9 W → Calls Try.prog 21 #[.pointer (some s)] W fun e w' => ∃ A c, e = .returned (.slice A ((m + 7) / 8) c) ∧ (∀ X, Below w'.heap.size w' X → (convert 45 9 (.slice A ((m + 7) / 8) c)).run Try.prog X = .ok (.string ⟨(pk m sS).toArray⟩) X) ∧ Below W.heap.size W w' from fun W hW =>
            (HK.out.bytes' (HK.out.on HS9.out hW)).mono fun e w' ⟨A, c, he, ho, _, hb⟩ => ⟨A, c, he, fun X hX => conv_own (pk_length m sS) (Rd.of_own (ownsRow_below ho hX)), hb⟩)
          have KTB := Lib.hid (show ∀ W, Below w9.heap.size w9 W → Calls Try.prog 21 #[.pointer (some t)] W fun e w' => ∃ A c, e = .returned (.slice A ((m + 7) / 8) c) ∧ (∀ X, Below w'.heap.size w' X → (convert 45 9 (.slice A ((m + 7) / 8) c)).run Try.prog X = .ok (.string ⟨(pk m tS).toArray⟩) X) ∧ Below W.heap.size W w' from fun W hW =>
            (HK.out.bytes' (HK.out.on HT9.out hW)).mono fun e w' ⟨A, c, he, ho, _, hb⟩ => ⟨A, c, he, fun X hX => conv_own (pk_length m tS) (Rd.of_own (ownsRow_below ho hX)), hb⟩)
          have HUV := Lib.hid (show ((⟨(pk m sS).toArray⟩ : ByteArray).toList == (⟨(pk m tS).toArray⟩ : ByteArray).toList) = decide (ints U = ints V) by
            have h1 := pk_iff (n := m) (S := sS) (T := tS)
            rw [hU, hV] at h1
            rw [beq_lists, decide_eq_decide]
            exact h1)
          have HLU := Lib.hid (show (ints U).length = u ∧ (ints V).length = v from ⟨by rw [ints_length, hu], by rw [ints_length, hv]⟩)
          have HW9 := Lib.hid (HBW.out.trans (HB9.out.mono HBW.out.size))
          obtain ⟨sb, hsb⟩ : ∃ sb : ByteArray, (⟨(pk m sS).toArray⟩ : ByteArray) = sb := ⟨_, rfl⟩
          obtain ⟨tb, htb⟩ : ∃ tb : ByteArray, (⟨(pk m tS).toArray⟩ : ByteArray) = tb := ⟨_, rfl⟩
          rw [hsb] at KSB HUV
          rw [htb] at KTB HUV
          clear hx9 hb9 KLD HB8 hX hU hV hu hv hsb htb HS6 HT6 HBW HS9 HT9
          go_wp2_with fail
          (with_reducible refine (KXA.out _ (Below.refl _ _)).mono ?_)
          rintro e wa ⟨A10, c10, rfl, ho10, hb10⟩
          have HB10 := Lib.hid hb10
          have HO10 := Lib.hid ho10
          clear hb10 ho10
          go_wp2_with fail
          (with_reducible refine (KSA.out _ HB10.out).mono ?_)
          rintro e wb ⟨A11, c11, rfl, ho11, hb11⟩
          have KSM := same_any A10 u c10 (ints U) A11 u c11 (ints U) HLU.out.1 HLU.out.1 (by omega) (by omega) wb (rdv_of_own (ownsRow_below HO10.out hb11)) (rdv_of_own ho11)
          rw [decide_eq_true rfl] at KSM
          have KSM := Lib.hid KSM
          have HB11 := Lib.hid (HB10.out.trans (hb11.mono HB10.out.size))
          clear hb11 ho11 HO10 HB10
          go_wp2_with fail
          (with_reducible refine KSM.out.mono ?_)
          rintro e wc ⟨rfl, hb12⟩
          have HB12 := Lib.hid (HB11.out.trans (hb12.mono HB11.out.size))
          clear hb12 KSM HB11
          go_wp2_with fail
          (with_reducible refine (KXT.out _ HB12.out).mono ?_)
          rintro e wd ⟨rfl, hb13⟩
          have HB13 := Lib.hid (HB12.out.trans (hb13.mono HB12.out.size))
          clear hb13 HB12
          go_wp2_with fail
          (with_reducible refine (KST.out _ HB13.out).mono ?_)
          rintro e we ⟨rfl, hb14⟩
          have HB14 := Lib.hid (HB13.out.trans (hb14.mono HB13.out.size))
          clear hb14 HB13
          go_wp2_with fail
          have b0 : Below w9.heap.size w9 we.drew := ⟨HB14.out.os, HB14.out.tape, HB14.out.output, HB14.out.size, HB14.out.block⟩
          clear KXA KXT KST KF'
          refine wp_region_held_drew (S := fun _ => True) (by kernel_rfl) trivial (fun hHeld => ?_)
          refine wpAnyH_take (i := 0) (oi := _) (v := .bool true) rfl (by kernel_rfl) (by kernel_rfl) (by kernel_rfl) (fun _ _ _ h => h) (Or.inl ⟨by rfl, by intro w hSw; go_simp⟩) trivial ?_
          simp only [List.getElem_toArray, List.getElem_cons_zero, List.getElem_cons_succ, Act.put, List.setIfInBounds_toArray, List.set_cons_zero, List.set_cons_succ]
          refine wpAnyH_take (i := 1) (oi := _) (v := .bool true) rfl (by kernel_rfl) (by kernel_rfl) (by kernel_rfl) (fun _ _ _ h => h) (Or.inl ⟨by rfl, by intro w hSw; go_simp⟩) trivial ?_
          simp only [List.getElem_toArray, List.getElem_cons_zero, List.getElem_cons_succ, Act.put, List.setIfInBounds_toArray, List.set_cons_zero, List.set_cons_succ]
          refine wpAnyH_take (i := 2) (oi := _) (v := .pointer (some s)) rfl (by kernel_rfl) (by kernel_rfl) (by kernel_rfl) (fun _ _ _ h => h) (Or.inl ⟨by rfl, by intro w hSw; go_simp⟩) trivial ?_
          simp only [List.getElem_toArray, List.getElem_cons_zero, List.getElem_cons_succ, Act.put, List.setIfInBounds_toArray, List.set_cons_zero, List.set_cons_succ]
          refine wpAnyH_take (i := 5) (oi := _) (v := .pointer (some t)) rfl (by kernel_rfl) (by kernel_rfl) (by kernel_rfl) (fun _ _ _ h => h) (Or.inl ⟨by rfl, by intro w hSw; go_simp⟩) trivial ?_
          simp only [List.getElem_toArray, List.getElem_cons_zero, List.getElem_cons_succ, Act.put, List.setIfInBounds_toArray, List.set_cons_zero, List.set_cons_succ]
          refine wpAnyH_take (i := 9) (oi := _) (v := .pointer (some s)) rfl (by kernel_rfl) (by kernel_rfl) (by kernel_rfl) (fun _ _ _ h => h) (Or.inl ⟨by rfl, by intro w hSw; go_simp⟩) trivial ?_
          simp only [List.getElem_toArray, List.getElem_cons_zero, List.getElem_cons_succ, Act.put, List.setIfInBounds_toArray, List.set_cons_zero, List.set_cons_succ]
          refine wpAnyH_take (i := 11) (oi := _) (v := .pointer (some t)) rfl (by kernel_rfl) (by kernel_rfl) (by kernel_rfl) (fun _ _ _ h => h) (Or.inl ⟨by rfl, by intro w hSw; go_simp⟩) trivial ?_
          simp only [List.getElem_toArray, List.getElem_cons_zero, List.getElem_cons_succ, Act.put, List.setIfInBounds_toArray, List.set_cons_zero, List.set_cons_succ]
          refine wpAnyH_ready (rs := [3]) (by kernel_rfl) (by simp) ?_
          refine AllReadyH.cons rfl (fun K hK => ?_) AllReadyH.nil
          go_simp
          (go_at_call 21; (with_reducible refine (KSB.out _ b0).mono ?_))
          rintro e wf ⟨A20, c20, rfl, hs20, hb20⟩
          have b1 := b0.trans (hb20.mono b0.size)
          go_wp2_with fail
          refine hK.out _ _ trivial (fun _ => ?_)
          clear hK K
          try simp only [List.getElem_toArray, List.getElem_cons_zero, List.getElem_cons_succ, Act.put, List.setIfInBounds_toArray, List.set_cons_zero, List.set_cons_succ]
          refine wpAnyH_strong (S' := fun W => Below wf.heap.size wf W) (fun _ _ => trivial) ?_
          refine wpAnyH_take (i := 4) (oi := _) (v := .string sb) rfl (by kernel_rfl) (by kernel_rfl) (by kernel_rfl) (fun _ _ _ h => h) (Or.inl ⟨by rfl, by intro w hSw; have hcv := hs20 w hSw; go_simp⟩) (Below.refl _ _) ?_
          simp only [List.getElem_toArray, List.getElem_cons_zero, List.getElem_cons_succ, Act.put, List.setIfInBounds_toArray, List.set_cons_zero, List.set_cons_succ]
          refine wpAnyH_ready (rs := [6]) (by kernel_rfl) (by simp) ?_
          refine AllReadyH.cons rfl (fun K hK => ?_) AllReadyH.nil
          go_simp
          (go_at_call 21; (with_reducible refine (KTB.out _ b1).mono ?_))
          rintro e wg ⟨A21, c21, rfl, hs21, hb21⟩
          have b2 := b1.trans (hb21.mono b1.size)
          go_wp2_with fail
          refine hK.out _ _ hb21 (fun _ => ?_)
          clear hK K
          try simp only [List.getElem_toArray, List.getElem_cons_zero, List.getElem_cons_succ, Act.put, List.setIfInBounds_toArray, List.set_cons_zero, List.set_cons_succ]
          refine wpAnyH_strong (S' := fun W => Below wf.heap.size wf W ∧ Below wg.heap.size wg W) (fun _ h => h.1) ?_
          refine wpAnyH_take (i := 7) (oi := _) (v := .string tb) rfl (by kernel_rfl) (by kernel_rfl) (by kernel_rfl) (fun _ _ _ h => h) (Or.inl ⟨by rfl, by intro w hSw; have hcv := hs21 w hSw.2; go_simp⟩) ⟨hb21, Below.refl _ _⟩ ?_
          simp only [List.getElem_toArray, List.getElem_cons_zero, List.getElem_cons_succ, Act.put, List.setIfInBounds_toArray, List.set_cons_zero, List.set_cons_succ]
          refine wpAnyH_take (i := 8) (oi := _) (v := .bool (sb.toList == tb.toList)) rfl (by kernel_rfl) (by kernel_rfl) (by kernel_rfl) (fun _ _ _ h => h) (Or.inl ⟨by rfl, by intro w hSw; go_simp⟩) ⟨hb21, Below.refl _ _⟩ ?_
          simp only [List.getElem_toArray, List.getElem_cons_zero, List.getElem_cons_succ, Act.put, List.setIfInBounds_toArray, List.set_cons_zero, List.set_cons_succ]
          refine wpAnyH_ready (rs := [10]) (by kernel_rfl) (by simp) ?_
          refine AllReadyH.cons rfl (fun K hK => ?_) AllReadyH.nil
          go_simp
          (go_at_call 20; (with_reducible refine (KSA.out _ b2).mono ?_))
          rintro e wh ⟨A22, c22, rfl, ho22, hb22⟩
          have b3 := b2.trans (hb22.mono b2.size)
          have x3 := hb21.trans (hb22.mono hb21.size)
          go_wp2_with fail
          refine hK.out _ _ ⟨x3, hb22⟩ (fun _ => ?_)
          clear hK K
          try simp only [List.getElem_toArray, List.getElem_cons_zero, List.getElem_cons_succ, Act.put, List.setIfInBounds_toArray, List.set_cons_zero, List.set_cons_succ]
          refine wpAnyH_ready (rs := [12]) (by kernel_rfl) (by simp) ?_
          refine AllReadyH.cons rfl (fun K hK => ?_) AllReadyH.nil
          go_simp
          (go_at_call 20; (with_reducible refine (KTA.out _ b3).mono ?_))
          rintro e wi ⟨A23, c23, rfl, ho23, hb23⟩
          have b4 := b3.trans (hb23.mono b3.size)
          have x4 := x3.trans (hb23.mono x3.size)
          have y4 := hb22.trans (hb23.mono hb22.size)
          go_wp2_with fail
          refine hK.out _ _ ⟨x4, y4⟩ (fun _ => ?_)
          clear hK K
          try simp only [List.getElem_toArray, List.getElem_cons_zero, List.getElem_cons_succ, Act.put, List.setIfInBounds_toArray, List.set_cons_zero, List.set_cons_succ]
          refine wpAnyH_ready (rs := [13]) (by kernel_rfl) (by simp) ?_
          refine AllReadyH.cons rfl (fun K hK => ?_) AllReadyH.nil
          go_simp
          (go_at_call 19; refine (same_any A22 u c22 (ints U) A23 v c23 (ints V) HLU.out.1 HLU.out.2 (by omega) (by omega) _ (rdv_of_own (ownsRow_below ho22 hb23)) (rdv_of_own ho23)).mono ?_)
          rintro e wj ⟨rfl, hb24⟩
          have b5 := b4.trans (hb24.mono b4.size)
          have x5 := x4.trans (hb24.mono x4.size)
          have y5 := y4.trans (hb24.mono y4.size)
          rw [← HUV.out]
          go_wp2_with fail
          refine hK.out _ _ ⟨x5, y5⟩ (fun _ => ?_)
          clear hK K
          try simp only [List.getElem_toArray, List.getElem_cons_zero, List.getElem_cons_succ, Act.put, List.setIfInBounds_toArray, List.set_cons_zero, List.set_cons_succ]
          refine wpAnyH_take (i := 14) (oi := _) (v := .bool true) rfl (by kernel_rfl) (by kernel_rfl) (by kernel_rfl) (fun _ _ _ h => h) (Or.inl ⟨by rfl, by intro w hSw; generalize (sb.toList == tb.toList) = B; cases B <;> go_simp⟩) ⟨x5, y5⟩ ?_
          simp only [List.getElem_toArray, List.getElem_cons_zero, List.getElem_cons_succ, Act.put, List.setIfInBounds_toArray, List.set_cons_zero, List.set_cons_succ]
          refine wpAnyH_take (i := 15) (oi := _) (v := .bool true) rfl (by kernel_rfl) (by kernel_rfl) (by kernel_rfl) (fun _ _ _ h => h) (Or.inl ⟨by rfl, by intro w hSw; go_simp⟩) ⟨x5, y5⟩ ?_
          simp only [List.getElem_toArray, List.getElem_cons_zero, List.getElem_cons_succ, Act.put, List.setIfInBounds_toArray, List.set_cons_zero, List.set_cons_succ]
          refine wpAnyH_take (i := 16) (oi := _) (v := .bool true) rfl (by kernel_rfl) (by kernel_rfl) (by kernel_rfl) (fun _ _ _ h => h) (Or.inl ⟨by rfl, by intro w hSw; go_simp⟩) ⟨x5, y5⟩ ?_
          simp only [List.getElem_toArray, List.getElem_cons_zero, List.getElem_cons_succ, Act.put, List.setIfInBounds_toArray, List.set_cons_zero, List.set_cons_succ]
          refine wpAnyH_done (by kernel_rfl) ?_ _
          have HE := Lib.hid (HW9.out.trans (b5.mono HW9.out.size))
          clear b0 b1 b2 b3 b4 b5 x3 x4 x5 y4 y5 hb20 hb21 hb22 hb23 hb24 ho22 ho23 hs20 hs21
          go_wp2_with fail
          go_ret
          exact ⟨rfl, HE.out⟩
end
end Go.Proofs.Ytlcbmpojigjjlaa
