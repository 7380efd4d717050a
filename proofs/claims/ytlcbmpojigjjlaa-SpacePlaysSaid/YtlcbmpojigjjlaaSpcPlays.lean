/- The walk of SpacePlays, told from what the package's spaces do. No statement of the seat is proved here. -/
import Derived.Test.YtlcbmpojigjjlaaSpcModel
import Derived.Test.YtlcbmpojigjjlaaSpcLoads
import Derived.Test.YtlcbmpojigjjlaaSpcBack
namespace Go.Proofs.Ytlcbmpojigjjlaa
open Go.RowKit
set_option linter.unusedVariables false
set_option linter.unusedSimpArgs false

section
variable {St : World → Addr → (Nat → Prop) → PS → Prop}
set_option maxRecDepth 100000 in
set_option maxHeartbeats 8000000 in
theorem plays_walk (K : SpacesOk St) (n : Int) (A : Option Addr) (ls : List PActT) (ln c : Nat) (hl : ls.length = ln) (hc : ln ≤ c) (hm : c ≤ maxLen) (x : Int) (hx : In64 x) (w : World) (hr : RdP w w.heap.size A ls) :
    Calls Try.prog 3 #[.int .i64 n, .slice A ln c, .int .i64 x] w fun e w' => e = .returned (.bool true) ∧ Below w.heap.size w w' := by
  have HK := Lib.hid K
  have HR := Lib.hid hr
  have HL := Lib.hid hl
  have HX := Lib.hid hx
  have KF := Lib.hid (fun W => few_any A ln c hc hm W)
  have hc63 : c ≤ 9223372036854775807 := by unfold maxLen at hm; omega
  clear K hr hl hm hx
  by_cases hno : n < 0 ∨ 16384 < n
  · have HNO := Lib.hid hno
    clear hno
    go_enter Try.func3, Try.ntmps3
    go_wp2_with fail
    (with_reducible refine (shown_any HK.out w).mono ?_)
    rintro e w1 ⟨rfl, hb1⟩
    have HB1 := Lib.hid hb1
    have KN := Lib.hid (HK.out.bad n w1 HNO.out)
    clear hb1
    go_wp2_with fail
    (with_reducible refine KN.out.mono ?_)
    rintro e w2 ⟨rfl, hb2⟩
    have HB2 := Lib.hid (HB1.out.trans (hb2.mono HB1.out.size))
    have KR := Lib.hid (rnew_bad n HNO.out w2)
    clear hb2 KN
    go_wp2_with fail
    (with_reducible refine KR.out.mono ?_)
    rintro e w3 ⟨rfl, rfl⟩
    go_wp2_with fail
    go_ret
    exact ⟨rfl, HB2.out⟩
  · obtain ⟨m, rfl⟩ : ∃ m : Nat, n = m := ⟨n.toNat, by omega⟩
    have hm16 : m ≤ 16384 := by omega
    clear hno
    go_enter Try.func3, Try.ntmps3
    go_wp2_with fail
    (with_reducible refine (shown_any HK.out w).mono ?_)
    rintro e w1 ⟨rfl, hb1⟩
    have KN := Lib.hid (HK.out.new' (w0 := w) m hm16 hb1)
    clear hb1
    go_wp2_with fail
    (with_reducible refine KN.out.mono ?_)
    rintro e w2 ⟨s, rfl, h2⟩
    have H2 := Lib.hid h2
    have KR := Lib.hid (rnew_good m hm16 w2)
    clear h2 KN
    go_wp2_with fail
    (with_reducible refine KR.out.mono ?_)
    rintro e w3 ⟨t, G, rfl, ht, hG, hb3⟩
    have H3 := Lib.hid (show Two St Rsp w w3 s t (newP m) (newP m) from Two.made HK.out.firm H2.out ht hG hb3)
    clear KR ht hG hb3 H2
    go_wp2_with fail
    (with_reducible refine (KF.out w3).mono ?_)
    rintro e w3' ⟨k0, hk0, hk3, rfl, rfl⟩
    clear KF
    obtain ⟨fs, hfs⟩ := pact_desc
    have HF := Lib.hid hfs
    clear hfs
    go_wp2_with fail
    go_loopw [52] (fun i wr => ∃ (j : Nat) (S : PS), j ≤ k0 ∧ i = .int .i64 j ∧ Hid (Two St Rsp w wr s t S S ∧ S.n = m)) (fun i _ => k0 - (intOf i).toNat)
    case atStart => exact ⟨0, _, Nat.zero_le _, rfl, Lib.hid ⟨H3.out, rfl⟩⟩
    case round =>
      clear H3
      obtain ⟨j, S, hj, rfl, hst⟩ := hrel
      by_cases hlt : j < k0
      · have hjx : j < ls.length := by rw [HL.out]; omega
        obtain ⟨g, off, a, rfl, hra, hok, hab⟩ := HR.out.get hst.out.1.bel hjx
        have HRA := Lib.hid hra
        have HFA := Lib.hid (pact_facts a)
        have HBZ := Lib.hid (Blk.new wr 33 pdz)
        obtain ⟨w5, ab, hw5, hab5, hb5, hbk5⟩ := pact_box wr a
        have HW5 := Lib.hid hw5
        have HAB := Lib.hid hab5
        have HBK := Lib.hid hbk5
        have HSN := Lib.hid hst.out.2
        have HOKA := Lib.hid hok
        obtain ⟨F, hFl, hF, htu⟩ := hst.out.1.turn2 HK.out.firm rsp_firm hb5
        have KD := Lib.hid (does_any HK.out hF a hok)
        have HTU := Lib.hid (fun (w' : World) (S' : PS) (h : Turned St w5 s F w' S') => (And.intro (htu h) (show Blk w' ab 33 (pcsA a).toArray from hbk5.same (h.only.block ab hbk5.lt fun hf => by have := hFl ab hf; omega))))
        have hi1 : (0 : Int) ≤ (j : Int) := by omega
        have hi2 : (j : Int) < (k0 : Int) := by omega
        clear hra hok hst hw5 hab5 hb5 hbk5 hab hF htu hjx hFl
        go_wp2_with (first
          | refine wpList_load_mid rfl 33 (.tmp 54) rfl g (off + j * 2) rfl (pcsA a) (.struct fs) HRA.out HF.out rfl HFA.out.1 ?_
          | (refine wpList_store_row rfl 33 (.tmp 13) (.tmp 55) rfl wr.heap.size (pcsA a).toArray rfl rfl 33 pdz HBZ.out HFA.out.2.1 HFA.out.2.2.1 HFA.out.2.2.2 ?_; rw [setRow_new, HW5.out, HAB.out])
          | refine wpList_load_row rfl 33 (.tmp 13) rfl ab rfl 33 (pcsA a).toArray (0, 0) (.struct fs) HBK.out HF.out rfl HFA.out.2.1 ?_)
        (with_reducible refine KD.out.mono ?_)
        rintro e w7 ⟨rfl, h7⟩
        have H7 := Lib.hid (HTU.out _ _ h7)
        obtain ⟨G, hGl, hG, htu2⟩ := H7.out.1.swap.turn2 rsp_firm HK.out.firm (Below.refl _ _)
        have KM := Lib.hid (model_any hG a HOKA.out)
        have HTU2 := Lib.hid (fun (w' : World) (S' : PS) (h : Turned Rsp w7 t G w' S') => (htu2 h).swap)
        clear h7 KD hGl hG htu2
        go_wp2_with (refine wpList_load_row rfl 33 (.tmp 13) rfl ab rfl 33 (pcsA a).toArray (0, 0) (.struct fs) H7.out.2 HF.out rfl HFA.out.2.1 ?_)
        (with_reducible refine KM.out.mono ?_)
        rintro e w8 ⟨rfl, h8⟩
        have H8 := Lib.hid (HTU2.out _ _ h8)
        have hSn : (doP S a).n = m := by rw [doP_n]; exact HSN.out
        obtain ⟨⟨sn, sS⟩, hS'⟩ : ∃ S', doP S a = S' := ⟨_, rfl⟩
        rw [hS'] at H8 hSn
        obtain rfl : m = sn := hSn.symm
        have KH := HK.out.has' H8.out.fst x HX.out
        have HON := Lib.hid (fun W (hW : Below w8.heap.size w8 W) => (H8.out.on HK.out.firm rsp_firm hW))
        clear h8 KM HTU2 HTU H7 H8 hS'
        obtain ⟨dv, hdv⟩ : ∃ dv, doV S a = dv := ⟨_, rfl⟩
        obtain ⟨de, hde⟩ : ∃ de, doE S a = de := ⟨_, rfl⟩
        rw [hdv, hde]
        clear hdv hde
        by_cases hx0 : x < 0
        · have hv : hasV ⟨m, sS⟩ x = false := by
            unfold hasV
            have : decide (0 ≤ x) = false := by simp; omega
            rw [this]; rfl
          rw [hv] at KH
          have KH := Lib.hid KH
          have hx1 : ¬ (0 : Int) ≤ x := by omega
          clear hv
          go_wp2_with fail
          (with_reducible refine KH.out.mono ?_)
          rintro e w9 ⟨rfl, _, hb9⟩
          have H9 := Lib.hid (HON.out _ hb9)
          clear hb9 KH
          go_wp2_with fail
          go_roundw
          case rel => exact ⟨j + 1, ⟨m, sS⟩, by omega, by go_num, Lib.hid ⟨H9.out, rfl⟩⟩
          case measure => simp [intOf]; omega
        · obtain ⟨y, rfl⟩ : ∃ y : Nat, x = y := ⟨x.toNat, by omega⟩
          have hx1 : (0 : Int) ≤ (y : Int) := by omega
          by_cases hym : (m : Int) ≤ (y : Int)
          · have hv : hasV ⟨m, sS⟩ (y : Int) = false := by
              unfold hasV
              have : decide ((y : Int) < ((PS.mk m sS).n : Int)) = false := by show decide ((y : Int) < (m : Int)) = false; simp; omega
              rw [this]; simp
            rw [hv] at KH
            have KH := Lib.hid KH
            have hx2 : ¬ (y : Int) < (m : Int) := by omega
            clear hv
            go_wp2_with fail
            (with_reducible refine KH.out.mono ?_)
            rintro e w9 ⟨rfl, _, hb9⟩
            have H9 := Lib.hid (HON.out _ hb9)
            obtain ⟨F9, ⟨d9, A9, c9, ht9, hd9, _⟩, _⟩ := H9.out.snd
            have hc9 : w9.cell? ⟨d9, 0, none⟩ = some (.slice A9 m c9) := hd9.blk.cell 0
            subst ht9
            clear hb9 KH hd9
            go_wp2_with fail
            go_roundw
            case rel => exact ⟨j + 1, ⟨m, sS⟩, by omega, by go_num, Lib.hid ⟨H9.out, rfl⟩⟩
            case measure => simp [intOf]; omega
          · have hx2 : (y : Int) < (m : Int) := by omega
            have hv : hasV ⟨m, sS⟩ (y : Int) = sS y := by
              unfold hasV
              have h1 : decide ((0 : Int) ≤ (y : Int)) = true := by simp
              have h2 : decide ((y : Int) < ((PS.mk m sS).n : Int)) = true := by show decide ((y : Int) < (m : Int)) = true; simp; omega
              rw [h1, h2]; simp
            rw [hv] at KH
            have KH := Lib.hid KH
            clear hv
            go_wp2_with fail
            (with_reducible refine KH.out.mono ?_)
            rintro e w9 ⟨rfl, _, hb9⟩
            have H9 := Lib.hid (HON.out _ hb9)
            obtain ⟨F9, ⟨d9, A9, c9, ht9, hd9, _⟩, _⟩ := H9.out.snd
            have hc9 : w9.cell? ⟨d9, 0, none⟩ = some (.slice A9 m c9) := hd9.blk.cell 0
            obtain ⟨g9, hA9, _, hcy, _⟩ := hd9.at_ (i := y) (by show y < m; omega)
            replace hcy : w9.cell? ⟨g9, y, none⟩ = some (.bool (sS y)) := hcy
            subst ht9
            subst hA9
            clear hb9 KH hd9
            cases hB : sS y with
            | false =>
              rw [hB] at hcy
              clear hB
              go_wp2_with fail
              go_roundw
              case rel => exact ⟨j + 1, ⟨m, sS⟩, by omega, by go_num, Lib.hid ⟨H9.out, rfl⟩⟩
              case measure => simp [intOf]; omega
            | true =>
              rw [hB] at hcy
              clear hB
              go_wp2_with fail
              go_roundw
              case rel => exact ⟨j + 1, ⟨m, sS⟩, by omega, by go_num, Lib.hid ⟨H9.out, rfl⟩⟩
              case measure => simp [intOf]; omega
      · obtain rfl : k0 = j := by omega
        obtain ⟨sn, sS⟩ := S
        obtain ⟨htw, hsn⟩ := hst.out
        obtain rfl : m = sn := hsn.symm
        obtain ⟨F9, ⟨d, Ad, cd, ht9, hd9, _⟩, _⟩ := htw.snd
        subst ht9
        have hd9 : RSp wr d Ad cd m sS := hd9
        obtain ⟨U, hU⟩ : ∃ U, allF sS m = U := ⟨_, rfl⟩
        obtain ⟨u, hu⟩ : ∃ u, U.length = u := ⟨_, rfl⟩
        have hum : u ≤ 16384 := by rw [← hu, ← hU]; exact Nat.le_trans (allF_le _ _) hm16
        have KA0 := rall_any hd9 hm16
        rw [hU, hu] at KA0
        have KA := Lib.hid KA0
        have HTW := Lib.hid htw.fst
        have HD := Lib.hid hd9
        have HUU := Lib.hid (And.intro hU hu)
        clear hst hsn htw hd9 hU hu KA0 hlt hj
        obtain ⟨wo, rfl⟩ : ∃ wo, wo = wr := ⟨_, rfl⟩
        go_wp2_with fail
        (with_reducible refine KA.out.mono ?_)
        rintro e w3 ⟨A3, c3, rfl, ho3, hb3⟩
        have HS3 := Lib.hid (HK.out.on HTW.out hb3)
        have HD3 := Lib.hid (HD.out.below hb3)
        have HO3 := Lib.hid ho3
        have HB3 := Lib.hid (HTW.out.bel.trans (hb3.mono HTW.out.bel.size))
        have KN := Lib.hid (show ∀ W, Below w3.heap.size w3 W → Calls Try.prog 17 #[.pointer (some s)] W fun e w' => e = .returned (.int .i64 (m : Nat)) ∧ Below W.heap.size W w' from fun W hW =>
          (HK.out.len' (HK.out.on HS3.out hW)).mono fun e w' ⟨he, _, hb⟩ => ⟨he, hb⟩)
        have KT := Lib.hid (show ∀ W, Below w3.heap.size w3 W → Calls Try.prog 18 #[.pointer (some s)] W fun e w' => e = .returned (.int .i64 (u : Nat)) ∧ Below W.heap.size W w' from fun W hW =>
          (HK.out.taken' (HK.out.on HS3.out hW)).mono fun e w' ⟨he, _, hb⟩ => by
            rw [show allF (PS.mk m sS).S (PS.mk m sS).n = U from HUU.out.1, HUU.out.2] at he
            exact ⟨he, hb⟩)
        have KSA := Lib.hid (show ∀ W, Below w3.heap.size w3 W → Calls Try.prog 20 #[.pointer (some s)] W fun e w' => ∃ A c, e = .returned (.slice A u c) ∧ w'.ownsRow W.heap.size 3 1 (.slice A u c) u (iv (ints U)) ∧ Below W.heap.size W w' from fun W hW =>
          (HK.out.all' (HK.out.on HS3.out hW)).mono fun e w' ⟨A, c, he, ho, _, hb⟩ => by
            rw [show allF (PS.mk m sS).S (PS.mk m sS).n = U from HUU.out.1, HUU.out.2] at he ho
            exact ⟨A, c, he, ho, hb⟩)
        obtain ⟨sb, hsb⟩ : ∃ sb : ByteArray, (⟨(pk m sS).toArray⟩ : ByteArray) = sb := ⟨_, rfl⟩
        have KSB := Lib.hid (show ∀ W, Below w3.heap.size w3 W → Calls Try.prog 21 #[.pointer (some s)] W fun e w' => ∃ A c, e = .returned (.slice A ((m + 7) / 8) c) ∧ (∀ X, Below w'.heap.size w' X → (convert 45 9 (.slice A ((m + 7) / 8) c)).run Try.prog X = .ok (.string sb) X) ∧ Below W.heap.size W w' from fun W hW =>
          (HK.out.bytes' (HK.out.on HS3.out hW)).mono fun e w' ⟨A, c, he, ho, _, hb⟩ => ⟨A, c, he, fun X hX => by rw [← hsb]; exact conv_own (pk_length m sS) (Rd.of_own (ownsRow_below ho hX)), hb⟩)
        have KRB := Lib.hid (show ∀ W, Below w3.heap.size w3 W → Calls Try.prog 22 #[.pointer (some ⟨d, 0, none⟩)] W fun e w' => ∃ A c, e = .returned (.slice A ((m + 7) / 8) c) ∧ (∀ X, Below w'.heap.size w' X → (convert 45 9 (.slice A ((m + 7) / 8) c)).run Try.prog X = .ok (.string sb) X) ∧ Below W.heap.size W w' from fun W hW =>
          (rbytes_any (HD3.out.below hW) hm16).mono fun e w' ⟨A, c, he, ho, hb⟩ => ⟨A, c, he, fun X hX => by rw [← hsb]; exact conv_own (pk_length m sS) (Rd.of_own (ownsRow_below ho hX)), hb⟩)
        have HLU := Lib.hid (show (ints U).length = u by rw [ints_length]; exact HUU.out.2)
        have HCD := Lib.hid (fun W (hW : Below w3.heap.size w3 W) => show W.cell? ⟨d, 0, none⟩ = some (.slice Ad m cd) from (HD3.out.below hW).blk.cell 0)
        clear KA ho3 hb3 hsb HD HTW
        go_wp2_with fail
        have b0 : Below w3.heap.size w3 w3.drew := ⟨rfl, rfl, rfl, Nat.le_refl _, fun _ _ => rfl⟩
        refine wp_region_held_drew (S := fun W => Below w3.heap.size w3 W) (by kernel_rfl) b0 (fun hHeld => ?_)
        refine wpAnyH_take (i := 0) (oi := _) (v := .bool true) rfl (by kernel_rfl) (by kernel_rfl) (by kernel_rfl) (fun _ _ _ h => h) (Or.inl ⟨by rfl, by intro w hSw; go_simp⟩) b0 ?_
        simp only [List.getElem_toArray, List.getElem_cons_zero, List.getElem_cons_succ, Act.put, List.setIfInBounds_toArray, List.set_cons_zero, List.set_cons_succ]
        refine wpAnyH_take (i := 1) (oi := _) (v := .bool true) rfl (by kernel_rfl) (by kernel_rfl) (by kernel_rfl) (fun _ _ _ h => h) (Or.inl ⟨by rfl, by intro w hSw; go_simp⟩) b0 ?_
        simp only [List.getElem_toArray, List.getElem_cons_zero, List.getElem_cons_succ, Act.put, List.setIfInBounds_toArray, List.set_cons_zero, List.set_cons_succ]
        refine wpAnyH_take (i := 2) (oi := _) (v := .pointer (some s)) rfl (by kernel_rfl) (by kernel_rfl) (by kernel_rfl) (fun _ _ _ h => h) (Or.inl ⟨by rfl, by intro w hSw; go_simp⟩) b0 ?_
        simp only [List.getElem_toArray, List.getElem_cons_zero, List.getElem_cons_succ, Act.put, List.setIfInBounds_toArray, List.set_cons_zero, List.set_cons_succ]
        refine wpAnyH_take (i := 4) (oi := _) (v := .pointer (some ⟨d, 0, none⟩)) rfl (by kernel_rfl) (by kernel_rfl) (by kernel_rfl) (fun _ _ _ h => h) (Or.inl ⟨by rfl, by intro w hSw; go_simp⟩) b0 ?_
        simp only [List.getElem_toArray, List.getElem_cons_zero, List.getElem_cons_succ, Act.put, List.setIfInBounds_toArray, List.set_cons_zero, List.set_cons_succ]
        refine wpAnyH_take (i := 5) (oi := _) (v := .pointer (some ⟨d, 0, none⟩)) rfl (by kernel_rfl) (by kernel_rfl) (by kernel_rfl) (fun _ _ _ h => h) (Or.inl ⟨by rfl, by intro w hSw; go_simp⟩) b0 ?_
        simp only [List.getElem_toArray, List.getElem_cons_zero, List.getElem_cons_succ, Act.put, List.setIfInBounds_toArray, List.set_cons_zero, List.set_cons_succ]
        refine wpAnyH_take (i := 6) (oi := _) (v := .pointer (some ⟨d, 0, none⟩)) rfl (by kernel_rfl) (by kernel_rfl) (by kernel_rfl) (fun _ _ _ h => h) (Or.inl ⟨by rfl, by intro w hSw; go_simp⟩) b0 ?_
        simp only [List.getElem_toArray, List.getElem_cons_zero, List.getElem_cons_succ, Act.put, List.setIfInBounds_toArray, List.set_cons_zero, List.set_cons_succ]
        refine wpAnyH_take (i := 7) (oi := _) (v := .slice Ad m cd) rfl (by kernel_rfl) (by kernel_rfl) (by kernel_rfl) (fun _ _ _ h => h) (Or.inl ⟨by rfl, by intro w hSw; have hcv := HCD.out w hSw; go_simp⟩) b0 ?_
        simp only [List.getElem_toArray, List.getElem_cons_zero, List.getElem_cons_succ, Act.put, List.setIfInBounds_toArray, List.set_cons_zero, List.set_cons_succ]
        refine wpAnyH_take (i := 8) (oi := _) (v := .int .i64 (m : Nat)) rfl (by kernel_rfl) (by kernel_rfl) (by kernel_rfl) (fun _ _ _ h => h) (Or.inl ⟨by rfl, by intro w hSw; go_simp⟩) b0 ?_
        simp only [List.getElem_toArray, List.getElem_cons_zero, List.getElem_cons_succ, Act.put, List.setIfInBounds_toArray, List.set_cons_zero, List.set_cons_succ]
        refine wpAnyH_ready (rs := [3]) (by kernel_rfl) (by simp) ?_
        refine AllReadyH.cons rfl (fun K hK => ?_) AllReadyH.nil
        go_simp
        (go_at_call 17; (with_reducible refine (KN.out _ b0).mono ?_))
        rintro e wf ⟨rfl, hbf⟩
        have b1 := b0.trans (hbf.mono b0.size)
        go_wp2_with fail
        refine hK.out _ _ b1 (fun _ => ?_)
        clear hK K
        try simp only [List.getElem_toArray, List.getElem_cons_zero, List.getElem_cons_succ, Act.put, List.setIfInBounds_toArray, List.set_cons_zero, List.set_cons_succ]
        refine wpAnyH_take (i := 9) (oi := _) (v := .bool true) rfl (by kernel_rfl) (by kernel_rfl) (by kernel_rfl) (fun _ _ _ h => h) (Or.inl ⟨by rfl, by intro w hSw; go_simp⟩) b1 ?_
        simp only [List.getElem_toArray, List.getElem_cons_zero, List.getElem_cons_succ, Act.put, List.setIfInBounds_toArray, List.set_cons_zero, List.set_cons_succ]
        refine wpAnyH_take (i := 10) (oi := _) (v := .bool true) rfl (by kernel_rfl) (by kernel_rfl) (by kernel_rfl) (fun _ _ _ h => h) (Or.inl ⟨by rfl, by intro w hSw; go_simp⟩) b1 ?_
        simp only [List.getElem_toArray, List.getElem_cons_zero, List.getElem_cons_succ, Act.put, List.setIfInBounds_toArray, List.set_cons_zero, List.set_cons_succ]
        refine wpAnyH_take (i := 11) (oi := _) (v := .bool true) rfl (by kernel_rfl) (by kernel_rfl) (by kernel_rfl) (fun _ _ _ h => h) (Or.inl ⟨by rfl, by intro w hSw; go_simp⟩) b1 ?_
        simp only [List.getElem_toArray, List.getElem_cons_zero, List.getElem_cons_succ, Act.put, List.setIfInBounds_toArray, List.set_cons_zero, List.set_cons_succ]
        refine wpAnyH_take (i := 12) (oi := _) (v := .pointer (some s)) rfl (by kernel_rfl) (by kernel_rfl) (by kernel_rfl) (fun _ _ _ h => h) (Or.inl ⟨by rfl, by intro w hSw; go_simp⟩) b1 ?_
        simp only [List.getElem_toArray, List.getElem_cons_zero, List.getElem_cons_succ, Act.put, List.setIfInBounds_toArray, List.set_cons_zero, List.set_cons_succ]
        refine wpAnyH_take (i := 14) (oi := _) (v := .slice A3 u c3) rfl (by kernel_rfl) (by kernel_rfl) (by kernel_rfl) (fun _ _ _ h => h) (Or.inl ⟨by rfl, by intro w hSw; go_simp⟩) b1 ?_
        simp only [List.getElem_toArray, List.getElem_cons_zero, List.getElem_cons_succ, Act.put, List.setIfInBounds_toArray, List.set_cons_zero, List.set_cons_succ]
        refine wpAnyH_take (i := 15) (oi := _) (v := .int .i64 (u : Nat)) rfl (by kernel_rfl) (by kernel_rfl) (by kernel_rfl) (fun _ _ _ h => h) (Or.inl ⟨by rfl, by intro w hSw; go_simp⟩) b1 ?_
        simp only [List.getElem_toArray, List.getElem_cons_zero, List.getElem_cons_succ, Act.put, List.setIfInBounds_toArray, List.set_cons_zero, List.set_cons_succ]
        refine wpAnyH_ready (rs := [13]) (by kernel_rfl) (by simp) ?_
        refine AllReadyH.cons rfl (fun K hK => ?_) AllReadyH.nil
        go_simp
        (go_at_call 18; (with_reducible refine (KT.out _ b1).mono ?_))
        rintro e wg ⟨rfl, hbg⟩
        have b2 := b1.trans (hbg.mono b1.size)
        go_wp2_with fail
        refine hK.out _ _ b2 (fun _ => ?_)
        clear hK K
        try simp only [List.getElem_toArray, List.getElem_cons_zero, List.getElem_cons_succ, Act.put, List.setIfInBounds_toArray, List.set_cons_zero, List.set_cons_succ]
        refine wpAnyH_take (i := 16) (oi := _) (v := .bool true) rfl (by kernel_rfl) (by kernel_rfl) (by kernel_rfl) (fun _ _ _ h => h) (Or.inl ⟨by rfl, by intro w hSw; go_simp⟩) b2 ?_
        simp only [List.getElem_toArray, List.getElem_cons_zero, List.getElem_cons_succ, Act.put, List.setIfInBounds_toArray, List.set_cons_zero, List.set_cons_succ]
        refine wpAnyH_take (i := 17) (oi := _) (v := .bool true) rfl (by kernel_rfl) (by kernel_rfl) (by kernel_rfl) (fun _ _ _ h => h) (Or.inl ⟨by rfl, by intro w hSw; go_simp⟩) b2 ?_
        simp only [List.getElem_toArray, List.getElem_cons_zero, List.getElem_cons_succ, Act.put, List.setIfInBounds_toArray, List.set_cons_zero, List.set_cons_succ]
        refine wpAnyH_take (i := 18) (oi := _) (v := .bool true) rfl (by kernel_rfl) (by kernel_rfl) (by kernel_rfl) (fun _ _ _ h => h) (Or.inl ⟨by rfl, by intro w hSw; go_simp⟩) b2 ?_
        simp only [List.getElem_toArray, List.getElem_cons_zero, List.getElem_cons_succ, Act.put, List.setIfInBounds_toArray, List.set_cons_zero, List.set_cons_succ]
        refine wpAnyH_take (i := 19) (oi := _) (v := .pointer (some s)) rfl (by kernel_rfl) (by kernel_rfl) (by kernel_rfl) (fun _ _ _ h => h) (Or.inl ⟨by rfl, by intro w hSw; go_simp⟩) b2 ?_
        simp only [List.getElem_toArray, List.getElem_cons_zero, List.getElem_cons_succ, Act.put, List.setIfInBounds_toArray, List.set_cons_zero, List.set_cons_succ]
        refine wpAnyH_take (i := 21) (oi := _) (v := .slice A3 u c3) rfl (by kernel_rfl) (by kernel_rfl) (by kernel_rfl) (fun _ _ _ h => h) (Or.inl ⟨by rfl, by intro w hSw; go_simp⟩) b2 ?_
        simp only [List.getElem_toArray, List.getElem_cons_zero, List.getElem_cons_succ, Act.put, List.setIfInBounds_toArray, List.set_cons_zero, List.set_cons_succ]
        refine wpAnyH_ready (rs := [20]) (by kernel_rfl) (by simp) ?_
        refine AllReadyH.cons rfl (fun K hK => ?_) AllReadyH.nil
        go_simp
        (go_at_call 20; (with_reducible refine (KSA.out _ b2).mono ?_))
        rintro e wh ⟨A6, c6, rfl, ho6, hbh⟩
        have b3 := b2.trans (hbh.mono b2.size)
        have KSM := same_any A6 u c6 (ints U) A3 u c3 (ints U) HLU.out HLU.out (by omega) (by omega) wh (rdv_of_own ho6) (rdv_of_own (ownsRow_below HO3.out b3))
        rw [decide_eq_true rfl] at KSM
        go_wp2_with fail
        refine hK.out _ _ b3 (fun _ => ?_)
        clear hK K
        try simp only [List.getElem_toArray, List.getElem_cons_zero, List.getElem_cons_succ, Act.put, List.setIfInBounds_toArray, List.set_cons_zero, List.set_cons_succ]
        refine wpAnyH_ready (rs := [22]) (by kernel_rfl) (by simp) ?_
        refine AllReadyH.cons rfl (fun K hK => ?_) AllReadyH.nil
        go_simp
        (go_at_call 19; (with_reducible refine KSM.mono ?_))
        rintro e wi ⟨rfl, hbi⟩
        have b4 := b3.trans (hbi.mono b3.size)
        go_wp2_with fail
        refine hK.out _ _ b4 (fun _ => ?_)
        clear hK K
        try simp only [List.getElem_toArray, List.getElem_cons_zero, List.getElem_cons_succ, Act.put, List.setIfInBounds_toArray, List.set_cons_zero, List.set_cons_succ]
        refine wpAnyH_take (i := 23) (oi := _) (v := .bool true) rfl (by kernel_rfl) (by kernel_rfl) (by kernel_rfl) (fun _ _ _ h => h) (Or.inl ⟨by rfl, by intro w hSw; go_simp⟩) b4 ?_
        simp only [List.getElem_toArray, List.getElem_cons_zero, List.getElem_cons_succ, Act.put, List.setIfInBounds_toArray, List.set_cons_zero, List.set_cons_succ]
        refine wpAnyH_take (i := 24) (oi := _) (v := .bool true) rfl (by kernel_rfl) (by kernel_rfl) (by kernel_rfl) (fun _ _ _ h => h) (Or.inl ⟨by rfl, by intro w hSw; go_simp⟩) b4 ?_
        simp only [List.getElem_toArray, List.getElem_cons_zero, List.getElem_cons_succ, Act.put, List.setIfInBounds_toArray, List.set_cons_zero, List.set_cons_succ]
        refine wpAnyH_take (i := 25) (oi := _) (v := .pointer (some s)) rfl (by kernel_rfl) (by kernel_rfl) (by kernel_rfl) (fun _ _ _ h => h) (Or.inl ⟨by rfl, by intro w hSw; go_simp⟩) b4 ?_
        simp only [List.getElem_toArray, List.getElem_cons_zero, List.getElem_cons_succ, Act.put, List.setIfInBounds_toArray, List.set_cons_zero, List.set_cons_succ]
        refine wpAnyH_take (i := 28) (oi := _) (v := .pointer (some ⟨d, 0, none⟩)) rfl (by kernel_rfl) (by kernel_rfl) (by kernel_rfl) (fun _ _ _ h => h) (Or.inl ⟨by rfl, by intro w hSw; go_simp⟩) b4 ?_
        simp only [List.getElem_toArray, List.getElem_cons_zero, List.getElem_cons_succ, Act.put, List.setIfInBounds_toArray, List.set_cons_zero, List.set_cons_succ]
        refine wpAnyH_ready (rs := [26]) (by kernel_rfl) (by simp) ?_
        refine AllReadyH.cons rfl (fun K hK => ?_) AllReadyH.nil
        go_simp
        (go_at_call 21; (with_reducible refine (KSB.out _ b4).mono ?_))
        rintro e wj ⟨A7, c7, rfl, hcv7, hbj⟩
        have b5 := b4.trans (hbj.mono b4.size)
        go_wp2_with fail
        refine hK.out _ _ b5 (fun _ => ?_)
        clear hK K
        try simp only [List.getElem_toArray, List.getElem_cons_zero, List.getElem_cons_succ, Act.put, List.setIfInBounds_toArray, List.set_cons_zero, List.set_cons_succ]
        refine wpAnyH_strong (S' := fun W => Below w3.heap.size w3 W ∧ Below wj.heap.size wj W) (fun _ h => h.1) ?_
        refine wpAnyH_take (i := 27) (oi := _) (v := .string sb) rfl (by kernel_rfl) (by kernel_rfl) (by kernel_rfl) (fun _ _ _ h => h) (Or.inl ⟨by rfl, by intro w hSw; have hcv := hcv7 w hSw.2; go_simp⟩) ⟨b5, Below.refl _ _⟩ ?_
        simp only [List.getElem_toArray, List.getElem_cons_zero, List.getElem_cons_succ, Act.put, List.setIfInBounds_toArray, List.set_cons_zero, List.set_cons_succ]
        refine wpAnyH_ready (rs := [29]) (by kernel_rfl) (by simp) ?_
        refine AllReadyH.cons rfl (fun K hK => ?_) AllReadyH.nil
        go_simp
        (go_at_call 22; (with_reducible refine (KRB.out _ b5).mono ?_))
        rintro e wk ⟨A8, c8, rfl, hcv8, hbk⟩
        have b6 := b5.trans (hbk.mono b5.size)
        go_wp2_with fail
        refine hK.out _ _ ⟨b6, hbk⟩ (fun _ => ?_)
        clear hK K
        try simp only [List.getElem_toArray, List.getElem_cons_zero, List.getElem_cons_succ, Act.put, List.setIfInBounds_toArray, List.set_cons_zero, List.set_cons_succ]
        refine wpAnyH_strong (S' := fun W => (Below w3.heap.size w3 W ∧ Below wj.heap.size wj W) ∧ Below wk.heap.size wk W) (fun _ h => h.1) ?_
        refine wpAnyH_take (i := 30) (oi := _) (v := .string sb) rfl (by kernel_rfl) (by kernel_rfl) (by kernel_rfl) (fun _ _ _ h => h) (Or.inl ⟨by rfl, by intro w hSw; have hcv := hcv8 w hSw.2; go_simp⟩) ⟨⟨b6, hbk⟩, Below.refl _ _⟩ ?_
        simp only [List.getElem_toArray, List.getElem_cons_zero, List.getElem_cons_succ, Act.put, List.setIfInBounds_toArray, List.set_cons_zero, List.set_cons_succ]
        refine wpAnyH_take (i := 31) (oi := _) (v := .bool true) rfl (by kernel_rfl) (by kernel_rfl) (by kernel_rfl) (fun _ _ _ h => h) (Or.inl ⟨by rfl, by intro w hSw; go_simp⟩) ⟨⟨b6, hbk⟩, Below.refl _ _⟩ ?_
        simp only [List.getElem_toArray, List.getElem_cons_zero, List.getElem_cons_succ, Act.put, List.setIfInBounds_toArray, List.set_cons_zero, List.set_cons_succ]
        refine wpAnyH_take (i := 32) (oi := _) (v := .bool true) rfl (by kernel_rfl) (by kernel_rfl) (by kernel_rfl) (fun _ _ _ h => h) (Or.inl ⟨by rfl, by intro w hSw; go_simp⟩) ⟨⟨b6, hbk⟩, Below.refl _ _⟩ ?_
        simp only [List.getElem_toArray, List.getElem_cons_zero, List.getElem_cons_succ, Act.put, List.setIfInBounds_toArray, List.set_cons_zero, List.set_cons_succ]
        refine wpAnyH_take (i := 33) (oi := _) (v := .bool true) rfl (by kernel_rfl) (by kernel_rfl) (by kernel_rfl) (fun _ _ _ h => h) (Or.inl ⟨by rfl, by intro w hSw; go_simp⟩) ⟨⟨b6, hbk⟩, Below.refl _ _⟩ ?_
        simp only [List.getElem_toArray, List.getElem_cons_zero, List.getElem_cons_succ, Act.put, List.setIfInBounds_toArray, List.set_cons_zero, List.set_cons_succ]
        refine wpAnyH_done (by kernel_rfl) ?_ _
        have HE := Lib.hid (HB3.out.trans (b6.mono HB3.out.size))
        clear b0 b1 b2 b3 b4 b5 b6 hbf hbg hbh hbi hbj hbk hcv7 hcv8 hHeld ho6 KSM
        go_wp2_with fail
        go_ret
        exact ⟨rfl, HE.out⟩
end
end Go.Proofs.Ytlcbmpojigjjlaa
