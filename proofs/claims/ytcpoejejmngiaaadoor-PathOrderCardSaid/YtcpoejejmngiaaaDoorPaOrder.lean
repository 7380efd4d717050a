/- PathOrder's walk, told from what the package does. No statement of the seat is proved here. -/
import Derived.Test.YtcpoejejmngiaaaDoorPaTwo
namespace Go.Proofs.YtcpoejejmngiaaaDoor
open Go.RowKit
set_option linter.unusedVariables false
set_option linter.unusedSimpArgs false
set_option maxRecDepth 100000

section
variable {G : World → Prop}
set_option maxHeartbeats 8000000 in
theorem order_walk (K : PathsOk G) (a b c : List UInt8) (w : World) (hG : G w) :
    Calls Tryd.prog 7 #[.string (st a), .string (st b), .string (st c)] w fun e w' => e = .returned (.bool true) ∧ Below w.heap.size w w' := by
  have KS := Lib.hid (shown_any K w hG)
  obtain ⟨n1, hn1⟩ : ∃ k, a.length = k := ⟨_, rfl⟩
  obtain ⟨n2, hn2⟩ : ∃ k, b.length = k := ⟨_, rfl⟩
  obtain ⟨n3, hn3⟩ : ∃ k, c.length = k := ⟨_, rfl⟩
  have hz1 : (st a).size = n1 := by rw [st_size, hn1]
  have hz2 : (st b).size = n2 := by rw [st_size, hn2]
  have hz3 : (st c).size = n3 := by rw [st_size, hn3]
  by_cases hbig : n1 > 10000 ∨ n2 > 10000 ∨ n3 > 10000
  · have hb1 : decide ((n1 : Int) > 10000) = true ∨ (decide ((n1 : Int) > 10000) = false ∧ decide ((n2 : Int) > 10000) = true) ∨ (decide ((n1 : Int) > 10000) = false ∧ decide ((n2 : Int) > 10000) = false ∧ decide ((n3 : Int) > 10000) = true) := by
      by_cases h : (n1 : Int) > 10000
      · exact .inl (decide_eq_true h)
      · by_cases h2 : (n2 : Int) > 10000
        · exact .inr (.inl ⟨decide_eq_false h, decide_eq_true h2⟩)
        · exact .inr (.inr ⟨decide_eq_false h, decide_eq_false h2, decide_eq_true (by omega)⟩)
    clear hn1 hn2 hn3 hbig
    rcases hb1 with hb1 | ⟨hb1, hb2⟩ | ⟨hb1, hb2, hb3⟩
    all_goals
      go_enter Tryd.func7, Tryd.ntmps7
      go_wp2_with fail
      refine KS.out.mono ?_
      rintro e w1 ⟨rfl, hb⟩
      have HB := Lib.hid hb
      clear hb KS
      go_wp2_with fail
      go_ret
      exact ⟨rfl, HB.out⟩
  have hb1 : decide ((n1 : Int) > 10000) = false := decide_eq_false (by omega)
  have hb2 : decide ((n2 : Int) > 10000) = false := decide_eq_false (by omega)
  have hb3 : decide ((n3 : Int) > 10000) = false := decide_eq_false (by omega)
  have ha : a.length ≤ 100000 := by omega
  have hb : b.length ≤ 100000 := by omega
  have hc : c.length ≤ 100000 := by omega
  have K1 := Lib.hid (K.parse a ha)
  have KAA := Lib.hid (K.within a a ha ha)
  have KAB := Lib.hid (K.within a b ha hb)
  have KBC := Lib.hid (K.within b c hb hc)
  have KAC := Lib.hid (K.within a c ha hc)
  have KBA := Lib.hid (K.within b a hb ha)
  have HK := Lib.hid K.keep
  have HG := Lib.hid hG
  have hself : withinL a a = (parseE a == 0) := by
    rw [within_self]
    unfold parseE
    cases parseL a <;> rfl
  have HTR := Lib.hid (fun (h1 : withinL a b = true) (h2 : withinL b c = true) => within_trans h1 h2)
  have HAN := Lib.hid (fun (h1 : withinL a b = true) (h2 : withinL b a = true) => within_both h1 h2)
  obtain ⟨E, hE⟩ : ∃ E, parseE a = E := ⟨_, rfl⟩
  simp only [hE] at K1
  rw [hself, hE] at KAA
  obtain ⟨p, hp⟩ : ∃ p, (parseD a).length = p := ⟨_, rfl⟩
  simp only [hp] at K1
  obtain ⟨rab, hab⟩ : ∃ r, withinL a b = r := ⟨_, rfl⟩
  obtain ⟨rbc, hbc⟩ : ∃ r, withinL b c = r := ⟨_, rfl⟩
  obtain ⟨rac, hac⟩ : ∃ r, withinL a c = r := ⟨_, rfl⟩
  obtain ⟨rba, hba⟩ : ∃ r, withinL b a = r := ⟨_, rfl⟩
  rw [hab] at KAB
  rw [hbc] at KBC
  rw [hac] at KAC
  rw [hba] at KBA
  rw [hab, hbc, hac] at HTR
  rw [hab, hba] at HAN
  clear hn1 hn2 hn3 ha hb hc hbig hG hself hE hp hab hbc hac hba
  cases rab with
  | false =>
    go_enter Tryd.func7, Tryd.ntmps7
    go_wp2_with fail
    refine KS.out.mono ?_
    rintro e w1 ⟨rfl, hb⟩
    have HB1 := Lib.hid hb
    clear hb KS
    go_wp2_with fail
    refine (K1.out w1 (HK.out _ _ HG.out HB1.out)).mono ?_
    rintro e w2 ⟨A2, c2, rfl, _, _, _, hb⟩
    have HB2 := Lib.hid (HB1.out.trans (hb.mono HB1.out.size))
    clear hb K1
    go_wp2_with fail
    refine (KAA.out w2 (HK.out _ _ HG.out HB2.out)).mono ?_
    rintro e w3 ⟨rfl, hb⟩
    have HB3 := Lib.hid (HB2.out.trans (hb.mono HB2.out.size))
    clear hb
    go_wp2_with fail
    refine (KAB.out w3 (HK.out _ _ HG.out HB3.out)).mono ?_
    rintro e w4 ⟨rfl, hb⟩
    have HB4 := Lib.hid (HB3.out.trans (hb.mono HB3.out.size))
    clear hb
    go_wp2_with fail
    refine (KAB.out w4 (HK.out _ _ HG.out HB4.out)).mono ?_
    rintro e w5 ⟨rfl, hb⟩
    have HB5 := Lib.hid (HB4.out.trans (hb.mono HB4.out.size))
    clear hb
    go_wp2_with fail
    go_ret
    exact ⟨by simp, HB5.out⟩
  | true =>
    cases rbc with
    | false =>
      cases rba with
      | false =>
        go_enter Tryd.func7, Tryd.ntmps7
        go_wp2_with fail
        refine KS.out.mono ?_
        rintro e w1 ⟨rfl, hb⟩
        have HB1 := Lib.hid hb
        clear hb KS
        go_wp2_with fail
        refine (K1.out w1 (HK.out _ _ HG.out HB1.out)).mono ?_
        rintro e w2 ⟨A2, c2, rfl, _, _, _, hb⟩
        have HB2 := Lib.hid (HB1.out.trans (hb.mono HB1.out.size))
        clear hb K1
        go_wp2_with fail
        refine (KAA.out w2 (HK.out _ _ HG.out HB2.out)).mono ?_
        rintro e w3 ⟨rfl, hb⟩
        have HB3 := Lib.hid (HB2.out.trans (hb.mono HB2.out.size))
        clear hb
        go_wp2_with fail
        refine (KAB.out w3 (HK.out _ _ HG.out HB3.out)).mono ?_
        rintro e w4 ⟨rfl, hb⟩
        have HB4 := Lib.hid (HB3.out.trans (hb.mono HB3.out.size))
        clear hb
        go_wp2_with fail
        refine (KBC.out w4 (HK.out _ _ HG.out HB4.out)).mono ?_
        rintro e w5 ⟨rfl, hb⟩
        have HB5 := Lib.hid (HB4.out.trans (hb.mono HB4.out.size))
        clear hb
        go_wp2_with fail
        refine (KAB.out w5 (HK.out _ _ HG.out HB5.out)).mono ?_
        rintro e w6 ⟨rfl, hb⟩
        have HB6 := Lib.hid (HB5.out.trans (hb.mono HB5.out.size))
        clear hb
        go_wp2_with fail
        refine (KBA.out w6 (HK.out _ _ HG.out HB6.out)).mono ?_
        rintro e w7 ⟨rfl, hb⟩
        have HB7 := Lib.hid (HB6.out.trans (hb.mono HB6.out.size))
        clear hb
        go_wp2_with fail
        go_ret
        exact ⟨by simp, HB7.out⟩
      | true =>
        obtain rfl : a = b := HAN.out rfl rfl
        go_enter Tryd.func7, Tryd.ntmps7
        go_wp2_with fail
        refine KS.out.mono ?_
        rintro e w1 ⟨rfl, hb⟩
        have HB1 := Lib.hid hb
        clear hb KS
        go_wp2_with fail
        refine (K1.out w1 (HK.out _ _ HG.out HB1.out)).mono ?_
        rintro e w2 ⟨A2, c2, rfl, _, _, _, hb⟩
        have HB2 := Lib.hid (HB1.out.trans (hb.mono HB1.out.size))
        clear hb K1
        go_wp2_with fail
        refine (KAA.out w2 (HK.out _ _ HG.out HB2.out)).mono ?_
        rintro e w3 ⟨rfl, hb⟩
        have HB3 := Lib.hid (HB2.out.trans (hb.mono HB2.out.size))
        clear hb
        go_wp2_with fail
        refine (KAB.out w3 (HK.out _ _ HG.out HB3.out)).mono ?_
        rintro e w4 ⟨rfl, hb⟩
        have HB4 := Lib.hid (HB3.out.trans (hb.mono HB3.out.size))
        clear hb
        go_wp2_with fail
        refine (KBC.out w4 (HK.out _ _ HG.out HB4.out)).mono ?_
        rintro e w5 ⟨rfl, hb⟩
        have HB5 := Lib.hid (HB4.out.trans (hb.mono HB4.out.size))
        clear hb
        go_wp2_with fail
        refine (KAB.out w5 (HK.out _ _ HG.out HB5.out)).mono ?_
        rintro e w6 ⟨rfl, hb⟩
        have HB6 := Lib.hid (HB5.out.trans (hb.mono HB5.out.size))
        clear hb
        go_wp2_with fail
        refine (KBA.out w6 (HK.out _ _ HG.out HB6.out)).mono ?_
        rintro e w7 ⟨rfl, hb⟩
        have HB7 := Lib.hid (HB6.out.trans (hb.mono HB6.out.size))
        clear hb
        go_wp2_with fail
        go_ret
        exact ⟨by simp, HB7.out⟩
    | true =>
      obtain rfl : rac = true := HTR.out rfl rfl
      cases rba with
      | false =>
        go_enter Tryd.func7, Tryd.ntmps7
        go_wp2_with fail
        refine KS.out.mono ?_
        rintro e w1 ⟨rfl, hb⟩
        have HB1 := Lib.hid hb
        clear hb KS
        go_wp2_with fail
        refine (K1.out w1 (HK.out _ _ HG.out HB1.out)).mono ?_
        rintro e w2 ⟨A2, c2, rfl, _, _, _, hb⟩
        have HB2 := Lib.hid (HB1.out.trans (hb.mono HB1.out.size))
        clear hb K1
        go_wp2_with fail
        refine (KAA.out w2 (HK.out _ _ HG.out HB2.out)).mono ?_
        rintro e w3 ⟨rfl, hb⟩
        have HB3 := Lib.hid (HB2.out.trans (hb.mono HB2.out.size))
        clear hb
        go_wp2_with fail
        refine (KAB.out w3 (HK.out _ _ HG.out HB3.out)).mono ?_
        rintro e w4 ⟨rfl, hb⟩
        have HB4 := Lib.hid (HB3.out.trans (hb.mono HB3.out.size))
        clear hb
        go_wp2_with fail
        refine (KBC.out w4 (HK.out _ _ HG.out HB4.out)).mono ?_
        rintro e w5 ⟨rfl, hb⟩
        have HB5 := Lib.hid (HB4.out.trans (hb.mono HB4.out.size))
        clear hb
        go_wp2_with fail
        refine (KAC.out w5 (HK.out _ _ HG.out HB5.out)).mono ?_
        rintro e w6 ⟨rfl, hb⟩
        have HB6 := Lib.hid (HB5.out.trans (hb.mono HB5.out.size))
        clear hb
        go_wp2_with fail
        refine (KAB.out w6 (HK.out _ _ HG.out HB6.out)).mono ?_
        rintro e w7 ⟨rfl, hb⟩
        have HB7 := Lib.hid (HB6.out.trans (hb.mono HB6.out.size))
        clear hb
        go_wp2_with fail
        refine (KBA.out w7 (HK.out _ _ HG.out HB7.out)).mono ?_
        rintro e w8 ⟨rfl, hb⟩
        have HB8 := Lib.hid (HB7.out.trans (hb.mono HB7.out.size))
        clear hb
        go_wp2_with fail
        go_ret
        exact ⟨by simp, HB8.out⟩
      | true =>
        obtain rfl : a = b := HAN.out rfl rfl
        go_enter Tryd.func7, Tryd.ntmps7
        go_wp2_with fail
        refine KS.out.mono ?_
        rintro e w1 ⟨rfl, hb⟩
        have HB1 := Lib.hid hb
        clear hb KS
        go_wp2_with fail
        refine (K1.out w1 (HK.out _ _ HG.out HB1.out)).mono ?_
        rintro e w2 ⟨A2, c2, rfl, _, _, _, hb⟩
        have HB2 := Lib.hid (HB1.out.trans (hb.mono HB1.out.size))
        clear hb K1
        go_wp2_with fail
        refine (KAA.out w2 (HK.out _ _ HG.out HB2.out)).mono ?_
        rintro e w3 ⟨rfl, hb⟩
        have HB3 := Lib.hid (HB2.out.trans (hb.mono HB2.out.size))
        clear hb
        go_wp2_with fail
        refine (KAB.out w3 (HK.out _ _ HG.out HB3.out)).mono ?_
        rintro e w4 ⟨rfl, hb⟩
        have HB4 := Lib.hid (HB3.out.trans (hb.mono HB3.out.size))
        clear hb
        go_wp2_with fail
        refine (KBC.out w4 (HK.out _ _ HG.out HB4.out)).mono ?_
        rintro e w5 ⟨rfl, hb⟩
        have HB5 := Lib.hid (HB4.out.trans (hb.mono HB4.out.size))
        clear hb
        go_wp2_with fail
        refine (KAC.out w5 (HK.out _ _ HG.out HB5.out)).mono ?_
        rintro e w6 ⟨rfl, hb⟩
        have HB6 := Lib.hid (HB5.out.trans (hb.mono HB5.out.size))
        clear hb
        go_wp2_with fail
        refine (KAB.out w6 (HK.out _ _ HG.out HB6.out)).mono ?_
        rintro e w7 ⟨rfl, hb⟩
        have HB7 := Lib.hid (HB6.out.trans (hb.mono HB6.out.size))
        clear hb
        go_wp2_with fail
        refine (KBA.out w7 (HK.out _ _ HG.out HB7.out)).mono ?_
        rintro e w8 ⟨rfl, hb⟩
        have HB8 := Lib.hid (HB7.out.trans (hb.mono HB7.out.size))
        clear hb
        go_wp2_with fail
        go_ret
        exact ⟨by simp, HB8.out⟩
end
end Go.Proofs.YtcpoejejmngiaaaDoor
