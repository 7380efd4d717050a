/- PathParses', PathWithins', PathTexts' walks, told from what the package does. No statement of the seat is proved here. -/
import Derived.Test.YtcpoejejmngiaaaDoorPaTwo
namespace Go.Proofs.YtcpoejejmngiaaaDoor
open Go.RowKit
set_option linter.unusedVariables false
set_option linter.unusedSimpArgs false
set_option maxRecDepth 100000

section
variable {G : World → Prop}
set_option maxHeartbeats 8000000 in
theorem parses_walk (K : PathsOk G) (s : List UInt8) (w : World) (hG : G w) :
    Calls Tryd.prog 3 #[.string (st s)] w fun e w' => e = .returned (.bool true) ∧ Below w.heap.size w w' := by
  have KS := Lib.hid (shown_any K w hG)
  obtain ⟨n, hn⟩ : ∃ n, s.length = n := ⟨_, rfl⟩
  have hsz : (st s).size = n := by rw [st_size, hn]
  by_cases hbig : n > 10000
  · have hb1 : (n : Int) > 10000 := by omega
    clear hn
    go_enter Tryd.func3, Tryd.ntmps3
    go_wp2_with fail
    refine KS.out.mono ?_
    rintro e w1 ⟨rfl, hb⟩
    have HB := Lib.hid hb
    clear hb KS
    go_wp2_with fail
    go_ret
    exact ⟨rfl, HB.out⟩
  have hb1 : ¬ (n : Int) > 10000 := by omega
  have hs : s.length ≤ 100000 := by omega
  have K1 := Lib.hid (K.parse s hs)
  have K2 := Lib.hid (fun W => rparse_any s hs W)
  have K3 := Lib.hid (K.parent s hs)
  have K4 := Lib.hid (fun W => rparent_any s hs W)
  have K5 := Lib.hid (K.name s hs)
  have K6 := Lib.hid (fun W => rname_any s (by omega) W)
  have HK := Lib.hid K.keep
  have HG := Lib.hid hG
  have hp16 := (parseD_ok s).1
  obtain ⟨D, hD⟩ : ∃ D, parseD s = D := ⟨_, rfl⟩
  obtain ⟨E, hE⟩ : ∃ E, parseE s = E := ⟨_, rfl⟩
  obtain ⟨⟨X, Y, F⟩, hX⟩ : ∃ X, parentD s = X := ⟨_, rfl⟩
  obtain ⟨B, hB⟩ : ∃ B, nameL s = B := ⟨_, rfl⟩
  rw [hD] at hp16
  simp only [hD, hE] at K1 K2
  simp only [hX] at K3 K4
  simp only [hB] at K5 K6
  obtain ⟨p, hp⟩ : ∃ p, D.length = p := ⟨_, rfl⟩
  simp only [hp] at K1 K2
  rw [hp] at hp16
  have HP := Lib.hid hp
  clear hn hs hG hD hE hX hB hp
  go_enter Tryd.func3, Tryd.ntmps3
  go_wp2_with fail
  refine KS.out.mono ?_
  rintro e w1 ⟨rfl, hb⟩
  have HB1 := Lib.hid hb
  clear hb KS
  go_wp2_with fail
  refine (K1.out w1 (HK.out _ _ HG.out HB1.out)).mono ?_
  rintro e w2 ⟨A2, c2, rfl, _, _, hr, hb⟩
  have HB2 := Lib.hid (HB1.out.trans (hb.mono HB1.out.size))
  have HR2 := Lib.hid hr
  clear hb hr K1 HB1
  go_wp2_with fail
  refine (K2.out w2).mono ?_
  rintro e w3 ⟨A3, c3, rfl, ho, hb⟩
  have HB3 := Lib.hid (HB2.out.trans (hb.mono HB2.out.size))
  have HR3 := Lib.hid (And.intro (HR2.out.on hb) (RdT.own ho))
  clear hb ho K2 HB2 HR2
  go_wp2_with fail
  refine (K3.out w3 (HK.out _ _ HG.out HB3.out)).mono ?_
  rintro e w4 ⟨rfl, hb⟩
  have HB4 := Lib.hid (HB3.out.trans (hb.mono HB3.out.size))
  have HR4 := Lib.hid (And.intro (HR3.out.1.on hb) (HR3.out.2.on hb))
  clear hb K3 HB3 HR3
  go_wp2_with fail
  refine (K4.out w4).mono ?_
  rintro e w5 ⟨rfl, hb⟩
  have HB5 := Lib.hid (HB4.out.trans (hb.mono HB4.out.size))
  have HS := Lib.hid (rsametexts_any A2 D p c2 A3 D p c3 HP.out HP.out (by omega) w5 (HR4.out.1.on hb) (HR4.out.2.on hb))
  rw [decide_eq_true rfl] at HS
  clear hb K4 HB4 HR4
  go_wp2_with fail
  refine HS.out.mono ?_
  rintro e w6 ⟨rfl, hb⟩
  have HB6 := Lib.hid (HB5.out.trans (hb.mono HB5.out.size))
  clear hb HS HB5
  go_wp2_with fail
  refine (K5.out w6 (HK.out _ _ HG.out HB6.out)).mono ?_
  rintro e w7 ⟨rfl, hb⟩
  have HB7 := Lib.hid (HB6.out.trans (hb.mono HB6.out.size))
  clear hb K5 HB6
  go_wp2_with fail
  refine (K6.out w7).mono ?_
  rintro e w8 ⟨rfl, hb⟩
  have HB8 := Lib.hid (HB7.out.trans (hb.mono HB7.out.size))
  clear hb K6 HB7
  go_wp2_with fail
  go_ret
  exact ⟨by simp, HB8.out⟩
set_option maxHeartbeats 8000000 in
theorem withins_walk (K : PathsOk G) (s d : List UInt8) (w : World) (hG : G w) :
    Calls Tryd.prog 5 #[.string (st s), .string (st d)] w fun e w' => e = .returned (.bool true) ∧ Below w.heap.size w w' := by
  have KS := Lib.hid (shown_any K w hG)
  obtain ⟨n, hn⟩ : ∃ n, s.length = n := ⟨_, rfl⟩
  obtain ⟨m, hm⟩ : ∃ m, d.length = m := ⟨_, rfl⟩
  have hsz : (st s).size = n := by rw [st_size, hn]
  have hdz : (st d).size = m := by rw [st_size, hm]
  by_cases hbig : n > 10000 ∨ m > 10000
  · have hb1 : decide ((n : Int) > 10000) = true ∨ (decide ((n : Int) > 10000) = false ∧ decide ((m : Int) > 10000) = true) := by
      by_cases h : (n : Int) > 10000
      · exact .inl (decide_eq_true h)
      · exact .inr ⟨decide_eq_false h, decide_eq_true (by omega)⟩
    clear hn hm hbig
    rcases hb1 with hb1 | ⟨hb1, hb2⟩
    all_goals
      go_enter Tryd.func5, Tryd.ntmps5
      go_wp2_with fail
      refine KS.out.mono ?_
      rintro e w1 ⟨rfl, hb⟩
      have HB := Lib.hid hb
      clear hb KS
      go_wp2_with fail
      go_ret
      exact ⟨rfl, HB.out⟩
  have hb1 : decide ((n : Int) > 10000) = false := decide_eq_false (by omega)
  have hb2 : decide ((m : Int) > 10000) = false := decide_eq_false (by omega)
  have hs : s.length ≤ 100000 := by omega
  have hd : d.length ≤ 100000 := by omega
  have K1 := Lib.hid (K.child s d hs hd)
  have K2 := Lib.hid (fun W => rchild_any s d hs hd W)
  have K3 := Lib.hid (K.within s d hs hd)
  have K4 := Lib.hid (fun W => rwithin_any s d hs hd W)
  have HK := Lib.hid K.keep
  have HG := Lib.hid hG
  obtain ⟨⟨X, b⟩, hX⟩ : ∃ X, childD s d = X := ⟨_, rfl⟩
  obtain ⟨B, hB⟩ : ∃ B, withinL s d = B := ⟨_, rfl⟩
  simp only [hX] at K1 K2
  simp only [hB] at K3 K4
  clear hn hm hs hd hG hX hB hbig
  go_enter Tryd.func5, Tryd.ntmps5
  go_wp2_with fail
  refine KS.out.mono ?_
  rintro e w1 ⟨rfl, hb⟩
  have HB1 := Lib.hid hb
  clear hb KS
  go_wp2_with fail
  refine (K1.out w1 (HK.out _ _ HG.out HB1.out)).mono ?_
  rintro e w2 ⟨rfl, hb⟩
  have HB2 := Lib.hid (HB1.out.trans (hb.mono HB1.out.size))
  clear hb K1 HB1
  go_wp2_with fail
  refine (K2.out w2).mono ?_
  rintro e w3 ⟨rfl, hb⟩
  have HB3 := Lib.hid (HB2.out.trans (hb.mono HB2.out.size))
  clear hb K2 HB2
  go_wp2_with fail
  refine (K3.out w3 (HK.out _ _ HG.out HB3.out)).mono ?_
  rintro e w4 ⟨rfl, hb⟩
  have HB4 := Lib.hid (HB3.out.trans (hb.mono HB3.out.size))
  clear hb K3 HB3
  go_wp2_with fail
  refine (K4.out w4).mono ?_
  rintro e w5 ⟨rfl, hb⟩
  have HB5 := Lib.hid (HB4.out.trans (hb.mono HB4.out.size))
  clear hb K4 HB4
  go_wp2_with fail
  go_ret
  exact ⟨by simp, HB5.out⟩
end
end Go.Proofs.YtcpoejejmngiaaaDoor
