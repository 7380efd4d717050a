/- PathBack's walk, told from what the package does. No statement of the seat is proved here. -/
import Derived.Test.YtcpoejejmngiaaaDoorPaTwo
namespace Go.Proofs.YtcpoejejmngiaaaDoor
open Go.RowKit
set_option linter.unusedVariables false
set_option linter.unusedSimpArgs false
set_option maxRecDepth 100000

section
variable {G : World → Prop}
theorem text_len {l : List (List UInt8)} : (textD l).length ≤ 100000 := by
  unfold textD
  cases h : textL l with
  | none => simp
  | some t =>
    obtain ⟨h1, h2⟩ := text_ok h
    rw [Option.getD_some, h2]
    split
    · simp
    · have := joinL_len h1.2
      omega
set_option maxHeartbeats 8000000 in
theorem back_walk (K : PathsOk G) (s : List UInt8) (A : Option Addr) (n c : Nat) (ls : List (List UInt8)) (hl : ls.length = n) (hc : n ≤ c) (hm : c ≤ maxLen) (hz : ∀ x ∈ ls, x.length ≤ maxLen) (w : World) (hr : RdT w w.heap.size A ls) (hG : G w) :
    Calls Tryd.prog 6 #[.string (st s), .slice A n c] w fun e w' => e = .returned (.bool true) ∧ Below w.heap.size w w' := by
  have KS := Lib.hid (shown_any K w hG)
  obtain ⟨k, hk⟩ : ∃ k, s.length = k := ⟨_, rfl⟩
  have hsz : (st s).size = k := by rw [st_size, hk]
  have hnb : n ≤ 9223372036854775807 := by unfold maxLen at hm; omega
  by_cases hbig : k > 10000 ∨ n > 100
  · have hb1 : decide ((k : Int) > 10000) = true ∨ (decide ((k : Int) > 10000) = false ∧ decide ((n : Int) > 100) = true) := by
      by_cases h : (k : Int) > 10000
      · exact .inl (decide_eq_true h)
      · exact .inr ⟨decide_eq_false h, decide_eq_true (by omega)⟩
    clear hk hl hr hz hbig
    rcases hb1 with hb1 | ⟨hb1, hb2⟩
    all_goals
      go_enter Tryd.func6, Tryd.ntmps6
      go_wp2_with fail
      refine KS.out.mono ?_
      rintro e w1 ⟨rfl, hb⟩
      have HB := Lib.hid hb
      clear hb KS
      go_wp2_with fail
      go_ret
      exact ⟨rfl, HB.out⟩
  have hb1 : decide ((k : Int) > 10000) = false := decide_eq_false (by omega)
  have hb2 : decide ((n : Int) > 100) = false := decide_eq_false (by omega)
  have hs : s.length ≤ 100000 := by omega
  have hn100 : n ≤ 100 := by omega
  have K1 := Lib.hid (K.parse s hs)
  have HK := Lib.hid K.keep
  have HG := Lib.hid hG
  have hp16 := (parseD_ok s).1
  have hpn := (parseD_ok s).2
  have H1 := Lib.hid (show (parseE s = 0 ∧ textD (parseD s) = s ∧ textE (parseD s) = 0) ∨ (parseE s = 170 ∧ parseD s = []) from by
    cases h : parseL s with
    | none => exact .inr ⟨(parse_no h).2, (parse_no h).1⟩
    | some l =>
      have := text_parse h
      rw [(parse_yes h).1]
      exact .inl ⟨(parse_yes h).2, by simp [textD, this], by simp [textE, this]⟩)
  have H2 := Lib.hid (show (textE ls = 0 ∧ parseD (textD ls) = ls ∧ parseE (textD ls) = 0) ∨ (textE ls = 1 ∧ textD ls = []) from by
    cases h : textL ls with
    | none => exact .inr ⟨by simp [textE, h], by simp [textD, h]⟩
    | some t =>
      have e : textD ls = t := by simp [textD, h]
      rw [e]
      have := parse_text h
      exact .inl ⟨by simp [textE, h], (parse_yes this).1, (parse_yes this).2⟩)
  have K2 := Lib.hid (fun (A' : Option Addr) (c' : Nat) (h1 : (parseD s).length ≤ c') (h2 : c' ≤ maxLen) (W : World) => K.text (A := A') (ls := parseD s) (m := (parseD s).length) (c := c') (w := W) rfl h1 h2 (by omega) (fun x hx => by have := (name_len (hpn x hx)).2; unfold maxLen; omega))
  have K3 := Lib.hid (fun (W : World) => K.text (A := A) (ls := ls) (m := n) (c := c) (w := W) hl hc hm (by omega) hz)
  have K4 := Lib.hid (K.parse (textD ls) text_len)
  have HR := Lib.hid (show ∀ W, Below w.heap.size w W → RdT W W.heap.size A ls from fun W hb => (hr.below hb).more hb.size)
  have HL := Lib.hid hl
  obtain ⟨D, hD⟩ : ∃ D, parseD s = D := ⟨_, rfl⟩
  obtain ⟨E, hE⟩ : ∃ E, parseE s = E := ⟨_, rfl⟩
  simp only [hD, hE] at K1 H1 K2
  rw [hD] at hp16
  obtain ⟨T1, hT1⟩ : ∃ T, textD D = T := ⟨_, rfl⟩
  obtain ⟨F1, hF1⟩ : ∃ F, textE D = F := ⟨_, rfl⟩
  simp only [hT1, hF1] at H1 K2
  obtain ⟨T2, hT2⟩ : ∃ T, textD ls = T := ⟨_, rfl⟩
  obtain ⟨F2, hF2⟩ : ∃ F, textE ls = F := ⟨_, rfl⟩
  simp only [hT2, hF2] at H2 K3 K4
  obtain ⟨D2, hD2⟩ : ∃ D, parseD T2 = D := ⟨_, rfl⟩
  obtain ⟨E2, hE2⟩ : ∃ E, parseE T2 = E := ⟨_, rfl⟩
  simp only [hD2, hE2] at H2 K4
  obtain ⟨p, hp⟩ : ∃ p, D.length = p := ⟨_, rfl⟩
  simp only [hp] at K1 K2
  rw [hp] at hp16
  have HP := Lib.hid hp
  clear hk hl hr hz hs hbig hpn hG hc hm hD hE hT1 hF1 hT2 hF2 hD2 hE2 hp
  rcases H1.out with h1 | h1
  · rcases H2.out with h2 | h2
    · obtain ⟨rfl, rfl, rfl⟩ := h1
      obtain ⟨rfl, rfl, rfl⟩ := h2
      have hnl := HL.out
      simp only [hnl] at K4
      go_enter Tryd.func6, Tryd.ntmps6
      go_wp2_with fail
      refine (KS.out).mono ?_
      rintro e w1 ⟨rfl, hb⟩
      have HB1 := Lib.hid (hb)
      clear hb
      clear KS
      go_wp2_with fail
      refine (K1.out w1 (HK.out _ _ HG.out HB1.out)).mono ?_
      rintro e w2 ⟨A2, c2, rfl, hc1, hc2, hr, hb⟩
      have HB2 := Lib.hid (HB1.out.trans (hb.mono HB1.out.size))
      have KT := Lib.hid (K2.out A2 c2 hc1 hc2 w2 (HK.out _ _ HG.out HB2.out) hr)
      clear hb hr K1 K2 hc1 hc2
      go_wp2_with fail
      refine (KT.out).mono ?_
      rintro e w3 ⟨rfl, hb⟩
      have HB3 := Lib.hid (HB2.out.trans (hb.mono HB2.out.size))
      clear hb
      clear KT
      go_wp2_with fail
      refine (K3.out w3 (HK.out _ _ HG.out HB3.out) (HR.out _ HB3.out)).mono ?_
      rintro e w4 ⟨rfl, hb⟩
      have HB4 := Lib.hid (HB3.out.trans (hb.mono HB3.out.size))
      clear hb
      clear K3
      go_wp2_with fail
      refine (K4.out w4 (HK.out _ _ HG.out HB4.out)).mono ?_
      rintro e w5 ⟨A5, c5, rfl, _, _, hr5, hb⟩
      have HB5 := Lib.hid (HB4.out.trans (hb.mono HB4.out.size))
      have HS := Lib.hid (rsametexts_any A5 D2 n c5 A D2 n c HL.out HL.out (by omega) w5 hr5 (HR.out _ HB5.out))
      rw [decide_eq_true rfl] at HS
      clear hb hr5 K4
      go_wp2_with fail
      refine (HS.out).mono ?_
      rintro e w6 ⟨rfl, hb⟩
      have HB6 := Lib.hid (HB5.out.trans (hb.mono HB5.out.size))
      clear hb
      go_wp2_with fail
      go_ret
      exact ⟨by simp, HB6.out⟩
    · obtain ⟨rfl, rfl, rfl⟩ := h1
      obtain ⟨rfl, rfl⟩ := h2
      obtain ⟨p2, hp2⟩ : ∃ p2, D2.length = p2 := ⟨_, rfl⟩
      simp only [hp2] at K4
      clear hp2
      go_enter Tryd.func6, Tryd.ntmps6
      go_wp2_with fail
      refine (KS.out).mono ?_
      rintro e w1 ⟨rfl, hb⟩
      have HB1 := Lib.hid (hb)
      clear hb
      clear KS
      go_wp2_with fail
      refine (K1.out w1 (HK.out _ _ HG.out HB1.out)).mono ?_
      rintro e w2 ⟨A2, c2, rfl, hc1, hc2, hr, hb⟩
      have HB2 := Lib.hid (HB1.out.trans (hb.mono HB1.out.size))
      have KT := Lib.hid (K2.out A2 c2 hc1 hc2 w2 (HK.out _ _ HG.out HB2.out) hr)
      clear hb hr K1 K2 hc1 hc2
      go_wp2_with fail
      refine (KT.out).mono ?_
      rintro e w3 ⟨rfl, hb⟩
      have HB3 := Lib.hid (HB2.out.trans (hb.mono HB2.out.size))
      clear hb
      clear KT
      go_wp2_with fail
      refine (K3.out w3 (HK.out _ _ HG.out HB3.out) (HR.out _ HB3.out)).mono ?_
      rintro e w4 ⟨rfl, hb⟩
      have HB4 := Lib.hid (HB3.out.trans (hb.mono HB3.out.size))
      clear hb
      clear K3
      go_wp2_with fail
      refine (K4.out w4 (HK.out _ _ HG.out HB4.out)).mono ?_
      rintro e w5 ⟨A5, c5, rfl, _, _, hr5, hb⟩
      have HB5 := Lib.hid (HB4.out.trans (hb.mono HB4.out.size))
      clear hb hr5 K4
      go_wp2_with fail
      go_ret
      exact ⟨by simp, HB5.out⟩
  · rcases H2.out with h2 | h2
    · obtain ⟨rfl, rfl⟩ := h1
      obtain rfl : p = 0 := by rw [← HP.out]; rfl
      obtain ⟨rfl, rfl, rfl⟩ := h2
      have hnl := HL.out
      simp only [hnl] at K4
      go_enter Tryd.func6, Tryd.ntmps6
      go_wp2_with fail
      refine (KS.out).mono ?_
      rintro e w1 ⟨rfl, hb⟩
      have HB1 := Lib.hid (hb)
      clear hb
      clear KS
      go_wp2_with fail
      refine (K1.out w1 (HK.out _ _ HG.out HB1.out)).mono ?_
      rintro e w2 ⟨A2, c2, rfl, hc1, hc2, hr, hb⟩
      have HB2 := Lib.hid (HB1.out.trans (hb.mono HB1.out.size))
      have KT := Lib.hid (K2.out A2 c2 hc1 hc2 w2 (HK.out _ _ HG.out HB2.out) hr)
      clear hb hr K1 K2 hc1 hc2
      go_wp2_with fail
      refine (KT.out).mono ?_
      rintro e w3 ⟨rfl, hb⟩
      have HB3 := Lib.hid (HB2.out.trans (hb.mono HB2.out.size))
      clear hb
      clear KT
      go_wp2_with fail
      refine (K3.out w3 (HK.out _ _ HG.out HB3.out) (HR.out _ HB3.out)).mono ?_
      rintro e w4 ⟨rfl, hb⟩
      have HB4 := Lib.hid (HB3.out.trans (hb.mono HB3.out.size))
      clear hb
      clear K3
      go_wp2_with fail
      refine (K4.out w4 (HK.out _ _ HG.out HB4.out)).mono ?_
      rintro e w5 ⟨A5, c5, rfl, _, _, hr5, hb⟩
      have HB5 := Lib.hid (HB4.out.trans (hb.mono HB4.out.size))
      have HS := Lib.hid (rsametexts_any A5 D2 n c5 A D2 n c HL.out HL.out (by omega) w5 hr5 (HR.out _ HB5.out))
      rw [decide_eq_true rfl] at HS
      clear hb hr5 K4
      go_wp2_with fail
      refine (HS.out).mono ?_
      rintro e w6 ⟨rfl, hb⟩
      have HB6 := Lib.hid (HB5.out.trans (hb.mono HB5.out.size))
      clear hb
      go_wp2_with fail
      go_ret
      exact ⟨by simp, HB6.out⟩
    · obtain ⟨rfl, rfl⟩ := h1
      obtain rfl : p = 0 := by rw [← HP.out]; rfl
      obtain ⟨rfl, rfl⟩ := h2
      obtain ⟨p2, hp2⟩ : ∃ p2, D2.length = p2 := ⟨_, rfl⟩
      simp only [hp2] at K4
      clear hp2
      go_enter Tryd.func6, Tryd.ntmps6
      go_wp2_with fail
      refine (KS.out).mono ?_
      rintro e w1 ⟨rfl, hb⟩
      have HB1 := Lib.hid (hb)
      clear hb
      clear KS
      go_wp2_with fail
      refine (K1.out w1 (HK.out _ _ HG.out HB1.out)).mono ?_
      rintro e w2 ⟨A2, c2, rfl, hc1, hc2, hr, hb⟩
      have HB2 := Lib.hid (HB1.out.trans (hb.mono HB1.out.size))
      have KT := Lib.hid (K2.out A2 c2 hc1 hc2 w2 (HK.out _ _ HG.out HB2.out) hr)
      clear hb hr K1 K2 hc1 hc2
      go_wp2_with fail
      refine (KT.out).mono ?_
      rintro e w3 ⟨rfl, hb⟩
      have HB3 := Lib.hid (HB2.out.trans (hb.mono HB2.out.size))
      clear hb
      clear KT
      go_wp2_with fail
      refine (K3.out w3 (HK.out _ _ HG.out HB3.out) (HR.out _ HB3.out)).mono ?_
      rintro e w4 ⟨rfl, hb⟩
      have HB4 := Lib.hid (HB3.out.trans (hb.mono HB3.out.size))
      clear hb
      clear K3
      go_wp2_with fail
      refine (K4.out w4 (HK.out _ _ HG.out HB4.out)).mono ?_
      rintro e w5 ⟨A5, c5, rfl, _, _, hr5, hb⟩
      have HB5 := Lib.hid (HB4.out.trans (hb.mono HB4.out.size))
      clear hb hr5 K4
      go_wp2_with fail
      go_ret
      exact ⟨by simp, HB5.out⟩
end
end Go.Proofs.YtcpoejejmngiaaaDoor
