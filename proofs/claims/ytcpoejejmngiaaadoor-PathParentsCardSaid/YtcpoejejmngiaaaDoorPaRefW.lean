/- The reference's paths (cellarageref17): Within, Child. No statement of the seat is proved here. -/
import Derived.Test.YtcpoejejmngiaaaDoorPaRefX
namespace Go.Proofs.YtcpoejejmngiaaaDoor
open Go.RowKit
set_option linter.unusedVariables false
set_option linter.unusedSimpArgs false
set_option maxRecDepth 100000

set_option maxHeartbeats 4000000 in
theorem rwithin_any (s d : List UInt8) (hs : s.length ≤ 100000) (hd : d.length ≤ 100000) (w : World) : Calls Tryd.prog 22 #[.string (st s), .string (st d)] w fun e w' => e = .returned (.bool (withinL s d)) ∧ Below w.heap.size w w' := by
  have KP := Lib.hid (rparse_any s hs w)
  have KQ := Lib.hid (fun W => rparse_any d hd W)
  obtain ⟨R, hR⟩ : ∃ R, withinL s d = R := ⟨_, rfl⟩
  rw [hR]
  clear hs hd
  by_cases h0 : parseL s = none ∨ parseL d = none
  · obtain rfl : R = false := by rw [← hR]; exact within_no h0
    obtain ⟨E, hE⟩ : ∃ E, parseE s = E := ⟨_, rfl⟩
    obtain ⟨F, hF⟩ : ∃ F, parseE d = F := ⟨_, rfl⟩
    rw [hE] at KP
    rw [hF] at KQ
    have hEF : (E != 0) = true ∨ ((E != 0) = false ∧ (F != 0) = true) := by
      rcases h0 with h | h
      · left; rw [← hE, (parse_no h).2]; rfl
      · have h1 : (F != 0) = true := by rw [← hF, (parse_no h).2]; rfl
        by_cases h2 : E = 0
        · exact .inr ⟨by simp [h2], h1⟩
        · exact .inl (by simpa using h2)
    clear h0 hR hE hF
    rcases hEF with hE1 | ⟨hE1, hF1⟩
    all_goals
      go_enter Tryd.func22, Tryd.ntmps22
      go_wp2_with fail
      refine KP.out.mono ?_
      rintro e w1 ⟨A, c, rfl, ho, hb⟩
      have HB := Lib.hid hb
      clear ho hb KP
      go_wp2_with fail
      refine (KQ.out w1).mono ?_
      rintro e w2 ⟨A2, c2, rfl, ho2, hb2⟩
      have HB2 := Lib.hid (HB.out.trans (hb2.mono HB.out.size))
      clear ho2 hb2 KQ
      go_wp2_with fail
      go_ret
      exact ⟨rfl, HB2.out⟩
  cases hps : parseL s with
  | none => exact absurd (.inl hps) h0
  | some l =>
    cases hpd : parseL d with
    | none => exact absurd (.inr hpd) h0
    | some m =>
      rw [(parse_yes hps).1, (parse_yes hps).2] at KP
      rw [(parse_yes hpd).1, (parse_yes hpd).2] at KQ
      have HW := Lib.hid (within_some hps hpd)
      rw [hR] at HW
      have hl16 := (parse_ok hps).1
      have hm16 := (parse_ok hpd).1
      obtain ⟨p, hp⟩ : ∃ p, l.length = p := ⟨_, rfl⟩
      obtain ⟨q, hq⟩ : ∃ q, m.length = q := ⟨_, rfl⟩
      rw [hp] at KP hl16
      simp only [hq] at KQ
      rw [hq] at hm16
      have HP := Lib.hid hp
      have HQ := Lib.hid hq
      clear hR h0 hps hpd hp hq
      have hb1 : ((0 : Int) != 0) = false := rfl
      by_cases hqp : (q : Int) > (p : Int)
      · obtain rfl : R = false := by rw [HW.out, HP.out, HQ.out]; exact decide_eq_false fun h => by omega
        have hqe : decide ((q : Int) > (p : Int)) = true := decide_eq_true hqp
        go_enter Tryd.func22, Tryd.ntmps22
        go_wp2_with fail
        refine KP.out.mono ?_
        rintro e w1 ⟨A, c, rfl, ho, hb⟩
        have HB := Lib.hid hb
        clear ho hb KP
        go_wp2_with fail
        refine (KQ.out w1).mono ?_
        rintro e w2 ⟨A2, c2, rfl, ho2, hb2⟩
        have HB2 := Lib.hid (HB.out.trans (hb2.mono HB.out.size))
        clear ho2 hb2 KQ
        go_wp2_with fail
        go_ret
        exact ⟨rfl, HB2.out⟩
      have hqe : decide ((q : Int) > (p : Int)) = false := decide_eq_false hqp
      go_enter Tryd.func22, Tryd.ntmps22
      go_wp2_with fail
      refine KP.out.mono ?_
      rintro e w1 ⟨A, c, rfl, ho, hb⟩
      have HB := Lib.hid hb
      have HO := Lib.hid ho
      clear ho hb KP
      go_wp2_with fail
      refine (KQ.out w1).mono ?_
      rintro e w2 ⟨A2, c2, rfl, ho2, hb2⟩
      have HB2 := Lib.hid (HB.out.trans (hb2.mono HB.out.size))
      have hr1 := RdT.own (HO.out.on hb2)
      have hr2 := RdT.own ho2
      have HRA := Lib.hid (show ∀ W, Below w2.heap.size w2 W → RdT W w2.heap.size A l ∧ RdT W w2.heap.size A2 m from fun W hW => ⟨hr1.below hW, hr2.below hW⟩)
      clear ho2 hb2 KQ hr1 hr2 HB HO
      go_wp2_with fail
      go_loopw [9] (fun i wr => ∃ j : Nat, j ≤ q ∧ i = .int .i64 (j : Nat) ∧ Hid (l.take j = m.take j) ∧ Hid (Below w2.heap.size w2 wr)) (fun i _ => q - (intOf i).toNat)
      case atStart => exact ⟨0, Nat.zero_le _, rfl, Lib.hid rfl, Lib.hid (Below.refl _ _)⟩
      case round =>
        obtain ⟨j, hj, rfl, hst, HBL⟩ := hrel
        by_cases hlt : j < q
        · have hjp : j < l.length := by rw [HP.out]; omega
          have hjq : j < m.length := by rw [HQ.out]; exact hlt
          obtain ⟨g, off, rfl, hg, hca⟩ := (HRA.out _ HBL.out).1.at_ hjp
          obtain ⟨g', off', rfl, hg', hcb⟩ := (HRA.out _ HBL.out).2.at_ hjq
          obtain ⟨x, hx⟩ : ∃ x, l[j] = x := ⟨_, rfl⟩
          obtain ⟨y, hy⟩ : ∃ y, m[j] = y := ⟨_, rfl⟩
          have HST := Lib.hid (show x = y → l.take (j + 1) = m.take (j + 1) from fun h => take_snocT hjp hjq hst.out (by rw [hx, hy, h]))
          have HNO := Lib.hid (show ¬ x = y → R = false from fun h => by
            rw [HW.out]
            refine decide_eq_false fun e => h ?_
            have e2 := e.2
            rw [← hx, ← hy]
            have e3 : (l.take m.length)[j]'(by rw [e2]; exact hjq) = m[j] := by simp only [e2]
            rw [List.getElem_take] at e3
            exact e3)
          rw [hx] at hca
          rw [hy] at hcb
          have hi1 : (0 : Int) ≤ (j : Int) := by omega
          have hi2 : (j : Int) < (q : Int) := by omega
          have hi3 : (j : Int) < (p : Int) := by omega
          clear hx hy hjp hjq hg hg'
          by_cases hxy : x = y
          · have he : (x == y) = true := by simp [hxy]
            have HNX := Lib.hid (HST.out hxy)
            clear hxy
            go_wp2_with fail
            go_quiet (fail)
            have HBQ := Lib.hid (HBL.out.trans ((below_drewN (Below.refl wr.heap.size wr) nq).mono HBL.out.size))
            go_wp2_with fail
            go_roundw
            case rel => exact ⟨j + 1, by omega, by go_num, HNX, HBQ⟩
            case measure => simp [intOf]; omega
          · have he : (x == y) = false := by simp [hxy]
            obtain rfl : R = false := HNO.out hxy
            clear hxy
            go_wp2_with fail
            go_quiet (fail)
            have HBQ := Lib.hid (HBL.out.trans ((below_drewN (Below.refl wr.heap.size wr) nq).mono HBL.out.size))
            go_wp2_with fail
            go_ret
            exact ⟨rfl, HB2.out.trans (HBQ.out.mono HB2.out.size)⟩
        · obtain rfl : j = q := by omega
          obtain rfl : R = true := by
            rw [HW.out]
            refine decide_eq_true ⟨by rw [HP.out, HQ.out]; omega, ?_⟩
            have := hst.out
            rw [List.take_of_length_le (l := m) (by rw [HQ.out]; exact Nat.le_refl _)] at this
            rw [HQ.out]
            exact this
          go_wp2_with fail
          go_ret
          exact ⟨rfl, HB2.out.trans (HBL.out.mono HB2.out.size)⟩
set_option maxHeartbeats 4000000 in
theorem rchild_any (s d : List UInt8) (hs : s.length ≤ 100000) (hd : d.length ≤ 100000) (w : World) : Calls Tryd.prog 20 #[.string (st s), .string (st d)] w fun e w' => e = .returned (.tuple #[.string (st (childD s d).1), .bool (childD s d).2]) ∧ Below w.heap.size w w' := by
  have KP := Lib.hid (rparse_any s hs w)
  have KQ := Lib.hid (fun W => rparse_any d hd W)
  have KW := Lib.hid (fun W => rwithin_any s d hs hd W)
  obtain ⟨R, hR⟩ : ∃ R, withinL s d = R := ⟨_, rfl⟩
  rw [hR] at KW
  have hl16 := (parseD_ok s).1
  have hm16 := (parseD_ok d).1
  obtain ⟨l, hl⟩ : ∃ l, parseD s = l := ⟨_, rfl⟩
  obtain ⟨m, hm⟩ : ∃ m, parseD d = m := ⟨_, rfl⟩
  have HNO := Lib.hid (show R = false ∨ l.length = m.length → childD s d = ([], false) from fun h => child_no (by rw [hR, hl, hm]; exact h))
  have HYE := Lib.hid (show R = true → l.length ≠ m.length → ∃ h : m.length < l.length, childD s d = (l[m.length], true) from fun h h2 => by
    subst h
    obtain ⟨l', m', q1, q2, q3⟩ := within_iff.1 hR
    have e1 : l' = l := by rw [← hl, (parse_yes q1).1]
    have e2 : m' = m := by rw [← hm, (parse_yes q2).1]
    subst e1 e2
    have := q3.length_le
    exact ⟨by omega, child_yes q1 q2 hR (by omega)⟩)
  obtain ⟨⟨X, b⟩, hX⟩ : ∃ X, childD s d = X := ⟨_, rfl⟩
  rw [hX] at HNO HYE
  rw [hX]
  rw [hl] at KP hl16
  rw [hm] at hm16
  simp only [hm] at KQ
  obtain ⟨E, hE⟩ : ∃ E, parseE s = E := ⟨_, rfl⟩
  obtain ⟨F, hF⟩ : ∃ F, parseE d = F := ⟨_, rfl⟩
  rw [hE] at KP
  simp only [hF] at KQ
  obtain ⟨p, hp⟩ : ∃ p, l.length = p := ⟨_, rfl⟩
  obtain ⟨q, hq⟩ : ∃ q, m.length = q := ⟨_, rfl⟩
  rw [hp] at KP hl16
  simp only [hq] at KQ
  rw [hq] at hm16
  have HP := Lib.hid hp
  have HQ := Lib.hid hq
  clear hR hs hd hl hm hX hE hF hp hq
  go_enter Tryd.func20, Tryd.ntmps20
  go_wp2_with fail
  refine KP.out.mono ?_
  rintro e w1 ⟨A, c, rfl, ho, hb⟩
  have HB := Lib.hid hb
  have HO := Lib.hid ho
  clear ho hb KP
  go_wp2_with fail
  refine (KQ.out w1).mono ?_
  rintro e w2 ⟨A2, c2, rfl, ho2, hb2⟩
  have HB2 := Lib.hid (HB.out.trans (hb2.mono HB.out.size))
  have HO2 := Lib.hid (HO.out.on hb2)
  clear ho2 hb2 KQ HO HB
  cases R with
  | false =>
    obtain ⟨q1, q2⟩ := Prod.mk.inj (HNO.out (.inl rfl))
    subst q1 q2
    go_wp2_with fail
    refine (KW.out w2).mono ?_
    rintro e w3 ⟨rfl, hb3⟩
    have HB3 := Lib.hid (HB2.out.trans (hb3.mono HB2.out.size))
    clear hb3 KW
    go_wp2_with fail
    go_ret2
    exact ⟨rfl, HB3.out⟩
  | true =>
    by_cases hpq : p = q
    · obtain ⟨q1, q2⟩ := Prod.mk.inj (HNO.out (.inr (by rw [HP.out, HQ.out, hpq])))
      subst q1 q2 hpq
      go_wp2_with fail
      refine (KW.out w2).mono ?_
      rintro e w3 ⟨rfl, hb3⟩
      have HB3 := Lib.hid (HB2.out.trans (hb3.mono HB2.out.size))
      clear hb3 KW
      go_wp2_with fail
      go_ret2
      exact ⟨rfl, HB3.out⟩
    · obtain ⟨hlt, e⟩ := HYE.out rfl (by rw [HP.out, HQ.out]; exact hpq)
      obtain ⟨q1, q2⟩ := Prod.mk.inj e
      have hne : ((p : Int) == (q : Int)) = false := by simp; omega
      have HXE := Lib.hid (show l[q]'(by rw [← HQ.out]; exact hlt) = X from by rw [q1]; simp only [HQ.out])
      have HLT := Lib.hid (show q < l.length by rw [← HQ.out]; exact hlt)
      subst q2
      clear e q1
      go_wp2_with fail
      refine (KW.out w2).mono ?_
      rintro e w3 ⟨rfl, hb3⟩
      have HB3 := Lib.hid (HB2.out.trans (hb3.mono HB2.out.size))
      obtain ⟨g, off, rfl, hg, hca⟩ := (RdT.own (HO2.out.on hb3)).at_ HLT.out
      rw [HXE.out] at hca
      have hi1 : (0 : Int) ≤ (q : Int) := by omega
      have hi2 : (q : Int) < (p : Int) := by have := HLT.out; have := HP.out; omega
      clear hb3 KW hg
      go_wp2_with fail
      go_ret2
      exact ⟨rfl, HB3.out⟩
end Go.Proofs.YtcpoejejmngiaaaDoor
