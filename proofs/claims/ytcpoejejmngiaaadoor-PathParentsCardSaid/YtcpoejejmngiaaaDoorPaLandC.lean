/- The landed paths: Parent, behind, Within, Child. No statement of the seat is proved here. -/
import Derived.Test.YtcpoejejmngiaaaDoorPaLandB
import Derived.Test.YtcpoejejmngiaaaDoorPaRefX
namespace Go.Proofs.YtcpoejejmngiaaaDoor
open Go.RowKit
set_option linter.unusedVariables false
set_option linter.unusedSimpArgs false
set_option maxRecDepth 100000

set_option maxHeartbeats 4000000 in
theorem parent_any {G : World → Prop} (K : PaLib G) (s : List UInt8) (hs : s.length ≤ 100000) (w : World) (hG : G w) : Calls Tryd.prog 12 #[.string (st s)] w fun e w' => e = .returned (.tuple #[.string (st (parentD s).1), .string (st (parentD s).2.1), .int .i64 (parentD s).2.2]) ∧ Below w.heap.size w w' := by
  have KP := Lib.hid (parse_any K s hs w hG)
  have HG := Lib.hid hG
  clear hs hG
  cases hp : parseL s with
  | none =>
    rw [parent_none hp]
    rw [(parse_no hp).1, (parse_no hp).2] at KP
    clear hp
    go_enter Tryd.func12, Tryd.ntmps12
    go_wp2_with fail
    refine KP.out.mono ?_
    rintro e w1 ⟨A, c, rfl, h1, h2, ho, hb⟩
    have HB := Lib.hid hb
    clear ho hb KP
    go_wp2_with fail
    go_ret3
    exact ⟨rfl, HB.out⟩
  | some l =>
    rw [(parse_yes hp).1, (parse_yes hp).2] at KP
    rcases List.eq_nil_or_concat l with rfl | ⟨l0, nm, rfl⟩
    · rw [parent_root hp]
      clear hp
      go_enter Tryd.func12, Tryd.ntmps12
      go_wp2_with fail
      refine KP.out.mono ?_
      rintro e w1 ⟨A, c, rfl, h1, h2, ho, hb⟩
      have HB := Lib.hid hb
      clear ho hb KP
      go_wp2_with fail
      go_ret3
      exact ⟨rfl, HB.out⟩
    · rw [List.concat_eq_append] at KP hp
      rw [parent_snoc hp]
      have hok := parse_ok hp
      have HN := Lib.hid (show ∀ x ∈ l0, x.length ≤ maxLen from fun x hx => Nat.le_trans (name_len (hok.2 x (by simp [hx]))).2 (by decide))
      obtain ⟨u, hu⟩ : ∃ u, l0.length = u := ⟨_, rfl⟩
      have HU := Lib.hid hu
      have hu16 : u ≤ 16 := by have := hok.1; rw [List.length_append, hu] at this; omega
      have hlen : (l0 ++ [nm]).length = u + 1 := by rw [List.length_append, hu]; rfl
      have hte : textE l0 = 0 := (text_yes (by omega) fun x hx => hok.2 x (by simp [hx])).2
      rw [hlen] at KP
      have HLE := Lib.hid hlen
      clear hp hok hu hlen
      go_enter Tryd.func12, Tryd.ntmps12
      go_wp2_with fail
      refine KP.out.mono ?_
      rintro e w1 ⟨A, c, rfl, hc1, hc2, ho, hb⟩
      have HB := Lib.hid hb
      have HO := Lib.hid ho
      have KT := Lib.hid (text_any K HU.out (by omega : u ≤ c) (by omega) HN.out (K.keep w w1 HG.out hb) (by
        have := ho.take u
        rwa [List.take_left' HU.out] at this))
      rw [hte] at KT
      clear ho hb KP hte
      have hue : ((u + 1 : Nat) : Int) - 1 = (u : Int) := by omega
      have hu0 : (((u + 1 : Nat) : Int) == 0) = false := by simp; omega
      unfold maxLen at hc2
      have hc3 : c ≤ 9223372036854775807 := by omega
      clear hc2
      go_wp2_with fail
      refine KT.out.mono ?_
      rintro e w2 ⟨rfl, hb2⟩
      have HB2 := Lib.hid (HB.out.trans (hb2.mono HB.out.size))
      obtain ⟨g, off, rfl, hg, hca⟩ := (HO.out.on hb2).at_ (j := u) (by rw [HLE.out]; omega)
      rw [show (l0 ++ [nm])[u]'(by rw [HLE.out]; omega) = nm by rw [List.getElem_append_right (by rw [HU.out]; exact Nat.le_refl _)]; simp [HU.out]] at hca
      have hi1 : (0 : Int) ≤ (u : Int) := by omega
      have hi2 : (u : Int) < ((u + 1 : Nat) : Int) := by omega
      clear hb2 KT hg
      go_wp2_with fail
      go_quiet (fail)
      have HBQ := Lib.hid (HB2.out.trans ((below_drewN (Below.refl w2.heap.size w2) nq).mono HB2.out.size))
      go_wp2_with fail
      go_ret3
      exact ⟨rfl, HBQ.out⟩
theorem RdT.drop {w : World} {B : Nat} {A : Option Addr} {l : List (List UInt8)} (h : RdT w B A l) {k c : Nat} (hc : l.length ≤ c) : RdT w B (if c = k then A else A.map (·.add k)) (l.drop k) := fun hn => by
  have hlk : k < l.length := by
    simp at hn
    omega
  obtain ⟨g, off, rfl, hg, hcell⟩ := h (by simp; omega)
  rw [if_neg (by omega)]
  refine ⟨g, off + k, by simp [Addr.add_lit], hg, fun j hj i v hv => ?_⟩
  have hj' : j + k < l.length := by
    simp at hj
    omega
  have := hcell (k + j) (by simp; omega) i v (by simpa using hv)
  rw [← this]
  congr 2
  omega
/-- The names of s behind those of d. -/
def behindD (s d : List UInt8) : List (List UInt8) := if withinL s d then (parseD s).drop (parseD d).length else []
set_option maxHeartbeats 4000000 in
theorem behind_any {G : World → Prop} (K : PaLib G) (s d : List UInt8) (hs : s.length ≤ 100000) (hd : d.length ≤ 100000) (w : World) (hG : G w) : Calls Tryd.prog 28 #[.string (st s), .string (st d)] w fun e w' => ∃ A c, e = .returned (.tuple #[.slice A (behindD s d).length c, .bool (withinL s d)]) ∧ (behindD s d).length ≤ c ∧ c ≤ maxLen ∧ RdT w' w'.heap.size A (behindD s d) ∧ Below w.heap.size w w' := by
  have KP := Lib.hid (parse_any K s hs w hG)
  have KQ := Lib.hid (fun W hb => parse_any K d hd W (K.keep w W hG hb))
  have hl16 := (parseD_ok s).1
  have hm16 := (parseD_ok d).1
  obtain ⟨R, hR⟩ : ∃ R, withinL s d = R := ⟨_, rfl⟩
  have HBD := Lib.hid (show behindD s d = if R then (parseD s).drop (parseD d).length else [] by unfold behindD; rw [hR])
  rw [HBD.out, hR]
  cases hp : parseL s with
  | none =>
    obtain rfl : R = false := hR ▸ within_no (.inl hp)
    rw [(parse_no hp).1, (parse_no hp).2] at KP
    clear hp hR HBD hs hd hG hl16
    simp only [Bool.false_eq_true, if_false, List.length_nil]
    go_enter Tryd.func28, Tryd.ntmps28
    go_wp2_with fail
    refine KP.out.mono ?_
    rintro e w1 ⟨A, c, rfl, h1, h2, ho, hb⟩
    have HB := Lib.hid hb
    clear ho hb KP h1 h2
    go_wp2_with fail
    refine (KQ.out w1 HB.out).mono ?_
    rintro e w2 ⟨A2, c2, rfl, h1, h2, ho, hb⟩
    have HB2 := Lib.hid (HB.out.trans (hb.mono HB.out.size))
    clear ho hb KQ h1 h2
    go_wp2_with fail
    go_ret2
    exact ⟨none, 0, rfl, Nat.le_refl _, by decide, RdT.nil _ _ _, HB2.out⟩
  | some l =>
    obtain ⟨e1, e2⟩ := parse_yes hp
    rw [e1, e2] at KP
    rw [e1] at hl16
    cases hq : parseL d with
    | none =>
      obtain rfl : R = false := hR ▸ within_no (.inr hq)
      obtain ⟨n1, n2⟩ := parse_no hq
      simp only [n1, n2] at KQ
      clear hp hq hR HBD hs hd hG hm16 e1 e2 n1 n2
      simp only [Bool.false_eq_true, if_false, List.length_nil]
      obtain ⟨p, hpl⟩ : ∃ p, l.length = p := ⟨_, rfl⟩
      rw [hpl] at KP
      clear hpl hl16
      go_enter Tryd.func28, Tryd.ntmps28
      go_wp2_with fail
      refine KP.out.mono ?_
      rintro e w1 ⟨A, c, rfl, h1, h2, ho, hb⟩
      have HB := Lib.hid hb
      clear ho hb KP h1 h2
      go_wp2_with fail
      refine (KQ.out w1 HB.out).mono ?_
      rintro e w2 ⟨A2, c2, rfl, h1, h2, ho, hb⟩
      have HB2 := Lib.hid (HB.out.trans (hb.mono HB.out.size))
      clear ho hb KQ h1 h2
      go_wp2_with fail
      go_ret2
      exact ⟨none, 0, rfl, Nat.le_refl _, by decide, RdT.nil _ _ _, HB2.out⟩
    | some m =>
      obtain ⟨f1, f2⟩ := parse_yes hq
      simp only [f1, f2] at KQ
      rw [f1] at hm16
      rw [e1, f1]
      have HW := Lib.hid (hR ▸ within_some hp hq)
      obtain ⟨p, hpl⟩ : ∃ p, l.length = p := ⟨_, rfl⟩
      obtain ⟨q, hql⟩ : ∃ q, m.length = q := ⟨_, rfl⟩
      rw [hpl] at KP hl16
      simp only [hql] at KQ
      rw [hql] at hm16 ⊢
      have HP := Lib.hid hpl
      have HQ := Lib.hid hql
      clear hp hq hR HBD hs hd hG e1 e2 f1 f2 hpl hql
      by_cases hqp : (q : Int) > (p : Int)
      · obtain rfl : R = false := by rw [HW.out, HP.out, HQ.out]; exact decide_eq_false fun h => by omega
        have hqe : decide ((q : Int) > (p : Int)) = true := decide_eq_true hqp
        simp only [Bool.false_eq_true, if_false, List.length_nil]
        go_enter Tryd.func28, Tryd.ntmps28
        go_wp2_with fail
        refine KP.out.mono ?_
        rintro e w1 ⟨A, c, rfl, h1, h2, ho, hb⟩
        have HB := Lib.hid hb
        clear ho hb KP h1 h2
        go_wp2_with fail
        refine (KQ.out w1 HB.out).mono ?_
        rintro e w2 ⟨A2, c2, rfl, h1, h2, ho, hb⟩
        have HB2 := Lib.hid (HB.out.trans (hb.mono HB.out.size))
        clear ho hb KQ h1 h2
        go_wp2_with fail
        go_ret2
        exact ⟨none, 0, rfl, Nat.le_refl _, by decide, RdT.nil _ _ _, HB2.out⟩
      have hqe : decide ((q : Int) > (p : Int)) = false := decide_eq_false hqp
      have hqn : q ≤ p := by omega
      go_enter Tryd.func28, Tryd.ntmps28
      go_wp2_with fail
      refine KP.out.mono ?_
      rintro e w1 ⟨A, c, rfl, hc1, hc2, ho, hb⟩
      have HB := Lib.hid hb
      have HO := Lib.hid ho
      clear ho hb KP
      go_wp2_with fail
      refine (KQ.out w1 HB.out).mono ?_
      rintro e w2 ⟨A2, c2, rfl, hd1, hd2, ho2, hb2⟩
      have HB2 := Lib.hid (HB.out.trans (hb2.mono HB.out.size))
      have HR1 := Lib.hid (HO.out.on hb2)
      have KE := Lib.hid (K.equal A A2 (l.take q) m q c c2 w2 (by rw [List.length_take, HP.out]; omega) HQ.out (by omega) (HR1.out.take q) ho2)
      clear ho2 hb2 KQ HB HO
      unfold maxLen at hc2 hd2
      have hc3 : c ≤ 9223372036854775807 := by omega
      have hd3 : c2 ≤ 9223372036854775807 := by omega
      clear hc2 hd2
      go_wp2_with fail
      refine KE.out.mono ?_
      rintro e w3 ⟨rfl, hb⟩
      have HB3 := Lib.hid (HB2.out.trans (hb.mono HB2.out.size))
      have HR3 := Lib.hid (HR1.out.on hb)
      clear hb KE HB2 HR1
      by_cases hlm : l.take q = m
      · obtain rfl : R = true := by rw [HW.out, HQ.out]; exact decide_eq_true ⟨by rw [HP.out]; exact hqn, hlm⟩
        rw [decide_eq_true hlm]
        clear hlm
        have hdl : (l.drop q).length = p - q := by rw [List.length_drop, HP.out]
        simp only [if_true, hdl]
        go_wp2_with fail
        · go_ret2
          have hnil : l.drop q = [] := List.eq_nil_of_length_eq_zero (by omega)
          refine ⟨A, 0, rfl, by omega, by decide, ?_, HB3.out⟩
          rw [hnil]
          exact RdT.nil _ _ _
        · go_ret2
          refine ⟨_, c - q, rfl, by omega, by unfold maxLen; omega, ?_, HB3.out⟩
          have hdr := HR3.out.drop (k := q) (c := c) (by rw [HP.out]; exact hc1)
          rwa [if_neg (by assumption)] at hdr
      · obtain rfl : R = false := by rw [HW.out, HQ.out]; exact decide_eq_false fun h => hlm h.2
        rw [decide_eq_false hlm]
        clear hlm
        simp only [Bool.false_eq_true, if_false, List.length_nil]
        go_wp2_with fail
        go_ret2
        exact ⟨none, 0, rfl, by decide, RdT.nil _ _ _, HB3.out⟩
set_option maxHeartbeats 4000000 in
theorem within_any {G : World → Prop} (K : PaLib G) (s d : List UInt8) (hs : s.length ≤ 100000) (hd : d.length ≤ 100000) (w : World) (hG : G w) : Calls Tryd.prog 21 #[.string (st s), .string (st d)] w fun e w' => e = .returned (.bool (withinL s d)) ∧ Below w.heap.size w w' := by
  have KB := Lib.hid (behind_any K s d hs hd w hG)
  clear hs hd hG
  go_enter Tryd.func21, Tryd.ntmps21
  go_wp2_with fail
  refine KB.out.mono ?_
  rintro e w1 ⟨A, c, rfl, h1, h2, ho, hb⟩
  have HB := Lib.hid hb
  clear ho hb KB
  go_wp2_with fail
  go_ret
  exact ⟨rfl, HB.out⟩
set_option maxHeartbeats 4000000 in
theorem child_any {G : World → Prop} (K : PaLib G) (s d : List UInt8) (hs : s.length ≤ 100000) (hd : d.length ≤ 100000) (w : World) (hG : G w) : Calls Tryd.prog 19 #[.string (st s), .string (st d)] w fun e w' => e = .returned (.tuple #[.string (st (childD s d).1), .bool (childD s d).2]) ∧ Below w.heap.size w w' := by
  have KB := Lib.hid (behind_any K s d hs hd w hG)
  clear hG hs hd
  obtain ⟨D, hD⟩ : ∃ D, behindD s d = D := ⟨_, rfl⟩
  cases hw : withinL s d with
  | false =>
    obtain rfl : D = [] := by rw [← hD]; unfold behindD; rw [hw]; rfl
    rw [child_no (.inl hw)]
    rw [hD, hw] at KB
    clear hD hw
    go_enter Tryd.func19, Tryd.ntmps19
    go_wp2_with fail
    refine KB.out.mono ?_
    rintro e w1 ⟨A, c, rfl, h1, h2, ho, hb⟩
    have HB := Lib.hid hb
    clear ho hb KB
    go_wp2_with fail
    go_ret2
    exact ⟨rfl, HB.out⟩
  | true =>
    obtain ⟨l, m, hl, hm, hpre⟩ := within_iff.1 hw
    have hle := hpre.length_le
    have hDe : D = l.drop m.length := by
      rw [← hD]
      unfold behindD
      rw [hw, (parse_yes hl).1, (parse_yes hm).1]
      rfl
    rw [hD, hw] at KB
    by_cases hlt : m.length < l.length
    · rw [child_yes hl hm hw hlt]
      obtain ⟨nm, hnm⟩ : ∃ nm, l[m.length] = nm := ⟨_, rfl⟩
      rw [hnm]
      have hcons : D = nm :: l.drop (m.length + 1) := by rw [hDe, ← hnm]; exact List.drop_eq_getElem_cons hlt
      have h16 := (parse_ok hl).1
      obtain ⟨u, hu⟩ : ∃ u, (l.drop (m.length + 1)).length = u := ⟨_, rfl⟩
      have hu2 : u ≤ 16 := by rw [← hu, List.length_drop]; omega
      have hlen : D.length = u + 1 := by rw [hcons, List.length_cons, hu]
      rw [hlen] at KB
      have HC := Lib.hid hcons
      have HLE := Lib.hid hlen
      have hu0 : (((u + 1 : Nat) : Int) == 0) = false := by simp; omega
      have hi2 : (0 : Int) < ((u + 1 : Nat) : Int) := by omega
      clear hcons hlen hu hnm hlt h16 hDe hle hpre hl hm hw hD
      go_enter Tryd.func19, Tryd.ntmps19
      go_wp2_with fail
      refine KB.out.mono ?_
      rintro e w1 ⟨A, c, rfl, h1, h2, ho, hb⟩
      have HB := Lib.hid hb
      obtain ⟨g, off, rfl, hg, hca⟩ := ho.at_ (j := 0) (by rw [HLE.out]; omega)
      have h0 : D[0]'(by rw [HLE.out]; omega) = nm := by
        have := HC.out
        subst this
        rfl
      rw [h0, Nat.add_zero] at hca
      clear ho hb KB hg h0
      go_wp2_with fail
      go_ret2
      exact ⟨rfl, HB.out⟩
    · have hlen : D.length = 0 := by rw [hDe, List.length_drop]; omega
      rw [hlen] at KB
      rw [child_no (.inr (by rw [(parse_yes hl).1, (parse_yes hm).1]; omega))]
      clear hlen hlt hDe hle hpre hl hm hw hD
      go_enter Tryd.func19, Tryd.ntmps19
      go_wp2_with fail
      refine KB.out.mono ?_
      rintro e w1 ⟨A, c, rfl, h1, h2, ho, hb⟩
      have HB := Lib.hid hb
      clear ho hb KB
      go_wp2_with fail
      go_ret2
      exact ⟨rfl, HB.out⟩
end Go.Proofs.YtcpoejejmngiaaaDoor
