/- The reference's paths (cellarageref17): SameTexts, Parent, Within, Child. No statement of the seat is proved here. -/
import Derived.Test.YtcpoejejmngiaaaDoorPaRefP
import Derived.Test.YtcpoejejmngiaaaDoorPaRefT
import Derived.Test.YtcpoejejmngiaaaDoorQuiet
import Derived.Deep.QuietTactic
namespace Go.Proofs.YtcpoejejmngiaaaDoor
open Go.RowKit
set_option linter.unusedVariables false
set_option linter.unusedSimpArgs false
set_option maxRecDepth 100000

theorem take_snocT {α : Type} {ps qs : List α} {j : Nat} (h1 : j < ps.length) (h2 : j < qs.length) (ht : ps.take j = qs.take j) (he : ps[j] = qs[j]) : ps.take (j + 1) = qs.take (j + 1) := by
  rw [List.take_succ_eq_append_getElem h1, List.take_succ_eq_append_getElem h2, ht, he]
set_option maxHeartbeats 4000000 in
theorem rsametexts_any (A : Option Addr) (ls : List (List UInt8)) (k c : Nat) (B : Option Addr) (ms : List (List UInt8)) (m d : Nat) (hl : ls.length = k) (hm : ms.length = m) (hk : k ≤ 1000000) (w : World) (hr : RdT w w.heap.size A ls) (hr2 : RdT w w.heap.size B ms) :
    Calls Tryd.prog 14 #[.slice A k c, .slice B m d] w fun e w' => e = .returned (.bool (decide (ls = ms))) ∧ Below w.heap.size w w' := by
  obtain ⟨R, hR⟩ : ∃ R, decide (ls = ms) = R := ⟨_, rfl⟩
  rw [hR]
  by_cases hkm : k = m
  · subst hkm
    have hne : ((k : Int) != (k : Int)) = false := by simp
    have HR := Lib.hid hR
    have HA := Lib.hid (show ∀ W, Below w.heap.size w W → RdT W w.heap.size A ls from fun W hb => hr.below hb)
    have HB := Lib.hid (show ∀ W, Below w.heap.size w W → RdT W w.heap.size B ms from fun W hb => hr2.below hb)
    have HPL := Lib.hid hl
    have HQL := Lib.hid hm
    clear hR hr hr2 hl hm
    go_enter Tryd.func14, Tryd.ntmps14
    go_wp2_with fail
    go_loopw [5] (fun i wr => ∃ j : Nat, j ≤ k ∧ i = .int .i64 (j : Nat) ∧ Hid (ls.take j = ms.take j) ∧ Hid (Below w.heap.size w wr)) (fun i _ => k - (intOf i).toNat)
    case atStart => exact ⟨0, Nat.zero_le _, rfl, Lib.hid rfl, Lib.hid (Below.refl _ _)⟩
    case round =>
      obtain ⟨j, hj, rfl, hst, HBL⟩ := hrel
      by_cases hlt : j < k
      · have hjp : j < ls.length := by rw [HPL.out]; exact hlt
        have hjq : j < ms.length := by rw [HQL.out]; exact hlt
        obtain ⟨g, off, rfl, hg, hca⟩ := (HA.out _ HBL.out).at_ hjp
        obtain ⟨g', off', rfl, hg', hcb⟩ := (HB.out _ HBL.out).at_ hjq
        obtain ⟨x, hx⟩ : ∃ x, ls[j] = x := ⟨_, rfl⟩
        obtain ⟨y, hy⟩ : ∃ y, ms[j] = y := ⟨_, rfl⟩
        have HST := Lib.hid (show x = y → ls.take (j + 1) = ms.take (j + 1) from fun h => take_snocT hjp hjq hst.out (by rw [hx, hy, h]))
        have HNO := Lib.hid (show ¬ x = y → R = false from fun h => by
          rw [← HR.out]
          refine decide_eq_false fun e => h ?_
          subst e
          rw [← hx, ← hy])
        rw [hx] at hca
        rw [hy] at hcb
        have hi1 : (0 : Int) ≤ (j : Int) := by omega
        have hi2 : (j : Int) < (k : Int) := by omega
        clear hx hy hjp hjq hg hg'
        by_cases hxy : x = y
        · have he : (x == y) = true := by simp [hxy]
          have HNX := Lib.hid (HST.out hxy)
          clear hxy
          go_wp2_with fail
          go_quiet (fail)
          have HBQ := Lib.hid (HBL.out.trans ((below_drewN (Below.refl wr.heap.size wr) nq).mono HBL.out.size))
          go_wp2_with fail
          go_roundw
          case rel => exact ⟨j + 1, by omega, by go_num, HNX, HBQ⟩
          case measure => simp [intOf]; omega
        · have he : (x == y) = false := by simp [hxy]
          obtain rfl : R = false := HNO.out hxy
          clear hxy
          go_wp2_with fail
          go_quiet (fail)
          have HBQ := Lib.hid (HBL.out.trans ((below_drewN (Below.refl wr.heap.size wr) nq).mono HBL.out.size))
          go_wp2_with fail
          go_ret
          exact ⟨rfl, HBQ.out⟩
      · obtain rfl : j = k := by omega
        obtain rfl : R = true := by
          rw [← HR.out]
          refine decide_eq_true ?_
          have := hst.out
          rwa [List.take_of_length_le (by rw [HPL.out]; exact Nat.le_refl _), List.take_of_length_le (by rw [HQL.out]; exact Nat.le_refl _)] at this
        go_wp2_with fail
        go_ret
        exact ⟨rfl, HBL.out⟩
  · have hne : ((k : Int) != (m : Int)) = true := by simp; omega
    obtain rfl : R = false := by
      rw [← hR]
      exact decide_eq_false fun e => hkm (by rw [← hl, ← hm, e])
    clear hl hm hR hr hr2
    go_enter Tryd.func14, Tryd.ntmps14
    go_wp2_with fail
    go_ret
    exact ⟨rfl, Below.refl _ _⟩
theorem cap_int {A : Option Addr} {c : Nat} {w : World} {b : Nat} {l : List (List UInt8)} (h : OwnG 9 1 tcs w b A c l) : l.length ≤ c ∧ c ≤ 9223372036854775807 := by
  have := h.cap
  unfold maxLen at this
  exact ⟨this.1, by omega⟩
set_option maxHeartbeats 4000000 in
theorem rparent_any (s : List UInt8) (hs : s.length ≤ 100000) (w : World) : Calls Tryd.prog 13 #[.string (st s)] w fun e w' => e = .returned (.tuple #[.string (st (parentD s).1), .string (st (parentD s).2.1), .int .i64 (parentD s).2.2]) ∧ Below w.heap.size w w' := by
  have KP := Lib.hid (rparse_any s hs w)
  have HS := Lib.hid hs
  clear hs
  cases hp : parseL s with
  | none =>
    rw [parent_none hp]
    rw [(parse_no hp).1, (parse_no hp).2] at KP
    clear hp
    go_enter Tryd.func13, Tryd.ntmps13
    go_wp2_with fail
    refine KP.out.mono ?_
    rintro e w1 ⟨A, c, rfl, ho, hb⟩
    have HB := Lib.hid hb
    clear ho hb KP
    go_wp2_with fail
    go_ret3
    exact ⟨rfl, HB.out⟩
  | some l =>
    rw [(parse_yes hp).1, (parse_yes hp).2] at KP
    rcases List.eq_nil_or_concat l with rfl | ⟨l0, nm, rfl⟩
    · rw [parent_root hp]
      clear hp
      go_enter Tryd.func13, Tryd.ntmps13
      go_wp2_with fail
      refine KP.out.mono ?_
      rintro e w1 ⟨A, c, rfl, ho, hb⟩
      have HB := Lib.hid hb
      clear ho hb KP
      go_wp2_with fail
      go_ret3
      exact ⟨rfl, HB.out⟩
    · rw [List.concat_eq_append] at KP hp
      rw [parent_snoc hp]
      have hok := parse_ok hp
      have HN := Lib.hid (show ∀ x ∈ l0, x.length ≤ 100000 from fun x hx => by have := (name_len (hok.2 x (by simp [hx]))).2; omega)
      obtain ⟨u, hu⟩ : ∃ u, l0.length = u := ⟨_, rfl⟩
      have HU := Lib.hid hu
      have hu16 : u ≤ 16 := by have := hok.1; rw [List.length_append, hu] at this; omega
      have hlen : (l0 ++ [nm]).length = u + 1 := by rw [List.length_append, hu]; rfl
      rw [hlen] at KP
      have HLE := Lib.hid hlen
      clear hp hok hu hlen
      go_enter Tryd.func13, Tryd.ntmps13
      go_wp2_with fail
      refine KP.out.mono ?_
      rintro e w1 ⟨A, c, rfl, ho, hb⟩
      have HB := Lib.hid hb
      have hcap := cap_int ho
      rw [HLE.out] at hcap
      have HO := Lib.hid ho
      have KT := Lib.hid (rtext_any A l0 u c HU.out HN.out w1 (by
        have := (RdT.own ho).take u
        rwa [List.take_left' HU.out] at this))
      clear ho hb KP
      have hue : ((u + 1 : Nat) : Int) - 1 = (u : Int) := by omega
      have hu0 : (((u + 1 : Nat) : Int) == 0) = false := by simp; omega
      have hc1 : u + 1 ≤ c := hcap.1
      have hc2 : c ≤ 9223372036854775807 := hcap.2
      clear hcap
      go_wp2_with fail
      refine KT.out.mono ?_
      rintro e w2 ⟨rfl, hb2⟩
      have HB2 := Lib.hid (HB.out.trans (hb2.mono HB.out.size))
      obtain ⟨g, off, rfl, hg, hca⟩ := (RdT.own (HO.out.on hb2)).at_ (j := u) (by rw [HLE.out]; omega)
      rw [show (l0 ++ [nm])[u]'(by rw [HLE.out]; omega) = nm by rw [List.getElem_append_right (by rw [HU.out]; exact Nat.le_refl _)]; simp [HU.out]] at hca
      have hi1 : (0 : Int) ≤ (u : Int) := by omega
      have hi2 : (u : Int) < ((u + 1 : Nat) : Int) := by omega
      clear hb2 KT hg
      go_wp2_with fail
      go_quiet (fail)
      have HBQ := Lib.hid (HB2.out.trans ((below_drewN (Below.refl w2.heap.size w2) nq).mono HB2.out.size))
      go_wp2_with fail
      go_ret3
      exact ⟨rfl, HBQ.out⟩
end Go.Proofs.YtcpoejejmngiaaaDoor
