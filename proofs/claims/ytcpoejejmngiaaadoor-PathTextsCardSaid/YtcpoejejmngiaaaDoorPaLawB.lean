/- PathTexts', PathBack's walks, told from what the package does. No statement of the seat is proved here. -/
import Derived.Test.YtcpoejejmngiaaaDoorPaTwo
namespace Go.Proofs.YtcpoejejmngiaaaDoor
open Go.RowKit
set_option linter.unusedVariables false
set_option linter.unusedSimpArgs false
set_option maxRecDepth 100000

section
variable {G : World → Prop}
set_option maxHeartbeats 8000000 in
theorem texts_walk (K : PathsOk G) (A : Option Addr) (n c : Nat) (ls : List (List UInt8)) (hl : ls.length = n) (hc : n ≤ c) (hm : c ≤ maxLen) (w : World) (hr : RdT w w.heap.size A ls) (hG : G w) :
    Calls Tryd.prog 4 #[.slice A n c] w fun e w' => e = .returned (.bool true) ∧ Below w.heap.size w w' := by
  have KS := Lib.hid (shown_any K w hG)
  have HR := Lib.hid (show ∀ W, Below w.heap.size w W → RdT W w.heap.size A ls from fun W hb => hr.below hb)
  have HL := Lib.hid hl
  have HC := Lib.hid (And.intro hc hm)
  have KT := Lib.hid (fun (h : n ≤ 1000) (h2 : ∀ x ∈ ls, x.length ≤ maxLen) (W : World) => K.text (A := A) (w := W) hl hc hm h h2)
  have KR := Lib.hid (fun (h2 : ∀ x ∈ ls, x.length ≤ 100000) (W : World) => rtext_any A ls n c hl h2 W)
  have HK := Lib.hid K.keep
  have HG := Lib.hid hG
  obtain ⟨X, hX⟩ : ∃ X, textD ls = X := ⟨_, rfl⟩
  obtain ⟨E, hE⟩ : ∃ E, textE ls = E := ⟨_, rfl⟩
  simp only [hX, hE] at KT KR
  have hnb : n ≤ 9223372036854775807 := by unfold maxLen at hm; omega
  clear hl hr hc hm hG hX hE
  go_enter Tryd.func4, Tryd.ntmps4
  go_wp2_with fail
  refine KS.out.mono ?_
  rintro e w1 ⟨rfl, hb⟩
  have HB1 := Lib.hid hb
  clear hb KS
  go_wp2_with fail
  go_loopw [12] (fun i wr => ∃ j : Nat, j ≤ n ∧ j ≤ 100 ∧ i = .int .i64 (j : Nat) ∧ Hid (∀ x ∈ ls.take j, x.length ≤ 1000) ∧ Hid (Below w.heap.size w wr)) (fun i _ => n - (intOf i).toNat)
  case atStart => exact ⟨0, Nat.zero_le _, Nat.zero_le _, rfl, Lib.hid (by simp), HB1⟩
  case round =>
    obtain ⟨j, hj, hj1, rfl, HS, HB⟩ := hrel
    by_cases hlt : j < n
    · have hlt2 : (j : Int) < (n : Int) := by omega
      by_cases hj2 : j = 100
      · subst hj2
        have hge : (((100 : Nat) : Int) ≥ 100) := by omega
        go_wp2_with fail
        go_ret
        exact ⟨rfl, HB.out⟩
      have hge : ¬ ((j : Int) ≥ 100) := by omega
      have hjp : j < ls.length := by rw [HL.out]; exact hlt
      obtain ⟨g, off, rfl, hg, hca⟩ := (HR.out _ HB.out).at_ hjp
      have HTK := Lib.hid (List.take_succ_eq_append_getElem hjp)
      obtain ⟨x, hx⟩ : ∃ x, ls[j] = x := ⟨_, rfl⟩
      rw [hx] at hca HTK
      obtain ⟨k, hk⟩ : ∃ k, x.length = k := ⟨_, rfl⟩
      have hxs : (st x).size = k := by rw [st_size, hk]
      have HKL := Lib.hid hk
      have hi1 : (0 : Int) ≤ (j : Int) := by omega
      clear hx hjp hg hk
      by_cases hbig : (k : Int) > 1000
      · go_wp2_with fail
        go_ret
        exact ⟨rfl, HB.out⟩
      · go_wp2_with fail
        go_roundw
        case rel => exact ⟨j + 1, by omega, by omega, by go_num, Lib.hid (fun y hy => by
          rw [HTK.out] at hy
          rcases List.mem_append.1 hy with hy | hy
          · exact HS.out y hy
          · rw [List.mem_singleton.1 hy, HKL.out]; omega), HB⟩
        case measure => simp [intOf]; omega
    · obtain rfl : j = n := by omega
      have HZ := Lib.hid (show ∀ x ∈ ls, x.length ≤ 1000 from by
        have := HS.out
        rwa [List.take_of_length_le (by rw [HL.out]; exact Nat.le_refl _)] at this)
      have K1 := Lib.hid (KT.out (by omega) (fun x hx => by have := HZ.out x hx; unfold maxLen; omega) wr (HK.out _ _ HG.out HB.out) ((HR.out _ HB.out).more HB.out.size))
      have K2 := Lib.hid (KR.out (fun x hx => by have := HZ.out x hx; omega))
      clear KT KR
      go_wp2_with fail
      refine K1.out.mono ?_
      rintro e w2 ⟨rfl, hb⟩
      have HB2 := Lib.hid (HB.out.trans (hb.mono HB.out.size))
      clear hb K1
      go_wp2_with fail
      refine (K2.out w2 ((HR.out _ HB2.out).more HB2.out.size)).mono ?_
      rintro e w3 ⟨rfl, hb⟩
      have HB3 := Lib.hid (HB2.out.trans (hb.mono HB2.out.size))
      clear hb K2
      go_wp2_with fail
      go_ret
      exact ⟨by simp, HB3.out⟩
end
end Go.Proofs.YtcpoejejmngiaaaDoor
