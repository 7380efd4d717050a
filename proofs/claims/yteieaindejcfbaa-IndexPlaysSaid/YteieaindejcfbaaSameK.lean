/- The reference's SameKeys (cellarageref11). No statement of the seat is proved here. -/
import Derived.Test.YteieaindejcfbaaKeys
import Derived.Test.YteieaindejcfbaaKeyEq
import Derived.Test.YteieaindejcfbaaRowLaws
import Derived.Test.YteieaindejcfbaaQuiet
import Derived.Lib.Hide
namespace Go.Proofs.Yteieaindejcfbaa
open Go.RowKit Go.Maps Go.Sort
set_option linter.unusedVariables false
set_option linter.unusedSimpArgs false

theorem take_sameK {α : Type} {ps qs : List α} {j : Nat} (h1 : j < ps.length) (h2 : j < qs.length) (ht : ps.take j = qs.take j) (he : ps[j] = qs[j]) : ps.take (j + 1) = qs.take (j + 1) := by
  rw [List.take_succ_eq_append_getElem h1, List.take_succ_eq_append_getElem h2, ht, he]
theorem range_baseK {w : World} {b off : Nat} {cs : List Value} (h : ∀ W, Below w.heap.size w W → W.rangeAt b off cs) (W : World) (hW : ∃ p : Regrown, W = grow (redrawn w p.d) p.os) : W.rangeAt b off cs := by
  obtain ⟨p, rfl⟩ := hW
  exact h _ (below_regrown w p.d p.os)
set_option maxRecDepth 100000 in
set_option maxHeartbeats 600000 in
theorem rsamekeys_any (A : Option Addr) (ls : List KeyT) (k c : Nat) (B : Option Addr) (ms : List KeyT) (m d : Nat) (hl : ls.length = k) (hm : ms.length = m) (hk : k ≤ 3000) (w : World) (hr : RdK w w.heap.size A ls) (hr2 : RdK w w.heap.size B ms) :
    Calls Try.prog 17 #[.slice A k c, .slice B m d] w fun e w' => e = .returned (.bool (decide (ls = ms))) ∧ Below w.heap.size w w' := by
  obtain ⟨R, hR⟩ : ∃ R, decide (ls = ms) = R := ⟨_, rfl⟩
  rw [hR]
  by_cases hkm : k = m
  · subst hkm
    have hne : ((k : Int) != (k : Int)) = false := by simp
    have HR := Lib.hid hR
    have HA := Lib.hid (show ∀ W, Below w.heap.size w W → RdK W w.heap.size A ls from fun W hb => hr.below hb)
    have HB := Lib.hid (show ∀ W, Below w.heap.size w W → RdK W w.heap.size B ms from fun W hb => hr2.below hb)
    have HPL := Lib.hid hl
    have HQL := Lib.hid hm
    obtain ⟨fs, hfs⟩ := key_desc
    have HF := Lib.hid hfs
    have eqg := key_guard
    clear hR hr hr2 hl hm hfs
    go_enter Try.func17, Try.ntmps17
    go_wp2_with fail
    go_loopw [5] (fun i wr => ∃ j : Nat, j ≤ k ∧ i = .int .i64 j ∧ Hid (ls.take j = ms.take j) ∧ Below w.heap.size w wr) (fun i _ => k - (intOf i).toNat)
    case atStart => exact ⟨0, Nat.zero_le _, rfl, Lib.hid rfl, Below.refl _ _⟩
    case round =>
      obtain ⟨j, hj, rfl, hst, hbel⟩ := hrel
      by_cases hlt : j < k
      · have hjp : j < ls.length := by rw [HPL.out]; exact hlt
        have hjq : j < ms.length := by rw [HQL.out]; exact hlt
        obtain ⟨g, off, hA, hg, hra, hokx⟩ := (HA.out _ hbel).at_ hjp
        obtain ⟨g', off', hB, hg', hra', hoky⟩ := (HB.out _ hbel).at_ hjq
        obtain ⟨x, hx⟩ : ∃ x, ls[j] = x := ⟨_, rfl⟩
        obtain ⟨y, hy⟩ : ∃ y, ms[j] = y := ⟨_, rfl⟩
        have HST := Lib.hid (show x = y → ls.take (j + 1) = ms.take (j + 1) from fun h => take_sameK hjp hjq hst.out (by rw [hx, hy, h]))
        have HNO := Lib.hid (show ¬ x = y → R = false from fun h => by
          rw [← HR.out]
          refine decide_eq_false fun e => h ?_
          subst e
          rw [← hx, ← hy])
        rw [hx] at hra hokx
        rw [hy] at hra' hoky
        have hgw : g < wr.heap.size := Nat.lt_of_lt_of_le hg hbel.size
        have hgw' : g' < wr.heap.size := Nat.lt_of_lt_of_le hg' hbel.size
        have HKS := Lib.hid (show (Try.prog.info? 27).map (·.size) = some (kcs x).length by rw [kcs_length hokx]; exact key_size)
        have HKY := Lib.hid (show (Try.prog.info? 27).map (·.size) = some (kcs y).length by rw [kcs_length hoky]; exact key_size)
        have R1 := Lib.hid (range_baseK (w := wr) (b := g) (off := off + j * 33) (cs := kcs x) fun W hW => fun t v hv => by rw [hW.cell (p := ⟨g, off + j * 33 + t, none⟩) hgw]; exact hra t v hv)
        have R2 := Lib.hid (range_baseK (w := wr) (b := g') (off := off' + j * 33) (cs := kcs y) fun W hW => fun t v hv => by rw [hW.cell (p := ⟨g', off' + j * 33 + t, none⟩) hgw']; exact hra' t v hv)
        obtain ⟨r, hre⟩ : ∃ r, decide (x = y) = r := ⟨_, rfl⟩
        have QE := Lib.hid (show ∀ W, (Op.equal 27 (.agg (kcs x).toArray) (.agg (kcs y).toArray)).run Try.prog W = .ok r W from fun W => by rw [key_eq hokx hoky W, hre])
        have HRE := Lib.hid hre
        have HBEL := Lib.hid hbel
        subst hA
        subst hB
        have hi1 : (0 : Int) ≤ (j : Int) := by omega
        have hi2 : (j : Int) < (k : Int) := by omega
        clear hra hra' hokx hoky hre hbel hst hx hy hjp hjq
        go_wp2_with fail
        refine wp_region_quiet_below (by kernel_rfl) (by kernel_rfl) ?_
        repeat (first
          | (go_big_quiet_want; refine quiet_load_mid 27 (.tmp 19) rfl g (off + j * 33) rfl (kcs x) (.struct fs) R1.out HF.out rfl HKS.out (by simp only [Act.put, List.setIfInBounds_toArray, List.set_cons_succ, List.set_cons_zero]; rfl) ?_; go_big_quiet_on)
          | (go_big_quiet_want; refine quiet_load_mid 27 (.tmp 23) rfl g' (off' + j * 33) rfl (kcs y) (.struct fs) R2.out HF.out rfl HKY.out (by simp only [Act.put, List.setIfInBounds_toArray, List.set_cons_succ, List.set_cons_zero]; rfl) ?_; go_big_quiet_on)
          | (go_big_quiet_want; refine quiet_neq_row 27 27 (.tmp 20) (.tmp 24) rfl (kcs x).toArray (kcs y).toArray rfl rfl eqg r QE.out (by simp only [Act.put, List.setIfInBounds_toArray, List.set_cons_succ, List.set_cons_zero]; rfl) ?_; go_big_quiet_on)
          | go_big_quiet_step (fail))
        refine wpQuiet_nil ?_
        intro _ hw'
        obtain ⟨⟨dq, osq⟩, hw''⟩ := hw'
        subst hw''
        have HBQ := Lib.hid (HBEL.out.trans ((below_regrown wr dq osq).mono HBEL.out.size))
        clear R1 R2
        generalize Go.Sort.grow (redrawn wr dq) osq = wq at *
        cases r with
        | false =>
          obtain rfl : R = false := HNO.out (of_decide_eq_false HRE.out)
          go_wp2_with fail
          go_ret
          exact ⟨rfl, HBQ.out⟩
        | true =>
          have HNX := Lib.hid (HST.out (of_decide_eq_true HRE.out))
          go_wp2_with fail
          go_roundw
          case rel => exact ⟨j + 1, by omega, by go_num, HNX, HBQ.out⟩
          case measure => simp [intOf]; omega
      · obtain rfl : j = k := by omega
        obtain rfl : R = true := by
          rw [← HR.out]
          refine decide_eq_true ?_
          have := hst.out
          rwa [List.take_of_length_le (by rw [HPL.out]; exact Nat.le_refl _), List.take_of_length_le (by rw [HQL.out]; exact Nat.le_refl _)] at this
        go_wp2_with fail
        go_ret
        exact ⟨rfl, hbel⟩
  · have hne : ((k : Int) != (m : Int)) = true := by simp; omega
    obtain rfl : R = false := by
      rw [← hR]
      exact decide_eq_false fun e => hkm (by rw [← hl, ← hm, e])
    clear hl hm hR hr hr2
    go_enter Try.func17, Try.ntmps17
    go_wp2_with fail
    go_ret
    exact ⟨rfl, Below.refl _ _⟩
end Go.Proofs.Yteieaindejcfbaa
