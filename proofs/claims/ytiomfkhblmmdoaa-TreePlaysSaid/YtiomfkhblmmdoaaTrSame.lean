/- Two pairs compared; the reference's SamePairs and Low (cellarageref18). No statement of the seat is proved here. -/
import Derived.Test.YtiomfkhblmmdoaaTrKit
import Derived.Test.YtiomfkhblmmdoaaRowLaws
import Derived.Test.YtiomfkhblmmdoaaBaseB
import Derived.Test.YtiomfkhblmmdoaaQMid
import Derived.Deep.QuietTactic
import Derived.BigQuiet
namespace Go.Proofs.Ytiomfkhblmmdoaa
open Go.RowKit
set_option linter.unusedVariables false
set_option linter.unusedSimpArgs false
set_option maxRecDepth 100000

theorem pair_desc : ∃ fs, Try.prog.underlying 30 = some (.struct fs) := ⟨_, Try.underlying30⟩
theorem pair_size : (Try.prog.info? 30).map (·.size) = some 2 := by kernel_rfl
theorem pair_guard : Try.prog.eqGuardType Try.prog.depth 30 = false := by kernel_rfl
theorem pair_fields : ∃ fs, Try.prog.underlying 30 = some (.struct fs) ∧ Try.prog.fieldsOf 30 = fs ∧ Try.prog.underlying 30 = some (.struct (Try.prog.fieldsOf 30)) := by
  refine ⟨_, Try.underlying30, ?_, ?_⟩
  · unfold Program.fieldsOf
    rw [Try.underlying30]
  · unfold Program.fieldsOf
    rw [Try.underlying30]
theorem pair_eq (a b : PT) (w : World) : (Op.equal 30 (.agg (pcs a).toArray) (.agg (pcs b).toArray)).run Try.prog w = .ok (decide (a = b)) w := by
  show (Op.equalIn (9999 + 1) 30 (.agg (pcs a).toArray) (.agg (pcs b).toArray)).run Try.prog w = _
  obtain ⟨fs, h1, h2, h3⟩ := pair_fields
  rw [Try.underlying30] at h1
  injection h1 with h1
  injection h1 with h1
  rw [run_equalIn_agg w 9999 _ _ _ h3 (by kernel_rfl), h2, ← h1]
  obtain ⟨a1, a2⟩ := a
  obtain ⟨b1, b2⟩ := b
  simp [Op.eqFields, pcs, part, go_sem]
  by_cases e1 : a1 = b1 <;> by_cases e2 : a2 = b2 <;> simp [e1, e2]
theorem take_snocP {α : Type} {ps qs : List α} {j : Nat} (h1 : j < ps.length) (h2 : j < qs.length) (ht : ps.take j = qs.take j) (he : ps[j] = qs[j]) : ps.take (j + 1) = qs.take (j + 1) := by
  rw [List.take_succ_eq_append_getElem h1, List.take_succ_eq_append_getElem h2, ht, he]
theorem RdP.row {w : World} {B : Nat} {A : Option Addr} {ls : List PT} (h : RdP w B A ls) {j : Nat} (hj : j < ls.length) : ∃ g off, A = some ⟨g, off, none⟩ ∧ g < B ∧ w.rangeAt g (off + j * 2) (pcs ls[j]) := by
  obtain ⟨g, off, e, hg, hc⟩ := h (by simp; omega)
  refine ⟨g, off, e, hg, ?_⟩
  have := hc j (by simpa using hj)
  rwa [List.getElem_map] at this
set_option maxHeartbeats 4000000 in
theorem rsamepairs_any (A : Option Addr) (ls : List PT) (k c : Nat) (B : Option Addr) (ms : List PT) (m d : Nat) (hl : ls.length = k) (hm : ms.length = m) (hk : k ≤ 1000000) (w : World) (hr : RdP w w.heap.size A ls) (hr2 : RdP w w.heap.size B ms) :
    Calls Try.prog 18 #[.slice A k c, .slice B m d] w fun e w' => e = .returned (.bool (decide (ls = ms))) ∧ Below w.heap.size w w' := by
  obtain ⟨R, hR⟩ : ∃ R, decide (ls = ms) = R := ⟨_, rfl⟩
  rw [hR]
  by_cases hkm : k = m
  · subst hkm
    have hne : ((k : Int) != (k : Int)) = false := by simp
    have HR := Lib.hid hR
    have HA := Lib.hid (show ∀ W, Below w.heap.size w W → RdP W w.heap.size A ls from fun W hb => hr.below hb)
    have HB := Lib.hid (show ∀ W, Below w.heap.size w W → RdP W w.heap.size B ms from fun W hb => hr2.below hb)
    have HPL := Lib.hid hl
    have HQL := Lib.hid hm
    obtain ⟨fs, hfs⟩ := pair_desc
    have HF := Lib.hid hfs
    have eqg := pair_guard
    clear hR hr hr2 hl hm hfs
    go_enter Try.func18, Try.ntmps18
    go_wp2_with fail
    go_loopw [5] (fun i wr => ∃ j : Nat, j ≤ k ∧ i = .int .i64 j ∧ Hid (ls.take j = ms.take j) ∧ Below w.heap.size w wr) (fun i _ => k - (intOf i).toNat)
    case atStart => exact ⟨0, Nat.zero_le _, rfl, Lib.hid rfl, Below.refl _ _⟩
    case round =>
      obtain ⟨j, hj, rfl, hst, hbel⟩ := hrel
      by_cases hlt : j < k
      · have hjp : j < ls.length := by rw [HPL.out]; exact hlt
        have hjq : j < ms.length := by rw [HQL.out]; exact hlt
        obtain ⟨g, off, hA, hg, hra⟩ := (HA.out _ hbel).row hjp
        obtain ⟨g', off', hB, hg', hra'⟩ := (HB.out _ hbel).row hjq
        obtain ⟨x, hx⟩ : ∃ x, ls[j] = x := ⟨_, rfl⟩
        obtain ⟨y, hy⟩ : ∃ y, ms[j] = y := ⟨_, rfl⟩
        have HST := Lib.hid (show x = y → ls.take (j + 1) = ms.take (j + 1) from fun h => take_snocP hjp hjq hst.out (by rw [hx, hy, h]))
        have HNO := Lib.hid (show ¬ x = y → R = false from fun h => by
          rw [← HR.out]
          refine decide_eq_false fun e => h ?_
          subst e
          rw [← hx, ← hy])
        rw [hx] at hra
        rw [hy] at hra'
        have hgw : g < wr.heap.size := Nat.lt_of_lt_of_le hg hbel.size
        have hgw' : g' < wr.heap.size := Nat.lt_of_lt_of_le hg' hbel.size
        have HKS := Lib.hid (show (Try.prog.info? 30).map (·.size) = some (pcs x).length from pair_size)
        have HKY := Lib.hid (show (Try.prog.info? 30).map (·.size) = some (pcs y).length from pair_size)
        have R1 := Lib.hid (rng_base (w := wr) (b := g) (off := off + j * 2) (cs := pcs x) fun W hW => fun t v hv => by rw [hW.cell (p := ⟨g, off + j * 2 + t, none⟩) hgw]; exact hra t v hv)
        have R2 := Lib.hid (rng_base (w := wr) (b := g') (off := off' + j * 2) (cs := pcs y) fun W hW => fun t v hv => by rw [hW.cell (p := ⟨g', off' + j * 2 + t, none⟩) hgw']; exact hra' t v hv)
        obtain ⟨r, hre⟩ : ∃ r, decide (x = y) = r := ⟨_, rfl⟩
        have QE := Lib.hid (show ∀ W, (Op.equal 30 (.agg (pcs x).toArray) (.agg (pcs y).toArray)).run Try.prog W = .ok r W from fun W => by rw [pair_eq x y W, hre])
        have HRE := Lib.hid hre
        have HBEL := Lib.hid hbel
        subst hA
        subst hB
        have hi1 : (0 : Int) ≤ (j : Int) := by omega
        have hi2 : (j : Int) < (k : Int) := by omega
        clear hra hra' hre hbel hst hx hy hjp hjq
        go_wp2_with fail
        refine wp_region_quiet_below (by kernel_rfl) (by kernel_rfl) ?_
        repeat (first
          | (go_big_quiet_want; refine quiet_load_mid2 30 (.tmp 19) rfl g (off + j * 2) rfl (pcs x) (.struct fs) R1.out HF.out rfl HKS.out (by simp only [Act.put, List.setIfInBounds_toArray, List.set_cons_succ, List.set_cons_zero]; rfl) ?_; go_big_quiet_on)
          | (go_big_quiet_want; refine quiet_load_mid2 30 (.tmp 23) rfl g' (off' + j * 2) rfl (pcs y) (.struct fs) R2.out HF.out rfl HKY.out (by simp only [Act.put, List.setIfInBounds_toArray, List.set_cons_succ, List.set_cons_zero]; rfl) ?_; go_big_quiet_on)
          | (go_big_quiet_want; refine quiet_neq_row 30 30 (.tmp 20) (.tmp 24) rfl (pcs x).toArray (pcs y).toArray rfl rfl eqg r QE.out (by simp only [Act.put, List.setIfInBounds_toArray, List.set_cons_succ, List.set_cons_zero]; rfl) ?_; go_big_quiet_on)
          | go_big_quiet_step (fail))
        refine wpQuiet_nil ?_
        intro _ hw'
        obtain ⟨⟨dq, osq⟩, hw''⟩ := hw'
        subst hw''
        have HBQ := Lib.hid (HBEL.out.trans ((below_regrown wr dq osq).mono HBEL.out.size))
        clear R1 R2
        generalize Go.Sort.grow (redrawn wr dq) osq = wq at *
        cases r with
        | false =>
          obtain rfl : R = false := HNO.out (of_decide_eq_false HRE.out)
          go_wp2_with fail
          go_ret
          exact ⟨rfl, HBQ.out⟩
        | true =>
          have HNX := Lib.hid (HST.out (of_decide_eq_true HRE.out))
          go_wp2_with fail
          go_roundw
          case rel => exact ⟨j + 1, by omega, by go_num, HNX, HBQ.out⟩
          case measure => simp [intOf]; omega
      · obtain rfl : j = k := by omega
        obtain rfl : R = true := by
          rw [← HR.out]
          refine decide_eq_true ?_
          have := hst.out
          rwa [List.take_of_length_le (by rw [HPL.out]; exact Nat.le_refl _), List.take_of_length_le (by rw [HQL.out]; exact Nat.le_refl _)] at this
        go_wp2_with fail
        go_ret
        exact ⟨rfl, hbel⟩
  · have hne : ((k : Int) != (m : Int)) = true := by simp; omega
    obtain rfl : R = false := by
      rw [← hR]
      exact decide_eq_false fun e => hkm (by rw [← hl, ← hm, e])
    clear hl hm hR hr hr2
    go_enter Try.func18, Try.ntmps18
    go_wp2_with fail
    go_ret
    exact ⟨rfl, Below.refl _ _⟩
end Go.Proofs.Ytiomfkhblmmdoaa
