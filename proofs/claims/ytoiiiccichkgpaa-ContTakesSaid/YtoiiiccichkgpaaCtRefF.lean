/- The reference's Same and SameKeys (cellarageref11). No statement of the seat is proved here. -/
import Derived.Test.YtoiiiccichkgpaaCtMF
import Derived.Test.YtoiiiccichkgpaaOwnB
namespace Go.Proofs.Ytoiiiccichkgpaa
open Go.RowKit Go.Maps Go.Sort
set_option linter.unusedVariables false
set_option linter.unusedSimpArgs false

/-- Two pieces, side by side. -/
theorem pcd_eq {p q : PcD} : p = q ↔ p.key = q.key ∧ p.data = q.data := by
  obtain ⟨s, n, d⟩ := p
  obtain ⟨s', n', d'⟩ := q
  simp [PcD.key]
  constructor
  · rintro ⟨h1, h2, h3⟩; exact ⟨⟨h1, h2⟩, h3⟩
  · rintro ⟨⟨h1, h2⟩, h3⟩; exact ⟨h1, h2, h3⟩
theorem take_same {α : Type} {ps qs : List α} {j : Nat} (h1 : j < ps.length) (h2 : j < qs.length) (ht : ps.take j = qs.take j) (he : ps[j] = qs[j]) : ps.take (j + 1) = qs.take (j + 1) := by
  rw [List.take_succ_eq_append_getElem h1, List.take_succ_eq_append_getElem h2, ht, he]
/-- What stands in the j-th place of a slice of pieces, in every world behind. -/
def AtC (w : World) (A : Option Addr) (ps : List PcD) (fa : Nat → Option Addr) (fc : Nat → Nat) : Prop :=
  ∀ W, Below w.heap.size w W → ∀ (j : Nat) (hj : j < ps.length), ∃ g off, A = some ⟨g, off, none⟩ ∧ g < w.heap.size ∧ ps[j].Ok ∧ W.rangeAt g (off + j * 34) (kcs ps[j].key) ∧ W.cell? ⟨g, off + j * 34 + 33, none⟩ = some (.slice (fa j) ps[j].data.length (fc j)) ∧ Rd W W.heap.size (fa j) ps[j].data
theorem at_c {w : World} {A : Option Addr} {ls : List PieceT} (hr : RdPc w w.heap.size A ls) : ∃ fa fc, AtC w A (pds ls) fa fc := by
  refine ⟨fun j => (ls.getD j default).adr, fun j => (ls.getD j default).cap, fun W hb j hj => ?_⟩
  have hj2 : j < ls.length := by rw [pds_length] at hj; exact hj
  obtain ⟨g, off, e, hg, h1, h2⟩ := (hr.below hb).key hj2
  obtain ⟨g', off', e', _, h3, _⟩ := (hr.below hb).data hj2
  rw [e] at e'
  injection e' with e'
  injection e' with e1 e2 _
  subst e1 e2
  have e2 : (pds ls)[j] = ls[j].p := pds_get hj2
  have e3 : ls.getD j default = ls[j] := by simp [hj2]
  rw [e2]
  simp only [e3]
  exact ⟨g, off, e, hg, h2.ok, h1, h3, h2.rd.more hb.size⟩
theorem run_load_bytes {W : World} {ad : Addr} {v : Value} (h : W.cell? ad = some v) : (loadVar 26 ad).run Try.prog W = .ok v W := by
  have hu := Try.underlying26
  simp [loadVar, isAgg, go_sem, h, hu]
set_option maxRecDepth 100000 in
set_option maxHeartbeats 600000 in
theorem rsame_any (A : Option Addr) (ls : List PieceT) (k c : Nat) (B : Option Addr) (ms : List PieceT) (m d : Nat) (hl : ls.length = k) (hm : ms.length = m) (hk : k ≤ 3000) (w : World) (hr : RdPc w w.heap.size A ls) (hr2 : RdPc w w.heap.size B ms) :
    Calls Try.prog 19 #[.slice A k c, .slice B m d] w fun e w' => e = .returned (.bool (decide (pds ls = pds ms))) ∧ Below w.heap.size w w' := by
  obtain ⟨fa, fc, hA⟩ := at_c hr
  obtain ⟨ga, gc, hB⟩ := at_c hr2
  obtain ⟨ps, hps⟩ : ∃ ps, pds ls = ps := ⟨_, rfl⟩
  obtain ⟨qs, hqs⟩ : ∃ qs, pds ms = qs := ⟨_, rfl⟩
  have hpl : ps.length = k := by rw [← hps, pds_length, hl]
  have hql : qs.length = m := by rw [← hqs, pds_length, hm]
  rw [hps] at hA
  rw [hqs] at hB
  rw [hps, hqs]
  clear hps hqs hl hm hr hr2 ls ms
  obtain ⟨R, hR⟩ : ∃ R, decide (ps = qs) = R := ⟨_, rfl⟩
  rw [hR]
  by_cases hkm : k = m
  · subst hkm
    have hne : ((k : Int) != (k : Int)) = false := by simp
    have HR := Lib.hid hR
    have HA := Lib.hid hA
    have HB := Lib.hid hB
    have HPL := Lib.hid hpl
    have HQL := Lib.hid hql
    obtain ⟨fs, hfs⟩ := key_desc
    have HF := Lib.hid hfs
    have eqg := key_guard
    clear hR hA hB hpl hql hfs
    go_enter Try.func19, Try.ntmps19
    go_wp2_with fail
    go_loopw [5] (fun i wr => ∃ j : Nat, j ≤ k ∧ i = .int .i64 j ∧ Hid (ps.take j = qs.take j) ∧ Below w.heap.size w wr) (fun i _ => k - (intOf i).toNat)
    case atStart => exact ⟨0, Nat.zero_le _, rfl, Lib.hid rfl, Below.refl _ _⟩
    case round =>
      obtain ⟨j, hj, rfl, hst, hbel⟩ := hrel
      by_cases hlt : j < k
      · have hjp : j < ps.length := by rw [HPL.out]; exact hlt
        have hjq : j < qs.length := by rw [HQL.out]; exact hlt
        obtain ⟨g, off, hA, hg, hok, hra, hc1, hrd1⟩ := HA.out _ hbel _ hjp
        obtain ⟨g', off', hB, hg', hok', hra', hc2, hrd2⟩ := HB.out _ hbel _ hjq
        obtain ⟨x, hx⟩ : ∃ x, ps[j].key = x := ⟨_, rfl⟩
        obtain ⟨y, hy⟩ : ∃ y, qs[j].key = y := ⟨_, rfl⟩
        obtain ⟨X, hX⟩ : ∃ X, ps[j].data = X := ⟨_, rfl⟩
        obtain ⟨Y, hY⟩ : ∃ Y, qs[j].data = Y := ⟨_, rfl⟩
        have HST := Lib.hid (show (x = y ∧ X = Y) → ps.take (j + 1) = qs.take (j + 1) from fun h => take_same hjp hjq hst.out (pcd_eq.2 ⟨by rw [hx, hy, h.1], by rw [hX, hY, h.2]⟩))
        have HNO := Lib.hid (show ¬ (x = y ∧ X = Y) → R = false from fun h => by
          rw [← HR.out]
          refine decide_eq_false fun e => h ?_
          subst e
          exact ⟨by rw [← hx, ← hy], by rw [← hX, ← hY]⟩)
        have hokx := hok.key
        have hoky := hok'.key
        rw [hx] at hra hokx
        rw [hy] at hra' hoky
        rw [hX] at hc1 hrd1
        rw [hY] at hc2 hrd2
        have hgw : g < wr.heap.size := Nat.lt_of_lt_of_le hg hbel.size
        have hgw' : g' < wr.heap.size := Nat.lt_of_lt_of_le hg' hbel.size
        have HKS := Lib.hid (show (Try.prog.info? 40).map (·.size) = some (kcs x).length by rw [kcs_length hokx]; exact key_size)
        have HKY := Lib.hid (show (Try.prog.info? 40).map (·.size) = some (kcs y).length by rw [kcs_length hoky]; exact key_size)
        have R1 := Lib.hid (range_base (w := wr) (b := g) (off := off + j * 34) (cs := kcs x) fun W hW => fun t v hv => by rw [hW.cell (p := ⟨g, off + j * 34 + t, none⟩) hgw]; exact hra t v hv)
        have R2 := Lib.hid (range_base (w := wr) (b := g') (off := off' + j * 34) (cs := kcs y) fun W hW => fun t v hv => by rw [hW.cell (p := ⟨g', off' + j * 34 + t, none⟩) hgw']; exact hra' t v hv)
        obtain ⟨r, hre⟩ : ∃ r, decide (x = y) = r := ⟨_, rfl⟩
        have QE := Lib.hid (show ∀ W, (Op.equal 40 (.agg (kcs x).toArray) (.agg (kcs y).toArray)).run Try.prog W = .ok r W from fun W => by rw [key_eq hokx hoky W, hre])
        have V1 := Lib.hid (show ∀ W, (∃ p : Regrown, W = grow (redrawn wr p.d) p.os) → (convert 26 9 (.slice (fa j) X.length (fc j))).run Try.prog W = .ok (.string ⟨X.toArray⟩) W from fun W ⟨p, hp⟩ => by subst hp; exact hrd1.str _ _ rfl _ (below_regrown wr p.d p.os))
        have V2 := Lib.hid (show ∀ W, (∃ p : Regrown, W = grow (redrawn wr p.d) p.os) → (convert 26 9 (.slice (ga j) Y.length (gc j))).run Try.prog W = .ok (.string ⟨Y.toArray⟩) W from fun W ⟨p, hp⟩ => by subst hp; exact hrd2.str _ _ rfl _ (below_regrown wr p.d p.os))
        have L1 := Lib.hid (show ∀ W, (∃ p : Regrown, W = grow (redrawn wr p.d) p.os) → (loadVar 26 ⟨g, off + j * 34 + 33, none⟩).run Try.prog W = .ok (.slice (fa j) X.length (fc j)) W from fun W ⟨p, hp⟩ => by subst hp; exact run_load_bytes (by rw [(below_regrown wr p.d p.os).cell (p := ⟨g, off + j * 34 + 33, none⟩) hgw]; exact hc1))
        have L2 := Lib.hid (show ∀ W, (∃ p : Regrown, W = grow (redrawn wr p.d) p.os) → (loadVar 26 ⟨g', off' + j * 34 + 33, none⟩).run Try.prog W = .ok (.slice (ga j) Y.length (gc j)) W from fun W ⟨p, hp⟩ => by subst hp; exact run_load_bytes (by rw [(below_regrown wr p.d p.os).cell (p := ⟨g', off' + j * 34 + 33, none⟩) hgw']; exact hc2))
        have HRE := Lib.hid hre
        have HBEL := Lib.hid hbel
        subst hA
        subst hB
        have hi1 : (0 : Int) ≤ (j : Int) := by omega
        have hi2 : (j : Int) < (k : Int) := by omega
        clear hra hra' hok hok' hokx hoky hrd1 hrd2 hre hbel hst hx hy hX hY hjp hjq
        obtain ⟨n1, hn1⟩ : ∃ n, X.length = n := ⟨_, rfl⟩
        obtain ⟨n2, hn2⟩ : ∃ n, Y.length = n := ⟨_, rfl⟩
        rw [hn1] at L1 V1
        rw [hn2] at L2 V2
        clear hn1 hn2 hc1 hc2
        cases r with
        | false =>
          go_wp2_with fail
          refine wp_region_quiet_below (by kernel_rfl) (by kernel_rfl) ?_
          repeat (first
            | (go_big_quiet_want; refine quiet_load_mid 40 (.tmp 20) rfl g (off + j * 34) rfl (kcs x) (.struct fs) R1.out HF.out rfl HKS.out (by simp only [Act.put, List.setIfInBounds_toArray, List.set_cons_succ, List.set_cons_zero]; rfl) ?_; go_big_quiet_on)
            | (go_big_quiet_want; refine quiet_load_mid 40 (.tmp 25) rfl g' (off' + j * 34) rfl (kcs y) (.struct fs) R2.out HF.out rfl HKY.out (by simp only [Act.put, List.setIfInBounds_toArray, List.set_cons_succ, List.set_cons_zero]; rfl) ?_; go_big_quiet_on)
            | (go_big_quiet_want; refine quiet_neq_lit 40 40 (.tmp 21) (.tmp 26) rfl (kcs x).toArray (kcs y).toArray rfl rfl eqg false true rfl QE.out (by simp only [Act.put, List.setIfInBounds_toArray, List.set_cons_succ, List.set_cons_zero]; rfl) ?_; go_big_quiet_on)
            | go_big_quiet_step (fail))
          refine wpQuiet_nil ?_
          intro _ hw'
          obtain ⟨⟨dq, osq⟩, hw''⟩ := hw'
          subst hw''
          have HBQ := Lib.hid (HBEL.out.trans ((below_regrown wr dq osq).mono HBEL.out.size))
          clear R1 R2 V1 V2 L1 L2
          generalize Go.Sort.grow (redrawn wr dq) osq = wq at *
          obtain rfl : R = false := HNO.out (by exact fun h => of_decide_eq_false HRE.out h.1)
          go_wp2_with fail
          go_ret
          exact ⟨rfl, HBQ.out⟩
        | true =>
          by_cases hXY : X = Y
          · have hq : (X == Y) = true := by rw [hXY]; simp
            have hq2 : (X != Y) = false := by rw [hXY]; simp
            have HNX := Lib.hid (HST.out ⟨of_decide_eq_true HRE.out, hXY⟩)
            clear hXY
            go_wp2_with fail
            refine wp_region_quiet_below (by kernel_rfl) (by kernel_rfl) ?_
            repeat (first
              | (go_big_quiet_want; refine quiet_load_mid 40 (.tmp 20) rfl g (off + j * 34) rfl (kcs x) (.struct fs) R1.out HF.out rfl HKS.out (by simp only [Act.put, List.setIfInBounds_toArray, List.set_cons_succ, List.set_cons_zero]; rfl) ?_; go_big_quiet_on)
              | (go_big_quiet_want; refine quiet_load_mid 40 (.tmp 25) rfl g' (off' + j * 34) rfl (kcs y) (.struct fs) R2.out HF.out rfl HKY.out (by simp only [Act.put, List.setIfInBounds_toArray, List.set_cons_succ, List.set_cons_zero]; rfl) ?_; go_big_quiet_on)
              | (go_big_quiet_want; refine quiet_neq_lit 40 40 (.tmp 21) (.tmp 26) rfl (kcs x).toArray (kcs y).toArray rfl rfl eqg true false rfl QE.out (by simp only [Act.put, List.setIfInBounds_toArray, List.set_cons_succ, List.set_cons_zero]; rfl) ?_; go_big_quiet_on)
              | (go_big_quiet_want; refine quiet_load_any 26 (.tmp 32) rfl ⟨g, off + j * 34 + 33, none⟩ rfl (.slice (fa j) n1 (fc j)) L1.out (by simp only [Act.put, List.setIfInBounds_toArray, List.set_cons_succ, List.set_cons_zero]; rfl) ?_; go_big_quiet_on)
              | (go_big_quiet_want; refine quiet_load_any 26 (.tmp 38) rfl ⟨g', off' + j * 34 + 33, none⟩ rfl (.slice (ga j) n2 (gc j)) L2.out (by simp only [Act.put, List.setIfInBounds_toArray, List.set_cons_succ, List.set_cons_zero]; rfl) ?_; go_big_quiet_on)
              | (go_big_quiet_want; refine quiet_convert 26 9 (.tmp 33) rfl (.slice (fa j) n1 (fc j)) _ rfl V1.out (by simp only [Act.put, List.setIfInBounds_toArray, List.set_cons_succ, List.set_cons_zero]; rfl) ?_; go_big_quiet_on)
              | (go_big_quiet_want; refine quiet_convert 26 9 (.tmp 39) rfl (.slice (ga j) n2 (gc j)) _ rfl V2.out (by simp only [Act.put, List.setIfInBounds_toArray, List.set_cons_succ, List.set_cons_zero]; rfl) ?_; go_big_quiet_on)
              | go_big_quiet_step (fail))
            refine wpQuiet_nil ?_
            intro _ hw'
            obtain ⟨⟨dq, osq⟩, hw''⟩ := hw'
            subst hw''
            have HBQ := Lib.hid (HBEL.out.trans ((below_regrown wr dq osq).mono HBEL.out.size))
            clear R1 R2 V1 V2 L1 L2
            generalize Go.Sort.grow (redrawn wr dq) osq = wq at *
            go_wp2_with fail
            go_roundw
            case rel => exact ⟨j + 1, by omega, by go_num, HNX, HBQ.out⟩
            case measure => simp [intOf]; omega
          · have hq : (X == Y) = false := by simpa using hXY
            have hq2 : (X != Y) = true := by simpa using hXY
            have HNX := Lib.hid (HNO.out fun h => hXY h.2)
            clear hXY
            go_wp2_with fail
            refine wp_region_quiet_below (by kernel_rfl) (by kernel_rfl) ?_
            repeat (first
              | (go_big_quiet_want; refine quiet_load_mid 40 (.tmp 20) rfl g (off + j * 34) rfl (kcs x) (.struct fs) R1.out HF.out rfl HKS.out (by simp only [Act.put, List.setIfInBounds_toArray, List.set_cons_succ, List.set_cons_zero]; rfl) ?_; go_big_quiet_on)
              | (go_big_quiet_want; refine quiet_load_mid 40 (.tmp 25) rfl g' (off' + j * 34) rfl (kcs y) (.struct fs) R2.out HF.out rfl HKY.out (by simp only [Act.put, List.setIfInBounds_toArray, List.set_cons_succ, List.set_cons_zero]; rfl) ?_; go_big_quiet_on)
              | (go_big_quiet_want; refine quiet_neq_lit 40 40 (.tmp 21) (.tmp 26) rfl (kcs x).toArray (kcs y).toArray rfl rfl eqg true false rfl QE.out (by simp only [Act.put, List.setIfInBounds_toArray, List.set_cons_succ, List.set_cons_zero]; rfl) ?_; go_big_quiet_on)
              | (go_big_quiet_want; refine quiet_load_any 26 (.tmp 32) rfl ⟨g, off + j * 34 + 33, none⟩ rfl (.slice (fa j) n1 (fc j)) L1.out (by simp only [Act.put, List.setIfInBounds_toArray, List.set_cons_succ, List.set_cons_zero]; rfl) ?_; go_big_quiet_on)
              | (go_big_quiet_want; refine quiet_load_any 26 (.tmp 38) rfl ⟨g', off' + j * 34 + 33, none⟩ rfl (.slice (ga j) n2 (gc j)) L2.out (by simp only [Act.put, List.setIfInBounds_toArray, List.set_cons_succ, List.set_cons_zero]; rfl) ?_; go_big_quiet_on)
              | (go_big_quiet_want; refine quiet_convert 26 9 (.tmp 33) rfl (.slice (fa j) n1 (fc j)) _ rfl V1.out (by simp only [Act.put, List.setIfInBounds_toArray, List.set_cons_succ, List.set_cons_zero]; rfl) ?_; go_big_quiet_on)
              | (go_big_quiet_want; refine quiet_convert 26 9 (.tmp 39) rfl (.slice (ga j) n2 (gc j)) _ rfl V2.out (by simp only [Act.put, List.setIfInBounds_toArray, List.set_cons_succ, List.set_cons_zero]; rfl) ?_; go_big_quiet_on)
              | go_big_quiet_step (fail))
            refine wpQuiet_nil ?_
            intro _ hw'
            obtain ⟨⟨dq, osq⟩, hw''⟩ := hw'
            subst hw''
            have HBQ := Lib.hid (HBEL.out.trans ((below_regrown wr dq osq).mono HBEL.out.size))
            clear R1 R2 V1 V2 L1 L2
            generalize Go.Sort.grow (redrawn wr dq) osq = wq at *
            obtain rfl : R = false := HNX.out
            go_wp2_with fail
            go_ret
            exact ⟨rfl, HBQ.out⟩
      · obtain rfl : j = k := by omega
        obtain rfl : R = true := by
          rw [← HR.out]
          refine decide_eq_true ?_
          have := hst.out
          rwa [List.take_of_length_le (by rw [HPL.out]; exact Nat.le_refl _), List.take_of_length_le (by rw [HQL.out]; exact Nat.le_refl _)] at this
        go_wp2_with fail
        go_ret
        exact ⟨rfl, hbel⟩
  · have hne : ((k : Int) != (m : Int)) = true := by simp; omega
    obtain rfl : R = false := by
      rw [← hR]
      exact decide_eq_false fun e => hkm (by rw [← hpl, ← hql, e])
    clear hA hB hpl hql hR
    go_enter Try.func19, Try.ntmps19
    go_wp2_with fail
    go_ret
    exact ⟨rfl, Below.refl _ _⟩
end Go.Proofs.Ytoiiiccichkgpaa
