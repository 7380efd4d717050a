/- The reference's extents (cellarageref16): Keys. No statement of the seat is proved here. -/
import Derived.Test.YtgemjipbifgbgaaZXAD
import Derived.Test.YtgemjipbifgbgaaZXAA
import Derived.Test.YtgemjipbifgbgaaZXAB
import Derived.Test.YtgemjipbifgbgaaZXAC
import Derived.Great.BuildSlice
import Derived.Deep.DeepCutAuto
import Derived.Lib.Hide
namespace Go.Proofs.Ytgemjipbifgbgaa
open Go.RowKit Go.Maps Go.Sort
set_option linter.unusedVariables false
set_option linter.unusedSimpArgs false

/-- The keys of extents, each once. -/
def keysE (l : List RowT) : List KeyT := uq (l.map (·.1))
theorem keysE_snoc {l : List RowT} {j : Nat} (hj : j < l.length) : keysE (l.take (j + 1)) = if l[j].1 ∈ (l.take j).map (·.1) then keysE (l.take j) else keysE (l.take j) ++ [l[j].1] := by
  unfold keysE
  rw [List.take_succ_eq_append_getElem hj, List.map_append, List.map_singleton, uq_snoc]
  simp only [uq_mem]
theorem keysE_ok {l : List RowT} (h : ∀ r ∈ l, RowT.Ok r) : ∀ y ∈ keysE l, KeyT.Ok y := fun y hy => by
  unfold keysE at hy
  rw [uq_mem] at hy
  obtain ⟨r, hr, rfl⟩ := List.mem_map.1 hy
  exact (h r hr).key
theorem keysE_length (l : List RowT) : (keysE l).length ≤ l.length := by
  have := uq_length (l.map (·.1))
  rwa [List.length_map] at this
set_option maxRecDepth 100000 in
set_option maxHeartbeats 4000000 in
theorem rexkeys_any (A : Option Addr) (ls : List RowT) (k c : Nat) (hl : ls.length = k) (hk : k ≤ 20000) (w : World) (hr : RdRw w w.heap.size A ls) :
    Calls Try.prog 18 #[.slice A k c] w fun e w' => ∃ A' c', e = .returned (.slice A' (keysE ls).length c') ∧ OwnG 49 33 kcs w' w.heap.size A' c' (keysE ls) ∧ (∀ y ∈ keysE ls, KeyT.Ok y) ∧ Below w.heap.size w w' := by
  have HR := Lib.hid hr
  have HPL := Lib.hid hl
  obtain ⟨fs, hfs⟩ := key_desc
  have HF := Lib.hid hfs
  have eqg := key_guard
  clear hl hr hfs
  go_enter Try.func18, Try.ntmps18
  go_wp2_with fail
  go_loopw [3, 4] (fun u i wr => ∃ (j m : Nat) (Y : Option Addr) (z : Nat), j ≤ k ∧ i = .int .i64 j ∧ u = .slice Y m z ∧ m ≤ j ∧ Hid ((keysE (ls.take j)).length = m) ∧ Hid (OwnG 49 33 kcs wr w.heap.size Y z (keysE (ls.take j))) ∧ Hid (Below w.heap.size w wr)) (fun _ i _ => k - (intOf i).toNat)
  case atStart => exact ⟨0, 0, none, 0, Nat.zero_le _, rfl, rfl, Nat.le_refl _, Lib.hid rfl, Lib.hid (OwnG.nil _ _), Lib.hid (Below.refl _ _)⟩
  case round =>
    obtain ⟨j, m, Y, z, hj, rfl, rfl, hm, HM, HO, HB⟩ := hrel
    by_cases hlt : j < k
    · have hjp : j < ls.length := by rw [HPL.out]; exact hlt
      obtain ⟨g, off, rfl, hg, hra, hokx⟩ := HR.out.at_ hjp
      have HSN := Lib.hid (keysE_snoc hjp)
      obtain ⟨x, hx⟩ : ∃ x, ls[j] = x := ⟨_, rfl⟩
      rw [hx] at hra hokx HSN
      have HOK := Lib.hid hokx.key
      have HRA := Lib.hid (show ∀ W, Below w.heap.size w W → W.rangeAt g (off + j * 35) (kcs x.1) from fun W hW => range_key (r := x) fun t v hv => by rw [hW.cell (p := ⟨g, off + j * 35 + t, none⟩) hg]; exact hra t v hv)
      have HKS := Lib.hid (show (Try.prog.info? 49).map (·.size) = some (kcs x.1).length by rw [kcs_length hokx.key]; exact key_size)
      have hi1 : (0 : Int) ≤ (j : Int) := by omega
      have hi2 : (j : Int) < (k : Int) := by omega
      have hjk : j ≤ k := by omega
      obtain ⟨wo, hwo⟩ : ∃ wo, wo = wr := ⟨_, rfl⟩
      rw [← hwo] at HO HB ⊢
      clear hra hokx hx hjp hg hwo
      go_wp2_with fail
      go_loopw [5, 6] (fun b i wr => ∃ p : Nat, p ≤ j ∧ i = .int .i64 p ∧ b = .bool (decide (x.1 ∈ (ls.take p).map (·.1))) ∧ Hid (Below wo.heap.size wo wr)) (fun _ i _ => j - (intOf i).toNat)
      case atStart => exact ⟨0, Nat.zero_le _, rfl, by simp, Lib.hid (Below.refl _ _)⟩
      case round =>
        obtain ⟨p, hp, rfl, rfl, HBZ⟩ := hrel
        by_cases hpj : p < j
        · have hpp : p < ls.length := by rw [HPL.out]; omega
          obtain ⟨g2, off2, hA2, hg2, hra2, hoky⟩ := HR.out.at_ hpp
          injection hA2 with hA2
          injection hA2 with hA2 hA3
          subst hA2
          subst hA3
          obtain ⟨y, hy⟩ : ∃ y, ls[p] = y := ⟨_, rfl⟩
          have HTP := Lib.hid (show decide (x.1 ∈ (ls.take (p + 1)).map (·.1)) = (decide (x.1 ∈ (ls.take p).map (·.1)) || decide (y.1 = x.1)) by
            rw [List.take_succ_eq_append_getElem hpp, hy, ← Bool.decide_or]
            refine decide_eq_decide.2 ?_
            rw [List.map_append, List.mem_append, List.map_singleton, List.mem_singleton]
            exact ⟨fun h => h.imp id Eq.symm, fun h => h.imp id Eq.symm⟩)
          rw [hy] at hra2 hoky
          have hbel := HB.out.trans (HBZ.out.mono HB.out.size)
          have HKY := Lib.hid (show (Try.prog.info? 49).map (·.size) = some (kcs y.1).length by rw [kcs_length hoky.key]; exact key_size)
          have R1 := Lib.hid (rng_base (w := wr) (b := g) (off := off + p * 35) (cs := kcs y.1) fun W hW => range_key (r := y) fun t v hv => by rw [(hbel.trans (hW.mono hbel.size)).cell (p := ⟨g, off + p * 35 + t, none⟩) hg2]; exact hra2 t v hv)
          have R2 := Lib.hid (rng_base (w := wr) (b := g) (off := off + j * 35) (cs := kcs x.1) fun W hW => HRA.out W (hbel.trans (hW.mono hbel.size)))
          obtain ⟨r, hre⟩ : ∃ r, decide (y.1 = x.1) = r := ⟨_, rfl⟩
          have QE := Lib.hid (show ∀ W, (Op.equal 49 (.agg (kcs y.1).toArray) (.agg (kcs x.1).toArray)).run Try.prog W = .ok r W from fun W => by rw [key_eq hoky.key HOK.out W, hre])
          rw [hre] at HTP
          obtain ⟨s, hs⟩ : ∃ s, decide (x.1 ∈ (ls.take p).map (·.1)) = s := ⟨_, rfl⟩
          rw [hs] at HTP ⊢
          have hp1 : (0 : Int) ≤ (p : Int) := by omega
          have hp2 : (p : Int) < (j : Int) := by omega
          have hp3 : (p : Int) < (k : Int) := by omega
          clear hra2 hoky hre hy hbel hg2 hpp hs
          cases s with
          | true =>
            go_wp2_with fail
            go_quiet (fail)
            have HBQ := Lib.hid (HBZ.out.trans ((below_drewN (Below.refl wr.heap.size wr) nq).mono HBZ.out.size))
            go_wp2_with fail
            go_roundw
            case rel => exact ⟨p + 1, by omega, by go_num, by rw [HTP.out]; rfl, HBQ⟩
            case measure => simp [intOf]; omega
          | false =>
            go_wp2_with fail
            refine wp_region_quiet_below (by kernel_rfl) (by kernel_rfl) ?_
            repeat (first
              | (go_big_quiet_want; refine quiet_load_mid 49 (.tmp 23) rfl g (off + p * 35) rfl (kcs y.1) (.struct fs) R1.out HF.out rfl HKY.out (by simp only [Act.put, List.setIfInBounds_toArray, List.set_cons_succ, List.set_cons_zero]; rfl) ?_; go_big_quiet_on)
              | (go_big_quiet_want; refine quiet_load_mid 49 (.tmp 28) rfl g (off + j * 35) rfl (kcs x.1) (.struct fs) R2.out HF.out rfl HKS.out (by simp only [Act.put, List.setIfInBounds_toArray, List.set_cons_succ, List.set_cons_zero]; rfl) ?_; go_big_quiet_on)
              | (go_big_quiet_want; refine quiet_eql_row 49 49 (.tmp 24) (.tmp 29) rfl (kcs y.1).toArray (kcs x.1).toArray rfl rfl eqg r QE.out (by simp only [Act.put, List.setIfInBounds_toArray, List.set_cons_succ, List.set_cons_zero]; rfl) ?_; go_big_quiet_on)
              | go_big_quiet_step (fail))
            refine wpQuiet_nil ?_
            intro _ hw'
            obtain ⟨⟨dq, osq⟩, hw''⟩ := hw'
            subst hw''
            have HBQ := Lib.hid (HBZ.out.trans ((below_regrown wr dq osq).mono HBZ.out.size))
            clear R1 R2
            generalize Go.Sort.grow (redrawn wr dq) osq = wq at *
            go_wp2_with fail
            go_roundw
            case rel => exact ⟨p + 1, by omega, by go_num, by rw [HTP.out]; simp, HBQ⟩
            case measure => simp [intOf]; omega
        · obtain rfl : p = j := by omega
          have hbz := HBZ.out
          have HBN := Lib.hid (HB.out.trans (hbz.mono HB.out.size))
          have HON := Lib.hid (HO.out.on hbz)
          clear hbz
          by_cases hin : x.1 ∈ (ls.take p).map (·.1)
          · rw [decide_eq_true hin]
            rw [if_pos hin] at HSN
            go_wp2_with fail
            go_roundw
            case rel => exact ⟨p + 1, m, Y, z, by omega, by go_num, rfl, by omega, Lib.hid (by rw [HSN.out]; exact HM.out), Lib.hid (by rw [HSN.out]; exact HON.out), HBN⟩
            case measure => simp [intOf]; omega
          · rw [decide_eq_false hin]
            rw [if_neg hin] at HSN
            have HRW := Lib.hid (HRA.out _ HBN.out)
            have hba : Below w.heap.size w (wr.alloc (.cells (kcs x.1).toArray 49)) := HBN.out.alloc HBN.out.size _
            have HBA := Lib.hid hba
            have HOA := Lib.hid (HON.out.on ((Below.refl wr.heap.size wr).alloc (Nat.le_refl _) (.cells (kcs x.1).toArray 49)))
            have HR1 := Lib.hid (rds_one wr x.1 49 33 kcs)
            clear hba hin
            go_wp2_with (first
              | (refine wpList_load_mid rfl 49 (.tmp 38) rfl g (off + p * 35) rfl (kcs x.1) (.struct fs) HRW.out HF.out rfl HKS.out ?_)
              | (refine wpList_buildOne keyE rfl (.tmp 39) rfl HOK.out rfl ?_)
              | (at_builtin; refine wpList_append_g keyE rfl (.tmp 34) (.tmp 40) rfl w.heap.size Y z m (keysE (ls.take p)) HM.out rfl HOA.out _ (some ⟨wr.heap.size, 0, none⟩) 1 1 [x.1] rfl rfl HR1.out (by intro y hy; rw [List.mem_singleton.1 hy]; exact HOK.out) ?_ ?_ ?_))
            case _ => omega
            case _ => exact HBA.out.size
            intro A9 c9 w9 ho9 hg9
            have HO9 := Lib.hid ho9
            have HB9 := Lib.hid (show Below w.heap.size w w9 from HBA.out.grown hg9 HBA.out.size fun r hr => (HOA.out.lt (by rw [HM.out]; exact hr)).1)
            clear ho9 hg9 HRW HR1
            go_wp2_with fail
            go_roundw
            case rel => exact ⟨p + 1, m + 1, A9, c9, by omega, by go_num, rfl, by omega, Lib.hid (by rw [HSN.out, List.length_append, HM.out]; rfl), Lib.hid (by rw [HSN.out]; exact HO9.out), HB9⟩
            case measure => simp [intOf]; omega
    · obtain rfl : j = k := by omega
      have HE := Lib.hid (show ls.take j = ls from List.take_of_length_le (by rw [HPL.out]; exact Nat.le_refl _))
      go_wp2_with fail
      go_ret
      have hm := HM.out
      have ho := HO.out
      rw [HE.out] at hm ho
      exact ⟨Y, z, by rw [hm]; rfl, ho, keysE_ok HR.out.each, HB.out⟩
end Go.Proofs.Ytgemjipbifgbgaa
/- The reference's SameKeys (cellarageref11). No statement of the seat is proved here. -/
namespace Go.Proofs.Ytgemjipbifgbgaa
open Go.RowKit Go.Maps Go.Sort
set_option linter.unusedVariables false
set_option linter.unusedSimpArgs false

theorem take_sameK {α : Type} {ps qs : List α} {j : Nat} (h1 : j < ps.length) (h2 : j < qs.length) (ht : ps.take j = qs.take j) (he : ps[j] = qs[j]) : ps.take (j + 1) = qs.take (j + 1) := by
  rw [List.take_succ_eq_append_getElem h1, List.take_succ_eq_append_getElem h2, ht, he]
theorem range_baseK {w : World} {b off : Nat} {cs : List Value} (h : ∀ W, Below w.heap.size w W → W.rangeAt b off cs) (W : World) (hW : ∃ p : Regrown, W = grow (redrawn w p.d) p.os) : W.rangeAt b off cs := by
  obtain ⟨p, rfl⟩ := hW
  exact h _ (below_regrown w p.d p.os)
set_option maxRecDepth 100000 in
set_option maxHeartbeats 600000 in
theorem rsamekeys_any (A : Option Addr) (ls : List KeyT) (k c : Nat) (B : Option Addr) (ms : List KeyT) (m d : Nat) (hl : ls.length = k) (hm : ms.length = m) (hk : k ≤ 3000) (w : World) (hr : RdK w w.heap.size A ls) (hr2 : RdK w w.heap.size B ms) :
    Calls Try.prog 16 #[.slice A k c, .slice B m d] w fun e w' => e = .returned (.bool (decide (ls = ms))) ∧ Below w.heap.size w w' := by
  obtain ⟨R, hR⟩ : ∃ R, decide (ls = ms) = R := ⟨_, rfl⟩
  rw [hR]
  by_cases hkm : k = m
  · subst hkm
    have hne : ((k : Int) != (k : Int)) = false := by simp
    have HR := Lib.hid hR
    have HA := Lib.hid (show ∀ W, Below w.heap.size w W → RdK W w.heap.size A ls from fun W hb => hr.below hb)
    have HB := Lib.hid (show ∀ W, Below w.heap.size w W → RdK W w.heap.size B ms from fun W hb => hr2.below hb)
    have HPL := Lib.hid hl
    have HQL := Lib.hid hm
    obtain ⟨fs, hfs⟩ := key_desc
    have HF := Lib.hid hfs
    have eqg := key_guard
    clear hR hr hr2 hl hm hfs
    go_enter Try.func16, Try.ntmps16
    go_wp2_with fail
    go_loopw [5] (fun i wr => ∃ j : Nat, j ≤ k ∧ i = .int .i64 j ∧ Hid (ls.take j = ms.take j) ∧ Below w.heap.size w wr) (fun i _ => k - (intOf i).toNat)
    case atStart => exact ⟨0, Nat.zero_le _, rfl, Lib.hid rfl, Below.refl _ _⟩
    case round =>
      obtain ⟨j, hj, rfl, hst, hbel⟩ := hrel
      by_cases hlt : j < k
      · have hjp : j < ls.length := by rw [HPL.out]; exact hlt
        have hjq : j < ms.length := by rw [HQL.out]; exact hlt
        obtain ⟨g, off, hA, hg, hra, hokx⟩ := (HA.out _ hbel).at_ hjp
        obtain ⟨g', off', hB, hg', hra', hoky⟩ := (HB.out _ hbel).at_ hjq
        obtain ⟨x, hx⟩ : ∃ x, ls[j] = x := ⟨_, rfl⟩
        obtain ⟨y, hy⟩ : ∃ y, ms[j] = y := ⟨_, rfl⟩
        have HST := Lib.hid (show x = y → ls.take (j + 1) = ms.take (j + 1) from fun h => take_sameK hjp hjq hst.out (by rw [hx, hy, h]))
        have HNO := Lib.hid (show ¬ x = y → R = false from fun h => by
          rw [← HR.out]
          refine decide_eq_false fun e => h ?_
          subst e
          rw [← hx, ← hy])
        rw [hx] at hra hokx
        rw [hy] at hra' hoky
        have hgw : g < wr.heap.size := Nat.lt_of_lt_of_le hg hbel.size
        have hgw' : g' < wr.heap.size := Nat.lt_of_lt_of_le hg' hbel.size
        have HKS := Lib.hid (show (Try.prog.info? 49).map (·.size) = some (kcs x).length by rw [kcs_length hokx]; exact key_size)
        have HKY := Lib.hid (show (Try.prog.info? 49).map (·.size) = some (kcs y).length by rw [kcs_length hoky]; exact key_size)
        have R1 := Lib.hid (range_baseK (w := wr) (b := g) (off := off + j * 33) (cs := kcs x) fun W hW => fun t v hv => by rw [hW.cell (p := ⟨g, off + j * 33 + t, none⟩) hgw]; exact hra t v hv)
        have R2 := Lib.hid (range_baseK (w := wr) (b := g') (off := off' + j * 33) (cs := kcs y) fun W hW => fun t v hv => by rw [hW.cell (p := ⟨g', off' + j * 33 + t, none⟩) hgw']; exact hra' t v hv)
        obtain ⟨r, hre⟩ : ∃ r, decide (x = y) = r := ⟨_, rfl⟩
        have QE := Lib.hid (show ∀ W, (Op.equal 49 (.agg (kcs x).toArray) (.agg (kcs y).toArray)).run Try.prog W = .ok r W from fun W => by rw [key_eq hokx hoky W, hre])
        have HRE := Lib.hid hre
        have HBEL := Lib.hid hbel
        subst hA
        subst hB
        have hi1 : (0 : Int) ≤ (j : Int) := by omega
        have hi2 : (j : Int) < (k : Int) := by omega
        clear hra hra' hokx hoky hre hbel hst hx hy hjp hjq
        go_wp2_with fail
        refine wp_region_quiet_below (by kernel_rfl) (by kernel_rfl) ?_
        repeat (first
          | (go_big_quiet_want; refine quiet_load_mid 49 (.tmp 19) rfl g (off + j * 33) rfl (kcs x) (.struct fs) R1.out HF.out rfl HKS.out (by simp only [Act.put, List.setIfInBounds_toArray, List.set_cons_succ, List.set_cons_zero]; rfl) ?_; go_big_quiet_on)
          | (go_big_quiet_want; refine quiet_load_mid 49 (.tmp 23) rfl g' (off' + j * 33) rfl (kcs y) (.struct fs) R2.out HF.out rfl HKY.out (by simp only [Act.put, List.setIfInBounds_toArray, List.set_cons_succ, List.set_cons_zero]; rfl) ?_; go_big_quiet_on)
          | (go_big_quiet_want; refine quiet_neq_row 49 49 (.tmp 20) (.tmp 24) rfl (kcs x).toArray (kcs y).toArray rfl rfl eqg r QE.out (by simp only [Act.put, List.setIfInBounds_toArray, List.set_cons_succ, List.set_cons_zero]; rfl) ?_; go_big_quiet_on)
          | go_big_quiet_step (fail))
        refine wpQuiet_nil ?_
        intro _ hw'
        obtain ⟨⟨dq, osq⟩, hw''⟩ := hw'
        subst hw''
        have HBQ := Lib.hid (HBEL.out.trans ((below_regrown wr dq osq).mono HBEL.out.size))
        clear R1 R2
        generalize Go.Sort.grow (redrawn wr dq) osq = wq at *
        cases r with
        | false =>
          obtain rfl : R = false := HNO.out (of_decide_eq_false HRE.out)
          go_wp2_with fail
          go_ret
          exact ⟨rfl, HBQ.out⟩
        | true =>
          have HNX := Lib.hid (HST.out (of_decide_eq_true HRE.out))
          go_wp2_with fail
          go_roundw
          case rel => exact ⟨j + 1, by omega, by go_num, HNX, HBQ.out⟩
          case measure => simp [intOf]; omega
      · obtain rfl : j = k := by omega
        obtain rfl : R = true := by
          rw [← HR.out]
          refine decide_eq_true ?_
          have := hst.out
          rwa [List.take_of_length_le (by rw [HPL.out]; exact Nat.le_refl _), List.take_of_length_le (by rw [HQL.out]; exact Nat.le_refl _)] at this
        go_wp2_with fail
        go_ret
        exact ⟨rfl, hbel⟩
  · have hne : ((k : Int) != (m : Int)) = true := by simp; omega
    obtain rfl : R = false := by
      rw [← hR]
      exact decide_eq_false fun e => hkm (by rw [← hl, ← hm, e])
    clear hl hm hR hr hr2
    go_enter Try.func16, Try.ntmps16
    go_wp2_with fail
    go_ret
    exact ⟨rfl, Below.refl _ _⟩
end Go.Proofs.Ytgemjipbifgbgaa
/- Mathematics of Join; lists of lists of extents in memory; a slice of the call's own without its last element. No statement of the seat is proved here. -/
namespace Go.Proofs.Ytgemjipbifgbgaa
open Go.RowKit
set_option linter.unusedVariables false
set_option linter.unusedSimpArgs false

/-- What n extents that were joined so far can be. -/
structure LimE (n : Nat) (out : List RowT) : Prop where
  len : out.length ≤ n
  each : ∀ y ∈ out, KeyT.Ok y.1 ∧ 0 ≤ y.2.1 ∧ y.2.1 ≤ 4096 ∧ 0 ≤ y.2.2 ∧ y.2.2 ≤ 4096 * (n : Int)
theorem LimE.nil : LimE 0 [] := ⟨Nat.le_refl _, by simp⟩
theorem LimE.ok {n : Nat} {out : List RowT} (h : LimE n out) (hn : n ≤ 100000) : ∀ y ∈ out, RowT.Ok y := fun y hy => by
  obtain ⟨h1, h2, h3, h4, h5⟩ := h.each y hy
  exact ⟨h1, by constructor <;> omega, by constructor <;> omega⟩
theorem LimE.glue {n : Nat} {out : List RowT} (h : LimE n out) {x : RowT} (hk : KeyT.Ok x.1) (hx : okE x = true) : LimE (n + 1) (glue out x) := by
  have h0 := okE_iff.1 hx
  have hp : LimE (n + 1) (out ++ [x]) := ⟨by rw [List.length_append]; have := h.len; simp; omega, fun y hy => by
    rcases List.mem_append.1 hy with hy | hy
    · obtain ⟨h1, h2, h3, h4, h5⟩ := h.each y hy
      exact ⟨h1, h2, h3, h4, by omega⟩
    · rw [List.mem_singleton.1 hy]
      exact ⟨hk, h0.1, by omega, by omega, by omega⟩⟩
  unfold Go.Proofs.Ytgemjipbifgbgaa.glue
  split
  · rename_i y hl
    split
    · have hm : y ∈ out := List.mem_of_getLast? hl
      obtain ⟨h1, h2, h3, h4, h5⟩ := h.each y hm
      refine ⟨by rw [List.length_append, List.length_dropLast]; have := h.len; have := List.length_pos_of_mem hm; simp; omega, fun z hz => ?_⟩
      rcases List.mem_append.1 hz with hz | hz
      · obtain ⟨q1, q2, q3, q4, q5⟩ := h.each z ((List.dropLast_sublist _).subset hz)
        exact ⟨q1, q2, q3, q4, by omega⟩
      · rw [List.mem_singleton.1 hz]
        refine ⟨hk, h2, h3, ?_, ?_⟩ <;> simp only <;> omega
    · exact hp
  · exact hp
/-- What is joined when i lists are, and k extents of the next. -/
def accE (L : List (List RowT)) (l : List RowT) : List RowT := (L.flatten ++ l).foldl glue []
theorem accE_snoc (L : List (List RowT)) (l : List RowT) {k : Nat} (hk : k < l.length) : accE L (l.take (k + 1)) = glue (accE L (l.take k)) l[k] := by
  unfold accE
  rw [List.take_succ_eq_append_getElem hk, ← List.append_assoc, List.foldl_append]
  rfl
theorem accE_next (L : List (List RowT)) (l : List RowT) : accE (L ++ [l]) [] = accE L l := by
  unfold accE
  simp
theorem join_yes {L : List (List RowT)} (h : ∀ l ∈ L, rightE l = true) (h2 : rightE (accE L []) = true) : joinE L = accE L [] := by
  have e : accE L [] = L.flatten.foldl glue [] := by unfold accE; rw [List.append_nil]
  unfold joinE
  rw [← e, if_pos ⟨List.all_eq_true.2 h, h2⟩]
theorem join_no {L : List (List RowT)} (h : (∃ l ∈ L, rightE l = false) ∨ rightE (accE L []) = false) : joinE L = [] := by
  have e : accE L [] = L.flatten.foldl glue [] := by unfold accE; rw [List.append_nil]
  unfold joinE
  rw [← e, if_neg]
  rintro ⟨h1, h2⟩
  rcases h with ⟨l, hl, h3⟩ | h3
  · rw [List.all_eq_true.1 h1 l hl] at h3; cases h3
  · rw [h2] at h3; cases h3
/-- A list of extents beside where it lies. -/
abbrev LsT := (Option Addr × Nat) × List RowT
def lcs (x : LsT) : List Value := [.slice x.1.1 x.2.length x.1.2]
structure RdLs (w : World) (B : Nat) (A : Option Addr) (L : List LsT) : Prop where
  rows : RdS w B 1 A (L.map lcs)
  each : ∀ x ∈ L, RdRw w B x.1.1 x.2
  cap : ∀ x ∈ L, x.2.length ≤ x.1.2 ∧ x.1.2 ≤ maxLen ∧ x.2.length ≤ 5000
theorem RdLs.below {w w' : World} {B : Nat} {A : Option Addr} {L : List LsT} (h : RdLs w B A L) (hb : Below B w w') : RdLs w' B A L := ⟨h.rows.below hb, fun x hx => (h.each x hx).below hb, h.cap⟩
theorem RdLs.at_ {w : World} {B : Nat} {A : Option Addr} {L : List LsT} (h : RdLs w B A L) {j : Nat} (hj : j < L.length) : ∃ g off, A = some ⟨g, off, none⟩ ∧ g < B ∧ w.cell? ⟨g, off + j, none⟩ = some (.slice L[j].1.1 L[j].2.length L[j].1.2) := by
  obtain ⟨g, off, e, hg, hc⟩ := h.rows (by simp; omega)
  refine ⟨g, off, e, hg, ?_⟩
  have := hc j (by simpa using hj) 0 (.slice L[j].1.1 L[j].2.length L[j].1.2) (by simp [lcs])
  simpa using this
section
variable {α : Type} {w w' : World} {e : TypeId} {sz : Nat} {g : α → List Value} {B c : Nat} {A : Option Addr} {l : List α}
/-- Without its last elements. -/
theorem OwnG.front (h : OwnG e sz g w B A c l) (hq : ∀ x ∈ l, (g x).length = sz) (k : Nat) (hk : k ≤ l.length) (hA : A ≠ none) : OwnG e sz g w B A c (l.take k) := by
  have h1 : w.ownsRow B e sz (.slice A l.length c) l.length (l.flatMap g) := h
  have hfl : ∀ (m : List α), (∀ x ∈ m, (g x).length = sz) → (m.flatMap g).length = m.length * sz := fun m hm => by
    induction m with
    | nil => simp
    | cons x m ih => rw [List.flatMap_cons, List.length_append, ih fun y hy => hm y (by simp [hy]), hm x (by simp), List.length_cons, Nat.add_mul]; omega
  have hl : (l.take k).length = k := by rw [List.length_take]; omega
  have h2 : ((l.take k).flatMap g).length = k * sz := by rw [hfl _ fun x hx => hq x (List.mem_of_mem_take hx), hl]
  show w.ownsRow B e sz (.slice A (l.take k).length c) (l.take k).length ((l.take k).flatMap g)
  rw [hl]
  refine ⟨h2, ?_⟩
  rcases h1.2 with ⟨hv, _⟩ | ⟨b, cp, cur, hv, a2, a3, a4, a5, a6, a7⟩
  · injection hv with hv _ _
    exact absurd hv hA
  · injection hv with q1 _ q3
    refine .inr ⟨b, cp, cur, by rw [q1, q3], a2, a3, by omega, a5, a6, ?_⟩
    have h3 : (l.flatMap g).take (k * sz) = (l.take k).flatMap g := by
      have e := congrArg (List.flatMap g) (List.take_append_drop k l)
      rw [List.flatMap_append] at e
      rw [← e]
      exact List.take_left' h2
    rw [← h3, ← a7, List.take_take, Nat.min_eq_left (Nat.mul_le_mul_right _ hk)]
end
end Go.Proofs.Ytgemjipbifgbgaa
/- Plain mathematics of Take: the extents that bytes tell. No statement of the seat is proved here. -/
namespace Go.Proofs.Ytgemjipbifgbgaa
set_option linter.unusedVariables false

/-- The extent that 40 bytes tell. -/
def rowD (x : List UInt8) : RowT := ((x.take 32, val ((x.drop 32).take 4)), (((val ((x.drop 36).take 2) : Nat) : Int), ((val ((x.drop 38).take 2) : Nat) : Int)))
def rowsE : Nat → List UInt8 → List RowT
  | 0, _ => []
  | n + 1, x => rowD x :: rowsE n (x.drop 40)
def manyE (b : List UInt8) : Nat := val (b.take 4)
def takeOk (b : List UInt8) : Bool := decide (b.length = 4 + 40 * manyE b) && rightE (rowsE (manyE b) (b.drop 4))
def takeE (b : List UInt8) : List RowT := if takeOk b = true then rowsE (manyE b) (b.drop 4) else []
theorem rowsE_length : ∀ (n : Nat) (x : List UInt8), (rowsE n x).length = n
  | 0, _ => rfl
  | n + 1, x => by rw [rowsE, List.length_cons, rowsE_length n]
theorem rowsE_snoc : ∀ (n : Nat) (x : List UInt8), rowsE (n + 1) x = rowsE n x ++ [rowD (x.drop (40 * n))]
  | 0, x => by simp [rowsE]
  | n + 1, x => by
    rw [rowsE, rowsE_snoc n (x.drop 40), rowsE, List.drop_drop, List.cons_append, show 40 + 40 * n = 40 * (n + 1) by omega]
theorem take_lt (k : Nat) (x : List UInt8) : val (x.take k) < 256 ^ k := by
  refine Nat.lt_of_lt_of_le (val_lt _) (Nat.pow_le_pow_right (by omega) ?_)
  rw [List.length_take]
  omega
theorem manyE_lt (b : List UInt8) : manyE b < 4294967296 := take_lt 4 b
theorem rowD_key {x : List UInt8} (h : 32 ≤ x.length) : KeyT.Ok (rowD x).1 := ⟨by simp [rowD]; omega, take_lt 4 _⟩
theorem rowD_in (x : List UInt8) : 0 ≤ (rowD x).2.1 ∧ (rowD x).2.1 < 65536 ∧ 0 ≤ (rowD x).2.2 ∧ (rowD x).2.2 < 65536 := by
  have h1 := take_lt 2 (x.drop 36)
  have h2 := take_lt 2 (x.drop 38)
  simp only [rowD]
  omega
theorem rowsE_ok : ∀ (n : Nat) (x : List UInt8), 40 * n ≤ x.length → ∀ r ∈ rowsE n x, KeyT.Ok r.1
  | 0, _, _, _, hr => by cases hr
  | n + 1, x, h, r, hr => by
    rw [rowsE] at hr
    rcases List.mem_cons.1 hr with rfl | hr
    · exact rowD_key (by omega)
    · exact rowsE_ok n (x.drop 40) (by rw [List.length_drop]; omega) r hr
/-- What 40 bytes tell has those bytes. -/
theorem rowB_rowD {x : List UInt8} (h : 40 ≤ x.length) : rowB (rowD x) = x.take 40 := by
  have e1 : be 4 (val ((x.drop 32).take 4)) = (x.drop 32).take 4 := by
    have := be_val ((x.drop 32).take 4)
    rwa [show ((x.drop 32).take 4).length = 4 by simp; omega] at this
  have e2 : be 2 (val ((x.drop 36).take 2)) = (x.drop 36).take 2 := by
    have := be_val ((x.drop 36).take 2)
    rwa [show ((x.drop 36).take 2).length = 2 by simp; omega] at this
  have e3 : be 2 (val ((x.drop 38).take 2)) = (x.drop 38).take 2 := by
    have := be_val ((x.drop 38).take 2)
    rwa [show ((x.drop 38).take 2).length = 2 by simp; omega] at this
  unfold rowB rowD
  simp only [Int.toNat_natCast]
  rw [e1, e2, e3]
  have t1 : x.take 36 = x.take 32 ++ (x.drop 32).take 4 := List.take_add (i := 32) (j := 4)
  have t2 : x.take 38 = x.take 36 ++ (x.drop 36).take 2 := List.take_add (i := 36) (j := 2)
  have t3 : x.take 40 = x.take 38 ++ (x.drop 38).take 2 := List.take_add (i := 38) (j := 2)
  rw [t3, t2, t1]
/-- The bytes of an extent tell it. -/
theorem rowD_rowB {r : RowT} (hk : KeyT.Ok r.1) (h : okE r = true) (y : List UInt8) : rowD (rowB r ++ y) = r := by
  obtain ⟨⟨s, N⟩, o, n⟩ := r
  have h0 := okE_iff.1 h
  simp only at h0
  have hs : s.length = 32 := hk.1
  have hN : N < 4294967296 := hk.2
  obtain ⟨o, rfl⟩ := Int.eq_ofNat_of_zero_le h0.1
  obtain ⟨n, rfl⟩ := Int.eq_ofNat_of_zero_le (show 0 ≤ n by omega)
  unfold rowB rowD
  simp only [Int.toNat_natCast, List.append_assoc]
  have c1 : (s ++ (be 4 N ++ (be 2 o ++ (be 2 n ++ y)))).take 32 = s := List.take_left' hs
  have c2 : (s ++ (be 4 N ++ (be 2 o ++ (be 2 n ++ y)))).drop 32 = be 4 N ++ (be 2 o ++ (be 2 n ++ y)) := List.drop_left' hs
  have c3 : (s ++ (be 4 N ++ (be 2 o ++ (be 2 n ++ y)))).drop 36 = be 2 o ++ (be 2 n ++ y) := by
    rw [show 36 = 32 + 4 from rfl, ← List.drop_drop, c2, List.drop_left' (be_length 4 N)]
  have c4 : (s ++ (be 4 N ++ (be 2 o ++ (be 2 n ++ y)))).drop 38 = be 2 n ++ y := by
    rw [show 38 = 36 + 2 from rfl, ← List.drop_drop, c3, List.drop_left' (be_length 2 o)]
  rw [c1, c2, c3, c4, List.take_left' (be_length 4 N), List.take_left' (be_length 2 o), List.take_left' (be_length 2 n), val_be_of_lt (by omega), val_be_of_lt (by omega), val_be_of_lt (by omega)]
theorem rowsE_flat : ∀ {l : List RowT} (y : List UInt8), (∀ r ∈ l, KeyT.Ok r.1) → (∀ r ∈ l, okE r = true) → rowsE l.length (l.flatMap rowB ++ y) = l
  | [], _, _, _ => rfl
  | r :: l, y, hk, h => by
    rw [List.length_cons, List.flatMap_cons, rowsE, List.append_assoc, rowD_rowB (hk r (by simp)) (h r (by simp)), List.drop_left' (rowB_length (hk r (by simp)).1)]
    rw [rowsE_flat y (fun x hx => hk x (by simp [hx])) fun x hx => h x (by simp [hx])]
theorem flat_rowsE : ∀ (n : Nat) (x : List UInt8), x.length = 40 * n → (rowsE n x).flatMap rowB = x
  | 0, x, h => by
    rw [List.eq_nil_of_length_eq_zero (by omega : x.length = 0)]
    rfl
  | n + 1, x, h => by
    rw [rowsE, List.flatMap_cons, rowB_rowD (by omega), flat_rowsE n (x.drop 40) (by rw [List.length_drop]; omega), List.take_append_drop]
/-- What was laid is taken. -/
theorem take_lay {l : List RowT} (hk : ∀ r ∈ l, KeyT.Ok r.1) (h : rightE l = true) : takeOk (layE l) = true ∧ takeE (layE l) = l := by
  have h0 := rightE_iff.1 h
  have hm : manyE (layE l) = l.length := by
    unfold manyE layE
    rw [List.take_left' (be_length 4 _), val_be_of_lt (by omega)]
  have hd : (layE l).drop 4 = l.flatMap rowB ++ [] := by
    unfold layE
    rw [List.drop_left' (be_length 4 _), List.append_nil]
  have hr : rowsE (manyE (layE l)) ((layE l).drop 4) = l := by rw [hm, hd]; exact rowsE_flat [] hk h0.2
  have ho : takeOk (layE l) = true := by
    unfold takeOk
    rw [hr, h, hm, layE_length fun r hr => (hk r hr).1]
    simp
  exact ⟨ho, by unfold takeE; rw [if_pos ho, hr]⟩
/-- What is taken is laid so. -/
theorem lay_take {b : List UInt8} (h : takeOk b = true) : rightE (takeE b) = true ∧ layE (takeE b) = b ∧ ∀ r ∈ takeE b, KeyT.Ok r.1 := by
  have h0 := h
  unfold takeOk at h0
  simp only [Bool.and_eq_true, decide_eq_true_eq] at h0
  have e : takeE b = rowsE (manyE b) (b.drop 4) := by unfold takeE; rw [if_pos h]
  rw [e]
  refine ⟨h0.2, ?_, rowsE_ok _ _ (by rw [List.length_drop]; omega)⟩
  unfold layE
  rw [rowsE_length, flat_rowsE _ _ (by rw [List.length_drop]; omega)]
  have := be_val (b.take 4)
  rw [show (b.take 4).length = 4 by rw [List.length_take]; omega] at this
  unfold manyE
  rw [this, List.take_append_drop]
theorem takeE_no {b : List UInt8} (h : takeOk b = false) : takeE b = [] := by unfold takeE; rw [h]; rfl
theorem takeE_ok {b : List UInt8} : ∀ r ∈ takeE b, KeyT.Ok r.1 ∧ okE r = true := fun r hr => by
  cases h : takeOk b with
  | true => exact ⟨(lay_take h).2.2 r hr, (rightE_iff.1 (lay_take h).1).2 r hr⟩
  | false => rw [takeE_no h] at hr; cases hr
end Go.Proofs.Ytgemjipbifgbgaa
