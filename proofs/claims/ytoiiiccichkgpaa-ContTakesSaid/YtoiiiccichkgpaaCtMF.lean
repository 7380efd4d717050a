/- The reference's Size and refused (cellarageref11), light of the statements. No statement of the seat is proved here. -/
import Derived.Test.YtoiiiccichkgpaaCtArg
import Derived.Test.YtoiiiccichkgpaaKeyEq
import Derived.Test.YtoiiiccichkgpaaRowLaws
import Derived.Lib.Hide
namespace Go.Proofs.Ytoiiiccichkgpaa
open Go.RowKit
set_option linter.unusedVariables false
set_option linter.unusedSimpArgs false

/-- The pieces alone. -/
def pds (ls : List PieceT) : List PcD := ls.map PieceT.p
theorem pds_length (ls : List PieceT) : (pds ls).length = ls.length := by simp [pds]
theorem pds_get {ls : List PieceT} {j : Nat} (hj : j < ls.length) : (pds ls)[j]'(by rw [pds_length]; exact hj) = ls[j].p := by simp [pds]
/-- Few pieces, not large. -/
structure SmallC (ls : List PieceT) : Prop where
  many : ls.length ≤ 3000
  size : sizeC (pds ls) ≤ 1000000
theorem SmallC.data {ls : List PieceT} (h : SmallC ls) {j : Nat} (hj : j < ls.length) : sizeC ((pds ls).take j) + (38 + ls[j].p.data.length) = sizeC ((pds ls).take (j + 1)) ∧ sizeC ((pds ls).take (j + 1)) ≤ 1000000 := by
  have hj2 : j < (pds ls).length := by rw [pds_length]; exact hj
  have h1 := sizeC_take hj2
  rw [pds_get hj] at h1
  have h2 := sizeC_take_le (pds ls) (j + 1)
  have := h.size
  exact ⟨h1.symm, by omega⟩
set_option maxHeartbeats 1000000 in
theorem rsize_any (A : Option Addr) (ls : List PieceT) (k c : Nat) (hl : ls.length = k) (hs : SmallC ls) (w : World) (hr : RdPc w w.heap.size A ls) :
    Calls Try.prog 14 #[.slice A k c] w fun e w' => e = .returned (.int .i64 (sizeC (pds ls) : Nat)) ∧ w = w' := by
  have hk : k ≤ 3000 := by have := hs.many; omega
  have HL := Lib.hid hl
  have HS := Lib.hid hs
  have HR := Lib.hid hr
  obtain ⟨R, hR⟩ : ∃ R, sizeC (pds ls) = R := ⟨_, rfl⟩
  have HE := Lib.hid (show sizeC ((pds ls).take k) = R by rw [List.take_of_length_le (by rw [pds_length, hl]; exact Nat.le_refl _)]; exact hR)
  rw [hR]
  clear hl hs hr hR
  go_enter Try.func14, Try.ntmps14
  go_wp2_with fail
  go_loopw [3, 4] (fun t i wr => ∃ j s : Nat, j ≤ k ∧ i = .int .i64 j ∧ t = .int .i64 s ∧ s ≤ 1000000 ∧ Hid (sizeC ((pds ls).take j) = s) ∧ w = wr) (fun _ i _ => k - (intOf i).toNat)
  case atStart => exact ⟨0, 10, Nat.zero_le _, rfl, rfl, by omega, Lib.hid rfl, rfl⟩
  case round =>
    obtain ⟨j, s, hj, rfl, rfl, hs, hst, rfl⟩ := hrel
    by_cases hlt : j < k
    · have hjl : j < ls.length := by rw [HL.out]; exact hlt
      obtain ⟨g, off, rfl, hg, hcd, ho⟩ := HR.out.data hjl
      obtain ⟨h1, h2⟩ := HS.out.data hjl
      rw [hst.out] at h1
      obtain ⟨D, hD⟩ : ∃ D, ls[j].p.data.length = D := ⟨_, rfl⟩
      rw [hD] at hcd h1
      obtain ⟨B, hB⟩ : ∃ B, ls[j].adr = B := ⟨_, rfl⟩
      obtain ⟨C, hC⟩ : ∃ C, ls[j].cap = C := ⟨_, rfl⟩
      rw [hB, hC] at hcd
      have HNX := Lib.hid h1
      have hi1 : (0 : Int) ≤ (j : Int) := by omega
      have hi2 : (j : Int) < (k : Int) := by omega
      have hsum : s + 38 + D ≤ 1000000 := by omega
      clear hst h1 h2 hD hB hC ho hg
      go_wp2_with fail
      go_roundw
      case rel => exact ⟨j + 1, s + 38 + D, by omega, by go_num, by go_num, by omega, Lib.hid (by rw [← HNX.out]; omega), trivial⟩
      case measure => simp [intOf]; omega
    · obtain rfl : j = k := by omega
      have e : s = R := by rw [← hst.out, HE.out]
      subst e
      clear hst
      go_wp2_with fail
      go_ret
      exact ⟨rfl, rfl⟩
end Go.Proofs.Ytoiiiccichkgpaa
/- The reference's twice and refused (cellarageref11), light of the statements. No statement of the seat is proved here. -/
namespace Go.Proofs.Ytoiiiccichkgpaa
open Go.RowKit Go.Maps Go.Sort
set_option linter.unusedVariables false
set_option linter.unusedSimpArgs false

theorem range_base {w : World} {b off : Nat} {cs : List Value} (h : ∀ W, Below w.heap.size w W → W.rangeAt b off cs) (W : World) (hW : ∃ p : Regrown, W = grow (redrawn w p.d) p.os) : W.rangeAt b off cs := by
  obtain ⟨p, rfl⟩ := hW
  exact h _ (below_regrown w p.d p.os)
/-- A piece's key. -/
theorem RdPc.key {w : World} {B : Nat} {A : Option Addr} {ls : List PieceT} (h : RdPc w B A ls) {j : Nat} (hj : j < ls.length) : ∃ g off, A = some ⟨g, off, none⟩ ∧ g < B ∧ w.rangeAt g (off + j * 34) (kcs ls[j].p.key) ∧ (ls[j]).Ok w B := by
  obtain ⟨g, off, e, hg, hr, ho⟩ := h.at_ hj
  refine ⟨g, off, e, hg, fun i v hv => hr i v ?_, ho⟩
  unfold pcs
  rw [List.getElem?_append_left (List.getElem?_eq_some_iff.1 hv).1]
  exact hv
set_option maxRecDepth 100000 in
set_option maxHeartbeats 1000000 in
theorem rtwice_any (A : Option Addr) (ls : List PieceT) (n c : Nat) (hl : ls.length = n) (hn : n ≤ 3000) (w : World) (hr : RdPc w w.heap.size A ls) :
    Calls Try.prog 41 #[.slice A n c] w fun e w' => e = .returned (.bool (decide (twiceC (pds ls)))) ∧ Below w.heap.size w w' := by
  obtain ⟨ks, hks⟩ : ∃ ks : List KeyT, (pds ls).map PcD.key = ks := ⟨_, rfl⟩
  have hkl : ks.length = n := by rw [← hks, List.length_map, pds_length, hl]
  have HR := Lib.hid (show ∀ W : World, Below w.heap.size w W → ∀ (j : Nat) (hj : j < ks.length), ∃ g off, A = some ⟨g, off, none⟩ ∧ g < w.heap.size ∧ W.rangeAt g (off + j * 34) (kcs ks[j]) ∧ (ks[j]).Ok from fun W hb j hj => by
    subst hks
    have hj2 : j < ls.length := by rw [hl, ← hkl]; exact hj
    obtain ⟨g, off, e, hg, hra, ho⟩ := (hr.below hb).key hj2
    have ek : ((pds ls).map PcD.key)[j] = ls[j].p.key := by rw [List.getElem_map, pds_get hj2]
    exact ⟨g, off, e, hg, by rw [ek]; exact hra, by rw [ek]; exact ho.ok.key⟩)
  have e : decide (twiceC (pds ls)) = decide (¬ ks.Nodup) := by subst hks; rfl
  rw [e]
  have HL := Lib.hid hkl
  obtain ⟨fs, hfs⟩ := key_desc
  have HF := Lib.hid hfs
  have eqg := key_guard
  obtain ⟨R, hR⟩ : ∃ R, decide (¬ ks.Nodup) = R := ⟨_, rfl⟩
  have HRR := Lib.hid hR
  rw [hR]
  clear hl hr hfs hR e hks hkl
  go_enter Try.func41, Try.ntmps41
  go_wp2_with fail
  go_loopw [3] (fun i wr => ∃ j : Nat, j ≤ n ∧ i = .int .i64 j ∧ Hid ((ks.take j).Nodup) ∧ Below w.heap.size w wr) (fun i _ => n - (intOf i).toNat)
  case atStart => exact ⟨0, Nat.zero_le _, rfl, Lib.hid (by simp), Below.refl _ _⟩
  case round =>
    obtain ⟨j, hj, rfl, hnd, hbel⟩ := hrel
    by_cases hlt : j < n
    · have hjx : j < ks.length := by rw [HL.out]; exact hlt
      obtain ⟨x, hx⟩ : ∃ x, ks[j] = x := ⟨_, rfl⟩
      have HX := Lib.hid hx
      have HBEL := Lib.hid hbel
      clear hbel hx
      go_wp2_with fail
      go_loopw [4] (fun i wr => ∃ p : Nat, p ≤ j ∧ i = .int .i64 p ∧ Hid (x ∉ ks.take p) ∧ Below w.heap.size w wr) (fun i _ => j - (intOf i).toNat)
      case atStart => exact ⟨0, Nat.zero_le _, rfl, Lib.hid (by simp), HBEL.out⟩
      case round =>
        clear HBEL
        obtain ⟨p, hp, rfl, hni, hbel⟩ := hrel
        by_cases hpj : p < j
        · have hpx : p < ks.length := by omega
          obtain ⟨g, off, hA, hg, hra, hok⟩ := HR.out _ hbel _ hjx
          obtain ⟨g', off', hA', _, hra', hok'⟩ := HR.out _ hbel _ hpx
          rw [hA] at hA'
          injection hA' with hA'
          injection hA' with e1 e2 _
          subst e1; subst e2
          obtain ⟨y, hy⟩ : ∃ y, ks[p] = y := ⟨_, rfl⟩
          rw [HX.out] at hra hok
          rw [hy] at hra' hok'
          have HTP := Lib.hid (show ks.take (p + 1) = ks.take p ++ [y] by rw [List.take_succ_eq_append_getElem hpx, hy])
          have HYM := Lib.hid (show x = y → ¬ ks.Nodup from fun e hN => by
            have h1 := (List.pairwise_iff_getElem.1 hN) p j hpx hjx hpj
            rw [hy, HX.out] at h1
            exact h1 e.symm)
          have hgw : g < wr.heap.size := Nat.lt_of_lt_of_le hg hbel.size
          have HKS := Lib.hid (show (Try.prog.info? 40).map (·.size) = some (kcs x).length by rw [kcs_length hok]; exact key_size)
          have HKY := Lib.hid (show (Try.prog.info? 40).map (·.size) = some (kcs y).length by rw [kcs_length hok']; exact key_size)
          have R1 := Lib.hid (range_base (w := wr) (b := g) (off := off + j * 34) (cs := kcs x) fun W hW => fun t v hv => by rw [hW.cell (p := ⟨g, off + j * 34 + t, none⟩) hgw]; exact hra t v hv)
          have R2 := Lib.hid (range_base (w := wr) (b := g) (off := off + p * 34) (cs := kcs y) fun W hW => fun t v hv => by rw [hW.cell (p := ⟨g, off + p * 34 + t, none⟩) hgw]; exact hra' t v hv)
          obtain ⟨r, hre⟩ : ∃ r, decide (x = y) = r := ⟨_, rfl⟩
          have QE := Lib.hid (show ∀ W, (Op.equal 40 (.agg (kcs x).toArray) (.agg (kcs y).toArray)).run Try.prog W = .ok r W from fun W => by rw [key_eq hok hok' W, hre])
          have HRE := Lib.hid hre
          have HBEL := Lib.hid hbel
          subst hA
          have hi1 : (0 : Int) ≤ (j : Int) := by omega
          have hi2 : (j : Int) < (n : Int) := by omega
          have hi3 : (0 : Int) ≤ (p : Int) := by omega
          have hi4 : (p : Int) < (n : Int) := by omega
          clear hra hra' hok hok' hy hre hbel hpx
          go_wp2_with fail
          refine wp_region_quiet_below (by kernel_rfl) (by kernel_rfl) ?_
          repeat (first
            | (go_big_quiet_want; refine quiet_load_mid 40 (.tmp 19) rfl g (off + j * 34) rfl (kcs x) (.struct fs) R1.out HF.out rfl HKS.out (by simp only [Act.put, List.setIfInBounds_toArray, List.set_cons_succ, List.set_cons_zero]; rfl) ?_; go_big_quiet_on)
            | (go_big_quiet_want; refine quiet_load_mid 40 (.tmp 24) rfl g (off + p * 34) rfl (kcs y) (.struct fs) R2.out HF.out rfl HKY.out (by simp only [Act.put, List.setIfInBounds_toArray, List.set_cons_succ, List.set_cons_zero]; rfl) ?_; go_big_quiet_on)
            | (go_big_quiet_want; refine quiet_eql_row 40 40 (.tmp 20) (.tmp 25) rfl (kcs x).toArray (kcs y).toArray rfl rfl eqg r QE.out (by simp only [Act.put, List.setIfInBounds_toArray, List.set_cons_succ, List.set_cons_zero]; rfl) ?_; go_big_quiet_on)
            | go_big_quiet_step (fail))
          refine wpQuiet_nil ?_
          intro _ hw'
          obtain ⟨⟨dq, osq⟩, hw''⟩ := hw'
          subst hw''
          have HBQ := Lib.hid (HBEL.out.trans ((below_regrown wr dq osq).mono HBEL.out.size))
          clear R1 R2
          generalize Go.Sort.grow (redrawn wr dq) osq = wq at *
          cases r with
          | true =>
            go_wp2_with fail
            go_ret
            exact ⟨by rw [← HRR.out, decide_eq_true (HYM.out (of_decide_eq_true HRE.out))]; rfl, HBQ.out⟩
          | false =>
            go_wp2_with fail
            go_roundw
            case rel => exact ⟨p + 1, by omega, by go_num, Lib.hid (by rw [HTP.out, List.mem_append, List.mem_singleton]; exact fun h => h.elim hni.out (of_decide_eq_false HRE.out)), HBQ.out⟩
            case measure => simp [intOf]; omega
        · obtain rfl : j = p := by omega
          have HND := Lib.hid (show (ks.take (j + 1)).Nodup by
            rw [List.take_succ_eq_append_getElem hjx, HX.out]
            exact List.nodup_append.2 ⟨hnd.out, by simp, fun a ha b hb e => hni.out (by rw [List.mem_singleton.1 hb] at e; rw [← e]; exact ha)⟩)
          have HBEL := Lib.hid hbel
          clear hbel hni hnd
          go_wp2_with fail
          go_roundw
          case rel => exact ⟨j + 1, by omega, by go_num, HND, HBEL.out⟩
          case measure => simp [intOf]; omega
    · obtain rfl : n = j := by omega
      have HBEL := Lib.hid hbel
      have HN := Lib.hid (show ks.Nodup by have := hnd.out; rwa [List.take_of_length_le (by rw [HL.out]; exact Nat.le_refl _)] at this)
      clear hbel hnd
      go_wp2_with fail
      go_ret
      exact ⟨by rw [← HRR.out, decide_eq_false (fun h => h HN.out)]; rfl, HBEL.out⟩
end Go.Proofs.Ytoiiiccichkgpaa
/- The reference's refused (cellarageref11). No statement of the seat is proved here. -/
namespace Go.Proofs.Ytoiiiccichkgpaa
open Go.RowKit
set_option linter.unusedVariables false
set_option linter.unusedSimpArgs false

/-- How long a piece is. -/
def dl (ls : List PieceT) (j : Nat) : Nat := (ls.getD j default).p.data.length
theorem dl_at {ls : List PieceT} {j : Nat} (hj : j < ls.length) : dl ls j = ls[j].p.data.length := by simp [dl, hj]
theorem any_empty {ls : List PieceT} : ((pds ls).any (fun p => p.data.isEmpty) = true) ↔ ∃ j, j < ls.length ∧ dl ls j = 0 := by
  rw [List.any_eq_true]
  constructor
  · rintro ⟨p, hp, h⟩
    obtain ⟨j, hj, e⟩ := List.getElem_of_mem hp
    have hj2 : j < ls.length := by rw [pds_length] at hj; exact hj
    refine ⟨j, hj2, ?_⟩
    rw [dl_at hj2, ← pds_get hj2, e]
    simpa using h
  · rintro ⟨j, hj, h⟩
    refine ⟨(pds ls)[j]'(by rw [pds_length]; exact hj), List.getElem_mem _, ?_⟩
    rw [dl_at hj, ← pds_get hj] at h
    simpa using h
theorem any_long {ls : List PieceT} : ((pds ls).any (fun p => decide (4096 < p.data.length)) = true) ↔ ∃ j, j < ls.length ∧ 4096 < dl ls j := by
  rw [List.any_eq_true]
  constructor
  · rintro ⟨p, hp, h⟩
    obtain ⟨j, hj, e⟩ := List.getElem_of_mem hp
    have hj2 : j < ls.length := by rw [pds_length] at hj; exact hj
    refine ⟨j, hj2, ?_⟩
    rw [dl_at hj2, ← pds_get hj2, e]
    simpa using h
  · rintro ⟨j, hj, h⟩
    refine ⟨(pds ls)[j]'(by rw [pds_length]; exact hj), List.getElem_mem _, ?_⟩
    rw [dl_at hj, ← pds_get hj] at h
    simpa using h
/-- What is refused, test by test. -/
theorem ref_tests (ls : List PieceT) {R : Nat} (hR : refC (pds ls) = R) :
    ((∃ j, j < ls.length ∧ dl ls j = 0) → R = 1) ∧
    ((∀ j, j < ls.length → dl ls j ≠ 0) → (∃ j, j < ls.length ∧ 4096 < dl ls j) → R = 4) ∧
    ((∀ j, j < ls.length → dl ls j ≠ 0) → (∀ j, j < ls.length → dl ls j ≤ 4096) → (1000 < ls.length ∨ 65536 < sizeC (pds ls)) → R = 4) ∧
    ((∀ j, j < ls.length → dl ls j ≠ 0) → (∀ j, j < ls.length → dl ls j ≤ 4096) → ¬ (1000 < ls.length ∨ 65536 < sizeC (pds ls)) → (twiceC (pds ls) → R = 3) ∧ (¬ twiceC (pds ls) → R = 0)) := by
  subst hR
  have no1 : (∀ j, j < ls.length → dl ls j ≠ 0) → ¬ ((pds ls).any (fun p => p.data.isEmpty) = true) := fun h h2 => by
    obtain ⟨j, hj, e⟩ := any_empty.1 h2
    exact h j hj e
  have no2 : (∀ j, j < ls.length → dl ls j ≤ 4096) → ¬ ((pds ls).any (fun p => decide (4096 < p.data.length)) = true) := fun h h2 => by
    obtain ⟨j, hj, e⟩ := any_long.1 h2
    have := h j hj
    omega
  unfold refC
  rw [pds_length]
  refine ⟨fun h => by rw [if_pos (any_empty.2 h)], fun h h2 => by rw [if_neg (no1 h), if_pos (any_long.2 h2)], fun h h2 h3 => by rw [if_neg (no1 h), if_neg (no2 h2), if_pos h3], fun h h2 h3 => ⟨fun h4 => by rw [if_neg (no1 h), if_neg (no2 h2), if_neg h3, if_pos h4], fun h4 => by rw [if_neg (no1 h), if_neg (no2 h2), if_neg h3, if_neg h4]⟩⟩
set_option maxRecDepth 100000 in
set_option maxHeartbeats 2000000 in
theorem rrefused_any (A : Option Addr) (ls : List PieceT) (k c : Nat) (hl : ls.length = k) (hs : SmallC ls) (w : World) (hr : RdPc w w.heap.size A ls) :
    Calls Try.prog 26 #[.slice A k c] w fun e w' => e = .returned (.int .i64 (refC (pds ls) : Nat)) ∧ Below w.heap.size w w' := by
  have hk : k ≤ 3000 := by have := hs.many; omega
  obtain ⟨R, hR⟩ : ∃ R, refC (pds ls) = R := ⟨_, rfl⟩
  have HT := Lib.hid (ref_tests ls hR)
  rw [hR]
  have HSZ := Lib.hid (rsize_any A ls k c hl hs w hr)
  have HTW := Lib.hid (rtwice_any A ls k c hl hk w hr)
  obtain ⟨Z, hZ⟩ : ∃ Z, sizeC (pds ls) = Z := ⟨_, rfl⟩
  have hZ2 : Z ≤ 1000000 := hZ ▸ hs.size
  rw [hZ] at HSZ
  have HZ := Lib.hid hZ
  have HL := Lib.hid hl
  have HR := Lib.hid (show ∀ j, j < k → ∃ g off B C, A = some ⟨g, off, none⟩ ∧ w.cell? ⟨g, off + j * 34 + 33, none⟩ = some (.slice B (dl ls j) C) from fun j hj => by
    have hj2 : j < ls.length := by omega
    obtain ⟨g, off, e, _, h, _⟩ := hr.data hj2
    exact ⟨g, off, _, _, e, by rw [dl_at hj2]; exact h⟩)
  clear hl hs hr hR hZ
  go_enter Try.func26, Try.ntmps26
  go_wp2_with fail
  go_loopw [3] (fun i wr => ∃ j : Nat, j ≤ k ∧ i = .int .i64 j ∧ Hid (∀ p, p < j → dl ls p ≠ 0) ∧ w = wr) (fun i _ => k - (intOf i).toNat)
  case atStart => exact ⟨0, Nat.zero_le _, rfl, Lib.hid (fun p hp => by omega), rfl⟩
  case round =>
    obtain ⟨j, hj, rfl, hst, rfl⟩ := hrel
    by_cases hlt : j < k
    · obtain ⟨g, off, B, C, rfl, hc⟩ := HR.out j hlt
      obtain ⟨D, hD⟩ : ∃ D, dl ls j = D := ⟨_, rfl⟩
      rw [hD] at hc
      have hi1 : (0 : Int) ≤ (j : Int) := by omega
      have hi2 : (j : Int) < (k : Int) := by omega
      by_cases hz : D = 0
      · subst hz
        obtain rfl : R = 1 := HT.out.1 ⟨j, by rw [HL.out]; exact hlt, hD⟩
        clear hst hD
        go_wp2_with fail
        go_ret
        exact ⟨rfl, Below.refl _ _⟩
      · have hzz : ((D : Int) == 0) = false := by simp; omega
        have HNX := Lib.hid (show ∀ p, p < j + 1 → dl ls p ≠ 0 from fun p hp => by
          by_cases e : p = j
          · rw [e, hD]; exact hz
          · exact hst.out p (by omega))
        clear hst hD hz
        go_wp2_with fail
        go_roundw
        case rel => exact ⟨j + 1, by omega, by go_num, HNX, trivial⟩
        case measure => simp [intOf]; omega
    · obtain rfl : j = k := by omega
      have HN1 := Lib.hid (show ∀ p, p < ls.length → dl ls p ≠ 0 by rw [HL.out]; exact hst.out)
      clear hst
      go_wp2_with fail
      go_loopw [4] (fun i wr => ∃ q : Nat, q ≤ j ∧ i = .int .i64 q ∧ Hid (∀ p, p < q → dl ls p ≤ 4096) ∧ w = wr) (fun i _ => j - (intOf i).toNat)
      case atStart => exact ⟨0, Nat.zero_le _, rfl, Lib.hid (fun p hp => by omega), rfl⟩
      case round =>
        obtain ⟨q, hq, rfl, hst, rfl⟩ := hrel
        by_cases hlq : q < j
        · obtain ⟨g, off, B, C, rfl, hc⟩ := HR.out q hlq
          obtain ⟨D, hD⟩ : ∃ D, dl ls q = D := ⟨_, rfl⟩
          rw [hD] at hc
          have hi1 : (0 : Int) ≤ (q : Int) := by omega
          have hi2 : (q : Int) < (j : Int) := by omega
          by_cases hz : 4096 < D
          · have hzz : (4096 : Int) < (D : Int) := by omega
            obtain rfl : R = 4 := HT.out.2.1 HN1.out ⟨q, by rw [HL.out]; exact hlq, by rw [hD]; exact hz⟩
            clear hst hD hz
            go_wp2_with fail
            go_ret
            exact ⟨rfl, Below.refl _ _⟩
          · have hzz : ¬ (4096 : Int) < (D : Int) := by omega
            have HNX := Lib.hid (show ∀ p, p < q + 1 → dl ls p ≤ 4096 from fun p hp => by
              by_cases e : p = q
              · rw [e, hD]; omega
              · exact hst.out p (by omega))
            clear hst hD hz
            go_wp2_with fail
            go_roundw
            case rel => exact ⟨q + 1, by omega, by go_num, HNX, trivial⟩
            case measure => simp [intOf]; omega
        · obtain rfl : q = j := by omega
          have HN2 := Lib.hid (show ∀ p, p < ls.length → dl ls p ≤ 4096 by rw [HL.out]; exact hst.out)
          clear hst HR
          by_cases h1 : 1000 < q
          · have h1i : (1000 : Int) < (q : Int) := by omega
            obtain rfl : R = 4 := HT.out.2.2.1 HN1.out HN2.out (.inl (by rw [HL.out]; exact h1))
            go_wp2_with fail
            go_ret
            exact ⟨rfl, Below.refl _ _⟩
          · have h1i : ¬ (1000 : Int) < (q : Int) := by omega
            by_cases h2 : 65536 < Z
            · have h2i : (65536 : Int) < (Z : Int) := by omega
              obtain rfl : R = 4 := HT.out.2.2.1 HN1.out HN2.out (.inr (by rw [HZ.out]; exact h2))
              go_wp2_with (go_at_call 14; refine HSZ.out.mono ?_; rintro e w' ⟨rfl, rfl⟩)
              go_ret
              exact ⟨rfl, Below.refl _ _⟩
            · have h2i : ¬ (65536 : Int) < (Z : Int) := by omega
              have HF := Lib.hid (HT.out.2.2.2 HN1.out HN2.out (by rw [HL.out, HZ.out]; omega))
              by_cases h3 : twiceC (pds ls)
              · rw [decide_eq_true h3] at HTW
                obtain rfl : R = 3 := HF.out.1 h3
                clear h3 HF HT
                go_wp2_with (first | (go_at_call 14; refine HSZ.out.mono ?_; rintro e w' ⟨rfl, rfl⟩) | (go_at_call 41; refine HTW.out.mono ?_; rintro e w' ⟨rfl, hb⟩))
                go_ret
                exact ⟨rfl, hb⟩
              · rw [decide_eq_false h3] at HTW
                obtain rfl : R = 0 := HF.out.2 h3
                clear h3 HF HT
                go_wp2_with (first | (go_at_call 14; refine HSZ.out.mono ?_; rintro e w' ⟨rfl, rfl⟩) | (go_at_call 41; refine HTW.out.mono ?_; rintro e w' ⟨rfl, hb⟩))
                go_ret
                exact ⟨rfl, hb⟩
end Go.Proofs.Ytoiiiccichkgpaa
